import PyProof.Rows.All
import Wide.All
import OpenK.AllK
import Wide.FinOn
import PyProof.ReprRoads
import HandS.ForMost
import HandS.Wide
import HandS.Walk
import KE.GoesEnum
import KE.GoesMore
import PyProof.ReprLen
import PyProof.Rows.RegStrFacts
import HandS.IsInst
import HandS.ExcInit
import HandS.ExcValue
import KE.KExcIs
import KE.KIsAll
import HandS.ExcField
import HandS.ExcIs
import HandS.Evl
import KE.DataFind
import HandS.WordsExc
import HandS.Text
import HandS.More
import HandS.Iter
import HandS.HeadHook3
import HandS.Style
import HandS.Small
import HandS.Strs
import HandS.SetFor
import HandS.Star
import HandS.Conv
import HandS.TupLe
import HandS.TupSets
import HandS.Zip
import KE.DataMinMax
import HandS.Gcd
import HandS.Deep
import HandS.TupAny
import KE.KMathGC
import HandS.SortRule
import HandS.WideBits
import HandS.Property
import HandS.OwnEq
import HandS.SlotsOwn
import PyProof.Rows.TupDisplay
import KE.KDictKeyed
import KE.KeyNested
import KE.KDictPairs
import HandS.Spec
import KE.GoesZip
import KE.KItemsList
import HandS.ListItems
import PyProof.StrWalks
import HandS.StrMore
import HandS.MapJoin
import HandS.ExcInitHot
import HandS.SuiteRaise
import HandS.RaiseFrom
import HandS.Codes
import HandS.RaiseMore
import HandS.FStr
import KE.KUnpackStar
import PyProof.MakeMany
import HandS.ReplaceLit
import PyProof.MeetsStr3
import PyProof.Rows.StrFacts2
import HandS.TupMul
import PyProof.WalksMore
import KE.KMathG
import PySem.Challenge.RW_branchorders_k69_whole_averages_and_limi
set_option Elab.async false
set_option linter.all false
set_option maxRecDepth 100000
set_option maxHeartbeats 2000000

namespace BR
open PySem PySem.Spec PyProof.Rows L2
/-! ### own rules: great powers, calls by keywords alone, repr of data where no repr runs, enumerate of a tuple -/
section
variable {X : Cx}
def CPowB (i j : Int) : Prop := 0 ≤ j ∧ (Builtin.Int.intBits i : Int) * j ≤ 2 ^ 27
theorem op_powB : OpR X (binaryOp .Pow) (rI CPowB fun i j => .int (i ^ j.toNat)) :=
  opI fun _ _ _ _ _ _ _ c h => pow_int c.1 c.2 h
theorem powB_of {i j : Int} {a : Nat} (ha : i.natAbs < 2 ^ a) (h0 : 0 < a) (hj : 0 ≤ j) (hz : ((a : Int) + 1) * j ≤ 2 ^ 27) : CPowB i j := by
  refine ⟨hj, Int.le_trans (Int.mul_le_mul_of_nonneg_right ?_ hj) hz⟩
  have e := PySem.Flt.log2_lt_of h0 ha
  have b : Builtin.Int.intBits i ≤ i.natAbs.log2 + 1 := by
    unfold Builtin.Int.intBits
    split
    · exact Nat.zero_le _
    · omega
  omega
end

section
variable {X : Cx} {CX : CXT} {k : Nat} {f : Addr} {fd : FuncData} {ps ks : List Str} {sp : Sp} {E : XK} {x : Str}
/-- f(k = v, ..): keywords alone -/
theorem pe_callK0 {p pos : Pos} {kws : List Keyword} {tk : TA} {g : List Value → List Value → List Value} {gV : List V → List V → List V} (F : FnOk X.prog X.w X.K X.mg X.base CX k f fd ps sp) (room : Room k X.A) (hg : Gl X x)
    (hm : X.mg x = some (.ref f)) (kp : PySem.W.keepIn X.K (.ref f) = true) (b : KBinds X.K fd ps ks g gV) (hx : Passes CX X E) (hkw : PK X kws tk)
    (all1 : (backToKw pos (keywordEach kws X.env)).all (·.1.isSome) = true := by rfl) (nms : (backToKw pos (keywordEach kws X.env)).filterMap (·.1) = ks := by rfl)
    (nodb : (x == ("__debug__" : Str)) = false := by decide) (pl : ((backTo pos (starEach [] X.env)).any (·.1) || (backToKw pos (keywordEach kws X.env)).any (·.1.isNone)) = false := by rfl) :
    PE X (.Call (.Name x p) [] kws pos) (tCallK sp gV E tNil tk) := by
  refine ⟨fun pins s σ H Q I0 hh => ?_⟩
  refine wpAny_Call_Name_kw (ld_glob I0 hg hm ?_ nodb)
  refine PySem.W.callWith_KW0 (h₀ := X.base) I0.ok.mod.kin kp all1 (thn (hkw.run pos pins s σ H _ I0 hh) fun ws s2 ⟨zs, H2, I2, rz, q2⟩ => ?_) pl
  refine ⟨I2.kIn, ?_⟩
  rw [nms]
  exact run_fnk (us := []) (vs := []) F room b hx I2 .nil rz q2
end

/-! ### defs that run where no repr runs -/
structure FnG (P : Program) (w : World) (K : PySem.W.Frag) (mg : Str → Option Value) (base : Heap) (CX : CXT) (k : Nat) (f : Addr) (fd : FuncData) (ps : List Str) (sp : Sp) : Prop where
  ln : ∀ vs H Q E, sp vs H Q E → vs.length = ps.length
  go : ∀ (A : Around) (outer : List Env) (s : Shared) (H : Hp) (args : Args) (us : List Value) (vs : List V) (Q : VK) (E : XK), A.guards = some [] → Room k A → Env0 P w K mg base A outer s H →
    BindsTo s fd args (ps.zip us) → Vals vs us → sp vs H Q E → codeAny (model P w) A (.call (.ref f) args) (CR CX outer P w H s Q E) s
section
variable {P : Program} {w : World} {K : PySem.W.Frag} {mg : Str → Option Value} {base : Heap}
theorem Fun.okG {x qual : Str} {st : Stmt} {f : Addr} {fd : FuncData} {N ps : List Str} {k : Nat} {sp : Sp} (F : Fun K x qual st f fd) (S : FnScope N ps (defScope st)) (ln : ∀ vs H Q E, sp vs H Q E → vs.length = ps.length)
    (body : ∀ (cdv : Value) (A : Around) (outer : List Env) (s : Shared) (H : Hp) (vs : List V) (Q : VK) (E : XK), A.guards = some [] → Room k (A.deeper (envOfC qual (defScope st) s.heap.objs.size f cdv)) → sp vs H Q E →
      ∃ t, PSs (cxOf CX0 P w K mg base N qual (defScope st) f cdv A outer s H E).nox (defBody st) t ∧ t { nx := fun _ H' => Q .non H', rt := Q } (start N vs) H) : FnG P w K mg base CX0 (k + 1) f fd ps sp := by
  obtain ⟨oc, od, kV, doc, pm, an, cdv, ct, osl, rfl, lk, hcd⟩ := F.ex
  refine ⟨ln, fun A outer s H args us vs Q E gg hr e0 hb r hsp => ?_⟩
  have hl := ln _ _ _ _ hsp
  have kin : K.In s.heap := e0.mod.kin.keeps fun b o e => (e0.bs b o e).1
  have nolim : s.heap.NoLimit := e0.mod.nolimit.keeps fun b o e => (e0.bs b o e).1
  have kinds : ∀ y ∈ ps.zip us, (defScope st).names.lookup y.1 = some .local ∨ ((defScope st).names.lookup y.1 = some .cell ∧ ((cellsFrom (s.heap.objs.size + 1) (defScope st).names []).lookup y.1).isSome = true) := by
    rintro ⟨n, v⟩ hy
    rcases S.par n (List.of_mem_zip hy).1 with q | q
    · exact .inl q
    · exact .inr ⟨q, PySem.W.cellsFrom_some _ _ _ (.inl q)⟩
  refine codeAny_call_function hr.depth (kin _ _ lk) rfl S.co S.gen rfl (PySem.W.codeRec_of kin hcd) (hb _ _ _ _ ?_)
  refine wpAny_newFunctionEnv_cells S.kind kinds fun env he s1 xc => ?_
  subst he
  refine ⟨nolim.keeps xc.toInCall.keep, codeAny_func ?_⟩
  obtain ⟨t, ht0, hq⟩ := body cdv A outer s H vs Q E gg (hr.deeper _) hsp
  have ht := ht0.nox
  have I1 := inv_start (CX := CX0) (E := E) S hr.hd e0 hl r xc
  refine wpAny_mono (ht.run [] s1 (start N vs) H _ I1 hq) (fun fl s' hs => ?_) fun e s' hs => hs
  cases fl with
  | ret u =>
    obtain ⟨v, σ', H', J, rv, q⟩ := hs
    exact ⟨v, H', J.os, J.bare, J.base, J.hok, rv, q⟩
  | next =>
    obtain ⟨σ', H', J, q⟩ := hs
    exact ⟨.non, H', J.os, J.bare, J.base, J.hok, rfl, q⟩
  | brk => obtain ⟨_, _, _, q⟩ := hs; exact q.elim
  | cont => obtain ⟨_, _, _, q⟩ := hs; exact q.elim
end
section
variable {X : Cx} {CX : CXT} {k : Nat} {f : Addr} {fd : FuncData} {ps : List Str} {sp : Sp} {E : XK} {x : Str} {ds : List Value} {dvs : List V} {p pos : Pos} {e : Expr} {es : List Expr} {t : TA}
theorem pe_callG (F : FnG X.prog X.w X.K X.mg X.base CX k f fd ps sp) (gg : X.A.guards = some []) (room : Room k X.A) (hg : Gl X x) (hm : X.mg x = some (.ref f)) (kp : PySem.W.keepIn X.K (.ref f) = true)
    (b : Binds X.K fd ps ds) (hd : Vals dvs ds) (hx : Passes CX X E) (args : PA X (e :: es) t) (nodb : (x == ("__debug__" : Str)) = false := by decide)
    (st1 : starEach (e :: es) X.env = (false, eval e X.env) :: starEach es X.env := by rfl) (st2 : (backTo pos (starEach es X.env)).any (·.1) = false := by rfl) :
    PE X (.Call (.Name x p) (e :: es) [] pos) (tCall sp dvs E t) := by
  refine ⟨fun pins s σ H Q I0 hh => ?_⟩
  refine wpAny_Call_Name_kw (ld_glob I0 hg hm ?_ nodb)
  refine PySem.W.callWith_K (h₀ := X.base) I0.ok.mod.kin kp (thn (args.run pos pins s σ H _ I0 hh) ?_) st1 st2
  rintro us s1 ⟨vs, H1, I1, r, q⟩
  refine ⟨I1.kIn, ?_⟩
  have r2 : Vals (vs ++ dvs) (us ++ ds) := r.append hd
  have hl : (us ++ ds).length = ps.length := by rw [← r2.length]; exact F.ln _ _ _ _ q
  refine wpAny_call (codeAny_mono (F.go X.A X.stack s1 H1 ⟨us, []⟩ (us ++ ds) (vs ++ dvs) Q E gg room I1.env0 (b s1 us I1.kIn hl) r2 q) fun res s' hq => ?_)
  cases res with
  | error e => exact hx pins σ H1 s1 e s' I1 hq
  | ok fl =>
    cases fl with
    | ret u => exact I1.after hq
    | next => exact hq.elim
    | brk => exact hq.elim
    | cont => exact hq.elim
/-- repr of a list or tuple of plain data -/
theorem call_reprD (gg : X.A.guards = some []) (hu : X.A.units + 64 < cLine) : CallR X (.builtin "repr") (fun xs H Q => ∃ a d, xs = [.ref a] ∧ Dp X.K H (.ref a) d ∧ d.showable = true ∧ d.hasDict = false ∧ d.depth ≤ 60 ∧ d.shown.length ≤ sizeLine ∧ Q (.str d.shown) H) := by
  rintro pins s σ H xs us Q I r ⟨a, d, rfl, hd, h1, h2, h3, h4, q⟩
  cases r with
  | cons r1 rr =>
    cases rr
    obtain ⟨as, rd⟩ := Dp.reads I d (.ref a) _ hd r1
    cases r1
    refine repr_of_reads' rd h1 (fun z => by rw [h2] at z; cases z) gg (by omega) (fun _ _ z => z) (fun h' u tk hk => ?_) h4
    exact ⟨.str d.shown, H, I.kept (t' := tk) hk, ⟨u, rfl⟩, q⟩
end
end BR

namespace BR
open PySem PySem.Spec PyProof.Rows L2
/-! ### a law's end for such defs -/
theorem law_callG {P : Program} {w : World} {K : PySem.W.Frag} {mg mb : Str → Option Value} {k : Nat} {fa a : Addr} {fd : FuncData} {x : Str} {sp : Sp} {s₁ : Shared} {vs : List Value} {ns : List Int}
    (kin : K.In s₁.heap) (hns : s₁.heap.Ns mainGlobals mg) (hb : s₁.heap.Ns builtinsNs mb) (hbb : ∀ y : Str, y ≠ "__name__" → mb y = bootBuiltins y) (nolim : s₁.heap.NoLimit) (nogen : s₁.gens = #[])
    (ha : s₁.heap.get? a = some { cls := .type "list", data := .seq vs.toArray }) (hi : IntsAre vs ns) (hl : ns.length ≤ sizeLine) (hr : Room k callerA)
    (F : ∀ base : Heap, K.In base → base.Ns mainGlobals mg → FnG P w K mg base CX0 k fa fd [x] sp) (hbind : ∀ (s : Shared) (u : Value), BindsTo s fd ⟨[u], []⟩ [(x, u)])
    (hsp : ∀ H : Hp, Only H → SqL K H a (ns.map V.int) → sp [.ref a] H (fun v _ => v = .bl true) fun _ _ _ => False) :
    codeAny (model P w) callerA (.call (.ref fa) ⟨[.ref a], []⟩) (fun r s' => r = .ok (.ret (.bool true)) ∧ OldK s₁.heap s'.heap ∧ s'.os = s₁.os ∧ AllBare s'.gens) s₁ := by
  have rv := vals_ints hi
  have lenV := hi.length
  have core : ∀ H : Hp, Only H → SqL K H a (ns.map V.int) → HOk P w H s₁.heap → (∀ b, H b ≠ none → b = a) → (H a ≠ none → K.lookup a = none) →
      codeAny (model P w) callerA (.call (.ref fa) ⟨[.ref a], []⟩) (fun r s' => r = .ok (.ret (.bool true)) ∧ OldK s₁.heap s'.heap ∧ s'.os = s₁.os ∧ AllBare s'.gens) s₁ := by
    intro H only sq hok hA hK
    have isA : ∀ {b : Addr} {u : HO}, H b = some u → b = a := fun {b u} q => hA b (by rw [q]; exact fun z => nomatch z)
    have hid : ∀ {b : Addr} {o : Obj}, s₁.heap.get? b = some o → H b = none → (hidT s₁.heap H).get? b = some o := fun e n => hidT_get e n
    have noA : ∀ {b : Addr} {o : Obj} {es : Array DictEntry} {ep : Nat}, s₁.heap.get? b = some o → o.data = .dict es ep → H b = none := by
      intro b o es ep e d
      cases q : H b with
      | none => rfl
      | some u =>
        have eb := isA q
        subst eb
        rw [ha] at e
        cases e
        exact absurd (show Data.seq vs.toArray _ = Data.dict es ep from d) (by intro z; cases z)
    have nsK : ∀ {b : Addr} {m : Str → Option Value}, s₁.heap.Ns b m → (hidT s₁.heap H).Ns b m := by
      rintro b m ⟨o, es, ep, e, d, r⟩
      exact ⟨o, es, ep, hid e (noA e d), d, r⟩
    have kinB : K.In (hidT s₁.heap H) := by
      intro b o e
      refine hid (kin b o e) ?_
      cases q : H b with
      | none => rfl
      | some u =>
        have eb := isA q
        subst eb
        rw [hK (by rw [q]; exact fun z => nomatch z)] at e
        cases e
    obtain ⟨mc, l1, l2⟩ := nolim
    have md : Mod K mg (hidT s₁.heap H) := ⟨kinB, nsK hns, ⟨mb, nsK hb, hbb⟩, ⟨mc, nsK l1, l2⟩⟩
    have e0 : Env0 P w K mg (hidT s₁.heap H) callerA [] s₁ H := ⟨rfl, md, fun b o e => of_hidT e, Nat.le_of_eq (hidT_size _ _), trivial, fun b z => absurd (show b ∈ ([] : List Addr) from z) (by simp), hok, .of_eq nogen⟩
    refine codeAny_mono ((F _ kinB (nsK hns)).go callerA [] s₁ H ⟨[.ref a], []⟩ [.ref a] [.ref a] _ _ rfl hr e0 (hbind s₁ (.ref a)) (.cons rfl .nil) (hsp H only sq)) fun r s' hh => ?_
    cases r with
    | error e => exact False.elim hh
    | ok fl =>
      cases fl with
      | next => exact hh.elim
      | brk => exact hh.elim
      | cont => exact hh.elim
      | ret u =>
        obtain ⟨v, H', os, bare, un, hok', r', q⟩ := hh
        obtain rfl : v = V.bl true := q
        obtain rfl : u = Value.bool true := r'
        refine ⟨rfl, OldK.of_keep fun b o e => ?_, os, bare⟩
        cases q : H b with
        | none => exact un.keep b o e q (fun z => absurd (show b ∈ ([] : List Addr) from z) (by simp)) (by simp)
        | some u =>
          rcases only b with z | ⟨ob, xs, z⟩
          · rw [q] at z; cases z
          · obtain ⟨e1, _⟩ := hok b _ z
            obtain ⟨e2, _⟩ := hok' b _ (un.frzs b ob _ z)
            rw [e] at e1
            cases e1
            exact e2
  cases hk : K.lookup a with
  | some o =>
    have e := kin a o hk
    rw [ha] at e
    cases e
    exact core (fun _ => none) (fun _ => .inl rfl) (.inr ⟨_, vs.toArray, _, hk, rfl, rfl, rfl, by rw [List.size_toArray, lenV]; exact hl, by simpa using rv⟩) (fun b u z => nomatch (show (none : Option HO) = some u from z)) (fun b z => absurd rfl z) fun z => absurd rfl z
  | none =>
    refine core (fun b => if b = a then some (.frz { cls := .type "list", data := .seq vs.toArray } (.lst (ns.map V.int))) else none) (fun b => ?_) (.inl (.inr ⟨_, if_pos rfl⟩)) (fun b u z => ?_) (fun b z => ?_) fun _ => hk
    · by_cases hb : b = a
      · exact .inr ⟨_, _, if_pos hb⟩
      · exact .inl (if_neg hb)
    · have z1 : (if b = a then some (HO.frz { cls := .type "list", data := .seq vs.toArray } (.lst (ns.map V.int))) else none) = some u := z
      by_cases hb : b = a
      · subst hb
        rw [if_pos rfl] at z1
        cases z1
        refine ⟨ha, ?_, vs, _, rv, ha⟩
        rw [List.length_map]
        exact hl
      · rw [if_neg hb] at z1
        cases z1
    · refine Decidable.byContradiction fun hb => z ?_
      exact if_neg hb
theorem walk_ofG {l : PySem.W.OpenLaw} {n k : Nat} {q : Program} {loose : List Str} {XP : (Str → Option Value) → Heap → Prop} {YP : World → Heap → Prop} {d : DefRec} {K : Params → PySem.W.Frag} {sp : PySem.W.Frag → Sp} {x : Str}
    (most : l.most = some n) (small : n ≤ sizeLine) (nodef : d.params.defaults = []) (hr : Room k callerA) (hY : ∀ (w : World) (h : Heap), YP w h → (K w.params).In h)
    (F : ∀ (w : World) (mg : Str → Option Value) (fa : Addr) (h : Heap), (K w.params).In h → h.Ns mainGlobals mg → mg d.name = some (.ref fa) → ∃ fd : FuncData, (∀ (s : Shared) (u : Value), BindsTo s fd ⟨[u], []⟩ [(x, u)]) ∧
      ∀ base : Heap, (K w.params).In base → base.Ns mainGlobals mg → FnG l.prog w (K w.params) mg base CX0 k fa fd [x] (sp (K w.params)))
    (hsp : ∀ (K : PySem.W.Frag) (H : Hp) (a : Addr) (ns : List Int), ns.length ≤ n → Only H → SqL K H a (ns.map V.int) → sp K [.ref a] H (fun v _ => v = .bl true) fun _ _ _ => False) :
    PySem.W.WalkO q loose XP YP l.row.toRowW d [] (fun f vs => PySem.call f vs) := by
  refine Att.attach_call most nodef fun w s₀ s₁ mg mb fa o pm cd doc a vs ns G Y ho hd hcd hmg hobj hints hlen hg => ?_
  have kin := hY w _ Y
  obtain ⟨fd, bnd, ok⟩ := F w mg fa _ kin G.T.g hmg
  exact law_callG kin G.T.g G.T.b G.T.builtins G.T.nolimit hg hobj hints (Nat.le_trans hlen small) hr ok bnd fun H only sq => hsp _ H a ns hlen only sq
/-! ### for i, x in enumerate(t), t a tuple -/
set_option maxHeartbeats 4000000 in
theorem meets_enumT (l : Addr) (items : Array Value) (n : Nat) (dct : Option Addr) (sl : Array (Option Value)) :
    Meets (Builtin.«enumerate.__new__» ⟨[.type "enumerate", .ref l], []⟩) (fun _ R s => s.heap.get? l = some { cls := .type "tuple", dict := dct, data := .seq items n, slots := sl } ∧
      R (.ok (.ret (.ref (s.heap.push { cls := .type "tuple_iterator", data := .fields #[.ref l, .int 0 0] }).objs.size)))
        { s with heap := (s.heap.push { cls := .type "tuple_iterator", data := .fields #[.ref l, .int 0 0] }).push { cls := .type "enumerate", data := .fields #[.none, .bool false, .ref s.heap.objs.size, rawInt 0, .none, .none] } }) :=
  .of_wp fun prog w A R s hh => by
    obtain ⟨hp, g, d, tk, os⟩ := s
    obtain ⟨hl, hh⟩ := hh
    have sub := sub_enumerate
    have isT : Heap.IsTuple (Shared.heap ⟨hp, g, d, tk, os⟩) l items := ⟨_, hl, rfl, n, rfl⟩
    wp_walk using AutoSeq1.wpAny_loadPart' hl
    refine wpAny_stack_any fun st0 => wpAny_pure ?_
    split
    · rename_i c _ _ _ _ _
      cases (c == Value.type "enumerate")
      · wp_walk using AutoSeq1.wpAny_loadPart' hl, wpAny_pyIter_tuple isT
        exact ⟨_, rfl, hh⟩
      · wp_walk using AutoSeq1.wpAny_loadPart' hl, wpAny_pyIter_tuple isT
        exact ⟨_, rfl, hh⟩
    · wp_walk using AutoSeq1.wpAny_loadPart' hl, wpAny_pyIter_tuple isT
      exact ⟨_, rfl, hh⟩
section
variable {prog : Program} {w : World} {A : Around} {E : Value → Shared → Prop} {s : Shared}
theorem call_enumT {l : Addr} {items : Array Value} {Q : Value → Shared → Prop} (isT : s.heap.IsTuple l items)
    (hh : ∀ h', IsEnum h' (s.heap.objs.size + 1) s.heap.objs.size 0 .none → h'.IsTupleIter s.heap.objs.size l 0 → h'.objs.size = s.heap.objs.size + 2 →
      (∀ b o, s.heap.get? b = some o → h'.get? b = some o) → Q (.ref (s.heap.objs.size + 1)) { s with heap := h' }) :
    wpAny (model prog w) A (call (.type "enumerate") [.ref l]) Q E s := by
  obtain ⟨⟨c, dct, dt, sl⟩, hl, hc, n, hd⟩ := isT
  obtain rfl : c = .type "tuple" := hc
  obtain rfl : dt = .seq items n := hd
  refine callType_new F.called_enumerate (by decide) (F.typeCall_enumerate_1 _) (F.newCall_enumerate_1 _) (fun obj => F.args_object_init_2 obj _) F.entry_enumerate_new (meets_enumT l items n dct sl) ⟨hl, ?_⟩
  generalize hI : s.heap.push { cls := .type "tuple_iterator", data := .fields #[.ref l, .int 0 0] } = h1
  have sz : h1.objs.size = s.heap.objs.size + 1 := by rw [← hI]; exact Heap.size_push ..
  show _ ∧ _
  rw [sz]
  have he : IsEnum (h1.push { cls := .type "enumerate", data := .fields #[.none, .bool false, .ref s.heap.objs.size, rawInt 0, .none, .none] }) (s.heap.objs.size + 1) s.heap.objs.size 0 .none := by
    have e := Heap.get?_push_size h1 (o := { cls := .type "enumerate", data := .fields #[.none, .bool false, .ref s.heap.objs.size, rawInt 0, .none, .none] }) rfl
    rw [sz] at e
    exact e
  refine ⟨⟨_, he, rfl⟩, hh _ he ⟨_, Heap.get?_push_of_some _ (by rw [← hI]; exact Heap.get?_push_size _ rfl), rfl, rfl⟩ (by rw [Heap.size_push, sz]) fun b o e => Heap.get?_push_of_some _ ?_⟩
  rw [← hI]
  exact Heap.get?_push_of_some _ e
end
end BR

namespace BR
open PySem PySem.Spec PyProof.Rows L2
def IteT (K : PySem.W.Frag) (a : Addr) (xs : List V) : It :=
  ⟨fun i H => SqT K H a xs ∧ i < xs.length, fun i H v H' => ∃ T x, v = .ref T ∧ H T = none ∧ H' = upd H T (.tup [.int (i : Nat), x]) ∧ xs[i]? = some x, fun i H => SqT K H a xs ∧ xs.length ≤ i⟩
theorem diff_cls {h : Heap} {a b : Addr} {o u : Obj} {c d : String} (h1 : h.get? a = some o) (h2 : h.get? b = some u) (e1 : o.cls = .type c) (e2 : u.cls = .type d) (ne : c ≠ d) : a ≠ b := by
  rintro rfl
  rw [h1] at h2
  cases h2
  rw [e1] at e2
  cases e2
  exact ne rfl
theorem turn_enumT {P : Program} {w : World} {K : PySem.W.Frag} {elts : List Expr} {kk : Nat} {tpos : Pos} (a e it : Addr) (xs : List V) :
    Turn P w K (.Tuple elts kk tpos) (IteT K a xs) [e, it] e (fun i h => (∃ old, IsEnum h e it ((i : Nat) : Int) old) ∧ h.IsTupleIter it a i ∧ e ≠ it ∧ i ≤ xs.length) where
  mem := by simp
  obj := by
    rintro i h ⟨⟨old, he⟩, ⟨o, ho, hc, hd⟩, _⟩ b hb
    rcases List.mem_cons.mp hb with rfl | hb
    · exact ⟨_, he, fun v q => nomatch q⟩
    · obtain rfl := List.mem_singleton.mp hb
      exact ⟨o, ho, fun v q => by rw [hd] at q; cases q⟩
  keep := by
    rintro i h h' ⟨⟨old, he⟩, hi, hne, hz⟩ k
    exact ⟨⟨old, k e (by simp) _ he⟩, hi.at fun o q => k it (by simp) o q, hne, hz⟩
  item := by
    intro X hP hw hK hc i pins s σ H E I hf st hg
    subst hP hw hK
    obtain ⟨⟨old, he⟩, hit, hne, hz⟩ := st
    obtain ⟨hq, hlt⟩ := hg
    obtain ⟨its, rv, isT, _⟩ := I.tuple hq
    have hl := rv.length
    obtain ⟨ot, hot, hct, _⟩ := id isT
    obtain ⟨oi, hoi, hci, _⟩ := id hit
    have nta : it ≠ a := diff_cls hoi hot hci hct (by decide)
    have nea : e ≠ a := diff_cls he hot rfl hct (by decide)
    have hel : e < s.heap.objs.size := Heap.lt_size he
    have hil : it < s.heap.objs.size := Heap.lt_size hoi
    have D := Draws.tuple (prog := X.prog) (w := X.w) (A := X.A.in1) (show X.A.in1.handled = none from I.ok.hd hc) it a (Ne.symm nta) its.toArray
    refine wpAny_pyNext_enum_itemD D he ⟨hit, isT⟩ (by simp; omega) hne (by simp [hne, nea]) fun x h' tk hx ho hit' hT hsz hk => ?_
    obtain ⟨hit1, isT1⟩ := hit'
    refine ⟨_, rfl, wpAny_letOwnedTupleGo_enum (s := { s with heap := h', toks := tk + 1 }) ho fun h2 he2 sb => ?_⟩
    have hT2 : h2.get? s.heap.objs.size = some { cls := .type "tuple", data := .seq #[.int i tk, x] } := (sb.2 _ (Nat.ne_of_gt hel)).trans hT
    have hxi : i < its.length := by omega
    obtain ⟨y, hy, ry⟩ : ∃ y, xs[i]? = some y ∧ RelV y x := by
      have e1 : xs[i]? = some xs[i] := by simp [hlt]
      obtain ⟨u, hu, ru⟩ := rv.get e1
      have e2 : its[i]? = some x := by simpa using hx
      rw [e2] at hu
      cases hu
      exact ⟨_, e1, ru⟩
    have new : ObjOk X.prog X.w (upd H s.heap.objs.size (.tup [.int (i : Nat), y])) h2 s.heap.objs.size (.tup [.int (i : Nat), y]) :=
      ⟨by show 2 ≤ sizeLine; decide, [.int i tk, x], .cons ⟨_, rfl⟩ (.cons ry .nil), ⟨_, hT2, rfl, _, rfl⟩⟩
    have I1 : Inv X pins σ (upd H s.heap.objs.size (.tup [.int (i : Nat), y])) { s with heap := h2, toks := tk + 1 } := by
      refine I.turnedNew (ch := [e, it]) (fun b ob hb q => ?_) hf (Nat.le_refl _) new
      have b1 : b ≠ e := fun z => hb (by simp [z])
      exact (sb.2 b b1).trans (hk b ob b1 (fun z => hb (by simp [z])) q)
    refine ⟨.ref s.heap.objs.size, _, I1, rfl, ⟨_, y, rfl, I.hok.fresh (Nat.le_refl _), rfl, hy⟩, ⟨⟨x, ?_⟩, hit1.at fun o q => (sb.2 it (Ne.symm hne)).trans q, hne, hlt⟩, fun b hb => ?_⟩
    · have e1 : ((i + 1 : Nat) : Int) = (i : Int) + 1 := by omega
      rw [e1]
      exact he2
    · have hb' : b < s.heap.objs.size := by
        rcases List.mem_cons.mp hb with rfl | hb
        · exact hel
        · obtain rfl := List.mem_singleton.mp hb
          exact hil
      rw [upd_ne (Nat.ne_of_lt hb')]
      exact (hf b hb).1
  done := by
    intro X hP hw hK hc i pins s σ H E I hf st hg
    subst hP hw hK
    obtain ⟨⟨old, he⟩, hit, hne, hz⟩ := st
    obtain ⟨hq, hge⟩ := hg
    obtain ⟨its, rv, isT, _⟩ := I.tuple hq
    have hl := rv.length
    obtain rfl : i = its.toArray.size := by simp; omega
    obtain ⟨ot, hot, hct, _⟩ := id isT
    obtain ⟨oi, hoi, hci, _⟩ := id hit
    have nta : it ≠ a := diff_cls hoi hot hci hct (by decide)
    have D := Draws.tuple (prog := X.prog) (w := X.w) (A := X.A.in1) (show X.A.in1.handled = none from I.ok.hd hc) it a (Ne.symm nta) its.toArray
    obtain ⟨f0, f1, f2, f3, f4, f5⟩ := hf it (by simp)
    exact wpAny_pyNext_enum_endD D he ⟨hit, isT⟩ fun h' eb => ⟨rfl, I.turned (t' := s.toks) (fun b o hb q => eb b o hb q) f0 f1 f3 f4 f5⟩
  self := fun A i s Q E st h => let ⟨⟨_, he⟩, _⟩ := st; wpAny_pyIter_enum he h
def iEnumT (K : PySem.W.Frag) (ta : TA) : TI := fun σ H R => ta σ H fun vs H1 => ∃ a xs, vs = [.ref a] ∧ SqT K H1 a xs ∧ R (IteT K a xs) H1
theorem pi_enumT {X : Cx} {e : Expr} {ta : TA} {p pos tpos : Pos} {elts : List Expr} {kk : Nat} (hg : Gl X "enumerate") (hm : X.mg "enumerate" = none) (args : PA X [e] ta) (st1 : starEach [e] X.env = [(false, eval e X.env)] := by rfl) :
    PI X (.Tuple elts kk tpos) (.Call (.Name "enumerate" p) [e] [] pos) (iEnumT X.K ta) := by
  refine ⟨fun pins s σ H R I h => ?_⟩
  refine Call_ (ld_blt I hg hm boot_enumerate (PyProof.Rows.callWith_type1 (thn (args.run pos pins s σ H _ I h) ?_) st1 rfl))
  rintro us s1 ⟨vs, H1, I1, r1, a, xs, rfl, hq, q⟩
  cases r1 with
  | cons r rr =>
    cases rr
    cases r
    obtain ⟨its, rv, isT, hz⟩ := I1.tuple hq
    refine call_enumT isT fun h' he hit hsz hk => wpAny_pyIter_enum he ?_
    have I2 : Inv X pins σ H1 { s1 with heap := h' } := I1.kept (t' := s1.toks) hk
    refine ⟨s1.heap.objs.size + 1, [s1.heap.objs.size + 1, s1.heap.objs.size], _, _, H1, rfl, I2, turn_enumT a (s1.heap.objs.size + 1) s1.heap.objs.size xs, ⟨⟨.none, he⟩, hit, Nat.succ_ne_self _, Nat.zero_le _⟩, fun b hb => ?_, q⟩
    have hle : s1.heap.objs.size ≤ b := by
      rcases List.mem_cons.mp hb with rfl | hb
      · exact Nat.le_add_right _ _
      · obtain rfl := List.mem_singleton.mp hb
        exact Nat.le_refl _
    exact I1.fpOk hle (I1.hok.fresh hle)
theorem walk_enumT {K : PySem.W.Frag} {a : Addr} {xs : List V} : Walk (IteT K a xs) xs.length (fun H => SqT K H a xs) (YPair (fun i => some (.int (i : Nat))) (fun i => xs[i]?)) := by
  refine ⟨fun i _ hi q => ⟨q, hi⟩, fun _ q => ⟨q, Nat.le_refl _⟩, ?_⟩
  rintro i H v H' _ q ⟨T, x, h1, h2, h3, h4⟩
  exact ⟨T, .int (i : Nat), x, h1, h2, h3, rfl, h4⟩
end BR

namespace BR
open PySem PySem.Spec PyProof.Rows L2
/-! ### the draws' pool, heaps, words -/
theorem tT {c : Bool} {A B : Prop} (hc : c = true) (h : A) : if c = true then A else B := by
  rw [if_pos hc]
  exact h
theorem tF {c : Bool} {A B : Prop} (hc : c = false) (h : B) : if c = true then A else B := by
  rw [hc, if_neg Bool.false_ne_true]
  exact h
theorem sameNew {H : Hp} {p : Addr} {o : HO} (h : H p = none) : Same H (upd H p o) := fun b u e => by
  rw [upd_ne (ne_of_none e h)]
  exact e
theorem sameT {K : PySem.W.Frag} {H H' : Hp} {a : Addr} {xs : List V} (e : Same H H') (h : SqT K H a xs) : SqT K H' a xs := by
  rcases h with (h | ⟨o, h⟩) | h
  · exact .inl (.inl (e _ _ h))
  · exact .inl (.inr ⟨o, e _ _ h⟩)
  · exact .inr h
theorem map_at {xs : List Int} {i : Nat} {v : V} (h : (xs.map V.int)[i]? = some v) : ∃ z, xs[i]? = some z ∧ v = V.int z := by
  rw [List.getElem?_map] at h
  cases e : xs[i]? with
  | none => rw [e] at h; cases h
  | some z => rw [e] at h; exact ⟨z, rfl, (Option.some.inj h).symm⟩
/-- all but p as it was -/
def But (p : Addr) (H H' : Hp) : Prop := ∀ b o, b ≠ p → H b = some o → H' b = some o
theorem But.refl {p : Addr} (H : Hp) : But p H H := fun _ _ _ e => e
theorem But.trans {p : Addr} {H H1 H2 : Hp} (a : But p H H1) (b : But p H1 H2) : But p H H2 := fun c o n e => b c o n (a c o n e)
theorem But.of {p : Addr} {H H' : Hp} (s : Same H H') : But p H H' := fun b o _ e => s b o e
theorem But.upd {p : Addr} {H : Hp} {o : HO} : But p H (upd H p o) := fun b u n e => by
  rw [upd_ne n]
  exact e
theorem But.new {p q : Addr} {H : Hp} {o : HO} (h : H q = none) : But p H (L2.upd H q o) := But.of (sameNew h)
/-- the pool at p, not more than n numbers mixed -/
def Pool (H : Hp) (p : Addr) (n : Nat) : Prop := ∃ g b c : Int, H p = some (.lst [.int g, .int b, .int c]) ∧ 0 ≤ g ∧ 0 ≤ b ∧ b < 2 ^ 62 ∧ 0 ≤ c ∧ c ≤ (n : Int)
theorem Pool.same {H H' : Hp} {p : Addr} {n : Nat} (h : Pool H p n) (s : Same H H') : Pool H' p n := by
  obtain ⟨g, b, c, e, r⟩ := h
  exact ⟨g, b, c, s _ _ e, r⟩
theorem Pool.mono {H : Hp} {p : Addr} {n m : Nat} (h : Pool H p n) (l : n ≤ m) : Pool H p m := by
  obtain ⟨g, b, c, e, r1, r2, r3, r4, r5⟩ := h
  exact ⟨g, b, c, e, r1, r2, r3, r4, by omega⟩
theorem Pool.new {H : Hp} {p q : Addr} {o : HO} {n : Nat} (h : Pool H p n) (hq : H q = none) : Pool (L2.upd H q o) p n := h.same (sameNew hq)
theorem Pool.ne {H : Hp} {p q : Addr} {n : Nat} (h : Pool H p n) (hq : H q = none) : q ≠ p := by
  obtain ⟨g, b, c, e, _⟩ := h
  exact (ne_of_none e hq).symm
theorem Pool.put {H : Hp} {p q : Addr} {o : HO} {n : Nat} (h : Pool H p n) (nq : q ≠ p) : Pool (L2.upd H q o) p n := by
  obtain ⟨g, b, c, e, r⟩ := h
  exact ⟨g, b, c, by rw [upd_ne nq.symm]; exact e, r⟩
theorem pow_pos (n : Nat) : (0 : Int) < 2 ^ n := by
  have h : (2 : Int) ^ n = ((2 ^ n : Nat) : Int) := by norm_cast
  rw [h]
  have := Nat.two_pow_pos n
  omega
theorem pow_lt {a b : Nat} (h : a < b) : (2 : Int) ^ a < 2 ^ b := by
  have h1 : (2 : Int) ^ a = ((2 ^ a : Nat) : Int) := by norm_cast
  have h2 : (2 : Int) ^ b = ((2 ^ b : Nat) : Int) := by norm_cast
  have h3 : 2 ^ a < 2 ^ b := Nat.pow_lt_pow_right (by decide) h
  rw [h1, h2]
  omega
theorem log_ok {m : Int} (h0 : 0 < m) (h1 : m < 2 ^ 400) : m.natAbs.log2 < 9000 := by
  have h : m.natAbs < 2 ^ 400 := by
    have e : ((2 : Int) ^ 400) = ((2 ^ 400 : Nat) : Int) := by norm_cast
    rw [e] at h1
    omega
  exact Nat.lt_of_lt_of_le (PySem.Flt.log2_lt_of (by decide) h) (by decide)
/-- signed value, outcome -/
def sv (wd x : Int) : Int := if (2 : Int) ^ (wd - 1).toNat ≤ x then x - 2 ^ wd.toNat else x
def oc (wd x y : Int) : Str := if x = y then "E" else if sv wd x < sv wd y then (if x < y then "LB" else "LA") else (if x < y then "GB" else "GA")
theorem oc_short (wd x y : Int) : (oc wd x y).length ≤ 2 := by
  unfold oc
  split
  · decide +kernel
  · split <;> split <;> decide +kernel
theorem ints_all {K : PySem.W.Frag} {H : Hp} : ∀ xs : List Int, DpAll K H (xs.map V.int) (xs.map PyData.int)
  | [] => .nil
  | x :: r => .cons (.int x) (ints_all r)
theorem ints_lay : ∀ xs : List Int, PyData.canLayAll0 (xs.map PyData.int) = true ∧ PyData.depthAll (xs.map PyData.int) = 0
  | [] => ⟨rfl, rfl⟩
  | x :: r => by
    obtain ⟨h1, h2⟩ := ints_lay r
    refine ⟨?_, ?_⟩
    · show (PyData.canLay0 (.int x) && PyData.canLayAll0 (r.map PyData.int)) = true
      rw [h1]
      rfl
    · show max (PyData.depth (.int x)) (PyData.depthAll (r.map PyData.int)) = 0
      rw [h2]
      rfl
theorem ints_shaped (xs : List Int) : SeqAt.shaped (.list (xs.map PyData.int)) = true := by
  obtain ⟨h1, h2⟩ := ints_lay xs
  unfold SeqAt.shaped
  show (PyData.canLayAll0 (xs.map PyData.int) && decide (PyData.depthAll (xs.map PyData.int) + 1 ≤ 64)) = true
  rw [h1, h2]
  rfl
/-- what is small enough to be shown -/
def Tame (m : Int) : Prop := m.natAbs.log2 < 1920
theorem Tame.of {m : Int} {k : Nat} (k0 : 0 < k) (hk : k ≤ 1900) (h0 : -(2 ^ k) < m) (h1 : m < 2 ^ k) : Tame m := by
  have e : ((2 : Int) ^ k) = ((2 ^ k : Nat) : Int) := by norm_cast
  rw [e] at h0 h1
  have h : m.natAbs < 2 ^ k := by omega
  exact Nat.lt_of_lt_of_le (PySem.Flt.log2_lt_of k0 h) (by omega)
theorem tame_short {m : Int} (h : Tame m) : (PyData.shown (.int m)).length ≤ 1921 := int_text_len_1921 h
theorem tame_weight {m : Int} (h : Tame m) : (PyData.int m).weight ≤ 1920 := by
  show (if m == 0 then 0 else m.natAbs.log2 + 1) ≤ 1920
  have := show m.natAbs.log2 < 1920 from h
  split <;> omega
theorem oc_is (wd x y : Int) : oc wd x y = "E" ∨ oc wd x y = "LB" ∨ oc wd x y = "LA" ∨ oc wd x y = "GB" ∨ oc wd x y = "GA" := by
  unfold oc
  split
  · exact .inl rfl
  · split <;> split <;> simp
theorem sv_tame {wd x : Int} (h1 : 1 ≤ wd) (h2 : wd ≤ 300) (h : 0 ≤ x ∧ x < 2 ^ wd.toNat) : Tame (sv wd x) := by
  have p := pow_pos wd.toNat
  refine Tame.of (k := wd.toNat + 1) (by omega) (by omega) ?_ ?_
  · have q : (2 : Int) ^ (wd.toNat + 1) = 2 ^ wd.toNat * 2 := Int.pow_succ ..
    unfold sv
    split <;> omega
  · have q : (2 : Int) ^ (wd.toNat + 1) = 2 ^ wd.toNat * 2 := Int.pow_succ ..
    unfold sv
    split <;> omega
theorem shown_small {d : PyData} (h : d.leavesShort 1921 = true) (hw : d.weight ≤ 8000) : d.shown.length ≤ sizeLine := by
  have e := PyData.shown_le 1921 (by decide) d h
  have : (1921 + 2) * d.weight ≤ (1921 + 2) * 8000 := Nat.mul_le_mul_left _ hw
  exact Nat.le_trans e (Nat.le_trans (Nat.add_le_add_right this _) (by decide))
theorem shown_ok {wd x y : Int} (h1 : 1 ≤ wd) (h2 : wd ≤ 300) (h3 : 0 ≤ x ∧ x < 2 ^ wd.toNat) (h4 : 0 ≤ y ∧ y < 2 ^ wd.toNat) :
    (PyData.list [.int (sv wd x), .str (oc wd x y)]).showable = true ∧ (PyData.list [.int (sv wd x), .str (oc wd x y)]).hasDict = false ∧ (PyData.list [.int (sv wd x), .str (oc wd x y)]).depth ≤ 60 ∧
      (PyData.list [.int (sv wd x), .str (oc wd x y)]).shown.length ≤ sizeLine := by
  have t := sv_tame h1 h2 h3
  have a1 := tame_short t
  have a2 := tame_weight t
  have b : (PyData.str (oc wd x y)).leavesShort 1921 = true ∧ (PyData.str (oc wd x y)).weight ≤ 2 := by
    rcases oc_is wd x y with e | e | e | e | e <;> rw [e] <;> exact ⟨by decide +kernel, by decide +kernel⟩
  refine ⟨?_, rfl, ?_, shown_small ?_ ?_⟩
  · show (decide ((sv wd x).natAbs.log2 < 1920) && (true && true)) = true
    rw [decide_eq_true (show (sv wd x).natAbs.log2 < 1920 from t)]
    rfl
  · show max 0 (max 0 0) + 1 ≤ 60
    decide
  · show (decide ((PyData.shown (.int (sv wd x))).length ≤ 1921) && ((PyData.str (oc wd x y)).leavesShort 1921 && true)) = true
    rw [decide_eq_true a1, b.1]
    rfl
  · show (PyData.int (sv wd x)).weight + 1 + ((PyData.str (oc wd x y)).weight + 1 + 0) ≤ 8000
    omega
theorem laps_of {n : Nat} {t : Int} (ht : 1 ≤ t) : ∃ m : Nat, (m : Int) ≤ t ∧ (if (if (n : Int) < t then (n : Int) else t) > 1 then (if (n : Int) < t then (n : Int) else t) else 1) = (m : Int) := by
  by_cases h : (n : Int) < t
  · rw [if_pos h]
    by_cases h1 : (n : Int) > 1
    · rw [if_pos h1]; exact ⟨n, by omega, rfl⟩
    · rw [if_neg h1]; exact ⟨1, by omega, rfl⟩
  · rw [if_neg h]
    refine ⟨t.toNat, by omega, ?_⟩
    split <;> omega
end BR

namespace BR
open PySem PySem.Spec PyProof.Rows L2
/-! ### words changed; comprehensions over ints -/
def fl (wd x : Int) : Int := if x < 2 ^ (wd - 1).toNat then x + 2 ^ (wd - 1).toNat else x - 2 ^ (wd - 1).toNat
def iv (wd x : Int) : Int := 2 ^ wd.toNat - 1 - x
def ex (wd wi x : Int) : Int := if (2 : Int) ^ (wd - 1).toNat ≤ x then x + (2 ^ wi.toNat - 2 ^ wd.toNat) else x
theorem two_half {wd : Int} (h : 1 ≤ wd) : (2 : Int) ^ wd.toNat = 2 * 2 ^ (wd - 1).toNat := by
  have e : wd.toNat = (wd - 1).toNat + 1 := by omega
  rw [e, Int.pow_succ, Int.mul_comm]
theorem pow_le {a b : Nat} (h : a ≤ b) : (2 : Int) ^ a ≤ 2 ^ b := by
  have h1 : (2 : Int) ^ a = ((2 ^ a : Nat) : Int) := by norm_cast
  have h2 : (2 : Int) ^ b = ((2 ^ b : Nat) : Int) := by norm_cast
  have h3 : 2 ^ a ≤ 2 ^ b := Nat.pow_le_pow_right (by decide) h
  rw [h1, h2]
  omega
theorem nat_cast_pow (n : Nat) : (2 : Int) ^ n = ((2 ^ n : Nat) : Int) := by norm_cast
theorem fl_word {wd x : Int} (h : 1 ≤ wd) (hx : 0 ≤ x ∧ x < 2 ^ wd.toNat) : 0 ≤ fl wd x ∧ fl wd x < 2 ^ wd.toNat := by
  have e := two_half h
  have p := pow_pos (wd - 1).toNat
  unfold fl
  split <;> omega
theorem fl_fl {wd x : Int} (h : 1 ≤ wd) (hx : 0 ≤ x ∧ x < 2 ^ wd.toNat) : fl wd (fl wd x) = x := by
  have e := two_half h
  have p := pow_pos (wd - 1).toNat
  unfold fl
  split <;> split <;> omega
theorem iv_word {wd x : Int} (hx : 0 ≤ x ∧ x < 2 ^ wd.toNat) : 0 ≤ iv wd x ∧ iv wd x < 2 ^ wd.toNat := by
  unfold iv
  omega
theorem iv_iv (wd x : Int) : iv wd (iv wd x) = x := by
  unfold iv
  omega
theorem ex_word {wd wi x : Int} (h1 : 1 ≤ wd) (h2 : wd ≤ wi) (hx : 0 ≤ x ∧ x < 2 ^ wd.toNat) : 0 ≤ ex wd wi x ∧ ex wd wi x < 2 ^ wi.toNat := by
  have q := pow_le (a := wd.toNat) (b := wi.toNat) (by omega)
  unfold ex
  split <;> omega
theorem sv_ex {wd wi x : Int} (h1 : 1 ≤ wd) (h2 : wd ≤ wi) (hx : 0 ≤ x ∧ x < 2 ^ wd.toNat) : sv wi (ex wd wi x) = sv wd x := by
  have q := pow_le (a := (wd - 1).toNat) (b := (wi - 1).toNat) (by omega)
  have e1 := two_half h1
  have e2 := two_half (show 1 ≤ wi by omega)
  have p := pow_pos (wd - 1).toNat
  unfold sv ex
  split <;> split <;> omega
theorem and_bit {n a : Nat} (h : a < 2 ^ (n + 1)) : a &&& 2 ^ n = if a < 2 ^ n then 0 else 2 ^ n := by
  apply Nat.eq_of_testBit_eq
  intro i
  rw [Nat.testBit_and, Nat.testBit_two_pow]
  by_cases c : a < 2 ^ n
  · rw [if_pos c]
    by_cases e : n = i
    · subst e
      rw [Nat.testBit_lt_two_pow c]
      simp
    · simp [e]
  · rw [if_neg c, Nat.testBit_two_pow]
    by_cases e : n = i
    · subst e
      have hk : 2 ^ (n + 1) = 2 ^ n * 2 := Nat.pow_succ ..
      have z : a / 2 ^ n = 1 := by
        have p : 0 < 2 ^ n := Nat.two_pow_pos n
        have h1 : 1 ≤ a / 2 ^ n := (Nat.le_div_iff_mul_le p).mpr (by omega)
        have h2 : a / 2 ^ n < 2 := (Nat.div_lt_iff_lt_mul p).mpr (by omega)
        omega
      have t : a.testBit n = true := by
        rw [Nat.testBit_eq_decide_div_mod_eq, z]
        rfl
      simp [t]
    · simp [e]
theorem xor_half {wd x : Int} (h : 1 ≤ wd) (hx : 0 ≤ x ∧ x < 2 ^ wd.toNat) : Builtin.bitXor x (2 ^ (wd - 1).toNat) = fl wd x := by
  have e := two_half h
  have p := pow_pos (wd - 1).toNat
  rw [Bits.bitXor_pp hx.1 (by omega)]
  rw [nat_cast_pow] at p e ⊢
  unfold fl
  rw [nat_cast_pow]
  generalize (wd - 1).toNat = n at p e ⊢
  obtain ⟨a, rfl⟩ := Int.eq_ofNat_of_zero_le hx.1
  rw [Int.toNat_natCast, Int.toNat_natCast]
  have k := Bits.nat_xor_add_and a (2 ^ n)
  have b1 : (a : Int) < 2 * 2 ^ n := by rw [← e]; exact hx.2
  have p2 : ((2 ^ n : Nat) : Int) = 2 ^ n := (nat_cast_pow n).symm
  have hk : 2 ^ (n + 1) = 2 ^ n * 2 := Nat.pow_succ ..
  rw [and_bit (n := n) (a := a) (by omega)] at k
  by_cases c : a < 2 ^ n
  · rw [if_pos c] at k
    rw [if_pos (by omega)]
    omega
  · rw [if_neg c] at k
    rw [if_neg (by omega)]
    omega
theorem xor_all {wd x : Int} (hx : 0 ≤ x ∧ x < 2 ^ wd.toNat) : Builtin.bitXor x (2 ^ wd.toNat - 1) = iv wd x := by
  have p := pow_pos wd.toNat
  rw [Bits.bitXor_pp hx.1 (by omega)]
  unfold iv
  have b1 := hx.2
  rw [nat_cast_pow] at p b1 ⊢
  generalize wd.toNat = n at p b1 ⊢
  obtain ⟨a, rfl⟩ := Int.eq_ofNat_of_zero_le hx.1
  have et : (((2 ^ n : Nat) : Int) - 1).toNat = 2 ^ n - 1 := by omega
  rw [Int.toNat_natCast, et]
  have k := Bits.nat_xor_add_and a (2 ^ n - 1)
  rw [Nat.and_two_pow_sub_one_eq_mod, Nat.mod_eq_of_lt (by omega)] at k
  omega
theorem map_take_succ {f : Int → Int} {xs : List Int} {i : Nat} {z : Int} (h : xs[i]? = some z) : ((xs.take (i + 1)).map f).map V.int = ((xs.take i).map f).map V.int ++ [V.int (f z)] := by
  have e : xs.take (i + 1) = xs.take i ++ [z] := by
    rw [List.take_add_one, h]
    rfl
  rw [e, List.map_append, List.map_append]
  rfl
/-- [e for x in t], t a tuple of ints, e an int of x alone -/
theorem lc_ints {K : PySem.W.Frag} {a : Addr} {xs : List Int} {j : Nat} {te : TE} {vs : List Nat} {σ : L2.St} {H1 : Hp} {D : Addr} {Qd : Hp → Prop} (f : Int → Int) (hT : SqT K H1 a (xs.map V.int)) (hz : xs.length ≤ 1000) (hD : H1 D = none)
    (hw : ∀ x : V, wipe ((wipe σ vs).set j (some x)) vs = wipe σ vs)
    (he : ∀ (x : Int) (H2 : Hp) (Q : VK), x ∈ xs → Same H1 H2 → (∀ H3, Same H2 H3 → Q (.int (f x)) H3) → te ((wipe σ vs).set j (some (.int x))) H2 Q)
    (hd : ∀ H, Same H1 H → H D = some (.lst ((xs.map f).map V.int)) → Qd H) :
    ∃ W : Nat → Nat → Hp → Prop, (∃ m, W 0 m (L2.upd H1 D (.lst []))) ∧ ∀ i m H, W i m H →
      ((Itt K a).stop i H ∧ Qd H) ∨ ((Itt K a).go i H ∧ ∃ Nx : Hp → Prop, (∀ H', Nx H' → ∃ m', m' < m ∧ W (i + 1) m' H') ∧ ∀ x H', (Itt K a).yld i H x H' → gName j x (wipe σ vs) H' fun σ2 H2 => wipe σ2 vs = wipe σ vs ∧ tYes σ2 H2 fun b H3 =>
        if b = true then te σ2 H3 fun y H4 => ∃ acc, H4 D = some (.lst acc) ∧ acc.length < sizeLine ∧ Nx (L2.upd H4 D (.lst (acc ++ [y]))) else Nx H3) := by
  refine lc_tup (xs := xs.map V.int) (fun i H => Same H1 H ∧ H D = some (.lst (((xs.take i).map f).map V.int))) ⟨sameNew hD, upd_same⟩ (fun i H _ p => sameT p.1 hT) ?_ ?_
  · rintro i x H hx ⟨s, hH⟩
    obtain ⟨z, hz1, rfl⟩ := map_at hx
    refine ⟨hw _, ?_⟩
    show te ((wipe σ vs).set j (some (V.int z))) H _
    refine he z H _ (List.mem_of_getElem? hz1) s fun H3 s3 => ?_
    refine ⟨_, s3 _ _ hH, small1000 (by rw [List.length_map, List.length_map, List.length_take]; omega), ?_, ?_⟩
    · intro b o e
      rw [upd_ne (ne_of_none e hD)]
      exact s3 _ _ (s _ _ e)
    · rw [upd_same, map_take_succ hz1]
  · rintro H ⟨s, hH⟩
    rw [List.length_map, List.take_length] at hH
    exact hd H s hH
end BR
namespace BR
open PySem PySem.Spec PyProof.Rows L2
/-! ### what tuples of words look like when they are shown -/
theorem ints_show : ∀ {ys : List Int}, (∀ y ∈ ys, 0 ≤ y ∧ y < 2 ^ 300) → PyData.showableAll (ys.map PyData.int) = true ∧ PyData.hasDictAll (ys.map PyData.int) = false ∧ PyData.leavesShortAll 301 (ys.map PyData.int) = true ∧ PyData.weightAll (ys.map PyData.int) ≤ 301 * ys.length
  | [], _ => ⟨rfl, rfl, rfl, Nat.zero_le _⟩
  | y :: r, h => by
    obtain ⟨h1, h2, h3, h4⟩ := ints_show (ys := r) fun z m => h z (List.mem_cons_of_mem _ m)
    have hy := h y List.mem_cons_self
    have n : y.natAbs < 2 ^ 300 := by
      have e := nat_cast_pow 300
      have b := hy.2
      rw [e] at b
      omega
    have l := PySem.Flt.log2_lt_of (k := 300) (by decide) n
    refine ⟨?_, ?_, ?_, ?_⟩
    · show (decide (y.natAbs.log2 < 1920) && PyData.showableAll (r.map PyData.int)) = true
      rw [h1, decide_eq_true (by omega)]
      rfl
    · show (false || PyData.hasDictAll (r.map PyData.int)) = false
      rw [h2]
      rfl
    · show (decide ((PyData.shown (.int y)).length ≤ 301) && PyData.leavesShortAll 301 (r.map PyData.int)) = true
      have e : (PyData.shown (.int y)).length ≤ 301 := by
        show (PySem.Str.ofString (toString y)).length ≤ 301
        rw [PySem.ofString_length]
        exact PySem.int_text_length_le (k := 300) (by decide) l
      rw [h3, decide_eq_true e]
      rfl
    · show (if y == 0 then 0 else y.natAbs.log2 + 1) + 1 + PyData.weightAll (r.map PyData.int) ≤ 301 * (r.length + 1)
      split <;> omega
theorem shown_tup {ys : List Int} (h : ∀ y ∈ ys, 0 ≤ y ∧ y < 2 ^ 300) (hz : ys.length ≤ 41) :
    (PyData.tuple (ys.map PyData.int)).showable = true ∧ (PyData.tuple (ys.map PyData.int)).hasDict = false ∧ (PyData.tuple (ys.map PyData.int)).depth ≤ 60 ∧ (PyData.tuple (ys.map PyData.int)).shown.length ≤ sizeLine := by
  obtain ⟨h1, h2, h3, h4⟩ := ints_show h
  obtain ⟨_, h6⟩ := ints_lay ys
  refine ⟨h1, h2, ?_, ?_⟩
  · show PyData.depthAll (ys.map PyData.int) + 1 ≤ 60
    omega
  · have e := PyData.shown_le 301 (by decide) (.tuple (ys.map PyData.int)) h3
    have w : (PyData.tuple (ys.map PyData.int)).weight ≤ 12341 := by
      show PyData.weightAll (ys.map PyData.int) ≤ 12341
      omega
    have : (301 + 2) * (PyData.tuple (ys.map PyData.int)).weight ≤ (301 + 2) * 12341 := Nat.mul_le_mul_left _ w
    exact Nat.le_trans e (Nat.le_trans (Nat.add_le_add_right this _) (by decide))
theorem shown_two {ys : List Int} (h : ∀ y ∈ ys, 0 ≤ y ∧ y < 2 ^ 300) (hz : ys.length ≤ 41) :
    (PyData.list [.tuple (ys.map PyData.int), .tuple (ys.map PyData.int)]).showable = true ∧ (PyData.list [.tuple (ys.map PyData.int), .tuple (ys.map PyData.int)]).hasDict = false ∧
      (PyData.list [.tuple (ys.map PyData.int), .tuple (ys.map PyData.int)]).depth ≤ 60 ∧ (PyData.list [.tuple (ys.map PyData.int), .tuple (ys.map PyData.int)]).shown.length ≤ sizeLine := by
  obtain ⟨h1, h2, h3, h4⟩ := ints_show h
  obtain ⟨_, h6⟩ := ints_lay ys
  refine ⟨?_, ?_, ?_, ?_⟩
  · show (PyData.showableAll (ys.map PyData.int) && (PyData.showableAll (ys.map PyData.int) && true)) = true
    rw [h1]
    rfl
  · show (PyData.hasDictAll (ys.map PyData.int) || (PyData.hasDictAll (ys.map PyData.int) || false)) = false
    rw [h2]
    rfl
  · show max (PyData.depthAll (ys.map PyData.int) + 1) (max (PyData.depthAll (ys.map PyData.int) + 1) 0) + 1 ≤ 60
    omega
  · have e := PyData.shown_le 301 (by decide) (.list [.tuple (ys.map PyData.int), .tuple (ys.map PyData.int)]) (by
      show (PyData.leavesShortAll 301 (ys.map PyData.int) && (PyData.leavesShortAll 301 (ys.map PyData.int) && true)) = true
      rw [h3]
      rfl)
    have w : (PyData.list [.tuple (ys.map PyData.int), .tuple (ys.map PyData.int)]).weight ≤ 24684 := by
      show PyData.weightAll (ys.map PyData.int) + 1 + (PyData.weightAll (ys.map PyData.int) + 1 + 0) ≤ 24684
      omega
    have : (301 + 2) * (PyData.list [.tuple (ys.map PyData.int), .tuple (ys.map PyData.int)]).weight ≤ (301 + 2) * 24684 := Nat.mul_le_mul_left _ w
    exact Nat.le_trans e (Nat.le_trans (Nat.add_le_add_right this _) (by decide))
theorem tup_shaped (xs : List Int) : SeqAt.shaped (.tuple (xs.map PyData.int)) = true := by
  obtain ⟨h1, h2⟩ := ints_lay xs
  unfold SeqAt.shaped
  show (PyData.canLayAll0 (xs.map PyData.int) && decide (PyData.depthAll (xs.map PyData.int) + 1 ≤ 64)) = true
  rw [h1, h2]
  rfl
theorem eqv_tup (xs : List Int) : PyData.eqv (.tuple (xs.map PyData.int)) (.tuple (xs.map PyData.int)) = true := SeqAt.eqv_refl _ (SeqAt.canLay_of_shaped (tup_shaped xs))
theorem eqv_lst (xs : List Int) : PyData.eqv (.list (xs.map PyData.int)) (.list (xs.map PyData.int)) = true := SeqAt.eqv_refl _ (SeqAt.canLay_of_shaped (ints_shaped xs))
end BR

namespace BR
open PySem PySem.Spec PyProof.Rows L2
/-! ### outcomes told by a cut -/
def ocut (c x y : Int) : Str := if x = y then "E" else if x < y then (if (decide (x < c) != decide (y < c)) = true then "GB" else "LB") else (if (decide (x < c) != decide (y < c)) = true then "LA" else "GA")
theorem mixed_is (a b : Bool) : (!decide (V.bl a = V.bl b)) = (a != b) := by
  cases a <;> cases b <;> rfl
theorem oc_cut {wd x y : Int} (h : 1 ≤ wd) (hx : 0 ≤ x ∧ x < 2 ^ wd.toNat) (hy : 0 ≤ y ∧ y < 2 ^ wd.toNat) : ocut (2 ^ (wd - 1).toNat) x y = oc wd x y := by
  have e := two_half h
  have p := pow_pos (wd - 1).toNat
  unfold ocut oc
  by_cases c : x = y
  · rw [if_pos c, if_pos c]
  rw [if_neg c, if_neg c]
  by_cases cx : x < 2 ^ (wd - 1).toNat
  · have sx : sv wd x = x := by unfold sv; rw [if_neg (by omega)]
    by_cases cy : y < 2 ^ (wd - 1).toNat
    · have sy : sv wd y = y := by unfold sv; rw [if_neg (by omega)]
      rw [sx, sy, decide_eq_true cx, decide_eq_true cy, if_neg (show ¬ ((true != true) = true) by decide), if_neg (show ¬ ((true != true) = true) by decide)]
      by_cases l : x < y
      · rw [if_pos l, if_pos l, if_pos l]
      · rw [if_neg l, if_neg l, if_neg l]
    · have sy : sv wd y = y - 2 ^ wd.toNat := by unfold sv; rw [if_pos (by omega)]
      rw [sx, sy, decide_eq_true cx, decide_eq_false cy, if_pos (show (true != false) = true by decide), if_pos (show (true != false) = true by decide)]
      rw [if_pos (show x < y by omega), if_neg (show ¬ x < y - 2 ^ wd.toNat by omega), if_pos (show x < y by omega)]
  · have sx : sv wd x = x - 2 ^ wd.toNat := by unfold sv; rw [if_pos (by omega)]
    by_cases cy : y < 2 ^ (wd - 1).toNat
    · have sy : sv wd y = y := by unfold sv; rw [if_neg (by omega)]
      rw [sx, sy, decide_eq_false cx, decide_eq_true cy, if_pos (show (false != true) = true by decide), if_pos (show (false != true) = true by decide)]
      rw [if_neg (show ¬ x < y by omega), if_pos (show x - 2 ^ wd.toNat < y by omega), if_neg (show ¬ x < y by omega)]
    · have sy : sv wd y = y - 2 ^ wd.toNat := by unfold sv; rw [if_pos (by omega)]
      rw [sx, sy, decide_eq_false cx, decide_eq_false cy, if_neg (show ¬ ((false != false) = true) by decide), if_neg (show ¬ ((false != false) = true) by decide)]
      by_cases l : x < y
      · rw [if_pos l, if_pos (show x - 2 ^ wd.toNat < y - 2 ^ wd.toNat by omega), if_pos l]
      · rw [if_neg l, if_neg (show ¬ x - 2 ^ wd.toNat < y - 2 ^ wd.toNat by omega), if_neg l]
end BR

/-! ### own errors held as values: made by position and by keyword -/
namespace PySem
namespace BRX
open PySem.W PySem.Calls PyProof.Rows PySem.HandSPX
section
variable {M : Model} {prog : Program} {w : World} {A : Around} {E : Value → Shared → Prop} {R : Result → Shared → Prop} {h : Heap} {g : Array GenState} {d : Drawn} {t : Nat} {os : OsState}
variable {nm q : Str} {C N : Addr} {bs bm bmB : List Value} {hd0 : Bool} {sn : List Str} {sub : List Value} {ab : Bool} {col : Option Bool} {dd : Option Addr} {k0 k1 k2 k3 k5 : Option Value} {B newId initId : String} {kw : List (Str × Value)}
theorem check_newK (F : ExcBaseFacts B newId initId bmB) (hT : ∀ X : String, bm.contains (.type X) = bmB.contains (.type X)) {Q : Unit → Shared → Prop}
    (cl : h.get? C = some (excClassObj nm q C N bs bm hd0 sn sub ab col dd k0 k1 k2 k3 k5 newId)) (go : Q () ⟨h, g, d, t, os⟩) : wpAny M A (checkBuiltinCall newId ⟨[.ref C], kw⟩) Q E ⟨h, g, d, t, os⟩ := by
  have inB : (Value.ref C :: bm).contains (.type B) = true := by rw [List.contains_cons, hT, F.hasB, Bool.or_true]
  have star := F.noStar
  simp only [checkBuiltinCall, F.newKind, F.newSplit, F.newRow]
  repeat (first | refine wpAny_loadPart_at cl ?_ | (refine wpAny_isSubtype_exc cl ?_; rw [inB]) | refine wpAny_staticBase_exc cl ?_ | refine wpAny_madeBy_exc cl ?_ | simp only [bne_self_eq_false, Bool.false_eq_true, if_false] | wp_step)
  exact go
theorem newK (F : ExcBaseFacts B newId initId bmB) (hT : ∀ X : String, bm.contains (.type X) = bmB.contains (.type X))
    (cl : h.get? C = some (excClassObj nm q C N bs bm hd0 sn sub ab col dd k0 k1 k2 k3 k5 newId))
    (go : R (.ok (.ret (.ref (h.objs.size + 1)))) ⟨(h.push { cls := .type "tuple", data := .seq #[] }).push { cls := .ref C, data := .fields #[.ref h.objs.size, .none, .none, .none, .bool false, .none] }, g, d, t, os⟩) :
    codeAny (model prog w) A (.builtin newId ⟨[.ref C], kw⟩) R ⟨h, g, d, t, os⟩ := by
  have ends := F.ends
  have inB : (Value.ref C :: bm).contains (.type B) = true := by rw [List.contains_cons, hT, F.hasB, Bool.or_true]
  have inA : (Value.ref C :: bm).contains (.type "AttributeError") = false := by rw [List.contains_cons, hT, F.noAttr]; rfl
  have inN : (Value.ref C :: bm).contains (.type "NameError") = false := by rw [List.contains_cons, hT, F.noName]; rfl
  refine codeAny_builtinAt F.entry ?_
  unfold Builtin.«BaseException.__new__»
  refine wpAt_bind ?_
  show wpAt _ _ _ (stack >>= _) _ _ _
  refine wpAt_bind (wpAt_stack fun p below => wpAt_of_wpAny ?_)
  wp_walk
  refine wpAt_of_wpAny ?_
  rw [F.owner]
  repeat (first | with_reducible refine wpAny_madeHere_exc F.canon cl ?_ | with_reducible refine wpAny_loadPart_at cl ?_ | (with_reducible refine wpAny_isSubtype_exc cl ?_; first | rw [inB] | rw [inA] | rw [inN]) | wp_step)
  show R _ _
  rw [Heap.size_push]
  exact go
theorem type_callK (F : ExcBaseFacts B newId initId bmB) (hT : ∀ X : String, bm.contains (.type X) = bmB.contains (.type X)) {fI : Addr} {Q : Fin → Shared → Prop}
    (cl : h.get? C = some (excClassObj nm q C N bs bm hd0 sn sub ab col dd k0 k1 k2 k3 k5 newId))
    (li : W.Looks (model prog w) h (typeLookup (.ref C) "__init__") (some (.ref fI))) (lb : ∀ self, W.Looks (model prog w) h (bindSpecial (.ref fI) self) (.ref fI, [self]))
    (go : codeAny (model prog w) A (.call (.ref fI) ⟨[.ref (h.objs.size + 1)], kw⟩) (fun r s' => match r with | .ok (.ret v) => v = .none ∧ Q (.done (.ret (.ref (h.objs.size + 1)))) s' | .ok _ => False | .error e => E e s')
      ⟨(h.push (W.kdv_tup [])).push (excO C h.objs.size), g, d, t, os⟩) : wpAny (model prog w) A (Builtin.«type.__call__» ⟨[.ref C], kw⟩) Q E ⟨h, g, d, t, os⟩ := by
  repeat (first | with_reducible refine wpAny_loadPart_at cl ?_ | with_reducible refine wpAny_madeBy_exc cl ?_ | wp_step)
  refine codeAny_call_builtin_code (Code.quiet_builtin _ F.quiet) (check_newK F hT cl ?_)
  refine newK F hT cl ?_
  show wpAny _ _ _ _ _ _
  have kp : ∀ b o, h.get? b = some o → ((h.push (W.kdv_tup [])).push (excO C h.objs.size)).get? b = some o := fun b o e => Heap.get?_push_of_some _ (Heap.get?_push_of_some _ e)
  have cl1 := kp _ _ cl
  have new : ((h.push (W.kdv_tup [])).push (excO C h.objs.size)).get? (h.objs.size + 1) = some (excO C h.objs.size) := by heap_get
  have inC : (Value.ref C :: bm).contains (.ref C) = true := by simp
  have i1 := li.keeps kp
  have b1 := (lb (.ref (h.objs.size + 1))).keeps kp
  unfold isInstance
  repeat (first | with_reducible refine wpAny_loadPart_at new ?_ | (with_reducible refine wpAny_isSubtype_exc cl1 ?_; rw [inC]) | wp_step)
  show wpAny _ _ (typeLookup (.ref C) _) _ _ _
  refine i1.at ?_
  refine wpAny_holding (wpAny_bind (b1.at ?_))
  refine wpAny_bind (wpAny_call (codeAny_mono go fun r s' z => ?_))
  rcases r with e | (v | _ | _ | _) <;> first | exact z | exact z.elim | skip
  obtain ⟨rfl, z⟩ := z
  first
    | exact wpAny_pure (wpAny_pure z)
    | (wp_walk; exact z)
theorem call_ownK (F : ExcBaseFacts B newId initId bmB) (hT : ∀ X : String, bm.contains (.type X) = bmB.contains (.type X)) {fI : Addr}
    (cl : h.get? C = some (excClassObj nm q C N bs bm hd0 sn sub ab col dd k0 k1 k2 k3 k5 newId))
    (li : W.Looks (model prog w) h (typeLookup (.ref C) "__init__") (some (.ref fI))) (lb : ∀ self, W.Looks (model prog w) h (bindSpecial (.ref fI) self) (.ref fI, [self]))
    (go : codeAny (model prog w) (A.under (.builtin "type.__call__" ⟨[.ref C], kw⟩)) (.call (.ref fI) ⟨[.ref (h.objs.size + 1)], kw⟩) (W.InitBack (h.objs.size + 1) R) ⟨(h.push (W.kdv_tup [])).push (excO C h.objs.size), g, d, t, os⟩) :
    codeAny (model prog w) A (.call (.ref C) ⟨[], kw⟩) R ⟨h, g, d, t, os⟩ := by
  have f1 := tc_lookup
  have f2 := tc_bind (.ref C)
  have isTy : (⟨h, g, d, t, os⟩ : Shared).TypeIs (.ref C) "type" := ⟨_, cl, rfl⟩
  refine codeAny_of_tree ?_
  show wpAny _ _ (callAny (.ref C) _) _ _ _
  repeat (any_goals (first | assumption | with_reducible refine wpAny_loadPart_at cl ?_ | wp_step))
  refine ⟨rfl, ?_⟩
  refine codeAny_call_builtin_at (Code.quiet_builtin _ (by decide +kernel)) entry_typeCall (wpAny_check_type_call_sub cl (type_callK F hT cl li lb ?_))
  refine codeAny_mono go fun r s' z => ?_
  rcases r with e | (v | _ | _ | _) <;> exact z
end
end BRX
end PySem

namespace BR
open PySem PySem.Spec PyProof.Rows L2
/-! ### C(e), C(value = e): a new error, held as a value -/
def tOexV (C : Addr) (sp : Sp) (ta : TA) : TE := fun σ H Q => ta σ H fun vs H1 => vs.length ≤ 1000 ∧ ∀ e, H1 e = none → sp (.ref e :: vs) (L2.upd H1 e (exo e C none)) (fun v H2 => v = .non ∧ Q (.ref e) H2) fun _ _ _ => False
section
variable {X : Cx} {CX : CXT} {k : Nat} {fI C : Addr} {fd : FuncData} {ps : List Str} {sp : Sp} {x : Str} {p pos kpos : Pos} {e : Expr} {es : List Expr} {ta : TA} {te : TE}
theorem pe_oexV (T : OexC X.K C) (iC : PySem.W.findIn X.K (.ref C) "__init__" = some (some (.ref fI))) (tI : PySem.W.typeIn X.K (.ref fI) = some (.type "function"))
    (F1 : FnOk X.prog X.w X.K X.mg X.base CX k fI fd ps sp) (room : Room (k + 1) X.A) (b : Binds X.K fd ps []) (hx : Passes CX X (fun _ _ _ => False)) (hg : Gl X x) (hm : X.mg x = some (.ref C)) (args : PA X (e :: es) ta)
    (nodb : (x == ("__debug__" : Str)) = false := by decide) (st1 : starEach (e :: es) X.env = (false, eval e X.env) :: starEach es X.env := by rfl) (st2 : (backTo pos (starEach es X.env)).any (·.1) = false := by rfl) :
    PE X (.Call (.Name x p) (e :: es) [] pos) (tOexV C sp ta) := by
  refine ⟨fun pins s σ H Q I0 hh => ?_⟩
  obtain ⟨nm, q, N, bs, bm, sn, sub, ab, col, dd, k0, k1, k2, k3, k5, hC, hbm⟩ := T.cls
  refine wpAny_Call_Name_kw (ld_glob I0 hg hm ?_ nodb)
  refine PySem.W.callWith_K (h₀ := X.base) I0.ok.mod.kin T.kC (thn (args.run pos pins s σ H _ I0 hh) ?_) st1 st2
  rintro us s1 ⟨vs, H1, I1, r1, hz, q1⟩
  refine ⟨I1.kIn, ?_⟩
  show wpAny _ _ (call (.ref C) us) _ _ _
  obtain ⟨hp, g, dr, tk, os⟩ := s1
  have le1 : hp.objs.size ≤ hp.objs.size + 1 := Nat.le_succ _
  have free : H1 (hp.objs.size + 1) = none := I1.hok.fresh le1
  have hq := q1 (hp.objs.size + 1) free
  have kp : ∀ b o, hp.get? b = some o → ((hp.push (PySem.W.kdv_tup us)).push (PySem.HandSPX.excO C hp.objs.size)).get? b = some o := fun b o z => Heap.get?_push_of_some _ (Heap.get?_push_of_some _ z)
  have new : ((hp.push (PySem.W.kdv_tup us)).push (PySem.HandSPX.excO C hp.objs.size)).get? (hp.objs.size + 1) = some (PySem.HandSPX.excO C hp.objs.size) := by heap_get
  have I2 := I1.laid (t' := tk) (a := hp.objs.size + 1) (o := exo (hp.objs.size + 1) C none) kp le1 (exo_ok new)
  have r2 : Vals (V.ref (hp.objs.size + 1) :: vs) (Value.ref (hp.objs.size + 1) :: us) := .cons rfl r1
  have hl : (Value.ref (hp.objs.size + 1) :: us).length = ps.length := r2.length.symm.trans (F1.len _ _ _ _ hq)
  have lus : us.length ≤ sizeLine := by
    rw [← Paired.length r1, sizeLine_eq]
    omega
  have bd := b _ (Value.ref (hp.objs.size + 1) :: us) I2.kIn (by rw [List.append_nil]; exact hl)
  rw [List.append_nil] at bd
  refine wpAny_call (PySem.HandSPX.call_own F.excBase_ValueError (fun Y => PySem.HandSPX.refsVE_contains Y bm hbm) (I1.kIn _ _ hC) (PySem.W.looks_findIn I1.kIn iC) (fun self => PySem.W.bind_fn I1.kIn self tI) lus ?_)
  refine codeAny_mono (F1.run _ X.stack _ _ ⟨Value.ref (hp.objs.size + 1) :: us, []⟩ (Value.ref (hp.objs.size + 1) :: us) _ _ (fun _ _ _ => False) (room.make C us []) (I2.env0.make C us []) bd r2 hq) fun r s' hq' => ?_
  cases r with
  | error er => exact hx pins σ _ _ er s' I2 hq'
  | ok flw =>
    cases flw with
    | ret u =>
      obtain ⟨v, H2, I3, rv, ev, q2⟩ := I2.after hq'
      subst ev
      exact ⟨rv, ⟨.ref (hp.objs.size + 1), H2, I3, rfl, q2⟩⟩
    | next => exact hq'.elim
    | brk => exact hq'.elim
    | cont => exact hq'.elim
theorem pe_oexK {nk : Str} (T : OexC X.K C) (iC : PySem.W.findIn X.K (.ref C) "__init__" = some (some (.ref fI))) (tI : PySem.W.typeIn X.K (.ref fI) = some (.type "function"))
    (F1 : FnOk X.prog X.w X.K X.mg X.base CX k fI fd ps sp) (room : Room (k + 1) X.A) (b : ∀ (s : Shared) (u v : Value), BindsTo s fd ⟨[u], [(nk, v)]⟩ (ps.zip [u, v])) (l2 : ps.length = 2) (hx : Passes CX X (fun _ _ _ => False)) (hg : Gl X x) (hm : X.mg x = some (.ref C)) (he : PE X e te)
    (all1 : (backToKw pos (keywordEach [⟨some nk, e, kpos⟩] X.env)).all (·.1.isSome) = true := by rfl) (nms : (backToKw pos (keywordEach [⟨some nk, e, kpos⟩] X.env)).filterMap (·.1) = [nk] := by rfl)
    (nodb : (x == ("__debug__" : Str)) = false := by decide) (pl : ((backTo pos (starEach [] X.env)).any (·.1) || (backToKw pos (keywordEach [⟨some nk, e, kpos⟩] X.env)).any (·.1.isNone)) = false := by rfl) :
    PE X (.Call (.Name x p) [] [⟨some nk, e, kpos⟩] pos) (tOexV C sp (tCons te tNil)) := by
  refine ⟨fun pins s σ H Q I0 hh => ?_⟩
  obtain ⟨nm, q, N, bs, bm, sn, sub, ab, col, dd, k0, k1, k2, k3, k5, hC, hbm⟩ := T.cls
  refine wpAny_Call_Name_kw (ld_glob I0 hg hm ?_ nodb)
  refine PySem.W.callWith_KW0 (h₀ := X.base) I0.ok.mod.kin T.kC all1 (thn ((pk_cons he pk_nil).run pos pins s σ H _ I0 hh) ?_) pl
  rintro us s1 ⟨vs, H1, I1, r1, hz, q1⟩
  refine ⟨I1.kIn, ?_⟩
  rw [nms]
  obtain ⟨hp, g, dr, tk, os⟩ := s1
  have le1 : hp.objs.size ≤ hp.objs.size + 1 := Nat.le_succ _
  have free : H1 (hp.objs.size + 1) = none := I1.hok.fresh le1
  have hq := q1 (hp.objs.size + 1) free
  have hlv : vs.length + 1 = 2 := by
    have z := F1.len _ _ _ _ hq
    rw [l2] at z
    exact z
  obtain ⟨v1, rfl⟩ : ∃ v1, vs = [v1] := by
    match vs, hlv with
    | [v1], _ => exact ⟨v1, rfl⟩
  cases r1 with
  | @cons _ u1 _ _ ru rr =>
  cases rr
  show wpAny _ _ (call (.ref C) [] [(nk, u1)]) _ _ _
  have kp : ∀ b o, hp.get? b = some o → ((hp.push (PySem.W.kdv_tup [])).push (PySem.HandSPX.excO C hp.objs.size)).get? b = some o := fun b o z => Heap.get?_push_of_some _ (Heap.get?_push_of_some _ z)
  have new : ((hp.push (PySem.W.kdv_tup [])).push (PySem.HandSPX.excO C hp.objs.size)).get? (hp.objs.size + 1) = some (PySem.HandSPX.excO C hp.objs.size) := by heap_get
  have I2 := I1.laid (t' := tk) (a := hp.objs.size + 1) (o := exo (hp.objs.size + 1) C none) kp le1 (exo_ok new)
  have r2 : Vals [V.ref (hp.objs.size + 1), v1] [Value.ref (hp.objs.size + 1), u1] := .cons rfl (.cons ru .nil)
  refine wpAny_call (PySem.BRX.call_ownK F.excBase_ValueError (fun Y => PySem.HandSPX.refsVE_contains Y bm hbm) (I1.kIn _ _ hC) (PySem.W.looks_findIn I1.kIn iC) (fun self => PySem.W.bind_fn I1.kIn self tI) ?_)
  refine codeAny_mono (F1.run _ X.stack _ _ ⟨[Value.ref (hp.objs.size + 1)], [(nk, u1)]⟩ [Value.ref (hp.objs.size + 1), u1] _ _ (fun _ _ _ => False) (room.make C [] [(nk, u1)]) (I2.env0.make C [] [(nk, u1)]) (b _ _ _) r2 hq) fun r s' hq' => ?_
  cases r with
  | error er => exact hx pins σ _ _ er s' I2 hq'
  | ok flw =>
    cases flw with
    | ret u =>
      obtain ⟨v, H2, I3, rv, ev, q2⟩ := I2.after hq'
      subst ev
      exact ⟨rv, ⟨.ref (hp.objs.size + 1), H2, I3, rfl, q2⟩⟩
    | next => exact hq'.elim
    | brk => exact hq'.elim
    | cont => exact hq'.elim
end
/-! ### e.value -/
/-- an error of the class at C stands at a; its one field f holds v -/
def ErrAt (H : Hp) (a C : Addr) (f : Str) (v : V) : Prop := ∃ d, H a = some (exo a C (some d)) ∧ H d = some (exd d [(f, v)])
theorem ErrAt.same {H H' : Hp} {a C : Addr} {f : Str} {v : V} (h : ErrAt H a C f v) (s : Same H H') : ErrAt H' a C f v := by
  obtain ⟨d, h1, h2⟩ := h
  exact ⟨d, s _ _ h1, s _ _ h2⟩
def tErrF (K : PySem.W.Frag) (f : Str) (te : TE) : TE := fun σ H Q => te σ H fun x H1 => ∃ a C v, x = .ref a ∧ ErrAt H1 a C f v ∧ XfC K C ∧ PySem.W.findIn K (.ref C) f = some none ∧ Q v H1
theorem err_inst {X : Cx} {pins : List (Addr × Obj)} {σ : L2.St} {H : Hp} {s : Shared} {a C : Addr} {f : Str} {v : V} (I : Inv X pins σ H s) (h : ErrAt H a C f v) :
    ∃ (ox od : Obj) (u : Value), PySem.W.InstAt s.heap a ox C (some od) ∧ RelV v u ∧ PySem.W.lookIn f od = some (some u) := by
  obtain ⟨d, h1, h2⟩ := h
  obtain ⟨t1, e1⟩ := exo_at I.hok h1
  obtain ⟨mA, hns, hr⟩ := exd_at I.hok h2
  obtain ⟨od, ho, hl⟩ := lookIn_ns hns
  have l : List.lookup f [(f, v)] = some v := by simp [List.lookup]
  obtain ⟨u, hu, ru⟩ := RelO.some_of (v := v) (o := mA f) (by rw [← l]; exact hr f)
  exact ⟨_, od, u, ⟨e1, rfl, rfl, ho⟩, ru, by rw [hl, hu]⟩
theorem pe_errF {X : Cx} {e : Expr} {te : TE} {pos : Pos} {n : Str} (he : PE X e te) (hb : attributeBase e n X.env (eval e X.env) = eval e X.env := by rfl) : PE X (.Attribute e n pos) (tErrF X.K n te) := by
  refine ⟨fun pins s σ H Q I h => ?_⟩
  refine attr_of hb (thn (he.run pins s σ H _ I h) fun u s1 hh => ?_)
  obtain ⟨x, H1, I1, rx, a, C, v, rfl, ea, T, no, q⟩ := hh
  obtain rfl : u = Value.ref a := rx
  obtain ⟨ox, od, u, J, ru, hl⟩ := err_inst I1 ea
  exact HandSPX.exc_get I1.kIn J T.ga T.gg T.exC (PySem.W.findObj_own T.hdC no rfl hl) (handed_of ru) ⟨v, H1, I1.tok _, ru, q⟩
/-! ### isinstance(e, c), e such an error -/
def rIsErr (K : PySem.W.Frag) : List V → Hp → VK → Prop := fun xs H Q => ∃ a C f v c u b, xs = [.ref a, c] ∧ ErrAt H a C f v ∧ ExcC K C ∧ ClsV c u ∧ PySem.W.kitOne K (.ref C) u = some b ∧ Q (.bl b) H
theorem call_isErr {X : Cx} : CallR X (.builtin "isinstance") (rIsErr X.K) := by
  rintro pins s σ H xs us Q I r ⟨a, C, f, v, c, u, b, rfl, ea, T, kc, ek, q⟩
  obtain ⟨u1, u2, rfl, r1, r2⟩ := vals2 r
  obtain rfl : u1 = Value.ref a := r1
  have e2 := kc.eq r2
  subst e2
  obtain ⟨ox, od, w, J, _, _⟩ := err_inst I ea
  have hcl : (PySem.W.clsIn X.K C).isSome = true := by
    have := T.hd
    unfold PySem.W.hasDictIn at this
    cases z : PySem.W.clsIn X.K C with
    | none => rw [z] at this; exact absurd this (by decide)
    | some y => rfl
  exact PySem.W.kia_one (PySem.W.kitx_exc hcl T.hg T.hk T.hs T.ha T.hn T.ht T.hm) I.kIn J ek (fun z => nomatch z) fun tk => ⟨.bl b, H, I.kept (t' := tk) fun _ _ z => z, rfl, q⟩
def rIsExO (K : PySem.W.Frag) : List V → Hp → VK → Prop := fun xs H Q => ∃ a C c u b, xs = [.ref a, c] ∧ H a = some (ExO (.ref C) a) ∧ ExcC K C ∧ ClsV c u ∧ PySem.W.kitOne K (.ref C) u = some b ∧ Q (.bl b) H
/-- either kind -/
def rIsX (K : PySem.W.Frag) : List V → Hp → VK → Prop := fun xs H Q => rIsErr K xs H Q ∨ rIsExO K xs H Q
theorem call_isX {X : Cx} : CallR X (.builtin "isinstance") (rIsX X.K) := by
  rintro pins s σ H xs us Q I r (h | ⟨a, C, c, u, b, rfl, ea, T, kc, ek, q⟩)
  · exact call_isErr pins s σ H xs us Q I r h
  obtain ⟨u1, u2, rfl, r1, r2⟩ := vals2 r
  obtain rfl : u1 = Value.ref a := r1
  have e2 := kc.eq r2
  subst e2
  obtain ⟨⟨oe, vs, ho, hz, hd, _⟩, _, _⟩ := I.hok a _ ea
  have J : PySem.W.InstAt s.heap a oe C none := by
    obtain ⟨oc, od, oda, osl⟩ := oe
    obtain ⟨h1, h2⟩ := hz
    dsimp only at h1 h2 hd
    subst h1 h2 hd
    exact ⟨ho, rfl, rfl, trivial⟩
  exact PySem.W.kia_one (PySem.W.handS_kitx_exc T.hg T.hk T.hs T.hd T.ha T.hn T.ht T.hm) I.kIn J ek (fun z => nomatch z) fun tk => ⟨.bl b, H, I.kept (t' := tk) fun _ _ z => z, rfl, q⟩
/-! ### repr of None, a text, an int, or data -/
def rReprA (K : PySem.W.Frag) : List V → Hp → VK → Prop := fun xs H Q => ∃ x d, xs = [x] ∧ Dp K H x d ∧ d.showable = true ∧ d.hasDict = false ∧ d.depth ≤ 60 ∧ d.shown.length ≤ sizeLine ∧ Q (.str d.shown) H
theorem call_reprA {X : Cx} (gg : X.A.guards = some []) (hu : X.A.units + 64 < cLine) : CallR X (.builtin "repr") (rReprA X.K) := by
  rintro pins s σ H xs us Q I r ⟨x, d, rfl, hd, h1, h2, h3, h4, q⟩
  obtain ⟨u, rfl, ru⟩ := vals1 r
  cases hd with
  | non =>
    obtain rfl : u = Value.none := ru
    exact PySem.P.repr_of_none ⟨.str _, H, I.tok _, ⟨_, rfl⟩, q⟩
  | bl b =>
    obtain rfl : u = Value.bool b := ru
    exact PySem.P.repr_of_bool ⟨.str _, H, I.tok _, ⟨_, rfl⟩, q⟩
  | int i =>
    obtain ⟨t, rfl⟩ := ru
    exact PySem.P.repr_of_int (of_decide_eq_true h1) ⟨.str _, H, I.tok _, ⟨_, rfl⟩, q⟩
  | str y =>
    obtain ⟨t, rfl⟩ := ru
    exact PySem.P.repr_of_str ⟨.str _, H, I.tok _, ⟨_, rfl⟩, q⟩ h4
  | lst hs ha => exact call_reprD gg hu pins s σ H _ _ Q I r ⟨_, _, rfl, .lst hs ha, h1, h2, h3, h4, q⟩
  | tup hs ha => exact call_reprD gg hu pins s σ H _ _ Q I r ⟨_, _, rfl, .tup hs ha, h1, h2, h3, h4, q⟩
end BR

namespace BR
open PySem PySem.Spec PyProof.Rows L2
/-- what the top says of an error class whose __init__ stores value -/
structure ErrTxt (K : PySem.W.Frag) (C fI : Addr) : Prop where
  ox : OexC K C
  ec : ExcC K C
  no : PySem.W.findIn K (.ref C) "value" = some none
  ii : PySem.W.findIn K (.ref C) "__init__" = some (some (.ref fI))
  ti : PySem.W.typeIn K (.ref fI) = some (.type "function")
theorem xf_of {K : PySem.W.Frag} {C : Addr} (e : ExcC K C) : XfC K C := ⟨e.hg, e.hk, e.hs, e.hd⟩
def sp_err (C : Addr) : Sp := fun vs H Q _ => ∃ (a : Addr) (v : V), vs = [.ref a, v] ∧ H a = some (exo a C none) ∧ ∀ d, H d = none → d ≠ a → Q .non (L2.upd (L2.upd H d (exd d [("value", v)])) a (exo a C (some d)))
theorem oex_var {C : Addr} {i : Nat} {v : V} {σ : L2.St} {H : Hp} {Q : VK} (hv : σ[i]? = some (some v)) (k : ∀ e H', H e = none → Same H H' → ErrAt H' e C "value" v → Q (.ref e) H') : tOexV C (sp_err C) (tCons (tVar i) tNil) σ H Q := by
  refine ⟨v, hv, (by show 1 ≤ 1000; decide), fun e he => ⟨e, v, rfl, upd_same, fun d hd ne => ⟨rfl, ?_⟩⟩⟩
  rw [upd_ne ne] at hd
  refine k e _ he (fun b o z => ?_) ⟨d, upd_same, ?_⟩
  · rw [upd_ne (ne_of_none z he), upd_ne (ne_of_none z hd), upd_ne (ne_of_none z he)]
    exact z
  · rw [upd_ne ne, upd_same]
/-- two errors of the class at C in a tuple at t -/
def PairAt (H : Hp) (t C : Addr) (v : V) : Prop := ∃ e1 e2, H t = some (.tup [.ref e1, .ref e2]) ∧ ErrAt H e1 C "value" v ∧ ErrAt H e2 C "value" v
theorem PairAt.same {H H' : Hp} {t C : Addr} {v : V} (h : PairAt H t C v) (s : Same H H') : PairAt H' t C v := by
  obtain ⟨e1, e2, h1, h2, h3⟩ := h
  exact ⟨e1, e2, s _ _ h1, h2.same s, h3.same s⟩
theorem ErrAt.but {H H' : Hp} {a C l : Addr} {f : Str} {v : V} {xs : List V} (h : ErrAt H a C f v) (hl : H l = some (.lst xs)) (s : But l H H') : ErrAt H' a C f v := by
  obtain ⟨d, h1, h2⟩ := h
  refine ⟨d, s _ _ (fun z => ?_) h1, s _ _ (fun z => ?_) h2⟩
  · rw [z, hl] at h1
    cases (show HO.lst xs = HO.ext _ from Option.some.inj h1)
  · rw [z, hl] at h2
    cases (show HO.lst xs = HO.ext _ from Option.some.inj h2)
theorem PairAt.but {H H' : Hp} {t C l : Addr} {v : V} {xs : List V} (h : PairAt H t C v) (hl : H l = some (.lst xs)) (s : But l H H') : PairAt H' t C v := by
  obtain ⟨e1, e2, h1, h2, h3⟩ := h
  refine ⟨e1, e2, s _ _ (fun z => ?_) h1, h2.but hl s, h3.but hl s⟩
  rw [z, hl] at h1
  cases h1
theorem rdTup {ta : TA} {σ : L2.St} {H : Hp} {Q : VK} (h : ta σ H fun xs H1 => xs.length ≤ sizeLine ∧ ∀ p, H1 p = none → Q (.ref p) (L2.upd H1 p (.tup xs))) : tTup ta σ H Q := h
theorem rdLst {ta : TA} {σ : L2.St} {H : Hp} {Q : VK} (h : ta σ H fun xs H1 => xs.length ≤ sizeLine ∧ ∀ p, H1 p = none → Q (.ref p) (L2.upd H1 p (.lst xs))) : tLst ta σ H Q := h
theorem rdCons {te : TE} {t : TA} {σ : L2.St} {H : Hp} {Q : List V → Hp → Prop} (h : te σ H fun x H1 => t σ H1 fun xs H2 => Q (x :: xs) H2) : tCons te t σ H Q := h
theorem rdSeq {t u : TS} {D : Ends} {σ : L2.St} {H : Hp} (h : t { D with nx := u D } σ H) : tSeq t u D σ H := h
theorem rdAsg {te : TE} {i : Nat} {D : Ends} {σ : L2.St} {H : Hp} (h : te σ H fun v H1 => D.nx (σ.set i (some v)) H1) : tAsg te (gName i) D σ H := h
theorem rdNil {σ : L2.St} {H : Hp} {Q : List V → Hp → Prop} (h : Q [] H) : tNil σ H Q := h
abbrev tPairE (C : Addr) : TE := tTup (tCons (tOexV C (sp_err C) (tCons (tVar 0) tNil)) (tCons (tOexV C (sp_err C) (tCons (tVar 0) tNil)) tNil))
theorem pair_made {C : Addr} {v : V} {σ : L2.St} {H : Hp} {Q : VK} (hv : σ[0]? = some (some v)) (k : ∀ t H', H t = none → Same H H' → PairAt H' t C v → Q (.ref t) H') : tPairE C σ H Q := by
  refine rdTup (rdCons (oex_var hv fun e1 H1 f1 s1 r1 => rdCons (oex_var hv fun e2 H2 f2 s2 r2 => rdNil ?_)))
  refine ⟨(by show 2 ≤ sizeLine; decide), fun t ht => ?_⟩
  have s3 := sameNew ht (o := .tup [.ref e1, .ref e2])
  exact k t _ ((s1.trans s2).free ht) (s1.trans (s2.trans s3)) ⟨e1, e2, upd_same, r1.same (s2.trans s3), r2.same s3⟩
/-- the list at l: a pair of errors for each class -/
def MadeAt (H : Hp) (l : Addr) (Cs : List Addr) (v : V) : Prop := ∃ ts : List Addr, H l = some (.lst (ts.map V.ref)) ∧ ts.length = Cs.length ∧ ∀ (j : Nat) (t C : Addr), ts[j]? = some t → Cs[j]? = some C → PairAt H t C v
theorem app_pair {K : PySem.W.Frag} {C l : Addr} {Cs : List Addr} {v : V} {σ : L2.St} {H : Hp} {D : Ends} (hv : σ[0]? = some (some v)) (hl : σ[1]? = some (some (.ref l))) (m : MadeAt H l Cs v) (hz : Cs.length ≤ 100)
    (k : ∀ H', But l H H' → MadeAt H' l (Cs ++ [C]) v → D.nx σ H') : tDrop (tBM K "list" rAppend (tVar 1) (tCons (tPairE C) tNil)) D σ H := by
  obtain ⟨ts, h1, h2, h3⟩ := m
  refine ⟨_, hl, .inl ⟨rfl, _, SqL.of h1⟩, ?_⟩
  refine rdCons (pair_made hv fun t H1 ht s1 p => rdNil ?_)
  have h1' := s1 _ _ h1
  refine ⟨l, _, _, rfl, rfl, h1', small1000 (by rw [List.length_map]; omega), ?_⟩
  have b : But l H1 (L2.upd H1 l (.lst (ts.map V.ref ++ [V.ref t]))) := But.upd
  refine k _ ((But.of s1).trans b) ⟨ts ++ [t], ?_, by rw [List.length_append, List.length_append, h2]; rfl, fun j u C' hj hC => ?_⟩
  · rw [upd_same, List.map_append]
    rfl
  · by_cases hjl : j < ts.length
    · rw [List.getElem?_append_left hjl] at hj
      rw [List.getElem?_append_left (by omega)] at hC
      exact ((h3 j u C' hj hC).same s1).but h1' b
    · rw [List.getElem?_append_right (by omega)] at hj hC
      have e : j - ts.length = 0 := by
        have := (List.getElem?_eq_some_iff.mp hj).1
        simp at this
        omega
      rw [e] at hj
      rw [show j - Cs.length = 0 by omega] at hC
      cases hj
      cases hC
      exact p.but h1' b
/-! ### isinstance, class by class -/
def kitTab (K : PySem.W.Frag) (Cs : List Addr) (B : Addr) : Bool :=
  (Cs.zipIdx.all fun p => Cs.zipIdx.all fun q => decide (PySem.W.kitOne K (.ref p.1) (.ref q.1) = some (decide (p.2 = q.2)))) &&
    Cs.all fun c => decide (PySem.W.kitOne K (.ref c) (.ref B) = some true) && decide (PySem.W.kitOne K (.ref c) (.type "ValueError") = some true) && decide (PySem.W.kitOne K (.ref B) (.ref c) = some false)
section
variable {K : PySem.W.Frag} {Cs : List Addr} {B : Addr}
theorem kit_ij (h : kitTab K Cs B = true) {i j : Nat} {c d : Addr} (hi : Cs[i]? = some c) (hj : Cs[j]? = some d) : PySem.W.kitOne K (.ref c) (.ref d) = some (decide (i = j)) := by
  have h1 := (Bool.and_eq_true_iff.mp h).1
  have h2 := List.all_eq_true.mp h1 (c, i) (List.mk_mem_zipIdx_iff_getElem?.mpr hi)
  have h3 := List.all_eq_true.mp h2 (d, j) (List.mk_mem_zipIdx_iff_getElem?.mpr hj)
  exact of_decide_eq_true h3
theorem kit_b (h : kitTab K Cs B = true) {i : Nat} {c : Addr} (hi : Cs[i]? = some c) : PySem.W.kitOne K (.ref c) (.ref B) = some true ∧ PySem.W.kitOne K (.ref c) (.type "ValueError") = some true ∧ PySem.W.kitOne K (.ref B) (.ref c) = some false := by
  have h1 := (Bool.and_eq_true_iff.mp h).2
  have h2 := List.all_eq_true.mp h1 c (List.mem_of_getElem? hi)
  have h3 := Bool.and_eq_true_iff.mp h2
  have h4 := Bool.and_eq_true_iff.mp h3.1
  exact ⟨of_decide_eq_true h4.1, of_decide_eq_true h4.2, of_decide_eq_true h3.2⟩
end
/-! ### lists of bools -/
theorem bls_all {K : PySem.W.Frag} {H : Hp} : ∀ bs : List Bool, DpAll K H (bs.map V.bl) (bs.map PyData.bool)
  | [] => .nil
  | b :: r => .cons (.bl b) (bls_all r)
theorem bls_lay : ∀ bs : List Bool, PyData.canLayAll0 (bs.map PyData.bool) = true ∧ PyData.depthAll (bs.map PyData.bool) = 0
  | [] => ⟨rfl, rfl⟩
  | b :: r => by
    obtain ⟨h1, h2⟩ := bls_lay r
    refine ⟨?_, ?_⟩
    · show (PyData.canLay0 (.bool b) && PyData.canLayAll0 (r.map PyData.bool)) = true
      rw [h1]
      rfl
    · show max (PyData.depth (.bool b)) (PyData.depthAll (r.map PyData.bool)) = 0
      rw [h2]
      rfl
theorem bls_shaped (bs : List Bool) : SeqAt.shaped (.list (bs.map PyData.bool)) = true := by
  obtain ⟨h1, h2⟩ := bls_lay bs
  unfold SeqAt.shaped
  show (PyData.canLayAll0 (bs.map PyData.bool) && decide (PyData.depthAll (bs.map PyData.bool) + 1 ≤ 64)) = true
  rw [h1, h2]
  rfl
theorem eqv_bls (bs : List Bool) : PyData.eqv (.list (bs.map PyData.bool)) (.list (bs.map PyData.bool)) = true := SeqAt.eqv_refl _ (SeqAt.canLay_of_shaped (bls_shaped bs))
theorem seq0 {n : Nat} (h : 0 < n) : seqIndex? 0 n = some 0 := by
  unfold seqIndex?
  simp
  omega
/-- [e for x in range(15)] and its like: bools -/
theorem lc_bools {n : Nat} {j : Nat} {te : TE} {vs : List Nat} {σ : L2.St} {H1 : Hp} {D : Addr} {Qd : Hp → Prop} (f : Nat → Bool) (hz : n ≤ 1000) (hD : H1 D = none)
    (hw : ∀ x : V, wipe ((wipe σ vs).set j (some x)) vs = wipe σ vs)
    (he : ∀ (i : Nat) (H2 : Hp) (Q : VK), Same H1 H2 → (∀ H3, Same H2 H3 → Q (.bl (f i)) H3) → te ((wipe σ vs).set j (some (.int (0 + (i : Nat))))) H2 Q)
    (hd : ∀ H, Same H1 H → H D = some (.lst (((List.range n).map f).map V.bl)) → Qd H) :
    ∃ W : Nat → Nat → Hp → Prop, (∃ m, W 0 m (L2.upd H1 D (.lst []))) ∧ ∀ i m H, W i m H →
      ((Itr 0 n).stop i H ∧ Qd H) ∨ ((Itr 0 n).go i H ∧ ∃ Nx : Hp → Prop, (∀ H', Nx H' → ∃ m', m' < m ∧ W (i + 1) m' H') ∧ ∀ x H', (Itr 0 n).yld i H x H' → gName j x (wipe σ vs) H' fun σ2 H2 => wipe σ2 vs = wipe σ vs ∧ tYes σ2 H2 fun b H3 =>
        if b = true then te σ2 H3 fun y H4 => ∃ acc, H4 D = some (.lst acc) ∧ acc.length < sizeLine ∧ Nx (L2.upd H4 D (.lst (acc ++ [y]))) else Nx H3) := by
  refine lc_range (lo := 0) (n := n) (fun i H => Same H1 H ∧ H D = some (.lst (((List.range i).map f).map V.bl)) ∧ i ≤ n) ⟨sameNew hD, upd_same, Nat.zero_le _⟩ ?_ (fun H p => hd H p.1 p.2.1)
  rintro i H hi ⟨s, hH, _⟩
  refine ⟨hw _, ?_⟩
  show te ((wipe σ vs).set j (some (.int (0 + (i : Nat))))) H _
  refine he i H _ s fun H3 s3 => ?_
  refine ⟨_, s3 _ _ hH, small1000 (by rw [List.length_map, List.length_map, List.length_range]; omega), fun b o e => ?_, ?_, hi⟩
  · rw [upd_ne (ne_of_none e hD)]
    exact s3 _ _ (s _ _ e)
  · rw [upd_same, List.range_succ, List.map_append, List.map_append]
    rfl
/-- what is handed to the errors -/
structure Shows (K : PySem.W.Frag) (H : Hp) (v : V) (d : PyData) : Prop where
  dp : ∀ H', Same H H' → Dp K H' v d
  o1 : d.showable = true
  o2 : d.hasDict = false
  o3 : d.depth ≤ 60
  o4 : d.shown.length ≤ sizeLine
/-! ### the bag -/
abbrev bagK (l : Addr) (left turn blend : Int) : List (Key × V) := [(.inr "great", .ref l), (.inr "left", .int left), (.inr "turn", .int turn), (.inr "blend", .int blend)]
theorem bag_left (l : Addr) (a b c : Int) : valV (bagK l a b c) (.inr "left" : Key) = some (.int a) := rfl
theorem bag_great (l : Addr) (a b c : Int) : valV (bagK l a b c) (.inr "great" : Key) = some (.ref l) := rfl
theorem bag_turn (l : Addr) (a b c : Int) : valV (bagK l a b c) (.inr "turn" : Key) = some (.int b) := rfl
theorem bag_blend (l : Addr) (a b c : Int) : valV (bagK l a b c) (.inr "blend" : Key) = some (.int c) := rfl
theorem bag_put_left (l : Addr) (a b c z : Int) : putK (bagK l a b c) (.inr "left" : Key) (.int z) = bagK l z b c := rfl
theorem bag_put_turn (l : Addr) (a b c z : Int) : putK (bagK l a b c) (.inr "turn" : Key) (.int z) = bagK l a z c := rfl
theorem bag_merge (l : Addr) (a b c : Int) : mergeK [] (bagK l a b c) = bagK l a b c := rfl
end BR

/-! ### try: .. except x as n: suite, where the error is kept behind the suite -/
namespace BR
open PySem PySem.Spec PyProof.Rows L2
/-- an error of the class cls, its dict at d, stands at a -/
def exk (a : Addr) (cls : Value) (d : Option Addr) : HO := .ext fun h => ∃ (oe : Obj) (vs : Array Value), h.get? a = some oe ∧ Zc cls d oe ∧ oe.data = .fields vs
theorem exk_ok {P : Program} {w : World} {H : Hp} {h : Heap} {a : Addr} {cls : Value} {d : Option Addr} {oe : Obj} {vs : Array Value} (e : h.get? a = some oe) (z : Zc cls d oe) (dd : oe.data = .fields vs) : ObjOk P w H h a (exk a cls d) :=
  ⟨⟨oe, vs, e, z, dd⟩, ⟨oe, e⟩, fun h1 h2 q k => by
    obtain ⟨o1, v1, q1, q2, q3⟩ := q
    exact ⟨o1, v1, k _ q1, q2, q3⟩⟩
section
variable {X : Cx} {pins : List (Addr × Obj)} {σ : L2.St} {H : Hp} {s : Shared} {a : Addr} {o : Obj} {ob : HO}
/-- what is pinned becomes a thing of the abstract heap -/
theorem inv_track (I : Inv X ((a, o) :: pins) σ H s) (new : X.s_0.heap.get? a = none) (apart : ∀ p ∈ X.pn ++ pins, p.1 ≠ a) (is : ObjOk X.prog X.w (L2.upd H a ob) s.heap a ob) : Inv X pins σ (L2.upd H a ob) s := by
  obtain ⟨ha, hn, nL, nF, nc⟩ := I.pin (a, o) (List.mem_append_right _ List.mem_cons_self)
  have old : ∀ {b : Addr} {u : Obj}, X.s_0.heap.get? b = some u → b ≠ a := fun {b u} q e => by
    rw [e, new] at q
    cases q
  refine ⟨I.ok, I.os, I.bare, { keep := I.base.keep, slot := I.base.slot, there := I.base.there, free := fun b u q n x => ?_, tups := fun b xs q => ?_, frzs := fun b u v q => ?_, tbls := fun b ps q => ?_ }, I.loc, I.cell, ?_, fun x c q => ?_, fun p hp => ?_, fun b u q => ?_, I.len⟩
  · rw [upd_ne (old q)]
    exact I.base.free b u q n x
  · have z := I.base.tups b xs q
    rw [upd_ne (ne_of_none z hn)]
    exact z
  · have z := I.base.frzs b u v q
    rw [upd_ne (ne_of_none z hn)]
    exact z
  · obtain ⟨m, z⟩ := I.base.tbls b ps q
    exact ⟨m, by rw [upd_ne (ne_of_none z hn)]; exact z⟩
  · rw [upd_ne (Ne.symm nL)]
    exact I.free
  · obtain ⟨v, u, q1, q2⟩ := I.cell x c q
    have ca : c ≠ a := fun e => by
      rw [e] at q1
      rw [ha] at q1
      cases q1
      exact nc v q2
    rw [upd_ne ca]
    exact I.freeC x c q
  · have ne := apart p hp
    have mem : p ∈ X.pn ++ (a, o) :: pins := by
      rcases List.mem_append.mp hp with z | z
      · exact List.mem_append_left _ z
      · exact List.mem_append_right _ (List.mem_cons_of_mem _ z)
    obtain ⟨y1, y2, y3, y4, y5⟩ := I.pin p mem
    exact ⟨y1, by rw [upd_ne ne]; exact y2, y3, y4, y5⟩
  · by_cases e : b = a
    · subst e
      rw [upd_same] at q
      cases q
      exact is
    · rw [upd_ne e] at q
      exact (I.hok b u q).stay (fun c v _ y => y) (fun c y => by rw [upd_ne (ne_of_none y hn)]; exact y) fun c xs y => by rw [upd_ne (ne_of_none y hn)]; exact y
/-- behind the suite: the error is a pin of the frame's own -/
theorem inv_outSuite (I : Inv (X.suite a ((a, o) :: (X.pn ++ pins))) [] σ H s) (ok : X.Ok) : Inv X ((a, o) :: pins) σ H s :=
  ⟨ok, I.os, I.bare, I.base, I.loc, I.cell, I.free, I.freeC, fun p hp => I.pin p (by
    refine List.mem_append_left _ ?_
    rcases List.mem_append.mp hp with z | z
    · exact List.mem_cons_of_mem _ (List.mem_append_left _ z)
    · rcases List.mem_cons.mp z with z | z
      · rw [z]
        exact List.mem_cons_self
      · exact List.mem_cons_of_mem _ (List.mem_append_right _ z)), I.hok, I.len⟩
end
/-- what is wished of an error that the body lets out -/
def wKept (K : PySem.W.Frag) (c : Value) (i : Nat) (ts : Addr → Value → Option Addr → TS) (D : Ends) : WX := fun cls d σ H =>
  PySem.W.exmOne K cls c = some true ∧ ∀ a, H a = none → ts a cls d { nx := fun σ1 H1 => H1 a = none → D.nx (σ1.set i none) (L2.upd H1 a (exk a cls d)), rt := fun _ _ => False } (σ.set i (some (.ref a))) H
section
variable {X : Cx} {x n : Str} {c : Value} {i : Nat} {body suite : List Stmt} {st0 : Stmt} {np pos hpos : Pos} {tb : WX → TS} {ts : Addr → Value → Option Addr → TS}
theorem ps_try_kept (stk : X.stack = X.env :: X.outer) (lf : X.env.frame = some X.env.locals) (ex0 : X.ex = []) (nd : X.N.Nodup) (ix : X.N[i]? = some n) (kl : X.env.kindOf n = some .local) (nc : Names X x c)
    (bodyOk : ∀ (W : WX) (pn : List (Addr × Obj)) (xe : Value → Shared → Prop), Takes (X.tr pn xe) W → PassesOwn (model X.prog X.w) X.A X.env xe → PSs (X.tr pn xe) body (tb W))
    (suiteOk : ∀ (a : Addr) (oe : Obj) (cls : Value) (d : Option Addr) (pn : List (Addr × Obj)), Zc cls d oe → (∃ vs, oe.data = .fields vs) → PSs (X.suite a ((a, oe) :: pn)) (st0 :: suite) (ts a cls d)) :
    PS X (.Try body [.ExceptHandler (some (.Name x np)) (some n) (st0 :: suite) hpos] [] [] pos) (fun D σ H => tb (wKept X.K c i ts D) D σ H) := by
  refine ⟨fun pins s σ H D I0 wish => ?_⟩
  have okX := I0.ok
  have frames : X.A.frames = some (X.env :: X.outer) := okX.frames.trans (by rw [stk])
  refine wpAny_Try_except (wpAny_mono ((bodyOk (wKept X.K c i ts D) (X.pn ++ pins) (fun er s1 => wpAny (model X.prog X.w) X.A (noteFrame er X.env) (fun _ s2 => wpAny (model X.prog X.w) X.A (setFlight er none)
    (fun _ s3 => wpAny (model X.prog X.w) X.A (handleBy er X.env [.ExceptHandler (some (.Name x np)) (some n) (st0 :: suite) hpos]) (SP X pins D) X.xe s3) X.xe s2) X.xe s1) ?caught PassesOwn.looking).run [] s σ H D (I0.toTry _) wish) ?through fun _ _ z => z)
  case through =>
    intro fl s1 sp
    cases fl with
    | next =>
      obtain ⟨σ1, H1, J, q⟩ := sp
      exact wpAny_execs_nil ⟨σ1, H1, J.ofTry okX, q⟩
    | ret v =>
      obtain ⟨v1, σ1, H1, J, r, q⟩ := sp
      exact ⟨v1, σ1, H1, J.ofTry okX, r, q⟩
    | brk =>
      obtain ⟨σ1, H1, J, q⟩ := sp
      exact ⟨σ1, H1, J.ofTry okX, q⟩
    | cont =>
      obtain ⟨σ1, H1, J, q⟩ := sp
      exact ⟨σ1, H1, J.ofTry okX, q⟩
  case caught =>
    rintro u s1 ⟨a, B, sI, pins1, σ1, H1, cls, d, rfl, J0, nb, up, sky, na, os1, bare1, match1, wish1⟩
    have J : Inv X pins σ1 H1 sI := J0.ofTry okX
    have sky1 : Sky B (X.env :: X.outer) a (Zc cls d) X.env.locals s1.heap := by
      rw [← stk]
      exact sky
    have fresh : B.get? a = none := by
      rcases sky1 with ⟨_, z, _⟩ | ⟨_, z, _⟩ | ⟨_, z, _⟩ <;> exact z
    show wpAny (model X.prog X.w) X.A (noteFrame (.ref a) X.env) _ _ _
    refine Sky.land Zc.steady frames lf sky1 fun h2 fly2 up2 => ?_
    obtain ⟨oe2, vs2, at2, z2, d2⟩ := fly2.there
    have noFrame : a ∉ frs (X.env :: X.outer) := fun m => by
      obtain ⟨_, o', e', nf⟩ := fly2.2.2.1.mem m
      rw [at2] at e'
      cases e'
      exact nf _ d2
    have noI : sI.heap.get? a = none := by
      cases z : sI.heap.get? a with
      | none => rfl
      | some o =>
        have y := nb a o z (by rw [stk]; exact noFrame)
        rw [fresh] at y
        cases y
    have new0 : X.s_0.heap.get? a = none := by
      cases z : X.s_0.heap.get? a with
      | none => rfl
      | some o =>
        obtain ⟨o', y⟩ := J.base.there a o z (by rw [ex0]; simp)
        rw [noI] at y
        cases y
    have apart : ∀ p ∈ X.pn ++ pins, p.1 ≠ a := fun p hp e => by
      have y := (J.pin p hp).1
      rw [e, noI] at y
      cases y
    have nL : a ≠ X.env.locals := fun e => noFrame (List.mem_filterMap.mpr ⟨X.env, List.mem_cons_self, by rw [lf, e]⟩)
    have nF : a ∉ X.fs := fun m => by
      obtain ⟨en, hen, q⟩ := List.mem_filterMap.mp m
      exact noFrame (List.mem_filterMap.mpr ⟨en, List.mem_cons_of_mem _ hen, q⟩)
    have J2 : Inv X pins σ1 H1 { s1 with heap := h2 } := J.landed nb fly2.1 (up.trans up2) os1 bare1
    have S2 := J2.suite at2 d2 na nL nF
    refine wpAny_handleBy_cons (codeAny_handlers_test ?_) (by intro q; cases q)
    have ty : PySem.W.Looks (model X.prog X.w) h2 (typeOf (.ref a)) cls := fun A Q E s k q => wpAny_typeOf_ref (k _ _ at2) (by rw [z2.1]; exact q)
    have named : ∀ {Q : Value → Shared → Prop} {E : Value → Shared → Prop}, Q c { s1 with heap := h2 } → wpAny (model X.prog X.w) (X.A.mark (some (.ref a))) (eval (.Name x np) X.env) Q E { s1 with heap := h2 } := fun {Q E} q => by
      obtain ⟨g1, g2, g3⟩ := nc
      rcases g3 with g3 | ⟨g3, g4, g5⟩
      · exact ld_glob (X := X.suite a ((a, oe2) :: (X.pn ++ pins))) S2 g1 g3 q g2
      · exact ld_blt (X := X.suite a ((a, oe2) :: (X.pn ++ pins))) S2 g1 g3 g4 q g5 g2
    refine named ((PySem.W.exm_one (M := model X.prog X.w) J2.kIn ty match1).here (codeAny_handlers_suite_as (HandSPX.lands_againZ fly2 fun h3 fly3 up3 => ?_)))
    obtain ⟨oe3, vs3, at3, z3, d3⟩ := fly3.there
    have J3 : Inv X pins σ1 H1 { s1 with heap := h3 } := J.landed nb fly3.1 ((up.trans up2).trans up3) os1 bare1
    refine store_ok (X := X.suite a ((a, oe3) :: (X.pn ++ pins))) (v := .ref a) (J3.suite at3 d3 na nL nF) nd ix (.inl kl) rfl (fun s4 S4 => ?_) (.inr kl)
    refine wpAny_mono ((suiteOk a oe3 cls d (X.pn ++ pins) z3 ⟨_, d3⟩).run [] s4 _ H1 _ S4 (wish1 a na)) (fun fl s5 sp => ?_) fun _ _ z => False.elim z
    cases fl with
    | next =>
      obtain ⟨σ5, H5, S5, q5⟩ := sp
      refine gone_ok (inv_outSuite S5 okX) nd ix kl fun s6 J6 => ?_
      obtain ⟨at6, n6, _⟩ := J6.pin (a, oe3) (List.mem_append_right _ List.mem_cons_self)
      exact ⟨_, _, inv_track J6 new0 apart (exk_ok at6 z3 d3), q5 n6⟩
    | brk =>
      obtain ⟨_, _, _, z⟩ := sp
      exact z.elim
    | cont =>
      obtain ⟨_, _, _, z⟩ := sp
      exact z.elim
    | ret v =>
      obtain ⟨_, _, _, _, _, z⟩ := sp
      exact z.elim
end
end BR

/-! ### an error that was caught and kept: its field, isinstance -/
namespace BR
open PySem PySem.Spec PyProof.Rows L2
/-- an error of the class at C that was caught stands at a; its one field f holds v -/
def ErrK (H : Hp) (a C : Addr) (f : Str) (v : V) : Prop := ∃ d, H a = some (exk a (.ref C) (some d)) ∧ H d = some (.xd [(f, v)])
theorem ErrK.same {H H' : Hp} {a C : Addr} {f : Str} {v : V} (h : ErrK H a C f v) (s : Same H H') : ErrK H' a C f v := by
  obtain ⟨d, h1, h2⟩ := h
  exact ⟨d, s _ _ h1, s _ _ h2⟩
theorem errK_inst {X : Cx} {pins : List (Addr × Obj)} {σ : L2.St} {H : Hp} {s : Shared} {a C : Addr} {f : Str} {v : V} (I : Inv X pins σ H s) (h : ErrK H a C f v) :
    ∃ (ox od : Obj) (u : Value), PySem.W.InstAt s.heap a ox C (some od) ∧ RelV v u ∧ PySem.W.lookIn f od = some (some u) := by
  obtain ⟨d, h1, h2⟩ := h
  have x : ObjOk X.prog X.w H s.heap a (.ext fun h => ∃ (oe : Obj) (vs : Array Value), h.get? a = some oe ∧ Zc (.ref C) (some d) oe ∧ oe.data = .fields vs) := I.hok a _ h1
  obtain ⟨⟨oe, vs, e1, z, hd⟩, _, _⟩ := x
  have y : ObjOk X.prog X.w H s.heap d (.xd [(f, v)]) := I.hok d _ h2
  obtain ⟨mA, hns, hr⟩ := y
  obtain ⟨od, ho, hl⟩ := lookIn_ns hns
  have l : List.lookup f [(f, v)] = some v := by simp [List.lookup]
  obtain ⟨u, hu, ru⟩ := RelO.some_of (v := v) (o := mA f) (by rw [← l]; exact hr f)
  exact ⟨oe, od, u, ⟨e1, z.1, by unfold PySem.W.notCls; rw [hd] <;> rfl, by rw [z.2]; exact ho⟩, ru, by rw [hl, hu]⟩
def tErrK (K : PySem.W.Frag) (f : Str) (te : TE) : TE := fun σ H Q => te σ H fun x H1 => ∃ a C v, x = .ref a ∧ ErrK H1 a C f v ∧ XfC K C ∧ PySem.W.findIn K (.ref C) f = some none ∧ Q v H1
theorem pe_errK {X : Cx} {e : Expr} {te : TE} {pos : Pos} {n : Str} (he : PE X e te) (hb : attributeBase e n X.env (eval e X.env) = eval e X.env := by rfl) : PE X (.Attribute e n pos) (tErrK X.K n te) := by
  refine ⟨fun pins s σ H Q I h => attr_of hb (thn (he.run pins s σ H _ I h) ?_)⟩
  rintro u s1 ⟨x, H1, I1, rx, a, C, v, rfl, ea, T, no, q⟩
  obtain rfl : u = Value.ref a := rx
  obtain ⟨ox, od, w, J, ru, hl⟩ := errK_inst I1 ea
  exact HandSPX.exc_get I1.kIn J T.ga T.gg T.exC (PySem.W.findObj_own T.hdC no rfl hl) (handed_of ru) ⟨v, H1, I1.tok _, ru, q⟩
theorem cls_of {K : PySem.W.Frag} {C : Addr} (T : ExcC K C) : (PySem.W.clsIn K C).isSome = true := by
  have z := T.hd
  unfold PySem.W.hasDictIn at z
  cases y : PySem.W.clsIn K C with
  | none =>
    rw [y] at z
    exact absurd z (by decide)
  | some c => rfl
/-- isinstance(e, c) -/
def rIsK1 (K : PySem.W.Frag) : List V → Hp → VK → Prop := fun xs H Q => ∃ a C f v c u b, xs = [.ref a, c] ∧ ErrK H a C f v ∧ ExcC K C ∧ ClsV c u ∧ PySem.W.kitOne K (.ref C) u = some b ∧ Q (.bl b) H
/-- isinstance(e, (c, ..)) -/
def rIsKT (K : PySem.W.Frag) : List V → Hp → VK → Prop := fun xs H Q => ∃ a C f v tp cs us b, xs = [.ref a, .ref tp] ∧ ErrK H a C f v ∧ ExcC K C ∧ H tp = some (.tup cs) ∧ Paired ClsV cs us ∧ PySem.W.kitAny K (.ref C) us = some b ∧ Q (.bl b) H
def rIsK (K : PySem.W.Frag) : List V → Hp → VK → Prop := fun xs H Q => rIsK1 K xs H Q ∨ rIsKT K xs H Q
theorem call_isK {X : Cx} : CallR X (.builtin "isinstance") (rIsK X.K) := by
  rintro pins s σ H xs us Q I r (⟨a, C, f, v, c, u, b, rfl, ea, T, kc, ek, q⟩ | ⟨a, C, f, v, tp, cs, ws, b, rfl, ea, T, ht, kc, ek, q⟩)
  · obtain ⟨u1, u2, rfl, r1, r2⟩ := vals2 r
    obtain rfl : u1 = Value.ref a := r1
    have e2 := kc.eq r2
    subst e2
    obtain ⟨ox, od, w, J, _, _⟩ := errK_inst I ea
    exact PySem.W.kia_one (PySem.W.kitx_exc (cls_of T) T.hg T.hk T.hs T.ha T.hn T.ht T.hm) I.kIn J ek (fun z => nomatch z) fun tk => ⟨.bl b, H, I.kept (t' := tk) fun _ _ z => z, rfl, q⟩
  · obtain ⟨u1, u2, rfl, r1, r2⟩ := vals2 r
    obtain rfl : u1 = Value.ref a := r1
    obtain rfl : u2 = Value.ref tp := r2
    obtain ⟨ox, od, w, J, _, _⟩ := errK_inst I ea
    have y : ObjOk X.prog X.w H s.heap tp (.tup cs) := I.hok tp _ ht
    obtain ⟨_, its, rv, o, g1, g2, n, g3⟩ := y
    obtain rfl := ClsV.all kc rv
    obtain ⟨oc, odi, oda, osl⟩ := o
    dsimp only at g2 g3
    subst g2 g3
    exact PySem.W.kia_tup (PySem.W.kitx_exc (cls_of T) T.hg T.hk T.hs T.ha T.hn T.ht T.hm) I.kIn J g1 ek (fun z => nomatch z) fun tk => ⟨.bl b, H, I.kept (t' := tk) fun _ _ z => z, rfl, q⟩
end BR

/-! ### raise C(v): what is left; l.count(x) over data -/
namespace BR
open PySem PySem.Spec PyProof.Rows L2
/-- the end of a reading of «raise C(v)»: its own dict, new, holds v -/
theorem mkO_end {C : Addr} {v : V} {H1 : Hp} {Q : XK} (h : ∀ d, H1 d = none → Q (.ref C) (some d) (L2.upd H1 d (.xd [("value", v)]))) :
    [v].length ≤ 1000 ∧ ∀ a, H1 a = none → sp_err C (.ref a :: ([v] ++ [])) (L2.upd H1 a (exo a C none))
      (fun w H2 => w = .non ∧ ∃ (d : Addr) (fs : List (Str × V)), H2 a = some (exo a C (some d)) ∧ H2 d = some (exd d fs) ∧ H1 d = none ∧ Q (.ref C) (some d) (L2.upd (del H2 a) d (.xd fs))) (fun _ _ _ => False) := by
  refine ⟨(by show 1 ≤ 1000; decide), fun a ha => ⟨a, v, rfl, upd_same, fun d hd ne => ⟨rfl, d, [("value", v)], upd_same, ?_, ?_, ?_⟩⟩⟩
  · rw [upd_ne ne, upd_same]
  · rw [upd_ne ne] at hd
    exact hd
  · have hd1 : H1 d = none := by
      rw [upd_ne ne] at hd
      exact hd
    have e : L2.upd (del (L2.upd (L2.upd (L2.upd H1 a (exo a C none)) d (exd d [("value", v)])) a (exo a C (some d))) a) d (.xd [("value", v)]) = L2.upd H1 d (.xd [("value", v)]) := by
      funext b
      by_cases hb : b = d
      · rw [hb, upd_same, upd_same]
      · rw [upd_ne hb, upd_ne hb]
        by_cases hc : b = a
        · rw [hc, del_same, ha]
        · rw [del_ne hc, upd_ne hc, upd_ne hb, upd_ne hc]
    rw [e]
    exact h d hd1
def rCountD (K : PySem.W.Frag) : V → List V → Hp → VK → Prop := fun x xs H Q => ∃ (a : Addr) (y : V) (d : PyData) (ds : List PyData), x = .ref a ∧ xs = [y] ∧ Dp K H (.ref a) (.list ds) ∧ Dp K H y d ∧
  PyData.plainAll ds = true ∧ d.plain = true ∧ PyData.depthAll ds ≤ 60 ∧ Q (.int ((ds.countP fun z => PyData.eqv z d : Nat) : Int)) H
theorem mt_countD {X : Cx} (hu : X.A.units + 65 < cLine) : MtR X "list.count" (rCountD X.K) := by
  rintro pins s σ H x xs v us Q I rx rxs ⟨a, y, d, ds, rfl, rfl, hl, hy, pl, pd, dep, q⟩
  cases rx
  obtain ⟨u, rfl, ru⟩ := rxs.one
  obtain ⟨bs, r1⟩ := Dp.reads I d y u hy ru
  cases hl with
  | lst hs ha =>
    obtain ⟨its, rv, ⟨⟨cls, dd, data, sl⟩, n, ho, hc, hdn, hdt⟩, hlen⟩ := I.list hs
    simp only at hc hdt
    subst hc hdt
    obtain ⟨as, h4⟩ := Dp.readsAll I ds _ its ha rv
    refine SeqAt.count_list_data (vs := its.toArray) ⟨_, ho, rfl, n, rfl⟩ (by simpa using h4) r1 pl pd (by omega) ?_
    exact ⟨.int _, H, I.tok _, ⟨_, rfl⟩, q⟩
end BR

namespace BR
open PySem PySem.Spec PyProof.Rows L2
/-! ### dicts of the module with text keys: walked by items, asked by get -/
/-- the pairs of a written dict, as the layer's values -/
structure KTab (K : PySem.W.Frag) (P : Program) (w : World) (d : Addr) (kvs : List (Str × V)) : Prop where
  ex : ∃ (es : Array DictEntry) (n : Nat) (us : List (Str × Value)), K.lookup d = some ⟨.type "dict", none, .dict es n, #[]⟩ ∧ PySem.W.KeysLit w.params es.toList ∧ Pairs (strKind P w) es.toList us ∧ (us.map (·.1)).Nodup ∧
    KV kvs us
  low : (d == sysModules) = false
theorem KTab.at {K : PySem.W.Frag} {P : Program} {w : World} {d : Addr} {kvs : List (Str × V)} (T : KTab K P w d kvs) {h : Heap} (X : K.In h) :
    ∃ (us : List (Str × Value)) (n : Nat), h.DictAt (strKind P w) d us n ∧ KV kvs us := by
  obtain ⟨es, n, us, lk, lit, ps, nd, rel⟩ := T.ex
  refine ⟨us, n, ⟨_, es, X _ _ lk, ⟨rfl, rfl, rfl⟩, rfl, fun e he => ?_, ps, nd⟩, rel⟩
  obtain ⟨x, t, e1, e2⟩ := lit.all e (Array.mem_toList_iff.mpr he)
  exact ⟨x, by rw [e1]; exact strKind_is P w x t, e2⟩
/-- a new pair of key and value, turn by turn -/
def ItK (kvs : List (Str × V)) : It :=
  ⟨fun i _ => i < kvs.length, fun i H v H' => ∃ T k x, v = .ref T ∧ H T = none ∧ H' = L2.upd H T (.tup [.str k, x]) ∧ kvs[i]? = some (k, x), fun i _ => kvs.length ≤ i⟩
theorem turn_itemsK {P : Program} {w : World} {K : PySem.W.Frag} {elts : List Expr} {kk : Nat} {tpos : Pos} {d : Addr} {kvs : List (Str × V)} {us : List (Str × Value)} {n : Nat} (it : Addr)
    (hm : ∀ h : Heap, K.In h → h.DictAt (strKind P w) d us n) (rel : KV kvs us) :
    Turn P w K (.Tuple elts kk tpos) (ItK kvs) [it] it (fun i h => ∃ ok ov, IsItemIter h it d i us.length n ok ov) where
  mem := by simp
  obj := by
    rintro i h ⟨ok, ov, e⟩ b hb
    obtain rfl : b = it := by simpa using hb
    exact ⟨_, e, fun v z => nomatch z⟩
  keep := by
    rintro i h h' ⟨ok, ov, e⟩ kp
    exact ⟨ok, ov, kp it (by simp) _ e⟩
  item := by
    intro X hP hw hK hc i pins s σ H E I hf st hg
    subst hP hw hK
    have lz : kvs.length = us.length := Paired.length rel
    have hi : i < kvs.length := hg
    obtain ⟨⟨k, x⟩, hp⟩ : ∃ p, kvs[i]? = some p := ⟨kvs[i], List.getElem?_eq_getElem hi⟩
    obtain ⟨u, hq, ru⟩ := kv_get rel hp
    obtain ⟨ok, ov, he⟩ := st
    have below : it < s.heap.objs.size := Heap.lt_size he
    refine wpAny_pyNext_items_item he (hm _ I.kIn) hq fun key h1 hkey ho hT hz kp => ?_
    obtain ⟨tk, rfl⟩ := Value.isStrOf_shape hkey
    refine ⟨_, rfl, wpAny_letOwnedTupleGo_items (s := { s with heap := h1 }) ho fun h2 he2 sb => ?_⟩
    have hT2 := (sb.2 _ (Nat.ne_of_gt below)).trans hT
    have new : ObjOk X.prog X.w (L2.upd H s.heap.objs.size (.tup [.str k, x])) h2 s.heap.objs.size (.tup [.str k, x]) :=
      ⟨by show 2 ≤ sizeLine; decide, [.str k tk, u], .cons ⟨_, rfl⟩ (.cons ru .nil), ⟨_, hT2, rfl, _, rfl⟩⟩
    have J := I.turnedNew (t' := s.toks) (ch := [it]) (h' := h2) (fun b ob hb z => (sb.2 b (by simpa using hb)).trans (kp b ob (by simpa using hb) z)) hf (Nat.le_refl _) new
    refine ⟨.ref s.heap.objs.size, _, J, rfl, ⟨_, k, x, rfl, I.hok.fresh (Nat.le_refl _), rfl, hp⟩, ⟨_, _, he2⟩, fun b hb => ?_⟩
    obtain rfl : b = it := by simpa using hb
    rw [upd_ne (Nat.ne_of_lt below)]
    exact (hf b hb).1
  done := by
    intro X hP hw hK hc i pins s σ H E I hf st hg
    subst hP hw hK
    have lz : kvs.length = us.length := Paired.length rel
    have hge : kvs.length ≤ i := hg
    obtain ⟨f0, f1, f2, f3, f4, f5⟩ := hf it (by simp)
    obtain ⟨ok, ov, he⟩ := st
    exact wpAny_pyNext_items_end (I.ok.hd hc) he (hm _ I.kIn) (List.getElem?_eq_none (by omega)) fun h' eb => ⟨rfl, I.turned (t' := s.toks) (fun b o hb z => eb b o hb z) f0 f1 f3 f4 f5⟩
  self := fun A i s Q E st h => let ⟨_, _, e⟩ := st; PySem.W.kcp_self e h
def iItemsK (K : PySem.W.Frag) (P : Program) (w : World) (td : TE) : TI := fun σ H R => td σ H fun x H1 => ∃ d kvs, x = .ref d ∧ KTab K P w d kvs ∧ R (ItK kvs) H1
theorem pi_itemsK {X : Cx} {e : Expr} {td : TE} {apos cpos tpos : Pos} {elts : List Expr} {kk : Nat} (he : PE X e td) (hb : attributeBase e "items" X.env (eval e X.env) = eval e X.env := by rfl) (hl : (apos.endLine == cpos.line) = true := by rfl) :
    PI X (.Tuple elts kk tpos) (.Call (.Attribute e "items" apos) [] [] cpos) (iItemsK X.K X.prog X.w td) := by
  refine ⟨fun pins s σ H R I h => ?_⟩
  refine wpAny_Call_method (T := "dict") (id := "dict.items") hb rfl hl F.plainAttrs_dict F.slot_dict_items F.type_dict_items (thn (he.run pins s σ H _ I h) ?_)
  rintro u s1 ⟨x, H1, I1, rx, d, kvs, rfl, T, q⟩
  obtain rfl : u = Value.ref d := rx
  obtain ⟨es, n, us, lk, lit, ps, nd, rel⟩ := T.ex
  have hm : ∀ h : Heap, X.K.In h → h.DictAt (strKind X.prog X.w) d us n := fun h XK => ⟨_, es, XK _ _ lk, ⟨rfl, rfl, rfl⟩, rfl, fun e he => by
    obtain ⟨x, t, e1, e2⟩ := lit.all e (Array.mem_toList_iff.mpr he)
    exact ⟨x, by rw [e1]; exact strKind_is X.prog X.w x t, e2⟩, ps, nd⟩
  have hm1 := hm _ I1.kIn
  refine ⟨hm1.dictOf.typeIs, hm1.dictOf.mapOf.noDict, ?_⟩
  have I2 : Inv X pins σ H1 { s1 with heap := s1.heap.push { cls := .type "dict_items", data := .fields #[.ref d] } } := I1.kept (t' := s1.toks) fun b ob z => Heap.get?_push_of_some _ z
  have fin : wpAny (model X.prog X.w) X.A (pyIter (.ref s1.heap.objs.size)) (PIE X pins σ (.Tuple elts kk tpos) R) X.xe { s1 with heap := s1.heap.push { cls := .type "dict_items", data := .fields #[.ref d] } } := by
    refine wpAny_pyIter_items (d := d) (knd := strKind X.prog X.w) ⟨_, Heap.get?_push_size _ rfl, rfl, rfl⟩ (hm _ I2.kIn) (pi_one (tk := s1.toks) I2 _ (turn_itemsK _ hm rel) ⟨.none, .none, ?_⟩ q)
    exact Heap.get?_push_size _ rfl
  show wpAny _ _ (callWith cpos (.builtin "dict.items") [.ref d] [] []) _ X.xe s1
  exact method_meetsIn F.slot_dict_items F.entry_dict_items rfl (PySem.evalArgs_none ⟨rfl, hm1.dictOf.typeIs, F.args_dict_items_1 _, _, meets_dict_items (strKind X.prog X.w) d T.low, ⟨us, hm1.dictOf⟩, fin⟩)
theorem walk_itemsK {kvs : List (Str × V)} : L2.Walk (ItK kvs) kvs.length (fun _ => True) (YPair (fun i => kvs[i]?.map fun p => .str p.1) (fun i => kvs[i]?.map Prod.snd)) := by
  refine ⟨fun _ _ hi _ => hi, fun _ _ => Nat.le_refl _, ?_⟩
  rintro i H v H' _ _ ⟨T, k, x, h1, h2, h3, h4⟩
  exact ⟨T, .str k, x, h1, h2, h3, by simp [h4], by simp [h4]⟩
/-! in, not in, [], get with a default -/
section
variable {X : Cx}
theorem KTab.map {P : Program} {w : World} {K : PySem.W.Frag} {d : Addr} {kvs : List (Str × V)} (T : KTab K P w d kvs) {h : Heap} (X : K.In h) (z : Str) : ∃ f : Str → Option Value, h.MapOf (strKind P w) d f ∧ RelO (valV kvs z) (f z) := by
  obtain ⟨us, n, hm, rel⟩ := T.at X
  exact ⟨_, hm.dictOf.mapOf, rel.val z⟩
def rInK (K : PySem.W.Frag) (P : Program) (w : World) (neg : Bool) : R2 := fun x y H Q => ∃ z d kvs, x = .str z ∧ y = .ref d ∧ KTab K P w d kvs ∧ Q (.bl (if neg then !(valV kvs z).isSome else (valV kvs z).isSome)) H
theorem op_inT : OpR X (compareOp .In) (rInK X.K X.prog X.w false) := by
  rintro pins s σ H x y v u Q I rx ry ⟨z, d, kvs, rfl, rfl, T, q⟩
  obtain ⟨t, rfl⟩ := rx
  cases ry
  obtain ⟨f, hm, rel⟩ := T.map I.kIn z
  refine wpAny_in_of (strKind_is X.prog X.w z t) T.low hm ?_
  rw [← rel.isSome_eq]
  exact ⟨.bl (valV kvs z).isSome, H, I.tok _, rfl, q⟩
theorem op_notInT : OpR X (compareOp .NotIn) (rInK X.K X.prog X.w true) := by
  rintro pins s σ H x y v u Q I rx ry ⟨z, d, kvs, rfl, rfl, T, q⟩
  obtain ⟨t, rfl⟩ := rx
  cases ry
  obtain ⟨f, hm, rel⟩ := T.map I.kIn z
  refine wpAny_notIn_of (strKind_is X.prog X.w z t) T.low hm ?_
  rw [← rel.isSome_eq]
  exact ⟨.bl (!(valV kvs z).isSome), H, I.tok _, rfl, q⟩
def rIxT2 (K : PySem.W.Frag) (P : Program) (w : World) : R2 := fun x y H Q => ∃ d z v kvs, x = .ref d ∧ y = .str z ∧ KTab K P w d kvs ∧ valV kvs z = some v ∧ Q v H
theorem ix_tab : IxR X (rIxT2 X.K X.prog X.w) := by
  rintro value slice pins s σ H x y v u Q I rx ry ⟨d, z, r, kvs, rfl, rfl, T, ev, q⟩ hs
  obtain rfl : v = Value.ref d := rx
  obtain ⟨t, rfl⟩ := ry
  obtain ⟨f, hm, rel⟩ := T.map I.kIn z
  rw [ev] at rel
  obtain ⟨u0, e, ru⟩ := RelO.some_of rel
  exact tail_any hm.typeIs slot_dict_getitem.lookup (wpAny_getItem_of (strKind_is X.prog X.w z t) hm e ⟨r, H, I.tok _, ru, q⟩) hs
def tGetT (K : PySem.W.Frag) (P : Program) (w : World) (td ty tx : TE) : TE := fun σ H Q => td σ H fun x H1 => ∃ d kvs, x = .ref d ∧ KTab K P w d kvs ∧ ty σ H1 fun y H2 => tx σ H2 fun z H3 => ∃ k, y = .str k ∧ Q ((valV kvs k).getD z) H3
theorem pe_getT {o e f : Expr} {td ty tx : TE} {apos cpos : Pos} (ho : PE X o td) (he : PE X e ty) (hf : PE X f tx) (m : M2 X o "get" apos e f cpos) : PE X (.Call (.Attribute o "get" apos) [e, f] [] cpos) (tGetT X.K X.prog X.w td ty tx) := by
  refine ⟨fun pins s σ H Q I h => ?_⟩
  refine wpAny_Call_method m.base m.few m.line PySem.F.plainAttrs_dict PySem.F.slot_dict_get PySem.F.type_dict_get (thn (ho.run pins s σ H _ I h) ?_)
  rintro u s1 ⟨x, H1, I1, rx, d, kvs, rfl, T, q1⟩
  obtain rfl : u = Value.ref d := rx
  obtain ⟨us, n, dm, _⟩ := T.at I1.kIn
  refine ⟨dm.dictOf.typeIs, dm.dictOf.mapOf.noDict, ?_⟩
  rw [m.trees]
  refine Calls.callWith_builtin rfl (Calls.evalArgs_plain (Calls.spliced_cons (thn (he.run pins s1 σ H1 _ I1 q1) ?_)))
  rintro iv s2 ⟨y, H2, I2, ry, q2⟩
  refine Calls.spliced_cons (thn (hf.run pins s2 σ H2 _ I2 q2) ?_)
  rintro fv s3 ⟨z, H3, I3, rz, k, rfl, q3⟩
  refine Calls.spliced_nil ?_
  obtain ⟨t, rfl⟩ := (show ∃ t, iv = Value.str k t from ry)
  obtain ⟨g, hm, rel⟩ := T.map I3.kIn k
  refine call_meetsIn PySem.F.slot_dict_get hm.typeIs PySem.F.entry_dict_get (PySem.F.args_dict_get_3 _ _ _) (meets_dict_get_default (strKind X.prog X.w) d (strKind_is X.prog X.w k t) T.low fv) ⟨_, hm, ?_⟩
  exact ⟨_, H3, I3.tok _, rel.getD rz, q3⟩
end
end BR

/-! ### a module's dict with text keys, out of what the head answers -/
namespace BR
open PySem PySem.Spec PyProof.Rows L2
theorem pairs_of {P : Program} {w : World} : ∀ {es : List DictEntry} {kus : List (Str × Value)}, es.map He.keyOf = He.keysIn w.params (kus.map (·.1)) → es.map (·.val) = kus.map (·.2) → Pairs (strKind P w) es kus
  | [], [], _, _ => .nil
  | [], _ :: _, h, _ => by cases h
  | _ :: _, [], h, _ => by cases h
  | e :: es, (k, u) :: kus, h, g => by
    have h1 : He.keyOf e :: es.map He.keyOf = some (k, PyData.keyHash w.params k) :: He.keysIn w.params (kus.map (·.1)) := h
    injection h1 with h2 h3
    have g1 : e.val :: es.map (·.val) = u :: kus.map (·.2) := g
    injection g1 with g2 g3
    refine .cons ?_ g2 (pairs_of h3 g3)
    unfold He.keyOf at h2
    split at h2
    · rename_i x t q
      obtain ⟨y1, y2⟩ := Prod.mk.inj (Option.some.inj h2)
      show (strKind P w).is k e.key = true
      rw [q, ← y1]
      exact strKind_is P w x t
    · cases h2
theorem ktab_of {K : PySem.W.Frag} {P : Program} {w : World} {d : Addr} {es : Array DictEntry} {n : Nat} {kus : List (Str × Value)} {kvs : List (Str × V)} (lk : K.lookup d = some ⟨.type "dict", none, .dict es n, #[]⟩)
    (kk : es.toList.map He.keyOf = He.keysIn w.params (kus.map (·.1))) (vv : es.toList.map (·.val) = kus.map (·.2)) (rel : KV kvs kus) (nd : (kus.map (·.1)).Nodup) (low : (d == sysModules) = false) : KTab K P w d kvs :=
  ⟨⟨es, n, kus, lk, He.keysLit_of kk, pairs_of kk vv, nd, rel⟩, low⟩
end BR

/-! ### a module's tuple of texts -/
namespace BR
open PySem PySem.Spec PyProof.Rows L2
def strV (u : Value) : Option Str := match u with
  | .str x _ => some x
  | _ => none
theorem vals_strV : ∀ {us : List Value} {xs : List Str}, us.map strV = xs.map some → Vals (xs.map V.str) us
  | [], [], _ => .nil
  | [], _ :: _, h => by cases h
  | _ :: _, [], h => by cases h
  | u :: us, x :: xs, h => by
    have h1 : strV u :: us.map strV = some x :: xs.map some := h
    injection h1 with h2 h3
    refine .cons ?_ (vals_strV h3)
    unfold strV at h2
    split at h2
    · rename_i y t
      rw [Option.some.inj h2]
      exact ⟨t, rfl⟩
    · cases h2
/-- the texts xs stand in a written tuple at p -/
structure TupK (K : PySem.W.Frag) (p : Addr) (xs : List Str) : Prop where
  ex : ∃ (o : Obj) (its : Array Value) (n : Nat), K.lookup p = some o ∧ o.cls = .type "tuple" ∧ o.data = .seq its n ∧ its.size ≤ sizeLine ∧ Vals (xs.map V.str) its.toList
theorem TupK.sq {K : PySem.W.Frag} {p : Addr} {xs : List Str} (T : TupK K p xs) {H : Hp} : SqT K H p (xs.map V.str) := .inr T.ex
theorem tupK_of {K : PySem.W.Frag} {p : Addr} {o : Obj} {its : Array Value} {n : Nat} {xs : List Str} (l : K.lookup p = some o) (c : o.cls = .type "tuple") (d : o.data = .seq its n) (e : its.toList.map strV = xs.map some) (z : xs.length ≤ 1000 := by decide) : TupK K p xs := by
  refine ⟨o, its, n, l, c, d, ?_, vals_strV e⟩
  have y := congrArg List.length e
  rw [List.length_map, List.length_map, Array.length_toList] at y
  rw [sizeLine_eq]
  omega
end BR

/-! ### tables of the module, asked -/
namespace BR
open PySem PySem.Spec PyProof.Rows L2
theorem inV_str {z : Str} : ∀ {xs : List Str}, inV (.str z) (xs.map V.str) = decide (z ∈ xs)
  | [] => rfl
  | x :: xs => by
    have ih := inV_str (z := z) (xs := xs)
    unfold inV at ih ⊢
    rw [List.map_cons, List.any_cons, ih]
    have e : eqV (.str x) (.str z) = decide (z = x) := by
      show (x == z) = decide (z = x)
      by_cases h : z = x
      · rw [h]; simp
      · have h2 : ¬ x = z := fun e => h e.symm
        simp [h, h2]
    rw [e]
    simp
theorem flat_strs : ∀ {xs : List Str}, (xs.map V.str).all flatV = true
  | [] => rfl
  | _ :: xs => flat_strs (xs := xs)
/-- each key's value is a written tuple of texts -/
def TabRel (K : PySem.W.Frag) : List (Str × V) → List (Str × List Str) → Prop := Paired fun p q => p.1 = q.1 ∧ ∃ a, p.2 = .ref a ∧ TupK K a q.2
theorem look_cons {α : Type} {k z : Str} {v : α} {l : List (Str × α)} : List.lookup z ((k, v) :: l) = if z = k then some v else List.lookup z l := by
  by_cases h : z = k
  · rw [if_pos h, h]
    simp [List.lookup]
  · rw [if_neg h]
    have e : (z == k) = false := by simpa using h
    simp [List.lookup, e]
theorem valV_cons {k z : Str} {v : V} {l : List (Str × V)} : valV ((k, v) :: l) z = if z = k then some v else valV l z := by
  unfold valV
  by_cases h : z = k
  · rw [if_pos h, h]
    simp
  · rw [if_neg h]
    have e : ¬ k = z := fun y => h y.symm
    simp [List.find?, e]
theorem tab_find {K : PySem.W.Frag} {z : Str} : ∀ {kvs : List (Str × V)} {tab : List (Str × List Str)}, TabRel K kvs tab → (tab.lookup z = none ∧ valV kvs z = none) ∨ ∃ os a, tab.lookup z = some os ∧ valV kvs z = some (.ref a) ∧ TupK K a os
  | _, _, .nil => .inl ⟨rfl, rfl⟩
  | (k, v) :: kvs, (k2, os) :: tab, .cons h r => by
    obtain ⟨h1, a, h2, h3⟩ := h
    dsimp only at h1 h2 h3
    subst h1 h2
    rw [look_cons, valV_cons]
    by_cases c : z = k
    · rw [if_pos c, if_pos c]
      exact .inr ⟨os, a, rfl, rfl, h3⟩
    · rw [if_neg c, if_neg c]
      exact tab_find r
theorem txt_find {z : Str} : ∀ {l : List (Str × Str)}, valV (l.map fun p => (p.1, V.str p.2)) z = (l.lookup z).map V.str
  | [] => rfl
  | (k, v) :: l => by
    rw [List.map_cons, valV_cons, look_cons]
    by_cases c : z = k
    · rw [if_pos c, if_pos c]
      rfl
    · rw [if_neg c, if_neg c]
      exact txt_find
end BR

namespace BR
open PySem PySem.Spec PyProof.Rows L2
theorem pick_succ {p : Str → Bool} {xs : List Str} {i : Nat} {z : Str} (h : xs[i]? = some z) : (xs.take (i + 1)).filter p = (xs.take i).filter p ++ (if p z then [z] else []) := by
  have e : xs.take (i + 1) = xs.take i ++ [z] := by
    rw [List.take_add_one, h]
    rfl
  rw [e, List.filter_append]
  congr 1
  cases c : p z <;> simp [List.filter, c]
theorem mapS_at {xs : List Str} {i : Nat} {x : V} (h : (xs.map V.str)[i]? = some x) : ∃ z, xs[i]? = some z ∧ x = .str z := by
  rw [List.getElem?_map] at h
  cases e : xs[i]? with
  | none =>
    rw [e] at h
    cases h
  | some z =>
    rw [e] at h
    cases h
    exact ⟨z, rfl, rfl⟩
/-- [x for x in t if c], t a tuple of texts, c told by x alone -/
theorem lc_pick {K : PySem.W.Frag} {a : Addr} {xs : List Str} {j : Nat} {tt : TT} {te : TE} {vs : List Nat} {σ : L2.St} {H1 : Hp} {D : Addr} {Qd : Hp → Prop} (p : Str → Bool) (hT : SqT K H1 a (xs.map V.str)) (hz : xs.length ≤ 1000) (hD : H1 D = none)
    (hw : ∀ x : V, wipe ((wipe σ vs).set j (some x)) vs = wipe σ vs)
    (ht : ∀ (x : Str) (H2 : Hp) (Q : Bool → Hp → Prop), x ∈ xs → Same H1 H2 → Q (p x) H2 → tt ((wipe σ vs).set j (some (.str x))) H2 Q)
    (he : ∀ (x : Str) (H2 : Hp) (Q : VK), x ∈ xs → Same H1 H2 → Q (.str x) H2 → te ((wipe σ vs).set j (some (.str x))) H2 Q)
    (hd : ∀ H, Same H1 H → H D = some (.lst ((xs.filter p).map V.str)) → Qd H) :
    ∃ W : Nat → Nat → Hp → Prop, (∃ m, W 0 m (L2.upd H1 D (.lst []))) ∧ ∀ i m H, W i m H →
      ((Itt K a).stop i H ∧ Qd H) ∨ ((Itt K a).go i H ∧ ∃ Nx : Hp → Prop, (∀ H', Nx H' → ∃ m', m' < m ∧ W (i + 1) m' H') ∧ ∀ x H', (Itt K a).yld i H x H' → gName j x (wipe σ vs) H' fun σ2 H2 => wipe σ2 vs = wipe σ vs ∧ tt σ2 H2 fun b H3 =>
        if b = true then te σ2 H3 fun y H4 => ∃ acc, H4 D = some (.lst acc) ∧ acc.length < sizeLine ∧ Nx (L2.upd H4 D (.lst (acc ++ [y]))) else Nx H3) := by
  refine lc_tup (xs := xs.map V.str) (fun i H => Same H1 H ∧ H D = some (.lst (((xs.take i).filter p).map V.str))) ⟨sameNew hD, upd_same⟩ (fun i H _ p => sameT p.1 hT) ?_ ?_
  · rintro i x H hx ⟨s, hH⟩
    obtain ⟨z, hz1, rfl⟩ := mapS_at hx
    have mem := List.mem_of_getElem? hz1
    refine ⟨hw _, ?_⟩
    refine ht z H _ mem s ?_
    have step := pick_succ (p := p) hz1
    cases c : p z with
    | false =>
      rw [c] at step
      refine (if_neg (by decide)).mpr ?_
      refine ⟨s, ?_⟩
      rw [step]
      simpa using hH
    | true =>
      rw [c] at step
      refine (if_pos rfl).mpr ?_
      refine he z H _ mem s ?_
      refine ⟨_, hH, small1000 ?_, ?_, ?_⟩
      · have l1 := List.length_filter_le p (xs.take i)
        rw [List.length_take] at l1
        rw [List.length_map]
        omega
      · intro b o e
        rw [upd_ne (ne_of_none e hD)]
        exact s _ _ e
      · rw [upd_same, step, List.map_append]
        rfl
  · rintro H ⟨s, hH⟩
    rw [List.length_map, List.take_length] at hH
    exact hd H s hH
end BR

/-! ### tuples of texts as data -/
namespace BR
open PySem PySem.Spec PyProof.Rows L2
theorem strs_all {K : PySem.W.Frag} {H : Hp} : ∀ xs : List Str, DpAll K H (xs.map V.str) (xs.map PyData.str)
  | [] => .nil
  | x :: r => .cons (.str x) (strs_all r)
theorem strs_lay : ∀ xs : List Str, (∀ x ∈ xs, PyData.strOk x = true) → PyData.canLayAll0 (xs.map PyData.str) = true ∧ PyData.depthAll (xs.map PyData.str) = 0
  | [], _ => ⟨rfl, rfl⟩
  | x :: r, ok => by
    obtain ⟨h1, h2⟩ := strs_lay r fun y m => ok y (List.mem_cons_of_mem _ m)
    refine ⟨?_, ?_⟩
    · show (PyData.canLay0 (.str x) && PyData.canLayAll0 (r.map PyData.str)) = true
      rw [h1, Bool.and_true]
      exact ok x List.mem_cons_self
    · show max (PyData.depth (.str x)) (PyData.depthAll (r.map PyData.str)) = 0
      rw [h2]
      rfl
theorem strs_shapedT {xs : List Str} (ok : ∀ x ∈ xs, PyData.strOk x = true) : SeqAt.shaped (.tuple (xs.map PyData.str)) = true := by
  obtain ⟨h1, h2⟩ := strs_lay xs ok
  unfold SeqAt.shaped
  show (PyData.canLayAll0 (xs.map PyData.str) && decide (PyData.depthAll (xs.map PyData.str) + 1 ≤ 64)) = true
  rw [h1, h2]
  rfl
theorem strs_eqvA : ∀ xs ys : List Str, PyData.eqvAll (xs.map PyData.str) (ys.map PyData.str) = decide (xs = ys)
  | [], [] => rfl
  | [], _ :: _ => rfl
  | _ :: _, [] => rfl
  | x :: xs, y :: ys => by
    show (x == y && PyData.eqvAll (xs.map PyData.str) (ys.map PyData.str)) = decide (x :: xs = y :: ys)
    rw [strs_eqvA xs ys]
    by_cases h : x = y
    · by_cases g : xs = ys <;> simp [h, g]
    · simp [h]
theorem strs_eqv (xs ys : List Str) : PyData.eqv (.tuple (xs.map PyData.str)) (.tuple (ys.map PyData.str)) = decide (xs = ys) := strs_eqvA xs ys
theorem dp_strsT {K : PySem.W.Frag} {H : Hp} {a : Addr} {xs : List Str} (h : SqT K H a (xs.map V.str)) : Dp K H (.ref a) (.tuple (xs.map PyData.str)) := .tup h (strs_all xs)
theorem tab_at {K : PySem.W.Frag} : ∀ {kvs : List (Str × V)} {tab : List (Str × List Str)}, TabRel K kvs tab → ∀ {i : Nat} {k : Str} {x : V}, kvs[i]? = some (k, x) → ∃ os a, tab[i]? = some (k, os) ∧ x = .ref a ∧ TupK K a os
  | _, _, .nil, i, k, x, h => by cases i <;> cases h
  | (k1, v1) :: kvs, (k2, os) :: tab, .cons h r, i, k, x, e => by
    obtain ⟨h1, a, h2, h3⟩ := h
    dsimp only at h1 h2 h3
    subst h1 h2
    cases i with
    | zero =>
      cases e
      exact ⟨os, a, rfl, rfl, h3⟩
    | succ i => exact tab_at r (i := i) e
theorem find_at {α : Type} {p : α → Bool} : ∀ {l : List α} {i : Nat} {x : α}, l[i]? = some x → p x = true → (∀ (j : Nat) (y : α), j < i → l[j]? = some y → p y = false) → l.find? p = some x
  | [], i, x, h, _, _ => by cases i <;> cases h
  | a :: l, 0, x, h, hp, _ => by
    cases h
    simp [List.find?, hp]
  | a :: l, i + 1, x, h, hp, hn => by
    have ha := hn 0 a (Nat.succ_pos i) rfl
    have ih := find_at (l := l) (i := i) (x := x) h hp fun j y hj hy => hn (j + 1) y (Nat.succ_lt_succ hj) hy
    simp [List.find?, ha, ih]
theorem find_no {α : Type} {p : α → Bool} {l : List α} (h : ∀ (j : Nat) (y : α), l[j]? = some y → p y = false) : l.find? p = none := by
  rw [List.find?_eq_none]
  intro x hx
  obtain ⟨j, hj, e⟩ := List.mem_iff_getElem.mp hx
  rw [h j x (by rw [List.getElem?_eq_getElem hj, e])]
  decide
end BR

/-! ### an int asked of a module's dict of texts -/
namespace BR
open PySem PySem.Spec PyProof.Rows L2
theorem KTab.mix {P : Program} {w : World} {K : PySem.W.Frag} {d : Addr} {kvs : List (Str × V)} (T : KTab K P w d kvs) {h : Heap} (X : K.In h) : ∃ f : Key → Option Value, h.MapOf (mixKind P w) d f ∧ ∀ n, f (.inl n) = none := by
  obtain ⟨us, n, hm, rel⟩ := T.at X
  obtain ⟨o, es, ho, ex, dt, keys, _⟩ := hm
  have sh : ∀ e ∈ es, ∃ k t, e.key = .str k t ∧ e.hash = hashStr w k := fun e he => by
    obtain ⟨k, h1, h2⟩ := keys e he
    obtain ⟨t, e1⟩ := Value.isStrOf_shape h1
    exact ⟨k, t, e1, h2⟩
  refine ⟨fun k => findBy (mixKind P w).is es k, ⟨o, es, n, ho, ex, dt, fun e he => ?_, fun _ => rfl⟩, fun z => ?_⟩
  · obtain ⟨k, t, e1, e2⟩ := sh e he
    exact ⟨.inr k, by rw [e1]; exact mixKind_str P w k t, e2⟩
  · unfold findBy
    dsimp only
    rw [Array.find?_eq_none.mpr fun e he => ?_]
    · rfl
    · obtain ⟨k, t, e1, _⟩ := sh e he
      rw [e1]
      intro q
      rcases keyIs_shape (show keyIs (.inl z) (.str k t) = true from q) with ⟨i, u, _, e⟩ | ⟨y, u, e, _⟩
      · exact nomatch e
      · exact nomatch e
def rInKI (K : PySem.W.Frag) (P : Program) (w : World) (neg : Bool) : R2 := fun x y H Q => ∃ (n : Int) (d : Addr) (kvs : List (Str × V)), x = .int n ∧ y = .ref d ∧ KTab K P w d kvs ∧ Q (.bl neg) H
section
variable {X : Cx}
theorem op_inTI : OpR X (compareOp .In) (rInKI X.K X.prog X.w false) := by
  rintro pins s σ H x y v u Q I rx ry ⟨n, d, kvs, rfl, rfl, T, q⟩
  obtain ⟨t, rfl⟩ := rx
  obtain rfl : u = Value.ref d := ry
  obtain ⟨f, hm, no⟩ := T.mix I.kIn
  refine wpAny_in_of (mixKind_int X.prog X.w n t) T.low hm ?_
  rw [no]
  exact ⟨.bl false, H, I.tok _, rfl, q⟩
theorem op_notInTI : OpR X (compareOp .NotIn) (rInKI X.K X.prog X.w true) := by
  rintro pins s σ H x y v u Q I rx ry ⟨n, d, kvs, rfl, rfl, T, q⟩
  obtain ⟨t, rfl⟩ := rx
  obtain rfl : u = Value.ref d := ry
  obtain ⟨f, hm, no⟩ := T.mix I.kIn
  refine wpAny_notIn_of (mixKind_int X.prog X.w n t) T.low hm ?_
  rw [no]
  exact ⟨.bl true, H, I.tok _, rfl, q⟩
end
end BR

/-! ### calls without arguments where no repr runs; comprehensions that choose, over lists; heaps -/
namespace BR
open PySem PySem.Spec PyProof.Rows L2
section
variable {X : Cx} {CX : CXT} {k : Nat} {f : Addr} {fd : FuncData} {ps : List Str} {sp : Sp} {E : XK} {x : Str} {ds : List Value} {dvs : List V} {p pos : Pos}
theorem pe_callG0 (F : FnG X.prog X.w X.K X.mg X.base CX k f fd ps sp) (gg : X.A.guards = some []) (room : Room k X.A) (hg : Gl X x) (hm : X.mg x = some (.ref f)) (kp : PySem.W.keepIn X.K (.ref f) = true)
    (b : Binds X.K fd ps ds) (hd : Vals dvs ds) (hx : Passes CX X E) (nodb : (x == ("__debug__" : Str)) = false := by decide) : PE X (.Call (.Name x p) [] [] pos) (tCall sp dvs E tNil) := by
  refine ⟨fun pins s σ H Q I0 hh => ?_⟩
  refine wpAny_Call_Name_kw (ld_glob I0 hg hm ?_ nodb)
  have r2 : Vals ([] ++ dvs) ([] ++ ds) := hd
  have hl : ([] ++ ds).length = ps.length := by rw [← r2.length]; exact F.ln _ _ _ _ hh
  refine PySem.W.callWith_K0 I0.kIn kp ?_
  refine wpAny_call (codeAny_mono (F.go X.A X.stack s H ⟨[], []⟩ ([] ++ ds) ([] ++ dvs) Q E gg room I0.env0 (b s [] I0.kIn hl) r2 hh) fun res s' hq => ?_)
  cases res with
  | error e => exact hx pins σ H s e s' I0 hq
  | ok fl =>
    cases fl with
    | ret u => exact I0.after hq
    | next => exact hq.elim
    | brk => exact hq.elim
    | cont => exact hq.elim
end
section
variable {X : Cx} {T id : String} {name : Str} {r : V → List V → Hp → VK → Prop} {o e : Expr} {es : List Expr} {to : TE} {t : TA} {apos cpos : Pos} {K : PySem.W.Frag}
/-- a method's call where each side condition is written -/
theorem pe_bmX (hK : X.K = K) (pa : PlainAttrs T) (slot : Slot T name id) (hty : typeOf (.builtin id) = pure (.type "method_descriptor")) (hm : MtR X id r) (ho : PE X o to) (ha : PA X (e :: es) t)
    (c1 : attributeBase o name X.env (eval o X.env) = eval o X.env)
    (c2 : ((backTo cpos (starEach (e :: es) X.env)).all (fun x => !x.1) && (backToKw cpos (keywordEach [] X.env)).all (fun x => x.1.isSome) && decide ((e :: es).length + ([] : List Keyword).length + (if ([] : List Keyword).isEmpty then 0 else 1) < 30)) = true)
    (c3 : (apos.endLine == cpos.line) = true) (c4 : starEach (e :: es) X.env = (false, eval e X.env) :: starEach es X.env) (c5 : (backTo cpos (starEach es X.env)).any (·.1) = false) :
    PE X (.Call (.Attribute o name apos) (e :: es) [] cpos) (tBM K T r to t) := by
  subst hK
  exact pe_bm pa slot hty hm ho ha c1 c2 c3 c4 c5
end
theorem sameUp {H H1 : Hp} {p : Addr} {o : HO} (s : Same H H1) (hp : H p = none) : Same H (upd H1 p o) := fun b u e => by
  rw [upd_ne (ne_of_none e hp)]
  exact s b u e
theorem sameL {K : PySem.W.Frag} {H H' : Hp} {a : Addr} {xs : List V} (e : Same H H') (h : H a = some (.lst xs)) : SqL K H' a xs := SqL.of (e _ _ h)
/-- [x for x in l if c], l a list of texts, c told by x alone -/
theorem lc_pickL {K : PySem.W.Frag} {a : Addr} {xs : List Str} {j : Nat} {tt : TT} {te : TE} {vs : List Nat} {σ : L2.St} {H1 : Hp} {D : Addr} {Qd : Hp → Prop} (p : Str → Bool) (hL : H1 a = some (.lst (xs.map V.str))) (hz : xs.length ≤ 1000) (hD : H1 D = none)
    (hw : ∀ x : V, wipe ((wipe σ vs).set j (some x)) vs = wipe σ vs)
    (ht : ∀ (x : Str) (H2 : Hp) (Q : Bool → Hp → Prop), x ∈ xs → Same H1 H2 → (∀ H3, Same H2 H3 → Q (p x) H3) → tt ((wipe σ vs).set j (some (.str x))) H2 Q)
    (he : ∀ (x : Str) (H2 : Hp) (Q : VK), x ∈ xs → Same H1 H2 → Q (.str x) H2 → te ((wipe σ vs).set j (some (.str x))) H2 Q)
    (hd : ∀ H, Same H1 H → H D = some (.lst ((xs.filter p).map V.str)) → Qd H) :
    ∃ W : Nat → Nat → Hp → Prop, (∃ m, W 0 m (L2.upd H1 D (.lst []))) ∧ ∀ i m H, W i m H →
      ((Itl K a).stop i H ∧ Qd H) ∨ ((Itl K a).go i H ∧ ∃ Nx : Hp → Prop, (∀ H', Nx H' → ∃ m', m' < m ∧ W (i + 1) m' H') ∧ ∀ x H', (Itl K a).yld i H x H' → gName j x (wipe σ vs) H' fun σ2 H2 => wipe σ2 vs = wipe σ vs ∧ tt σ2 H2 fun b H3 =>
        if b = true then te σ2 H3 fun y H4 => ∃ acc, H4 D = some (.lst acc) ∧ acc.length < sizeLine ∧ Nx (L2.upd H4 D (.lst (acc ++ [y]))) else Nx H3) := by
  refine lc_list (xs := xs.map V.str) (fun i H => Same H1 H ∧ H D = some (.lst (((xs.take i).filter p).map V.str))) ⟨sameNew hD, upd_same⟩ (fun i H _ q => sameL q.1 hL) ?_ ?_
  · rintro i x H hx ⟨s, hH⟩
    obtain ⟨z, hz1, rfl⟩ := mapS_at hx
    have mem := List.mem_of_getElem? hz1
    refine ⟨hw _, ?_⟩
    refine ht z H _ mem s fun H3 s3 => ?_
    have step := pick_succ (p := p) hz1
    cases c : p z with
    | false =>
      rw [c] at step
      refine (if_neg (by decide)).mpr ?_
      refine ⟨s.trans s3, ?_⟩
      rw [step]
      simpa using s3 _ _ hH
    | true =>
      rw [c] at step
      refine (if_pos rfl).mpr ?_
      refine he z H3 _ mem (s.trans s3) ?_
      refine ⟨_, s3 _ _ hH, small1000 ?_, ?_, ?_⟩
      · have l1 := List.length_filter_le p (xs.take i)
        rw [List.length_take] at l1
        rw [List.length_map]
        omega
      · exact sameUp (s.trans s3) hD
      · rw [upd_same, step, List.map_append]
        rfl
  · rintro H ⟨s, hH⟩
    rw [List.length_map, List.take_length] at hH
    exact hd H s hH
theorem valV_mapS {α : Type} {f : α → V} {z : Str} : ∀ {l : List (Str × α)}, valV (l.map fun q => ((.inr q.1 : Key), f q.2)) (.inr z : Key) = (l.lookup z).map f
  | [] => rfl
  | (k, v) :: l => by
    have ih := valV_mapS (f := f) (z := z) (l := l)
    rw [List.map_cons]
    by_cases c : k = z
    · subst c
      rw [valV_pos rfl]
      simp [List.lookup]
    · rw [valV_neg (fun q => c (Sum.inr.inj q)), ih]
      have e : (z == k) = false := by simpa using fun q : z = k => c q.symm
      simp [List.lookup, e]
theorem putK_le {κ : Type} [DecidableEq κ] (c : List (κ × V)) (k : κ) (x : V) : (putK c k x).length ≤ c.length + 1 := by
  unfold putK
  split <;> simp
theorem dget_of {H : Hp} {a : Addr} {kvs : List (Key × V)} {z : Str} {v : V} (e : H a = some (.dK kvs)) (h : valV kvs (.inr z : Key) = some v) : DGet H a (.str z) (some v) := by
  rw [← h]
  exact DGet.k (k := .inr z) e
theorem yesR {σ : L2.St} {H : Hp} {k : Bool → Hp → Prop} (h : k true H) : tYes σ H k := h
theorem dput_new {H : Hp} {a : Addr} {kvs : List (Key × V)} {z : Str} {v : V} (e : H a = some (.dK kvs)) (hl : kvs.length ≤ 1000) (hn : valV kvs (.inr z : Key) = none) : DPut H a (.str z) v (L2.upd H a (.dK (kvs ++ [(.inr z, v)]))) := by
  have g := DPut.k (k := (.inr z : Key)) (v := v) e (small1000 hl)
  rw [putK_new v hn] at g
  exact g
theorem int_dec (x y : Int) : decide (V.int x = V.int y) = decide (x = y) := decide_eq_decide.mpr ⟨V.int.inj, fun e => congrArg V.int e⟩
theorem bl_dec (x y : Bool) : decide (V.bl x = V.bl y) = decide (x = y) := decide_eq_decide.mpr ⟨V.bl.inj, fun e => congrArg V.bl e⟩
end BR

/-! ### sets of ints out of a tuple, how many there are, max of a tuple of two -/
namespace BR
open PySem PySem.Spec PyProof.Rows L2
def rSetOf (K : PySem.W.Frag) (w : World) : List V → Hp → VK → Prop := fun xs H Q => ∃ (a : Addr) (ns : List Int), xs = [.ref a] ∧ SqT K H a (ns.map V.int) ∧ ns.length ≤ 1000 ∧
  ∀ (p : Addr) (n : Nat) (ks : List Int), H p = none → ks.Nodup → (∀ k, k ∈ ks ↔ k ∈ ns) → ks.length = n → Q (.ref p) (L2.upd H p (SetO w p (fun j => decide (j ∈ ns)) n))
section
variable {X : Cx}
theorem cr_setOf (hc : X.calm = true) : CallR X (.type "set") (rSetOf X.K X.w) := by
  intro pins s σ H xs us Q I r h
  obtain ⟨a, ns, rfl, hq, hz, q⟩ := h
  rw [Vals.ref1 r]
  obtain ⟨its, rv, pt, _⟩ := I.tuple hq
  refine call_set_tupI ns (I.ok.hd hc) (show s.heap.IsTuple a its.toArray from pt) (by simpa using rv.ints) (by unfold scanBound; omega) fun h' tk c R1 hcn k => ?_
  have ⟨o, es, ep, t, ho, hex, hdt, g, nd, hm2, hb, hf, hn, hr, hl2⟩ := R1
  refine ⟨.ref _, _, I.laid (t' := tk) (fun b u e => k b u e) (Nat.le_refl _) (setO_new R1), rfl, q _ c (es.toList.map keyOf) (I.hok.fresh (Nat.le_refl _)) nd (fun j => ?_) ?_⟩
  · rw [← hm2 j, decide_eq_true_eq]
  · rw [List.length_map, Array.length_toList, hn]
theorem call_len_setO : CallR X (.builtin "len") (fun xs H Q => ∃ (a : Addr) (S : Int → Bool) (n : Nat), xs = [.ref a] ∧ H a = some (SetO X.w a S n) ∧ Q (.int n) H) := by
  intro pins s σ H xs us Q I r h
  obtain ⟨a, S, n, rfl, ha, q⟩ := h
  rw [Vals.ref1 r]
  obtain ⟨o, es, ep, t, ho, hex, hdt, g, nd, hm2, hb, hf, hn, hr, hl2⟩ := setO_get I ha
  refine call_len_set ho hex hdt hf (by unfold scanBound at hb; omega) ⟨.int n, H, I.tok _, ⟨_, by rw [hn]⟩, q⟩
theorem met_nodup (val : Nat → Int) : ∀ i, (firstMet val i).Nodup
  | 0 => by rw [firstMet_zero]; exact List.nodup_nil
  | i + 1 => by
    rw [firstMet_succ]
    unfold step_dedup
    split
    · exact met_nodup val i
    · rename_i h
      refine List.nodup_append.mpr ⟨met_nodup val i, by simp, fun a ha b hb => ?_⟩
      rw [List.mem_singleton] at hb
      subst hb
      intro e
      subst e
      exact h (List.any_eq_true.mpr ⟨_, ha, by simp⟩)
theorem met_mem {ns : List Int} {k : Int} : k ∈ firstMet (fun i => ns.getD i 0) ns.length ↔ k ∈ ns := by
  have e := firstMet_any (fun i => ns.getD i 0) ns.length k
  have e2 : (List.range ns.length).map (fun i => ns.getD i 0) = ns := by
    apply List.ext_getElem?
    intro i
    rw [List.getElem?_map]
    by_cases h : i < ns.length
    · rw [List.getElem?_range h]
      simp [List.getD, h]
    · rw [List.getElem?_eq_none (by simpa using Nat.le_of_not_lt h), List.getElem?_eq_none (Nat.le_of_not_lt h)]
      rfl
  rw [e2] at e
  have m : ∀ l : List Int, l.any (· == k) = true ↔ k ∈ l := fun l => by simp
  rw [← m, ← m, e]
/-- len(set(l)), l a list of ints -/
def tLenSetL (K : PySem.W.Frag) (ta : TE) : TE := fun σ H Q => ta σ H fun x H1 => ∃ (l : Addr) (ns : List Int), x = V.ref l ∧ SqL K H1 l (ns.map V.int) ∧ ns.length < 64 ∧ ∀ (ks : List Int), ks.Nodup → (∀ k, k ∈ ks ↔ k ∈ ns) → Q (.int ks.length) H1
theorem pe_lenSetL {a : Expr} {ta : TE} {p p2 q pos : Pos} {K : PySem.W.Frag} (hK : X.K = K) (hc : X.calm = true) (hg : Gl X "len") (hm : X.mg "len" = none) (hg2 : Gl X "set") (hm2 : X.mg "set" = none) (ha : PE X a ta)
    (na : starEach [a] X.env = (false, eval a X.env) :: starEach [] X.env) : PE X (.Call (.Name "len" p) [.Call (.Name "set" p2) [a] [] q] [] pos) (tLenSetL K ta) := by
  subst hK
  refine ⟨fun pins s σ H Q I h => ?_⟩
  refine Call_ (ld_blt I hg hm PySem.boot_len ?_)
  refine callWith_builtin1 (args_cons ?_ rfl) rfl rfl
  refine Call_ (ld_blt I hg2 hm2 boot_set ?_)
  refine callWith_type1 (args_cons (thn (ha.run pins s σ H _ I h) ?_) na) na rfl
  rintro v s1 ⟨x, H1, I1, r1, l, ns, rfl, hq, hz, q1⟩
  refine args_nil ?_
  cases r1
  obtain ⟨its, r, pl, _⟩ := I1.list hq
  have hl : its.toArray.size = ns.length := by rw [List.size_toArray, ← r.length, List.length_map]
  refine call_set_list (I1.ok.hd hc) pl.isList (ns := ns) (by simpa using r.ints) (by unfold scanBound; omega) fun h' tk hS hk => ?_
  rw [hl] at hS
  refine args_nil ?_
  obtain ⟨o, es, ep, t, ho, hex, hd, _, _, _, hf, hn⟩ := hS
  have I2 : Inv X pins σ H1 { s1 with heap := h', toks := tk } := I1.kept fun b u e => hk b u (Heap.lt_size e) e
  have lz := firstMet_length_le (fun i => ns.getD i 0) ns.length
  refine call_len_set ho hex hd hf (by omega) ⟨.int (firstMet (fun i => ns.getD i 0) ns.length).length, H1, I2.tok _, ⟨_, by rw [hn]⟩, q1 _ (met_nodup _ _) fun k => met_mem⟩
/-- max of a tuple of two ints -/
theorem cr_maxT2 (hc : X.calm = true) (hu : X.A.units + 64 < cLine) : CallR X (.builtin "max") (fun xs H Q => ∃ (a : Addr) (i j : Int), xs = [.ref a] ∧ SqT X.K H a [.int i, .int j] ∧ Q (.int (if i < j then j else i)) H) := by
  intro pins s σ H xs us Q I r h
  obtain ⟨a, i, j, rfl, hq, q⟩ := h
  rw [Vals.ref1 r]
  obtain ⟨its, rv, pt, _⟩ := I.tuple hq
  obtain ⟨as, ra⟩ := Dp.readsAll I [.int i, .int j] _ _ (.cons (.int i) (.cons (.int j) .nil)) rv
  refine PySem.W.max_tuple_data (x := .int i) (xs := [.int j]) (I.ok.hd hc) (show s.heap.IsTuple a its.toArray from pt) (by simpa using ra) (⟨fun x hx y hy => by rcases List.mem_cons.mp hx with rfl | hx <;> rcases List.mem_cons.mp hy with rfl | hy <;> (try rcases List.mem_singleton.mp hx with rfl) <;> (try rcases List.mem_singleton.mp hy with rfl) <;> rfl, fun x hx => by rcases List.mem_cons.mp hx with rfl | hx <;> (try rcases List.mem_singleton.mp hx with rfl) <;> exact fun z => nomatch z⟩) (by show X.A.units + 1 + 0 < cLine; omega) fun k v h' tk bs _ hr hk => ?_
  have e : PySem.W.maxD (.int i) [.int j] = .int (if i < j then j else i) := by
    show (if PySem.W.dataLt (.int i) (.int j) then PyData.int j else .int i) = _
    rw [PySem.W.dataLt_int]
    by_cases c : i < j
    · rw [if_pos c, if_pos (decide_eq_true c)]
    · rw [if_neg c, if_neg (fun z => c (of_decide_eq_true z))]
  rw [e] at hr
  cases hr
  exact ⟨.int _, H, I.kept (t' := tk) hk, ⟨_, rfl⟩, q⟩
end
end BR

/-! ### rankings: the mathematics -/
namespace BR
open PySem PySem.Spec PyProof.Rows L2
def ins1 (x : Int) : List Int → List Int
  | [] => [x]
  | y :: l => if x < y then x :: y :: l else if x = y then y :: l else y :: ins1 x l
def srt : List Int → List Int
  | [] => []
  | x :: l => ins1 x (srt l)
theorem ins1_mem {x k : Int} : ∀ {l : List Int}, k ∈ ins1 x l ↔ k = x ∨ k ∈ l
  | [] => by simp [ins1]
  | y :: l => by
    unfold ins1
    split
    · simp
    · split
      · rename_i h
        subst h
        simp
      · rw [List.mem_cons, ins1_mem (l := l), List.mem_cons]
        constructor <;> (intro h; rcases h with h | h | h <;> simp [h])
theorem ins1_up {x : Int} : ∀ {l : List Int}, l.Pairwise (· < ·) → (ins1 x l).Pairwise (· < ·)
  | [], _ => by simp [ins1]
  | y :: l, h => by
    obtain ⟨h1, h2⟩ := List.pairwise_cons.mp h
    unfold ins1
    split
    · rename_i c
      refine List.pairwise_cons.mpr ⟨fun z hz => ?_, h⟩
      rcases List.mem_cons.mp hz with rfl | hz
      · exact c
      · exact Int.lt_trans c (h1 z hz)
    · split
      · exact h
      · rename_i c d
        refine List.pairwise_cons.mpr ⟨fun z hz => ?_, ins1_up h2⟩
        rcases ins1_mem.mp hz with rfl | hz
        · omega
        · exact h1 z hz
theorem srt_mem {k : Int} : ∀ {l : List Int}, k ∈ srt l ↔ k ∈ l
  | [] => Iff.rfl
  | x :: l => by rw [srt, ins1_mem, srt_mem, List.mem_cons]
theorem srt_up : ∀ l : List Int, (srt l).Pairwise (· < ·)
  | [] => .nil
  | x :: l => ins1_up (srt_up l)
theorem up_nodup {l : List Int} (h : l.Pairwise (· < ·)) : l.Nodup := h.imp fun h => Int.ne_of_lt h
/-- one list alone is in order and has these members -/
theorem up_one {a b : List Int} (ha : a.Pairwise (· < ·)) (hb : b.Pairwise (· < ·)) (h : ∀ k, k ∈ a ↔ k ∈ b) : a = b :=
  PySem.W.lks_uniq ((List.perm_ext_iff_of_nodup (up_nodup ha) (up_nodup hb)).mpr h) (ha.imp fun h => Int.le_of_lt h) (hb.imp fun h => Int.le_of_lt h)
theorem card_one {a b : List Int} (ha : a.Nodup) (hb : b.Nodup) (h : ∀ k, k ∈ a ↔ k ∈ b) : a.length = b.length := ((List.perm_ext_iff_of_nodup ha hb).mpr h).length_eq
def rk (l : List Int) (x : Int) : Nat := (l.filter fun y => decide (y < x)).length
theorem rk_le (l : List Int) (x : Int) : rk l x ≤ l.length := List.length_filter_le _ _
theorem rk_cons {y x : Int} {l : List Int} : rk (y :: l) x = (if y < x then 1 else 0) + rk l x := by
  unfold rk
  rw [List.filter_cons]
  by_cases h : y < x
  · rw [if_pos (decide_eq_true h), if_pos h, List.length_cons, Nat.add_comm]
  · rw [if_neg (fun z => h (of_decide_eq_true z)), if_neg h, Nat.zero_add]
theorem rk_mono {x y : Int} (h : x ≤ y) : ∀ l : List Int, rk l x ≤ rk l y
  | [] => Nat.le_refl _
  | z :: l => by
    have := rk_mono h l
    rw [rk_cons, rk_cons]
    split <;> split <;> omega
theorem rk_lt {x y : Int} (h : x < y) : ∀ {l : List Int}, x ∈ l → rk l x < rk l y
  | z :: l, m => by
    have w := rk_mono (Int.le_of_lt h) l
    rw [rk_cons, rk_cons]
    rcases List.mem_cons.mp m with rfl | m
    · rw [if_neg (Int.lt_irrefl _), if_pos h]
      omega
    · have := rk_lt h m
      split <;> split <;> omega
theorem rk_iff {l : List Int} {x y : Int} (hx : x ∈ l) (hy : y ∈ l) : (x < y ↔ rk l x < rk l y) ∧ (x = y ↔ rk l x = rk l y) := by
  rcases Int.lt_trichotomy x y with h | h | h
  · have := rk_lt h hx
    exact ⟨⟨fun _ => this, fun _ => h⟩, ⟨fun e => by omega, fun e => by omega⟩⟩
  · subst h
    exact ⟨⟨fun e => absurd e (Int.lt_irrefl _), fun e => absurd e (Nat.lt_irrefl _)⟩, ⟨fun _ => rfl, fun _ => rfl⟩⟩
  · have := rk_lt h hy
    exact ⟨⟨fun e => by omega, fun e => by omega⟩, ⟨fun e => by omega, fun e => by omega⟩⟩
theorem rk_cut {l : List Int} {x h : Int} (hx : x ∈ l) : x < h ↔ rk l x < rk l h := by
  constructor
  · exact fun e => rk_lt e hx
  · intro e
    refine Decidable.byContradiction fun n => ?_
    have := rk_mono (show h ≤ x by omega) l
    omega
/-- in a list in order the place is the rank -/
theorem rk_at : ∀ {l : List Int}, l.Pairwise (· < ·) → ∀ {j : Nat} {x : Int}, l[j]? = some x → rk l x = j
  | y :: l, h, 0, x, e => by
    cases e
    obtain ⟨h1, h2⟩ := List.pairwise_cons.mp h
    rw [rk_cons, if_neg (Int.lt_irrefl _), Nat.zero_add]
    unfold rk
    rw [List.filter_eq_nil_iff.mpr fun z hz => by have := h1 z hz; rw [decide_eq_true_eq]; omega]
    rfl
  | y :: l, h, j + 1, x, e => by
    obtain ⟨h1, h2⟩ := List.pairwise_cons.mp h
    have m : x ∈ l := List.mem_of_getElem? (show l[j]? = some x from e)
    rw [rk_cons, if_pos (h1 x m), rk_at h2 (show l[j]? = some x from e), Nat.add_comm]
theorem at_rk {l : List Int} (h : l.Pairwise (· < ·)) {x : Int} (m : x ∈ l) : l[rk l x]? = some x := by
  obtain ⟨j, hj, e⟩ := List.mem_iff_getElem.mp m
  have e2 : l[j]? = some x := by rw [List.getElem?_eq_getElem hj, e]
  rw [rk_at h e2]
  exact e2
/-- the ranks of words, the cut -/
def rks (xs : List Int) : List Int := xs.map fun x => ((rk (srt xs) x : Nat) : Int)
def ct (xs : List Int) (h : Int) : Int := ((rk (srt xs) h : Nat) : Int)
def IsRk (rs : List Int) (m : Nat) : Prop := ∀ k, k ∈ rs ↔ 0 ≤ k ∧ k < (m : Int)
theorem rks_is (xs : List Int) : IsRk (rks xs) (srt xs).length := fun k => by
  unfold rks
  rw [List.mem_map]
  constructor
  · rintro ⟨x, hx, rfl⟩
    have m := srt_mem.mpr hx
    have lt : rk (srt xs) x < (srt xs).length := (List.getElem?_eq_some_iff.mp (at_rk (srt_up xs) m)).1
    omega
  · rintro ⟨h0, h1⟩
    obtain ⟨j, rfl⟩ := Int.eq_ofNat_of_zero_le h0
    have hj : j < (srt xs).length := by omega
    have e : (srt xs)[j]? = some (srt xs)[j] := List.getElem?_eq_getElem hj
    exact ⟨_, srt_mem.mp (List.mem_of_getElem? e), by rw [rk_at (srt_up xs) e]⟩
theorem ct_le (xs : List Int) (h : Int) : 0 ≤ ct xs h ∧ ct xs h ≤ ((srt xs).length : Int) := by
  have := rk_le (srt xs) h
  unfold ct
  omega
/-- the ranks from 0 on -/
def rg (m : Nat) : List Int := (List.range m).map fun i => ((i : Nat) : Int)
theorem rg_up (m : Nat) : (rg m).Pairwise (· < ·) := by
  unfold rg
  rw [List.pairwise_map]
  exact List.pairwise_lt_range.imp fun h => by omega
theorem rg_mem {m : Nat} {k : Int} : k ∈ rg m ↔ 0 ≤ k ∧ k < (m : Int) := by
  unfold rg
  rw [List.mem_map]
  constructor
  · rintro ⟨i, hi, rfl⟩
    have := List.mem_range.mp hi
    omega
  · rintro ⟨h0, h1⟩
    obtain ⟨j, rfl⟩ := Int.eq_ofNat_of_zero_le h0
    exact ⟨j, List.mem_range.mpr (by omega), rfl⟩
theorem rg_len (m : Nat) : (rg m).length = m := by unfold rg; rw [List.length_map, List.length_range]
theorem isRk_srt {rs ks : List Int} {m : Nat} (h : IsRk rs m) (up : ks.Pairwise (· < ·)) (mem : ∀ k, k ∈ ks ↔ k ∈ rs) : ks = rg m := up_one up (rg_up m) fun k => by rw [mem, h k, rg_mem]
theorem isRk_card {rs ks : List Int} {m : Nat} (h : IsRk rs m) (nd : ks.Nodup) (mem : ∀ k, k ∈ ks ↔ k ∈ rs) : ks.length = m := by
  rw [card_one nd (up_nodup (rg_up m)) (fun k => by rw [mem, h k, rg_mem]), rg_len]
/-- as many different integers as lie between two -/
theorem few {l : List Int} {a b : Int} (nd : l.Nodup) (h : ∀ k ∈ l, a ≤ k ∧ k < b) : (l.length : Int) ≤ if a ≤ b then b - a else 0 := by
  by_cases c : a ≤ b
  · rw [if_pos c]
    obtain ⟨n, hn⟩ := Int.eq_ofNat_of_zero_le (show 0 ≤ b - a by omega)
    have p : (l.map fun k => k - a).Nodup := by
      rw [List.Nodup, List.pairwise_map]
      exact nd.imp fun h e => h (by omega)
    have s : ∀ k ∈ l.map (fun k => k - a), k ∈ rg n := fun k hk => by
      obtain ⟨z, hz, rfl⟩ := List.mem_map.mp hk
      have := h z hz
      exact rg_mem.mpr ⟨by omega, by omega⟩
    have q := card_one p ((up_nodup (rg_up n)).filter fun k => decide (k ∈ l.map fun k => k - a)) fun k => by
      rw [List.mem_filter, decide_eq_true_eq]
      exact ⟨fun z => ⟨s k z, z⟩, fun z => z.2⟩
    have u := List.length_filter_le (fun k => decide (k ∈ l.map fun k => k - a)) (rg n)
    rw [← q, List.length_map, rg_len] at u
    omega
  · rw [if_neg c]
    cases l with
    | nil => exact Int.le_refl 0
    | cons x l =>
      have := h x List.mem_cons_self
      omega
theorem ct_bounds {xs : List Int} {h : Int} (h0 : 0 ≤ h) (w : ∀ x ∈ xs, 0 ≤ x ∧ x < 2 * h) : ct xs h ≤ h ∧ ((srt xs).length : Int) - ct xs h ≤ h := by
  have nd := up_nodup (srt_up xs)
  have e1 := few (a := 0) (b := h) (l := (srt xs).filter fun y => decide (y < h)) (nd.filter _) fun k hk => by
    obtain ⟨m, c⟩ := List.mem_filter.mp hk
    exact ⟨(w k (srt_mem.mp m)).1, of_decide_eq_true c⟩
  have e2 := few (a := h) (b := 2 * h) (l := (srt xs).filter fun y => !decide (y < h)) (nd.filter _) fun k hk => by
    obtain ⟨m, c⟩ := List.mem_filter.mp hk
    have := (w k (srt_mem.mp m)).2
    have c2 : decide (k < h) = false := by simpa using c
    have := of_decide_eq_false c2
    omega
  have e3 : ((srt xs).filter fun y => decide (y < h)).length + ((srt xs).filter fun y => !decide (y < h)).length = (srt xs).length := by
    have := List.length_eq_countP_add_countP (fun y => decide (y < h)) (l := srt xs)
    rw [List.countP_eq_length_filter, List.countP_eq_length_filter] at this
    have q : (fun a : Int => decide (¬ (decide (a < h)) = true)) = fun y => !decide (y < h) := by
      funext y
      by_cases c : y < h <;> simp [c]
    rw [q] at this
    omega
  unfold ct rk
  rw [if_pos h0] at e1
  rw [if_pos (show h ≤ 2 * h by omega)] at e2
  omega
/-- the first words -/
def lw (h c r : Int) : Int := if r < c then r else h + r - c
theorem lw_up {h c r s : Int} (hc : c ≤ h) (l : r < s) : lw h c r < lw h c s := by
  unfold lw
  split <;> split <;> omega
theorem lw_inj {h c r s : Int} (hc : c ≤ h) (e : lw h c r = lw h c s) : r = s := by
  rcases Int.lt_trichotomy r s with l | l | l
  · have := lw_up hc l
    omega
  · exact l
  · have := lw_up hc l
    omega
theorem lw_word {h c r : Int} {m : Nat} (h0 : 0 ≤ c) (hc : c ≤ h) (hm : (m : Int) - c ≤ h) (r0 : 0 ≤ r) (r1 : r < m) : 0 ≤ lw h c r ∧ lw h c r < 2 * h := by
  unfold lw
  split <;> omega
theorem lw_cut {h c r : Int} (hc : c ≤ h) : lw h c r < h ↔ r < c := by
  unfold lw
  split <;> constructor <;> intro _ <;> omega
theorem srt_lw {rs : List Int} {m : Nat} {h c : Int} (hc : c ≤ h) (is : IsRk rs m) : srt (rs.map (lw h c)) = (rg m).map (lw h c) := by
  refine up_one (srt_up _) ?_ fun k => ?_
  · rw [List.pairwise_map]
    exact (rg_up m).imp fun l => lw_up hc l
  · rw [srt_mem, List.mem_map, List.mem_map]
    constructor
    · rintro ⟨r, hr, e⟩
      exact ⟨r, rg_mem.mpr ((is r).mp hr), e⟩
    · rintro ⟨r, hr, e⟩
      exact ⟨r, (is r).mpr (rg_mem.mp hr), e⟩
theorem rk_map {h c x : Int} (hc : c ≤ h) : ∀ l : List Int, rk (l.map (lw h c)) (lw h c x) = rk l x
  | [] => rfl
  | y :: l => by
    rw [List.map_cons, rk_cons, rk_cons, rk_map hc l]
    congr 1
    by_cases q : y < x
    · rw [if_pos q, if_pos (lw_up hc q)]
    · rw [if_neg q, if_neg (fun z => by
        rcases Int.lt_trichotomy x y with e | e | e
        · have := lw_up hc e
          omega
        · subst e
          omega
        · exact q e)]
theorem rk_mapc {h c : Int} (hc : c ≤ h) : ∀ l : List Int, rk (l.map (lw h c)) h = rk l c
  | [] => rfl
  | y :: l => by
    rw [List.map_cons, rk_cons, rk_cons, rk_mapc hc l]
    congr 1
    by_cases q : y < c
    · rw [if_pos q, if_pos ((lw_cut hc).mpr q)]
    · rw [if_neg q, if_neg (fun z => q ((lw_cut hc).mp z))]
theorem rk_rg {m : Nat} {c : Int} (h0 : 0 ≤ c) (h1 : c ≤ m) : ((rk (rg m) c : Nat) : Int) = c := by
  obtain ⟨n, rfl⟩ := Int.eq_ofNat_of_zero_le h0
  have e : (rg m).filter (fun y => decide (y < ((n : Nat) : Int))) = rg n := up_one ((rg_up m).filter _) (rg_up n) fun k => by
    rw [List.mem_filter, rg_mem, rg_mem, decide_eq_true_eq]
    omega
  unfold rk
  rw [e, rg_len]
/-- the first words have the ranking -/
theorem rks_lw {rs : List Int} {m : Nat} {h c : Int} (hc : c ≤ h) (c0 : 0 ≤ c) (cm : c ≤ m) (is : IsRk rs m) : rks (rs.map (lw h c)) = rs ∧ ct (rs.map (lw h c)) h = c := by
  have e := srt_lw hc is
  refine ⟨?_, ?_⟩
  · unfold rks
    rw [e, List.map_map]
    have : ∀ r ∈ rs, ((fun x => ((rk ((rg m).map (lw h c)) x : Nat) : Int)) ∘ lw h c) r = r := fun r hr => by
      obtain ⟨r0, r1⟩ := (is r).mp hr
      show ((rk ((rg m).map (lw h c)) (lw h c r) : Nat) : Int) = r
      rw [rk_map hc]
      exact rk_rg r0 (by omega)
    rw [List.map_congr_left this, List.map_id']
  · unfold ct
    rw [e, rk_mapc hc]
    exact rk_rg c0 cm
/-- and no word is less than the first one of its rank -/
theorem lw_least {xs : List Int} {h x : Int} (h0 : 0 ≤ h) (w : ∀ x ∈ xs, 0 ≤ x) (hx : x ∈ xs) : lw h (ct xs h) ((rk (srt xs) x : Nat) : Int) ≤ x := by
  have nd := up_nodup (srt_up xs)
  have m := srt_mem.mpr hx
  have cc := rk_cut (h := h) m
  unfold lw ct
  split
  · rename_i c
    have e := few (a := 0) (b := x) (l := (srt xs).filter fun y => decide (y < x)) (nd.filter _) fun k hk => by
      obtain ⟨m, c⟩ := List.mem_filter.mp hk
      exact ⟨w k (srt_mem.mp m), of_decide_eq_true c⟩
    rw [if_pos (w x hx)] at e
    unfold rk
    omega
  · rename_i c
    have xh : h ≤ x := by
      refine Decidable.byContradiction fun n => c ?_
      have := cc.mp (by omega)
      omega
    have e := few (a := h) (b := x) (l := (srt xs).filter fun y => decide (y < x) && !decide (y < h)) (nd.filter _) fun k hk => by
      obtain ⟨m, c⟩ := List.mem_filter.mp hk
      obtain ⟨c1, c2⟩ := Bool.and_eq_true_iff.mp c
      have c3 : decide (k < h) = false := by simpa using c2
      have := of_decide_eq_false c3
      exact ⟨by omega, of_decide_eq_true c1⟩
    rw [if_pos xh] at e
    have split3 : ∀ l : List Int, rk l x = rk l h + (l.filter fun y => decide (y < x) && !decide (y < h)).length := fun l => by
      induction l with
      | nil => rfl
      | cons y l ih =>
        rw [rk_cons, rk_cons, ih, List.filter_cons]
        by_cases q1 : y < h
        · have q2 : y < x := by omega
          simp only [q1, q2, decide_true, Bool.not_true, Bool.and_false, if_true]
          simp
          omega
        · by_cases q2 : y < x
          · simp [q1, q2]
            omega
          · simp [q1, q2]
    have := split3 (srt xs)
    omega
theorem lex_le {e r : Nat → Bool} {z : Bool} (hz : z = true) (hr : ∀ i, r i = true) : ∀ (k i : Nat), Ob.lexAt e r z i k = true
  | 0, _ => hz
  | k + 1, i => by
    rw [Ob.lexAt_succ]
    split
    · exact lex_le hz hr k (i + 1)
    · exact hr i
/-- outcomes by ranks are those of the words -/
theorem ocut_rk {xs : List Int} {h x y : Int} (hx : x ∈ xs) (hy : y ∈ xs) : ocut (ct xs h) ((rk (srt xs) x : Nat) : Int) ((rk (srt xs) y : Nat) : Int) = ocut h x y := by
  have mx := srt_mem.mpr hx
  have my := srt_mem.mpr hy
  obtain ⟨i1, i2⟩ := rk_iff mx my
  have cx := rk_cut (h := h) mx
  have cy := rk_cut (h := h) my
  unfold ocut ct
  have d1 : decide ((rk (srt xs) x : Int) < (rk (srt xs) h : Int)) = decide (x < h) := decide_eq_decide.mpr (by omega)
  have d2 : decide ((rk (srt xs) y : Int) < (rk (srt xs) h : Int)) = decide (y < h) := decide_eq_decide.mpr (by omega)
  rw [d1, d2]
  by_cases c : x = y
  · rw [if_pos c, if_pos (by have := i2.mp c; omega)]
  · rw [if_neg c, if_neg (fun z => c (i2.mpr (by omega)))]
    by_cases l : x < y
    · rw [if_pos l, if_pos (show (rk (srt xs) x : Int) < (rk (srt xs) y : Int) by have := i1.mp l; omega)]
    · rw [if_neg l, if_neg (show ¬ (rk (srt xs) x : Int) < (rk (srt xs) y : Int) from fun z => l (i1.mpr (by omega)))]
end BR
namespace BR
open PySem PySem.Spec PyProof.Rows L2
/-! ### comprehensions that choose ints; a ranking in the heap -/
theorem filt_succ {p : Int → Bool} {xs : List Int} {i : Nat} {z : Int} (h : xs[i]? = some z) : (xs.take (i + 1)).filter p = (xs.take i).filter p ++ (if p z then [z] else []) := by
  have e : xs.take (i + 1) = xs.take i ++ [z] := by
    rw [List.take_add_one, h]
    rfl
  rw [e, List.filter_append]
  congr 1
  cases c : p z <;> simp [List.filter, c]
section
variable {K : PySem.W.Frag} {a : Addr} {xs : List Int} {j : Nat} {tt : TT} {te : TE} {vs : List Nat} {σ : L2.St} {H1 : Hp} {D : Addr} {Qd : Hp → Prop}
theorem lc_filtL (p : Int → Bool) (hL : SqL K H1 a (xs.map V.int)) (hz : xs.length ≤ 1000) (hD : H1 D = none)
    (hw : ∀ x : V, wipe ((wipe σ vs).set j (some x)) vs = wipe σ vs)
    (ht : ∀ (x : Int) (H2 : Hp) (Q : Bool → Hp → Prop), x ∈ xs → Same H1 H2 → (∀ H3, Same H2 H3 → Q (p x) H3) → tt ((wipe σ vs).set j (some (.int x))) H2 Q)
    (he : ∀ (x : Int) (H2 : Hp) (Q : VK), x ∈ xs → Same H1 H2 → Q (.int x) H2 → te ((wipe σ vs).set j (some (.int x))) H2 Q)
    (hd : ∀ H, Same H1 H → H D = some (.lst ((xs.filter p).map V.int)) → Qd H) :
    ∃ W : Nat → Nat → Hp → Prop, (∃ m, W 0 m (L2.upd H1 D (.lst []))) ∧ ∀ i m H, W i m H →
      ((Itl K a).stop i H ∧ Qd H) ∨ ((Itl K a).go i H ∧ ∃ Nx : Hp → Prop, (∀ H', Nx H' → ∃ m', m' < m ∧ W (i + 1) m' H') ∧ ∀ x H', (Itl K a).yld i H x H' → gName j x (wipe σ vs) H' fun σ2 H2 => wipe σ2 vs = wipe σ vs ∧ tt σ2 H2 fun b H3 =>
        if b = true then te σ2 H3 fun y H4 => ∃ acc, H4 D = some (.lst acc) ∧ acc.length < sizeLine ∧ Nx (L2.upd H4 D (.lst (acc ++ [y]))) else Nx H3) := by
  refine lc_list (xs := xs.map V.int) (fun i H => Same H1 H ∧ H D = some (.lst (((xs.take i).filter p).map V.int))) ⟨sameNew hD, upd_same⟩ (fun i H _ q => q.1.seq hL) ?_ ?_
  · rintro i x H hx ⟨s, hH⟩
    obtain ⟨z, hz1, rfl⟩ := map_at hx
    have mem := List.mem_of_getElem? hz1
    refine ⟨hw _, ?_⟩
    refine ht z H _ mem s fun H3 s3 => ?_
    have step := filt_succ (p := p) hz1
    cases c : p z with
    | false =>
      rw [c] at step
      refine tF rfl ⟨s.trans s3, ?_⟩
      rw [step]
      simpa using s3 _ _ hH
    | true =>
      rw [c] at step
      refine tT rfl (he z H3 _ mem (s.trans s3) ⟨_, s3 _ _ hH, small1000 ?_, sameUp (s.trans s3) hD, ?_⟩)
      · have l1 := List.length_filter_le p (xs.take i)
        rw [List.length_take] at l1
        rw [List.length_map]
        omega
      · rw [upd_same, step, List.map_append]
        rfl
  · rintro H ⟨s, hH⟩
    rw [List.length_map, List.take_length] at hH
    exact hd H s hH
theorem lc_filtT (p : Int → Bool) (hL : SqT K H1 a (xs.map V.int)) (hz : xs.length ≤ 1000) (hD : H1 D = none)
    (hw : ∀ x : V, wipe ((wipe σ vs).set j (some x)) vs = wipe σ vs)
    (ht : ∀ (x : Int) (H2 : Hp) (Q : Bool → Hp → Prop), x ∈ xs → Same H1 H2 → (∀ H3, Same H2 H3 → Q (p x) H3) → tt ((wipe σ vs).set j (some (.int x))) H2 Q)
    (he : ∀ (x : Int) (H2 : Hp) (Q : VK), x ∈ xs → Same H1 H2 → Q (.int x) H2 → te ((wipe σ vs).set j (some (.int x))) H2 Q)
    (hd : ∀ H, Same H1 H → H D = some (.lst ((xs.filter p).map V.int)) → Qd H) :
    ∃ W : Nat → Nat → Hp → Prop, (∃ m, W 0 m (L2.upd H1 D (.lst []))) ∧ ∀ i m H, W i m H →
      ((Itt K a).stop i H ∧ Qd H) ∨ ((Itt K a).go i H ∧ ∃ Nx : Hp → Prop, (∀ H', Nx H' → ∃ m', m' < m ∧ W (i + 1) m' H') ∧ ∀ x H', (Itt K a).yld i H x H' → gName j x (wipe σ vs) H' fun σ2 H2 => wipe σ2 vs = wipe σ vs ∧ tt σ2 H2 fun b H3 =>
        if b = true then te σ2 H3 fun y H4 => ∃ acc, H4 D = some (.lst acc) ∧ acc.length < sizeLine ∧ Nx (L2.upd H4 D (.lst (acc ++ [y]))) else Nx H3) := by
  refine lc_tup (xs := xs.map V.int) (fun i H => Same H1 H ∧ H D = some (.lst (((xs.take i).filter p).map V.int))) ⟨sameNew hD, upd_same⟩ (fun i H _ q => sameT q.1 hL) ?_ ?_
  · rintro i x H hx ⟨s, hH⟩
    obtain ⟨z, hz1, rfl⟩ := map_at hx
    have mem := List.mem_of_getElem? hz1
    refine ⟨hw _, ?_⟩
    refine ht z H _ mem s fun H3 s3 => ?_
    have step := filt_succ (p := p) hz1
    cases c : p z with
    | false =>
      rw [c] at step
      refine tF rfl ⟨s.trans s3, ?_⟩
      rw [step]
      simpa using s3 _ _ hH
    | true =>
      rw [c] at step
      refine tT rfl (he z H3 _ mem (s.trans s3) ⟨_, s3 _ _ hH, small1000 ?_, sameUp (s.trans s3) hD, ?_⟩)
      · have l1 := List.length_filter_le p (xs.take i)
        rw [List.length_take] at l1
        rw [List.length_map]
        omega
      · rw [upd_same, step, List.map_append]
        rfl
  · rintro H ⟨s, hH⟩
    rw [List.length_map, List.take_length] at hH
    exact hd H s hH
end
/-- a ranking (ranks, cut) stands at q -/
def RkAt (H : Hp) (q rt : Addr) (rs : List Int) (c : Int) : Prop := H q = some (.tup [.ref rt, .int c]) ∧ H rt = some (.tup (rs.map V.int))
theorem RkAt.same {H H' : Hp} {q rt : Addr} {rs : List Int} {c : Int} (h : RkAt H q rt rs c) (s : Same H H') : RkAt H' q rt rs c := ⟨s _ _ h.1, s _ _ h.2⟩
theorem rgV_rg (m : Nat) : rgV 0 (m : Int) = (rg m).map V.int := by
  unfold rgV rg
  rw [List.map_map]
  have : ((m : Int) - 0).toNat = m := by omega
  rw [this]
  apply List.map_congr_left
  intro i _
  show V.int (0 + (i : Int)) = V.int (i : Int)
  rw [Int.zero_add]
theorem srt_len : ∀ l : List Int, (srt l).length ≤ l.length
  | [] => Nat.le_refl _
  | x :: l => by
    have h : ∀ (x : Int) (l : List Int), (ins1 x l).length ≤ l.length + 1 := by
      intro x l
      induction l with
      | nil => exact Nat.le_refl _
      | cons y l ih =>
        unfold ins1
        split
        · exact Nat.le_refl _
        · split
          · exact Nat.le_succ _
          · exact Nat.succ_le_succ ih
    exact Nat.le_trans (h x (srt l)) (Nat.succ_le_succ (srt_len l))
/-- a ranking as data -/
def rkD (rs : List Int) (c : Int) : PyData := .tuple [.tuple (rs.map PyData.int), .int c]
theorem RkAt.dp {K : PySem.W.Frag} {H : Hp} {q rt : Addr} {rs : List Int} {c : Int} (h : RkAt H q rt rs c) : Dp K H (.ref q) (rkD rs c) := .tup (SqT.of h.1) (.cons (.tup (SqT.of h.2) (ints_all rs)) (.cons (.int c) .nil))
theorem rkD_ok {rs : List Int} {c : Int} (hr : ∀ r ∈ rs, 0 ≤ r ∧ r < 2 ^ 300) (hc : 0 ≤ c ∧ c < 2 ^ 300) (hz : rs.length ≤ 10) :
    SeqAt.shaped (rkD rs c) = true ∧ (PyData.list [rkD rs c, rkD rs c]).showable = true ∧ (PyData.list [rkD rs c, rkD rs c]).hasDict = false ∧ (PyData.list [rkD rs c, rkD rs c]).depth ≤ 60 ∧ (PyData.list [rkD rs c, rkD rs c]).shown.length ≤ sizeLine := by
  obtain ⟨h1, h2, h3, h4⟩ := ints_show hr
  obtain ⟨g1, g2, g3, g4⟩ := ints_show (ys := [c]) fun y hy => by
    obtain rfl := List.mem_singleton.mp hy
    exact hc
  obtain ⟨l1, l2⟩ := ints_lay rs
  have ic1 : (PyData.int c).showable = true := by simpa [PyData.showableAll] using g1
  have ic3 : (PyData.int c).leavesShort 301 = true := by simpa [PyData.leavesShortAll] using g3
  have ic4 : (PyData.int c).weight + 1 + 0 ≤ 301 * 1 := g4
  refine ⟨?_, ?_, ?_, ?_, ?_⟩
  · unfold SeqAt.shaped
    show ((PyData.canLayAll0 (rs.map PyData.int) && (true && true)) && decide (max (PyData.depthAll (rs.map PyData.int) + 1) (max 0 0) + 1 ≤ 64)) = true
    rw [l1, l2]
    rfl
  · show ((PyData.showableAll (rs.map PyData.int) && ((PyData.int c).showable && true)) && ((PyData.showableAll (rs.map PyData.int) && ((PyData.int c).showable && true)) && true)) = true
    rw [h1, ic1]
    rfl
  · show ((PyData.hasDictAll (rs.map PyData.int) || (false || false)) || ((PyData.hasDictAll (rs.map PyData.int) || (false || false)) || false)) = false
    rw [h2]
    rfl
  · show max (max (PyData.depthAll (rs.map PyData.int) + 1) (max 0 0) + 1) (max (max (PyData.depthAll (rs.map PyData.int) + 1) (max 0 0) + 1) 0) + 1 ≤ 60
    rw [l2]
    decide
  · have e := PyData.shown_le 301 (by decide) (.list [rkD rs c, rkD rs c]) (by
      show ((PyData.leavesShortAll 301 (rs.map PyData.int) && ((PyData.int c).leavesShort 301 && true)) && ((PyData.leavesShortAll 301 (rs.map PyData.int) && ((PyData.int c).leavesShort 301 && true)) && true)) = true
      rw [h3, ic3]
      rfl)
    have w : (PyData.list [rkD rs c, rkD rs c]).weight ≤ 8000 := by
      show (PyData.weightAll (rs.map PyData.int) + 1 + ((PyData.int c).weight + 1 + 0)) + 1 + ((PyData.weightAll (rs.map PyData.int) + 1 + ((PyData.int c).weight + 1 + 0)) + 1 + 0) ≤ 8000
      omega
    have : (301 + 2) * (PyData.list [rkD rs c, rkD rs c]).weight ≤ (301 + 2) * 8000 := Nat.mul_le_mul_left _ w
    exact Nat.le_trans e (Nat.le_trans (Nat.add_le_add_right this _) (by decide))
end BR

/-! ### walks whatever the turn does; max of a tuple; comb -/
namespace BR
open PySem PySem.Spec PyProof.Rows L2
section
variable {K : PySem.W.Frag} {H0 : Hp} {Qd : Hp → Prop} {B : V → Hp → (Hp → Prop) → Prop}
theorem itl_by {a : Addr} {xs : List V} (Pv : Nat → Hp → Prop) (h0 : Pv 0 H0) (hl : ∀ i H, i ≤ xs.length → Pv i H → SqL K H a xs) (hs : ∀ i x H, xs[i]? = some x → Pv i H → B x H (Pv (i + 1))) (hd : ∀ H, Pv xs.length H → Qd H) :
    ∃ W : Nat → Nat → Hp → Prop, (∃ m, W 0 m H0) ∧ ∀ i m H, W i m H → ((Itl K a).stop i H ∧ Qd H) ∨ ((Itl K a).go i H ∧ ∃ Nx : Hp → Prop, (∀ H', Nx H' → ∃ m', m' < m ∧ W (i + 1) m' H') ∧ ∀ x H', (Itl K a).yld i H x H' → B x H' Nx) := by
  refine ⟨fun i m H => m = xs.length - i ∧ i ≤ xs.length ∧ Pv i H, ⟨xs.length, by simp, Nat.zero_le _, h0⟩, fun i m H => ?_⟩
  rintro ⟨rfl, hi, p⟩
  have q := hl i H hi p
  rcases Nat.lt_or_eq_of_le hi with c | c
  · refine .inr ⟨⟨xs, xs[i], q, by simp [c]⟩, Pv (i + 1), fun H' p' => ⟨xs.length - (i + 1), by omega, rfl, c, p'⟩, fun x H' y => ?_⟩
    obtain ⟨e, y⟩ := y
    subst e
    exact hs i x _ (y xs q) p
  · subst c
    exact .inl ⟨⟨xs, q, Nat.le_refl _⟩, hd H p⟩
theorem itt_by {a : Addr} {xs : List V} (Pv : Nat → Hp → Prop) (h0 : Pv 0 H0) (hl : ∀ i H, i ≤ xs.length → Pv i H → SqT K H a xs) (hs : ∀ i x H, xs[i]? = some x → Pv i H → B x H (Pv (i + 1))) (hd : ∀ H, Pv xs.length H → Qd H) :
    ∃ W : Nat → Nat → Hp → Prop, (∃ m, W 0 m H0) ∧ ∀ i m H, W i m H → ((Itt K a).stop i H ∧ Qd H) ∨ ((Itt K a).go i H ∧ ∃ Nx : Hp → Prop, (∀ H', Nx H' → ∃ m', m' < m ∧ W (i + 1) m' H') ∧ ∀ x H', (Itt K a).yld i H x H' → B x H' Nx) := by
  refine ⟨fun i m H => m = xs.length - i ∧ i ≤ xs.length ∧ Pv i H, ⟨xs.length, by simp, Nat.zero_le _, h0⟩, fun i m H => ?_⟩
  rintro ⟨rfl, hi, p⟩
  have q := hl i H hi p
  rcases Nat.lt_or_eq_of_le hi with c | c
  · refine .inr ⟨⟨xs, xs[i], q, by simp [c]⟩, Pv (i + 1), fun H' p' => ⟨xs.length - (i + 1), by omega, rfl, c, p'⟩, fun x H' y => ?_⟩
    obtain ⟨e, y⟩ := y
    subst e
    exact hs i x _ (y xs q) p
  · subst c
    exact .inl ⟨⟨xs, q, Nat.le_refl _⟩, hd H p⟩
theorem itr_by {lo : Int} {n : Nat} (Pv : Nat → Hp → Prop) (h0 : Pv 0 H0) (hs : ∀ i H, i < n → Pv i H → B (.int (lo + i)) H (Pv (i + 1))) (hd : ∀ H, Pv n H → Qd H) :
    ∃ W : Nat → Nat → Hp → Prop, (∃ m, W 0 m H0) ∧ ∀ i m H, W i m H → ((Itr lo n).stop i H ∧ Qd H) ∨ ((Itr lo n).go i H ∧ ∃ Nx : Hp → Prop, (∀ H', Nx H' → ∃ m', m' < m ∧ W (i + 1) m' H') ∧ ∀ x H', (Itr lo n).yld i H x H' → B x H' Nx) := by
  refine ⟨fun i m H => m = n - i ∧ i ≤ n ∧ Pv i H, ⟨n, by simp, Nat.zero_le _, h0⟩, fun i m H => ?_⟩
  rintro ⟨rfl, hi, p⟩
  rcases Nat.lt_or_eq_of_le hi with c | c
  · refine .inr ⟨c, Pv (i + 1), fun H' p' => ⟨n - (i + 1), by omega, rfl, c, p'⟩, fun x H' y => ?_⟩
    obtain ⟨e, y⟩ := y
    subst e y
    exact hs i _ c p
  · subst c
    exact .inl ⟨Nat.le_refl _, hd H p⟩
end
theorem small9000 {n : Nat} (h : n ≤ 9000) : n < sizeLine := by rw [sizeLine_eq]; omega
/-- the greatest of ints -/
def mx : List Int → Int
  | [] => 0
  | x :: xs => xs.foldl (fun a y => if a < y then y else a) x
theorem mx_fold : ∀ (xs : List Int) (x : Int), (x :: xs).foldl (fun a y => if a < y then y else a) x = xs.foldl (fun a y => if a < y then y else a) x := fun xs x => by
  rw [List.foldl_cons, if_neg (Int.lt_irrefl _)]
section
variable {X : Cx}
def rMaxT (K : PySem.W.Frag) : List V → Hp → VK → Prop := fun xs H Q => ∃ (a : Addr) (ns : List Int), xs = [.ref a] ∧ SqT K H a (ns.map V.int) ∧ ns ≠ [] ∧ Q (.int (mx ns)) H
theorem cr_maxT (hc : X.calm = true) (hu : X.A.units + 64 < cLine) : CallR X (.builtin "max") (rMaxT X.K) := by
  intro pins s σ H xs us Q I r h
  obtain ⟨a, ns, rfl, hq, hne, q⟩ := h
  rw [Vals.ref1 r]
  obtain ⟨its, rv, pt, _⟩ := I.tuple hq
  cases ns with
  | nil => exact absurd rfl hne
  | cons x xs =>
    obtain ⟨as, ra⟩ := Dp.readsAll I ((x :: xs).map PyData.int) _ _ (ints_all (x :: xs)) rv
    have al : ∀ d ∈ (x :: xs).map PyData.int, ∃ i, d = .int i := fun d hd => by
      obtain ⟨i, _, e⟩ := List.mem_map.mp hd
      exact ⟨i, e.symm⟩
    refine PySem.W.max_tuple_data (x := .int x) (xs := xs.map .int) (I.ok.hd hc) (show s.heap.IsTuple a its.toArray from pt) (by simpa using ra) ⟨fun d hd e he => ?_, fun d hd => ?_⟩ (by show X.A.units + 1 + PyData.depthAll ((x :: xs).map PyData.int) < cLine; rw [(ints_lay (x :: xs)).2]; omega) fun k v h' tk bs _ hr hk => ?_
    · obtain ⟨i, rfl⟩ := al d hd
      obtain ⟨j, rfl⟩ := al e he
      rfl
    · obtain ⟨i, rfl⟩ := al d hd
      exact fun z => nomatch z
    · have e : ∀ (ys : List Int) (z : Int), PySem.W.maxD (.int z) (ys.map PyData.int) = .int (ys.foldl (fun a y => if a < y then y else a) z) := by
        intro ys
        induction ys with
        | nil => exact fun z => rfl
        | cons y ys ih =>
          intro z
          have st : PySem.W.maxD (.int z) ((y :: ys).map PyData.int) = PySem.W.maxD (if PySem.W.dataLt (.int z) (.int y) then .int y else .int z) (ys.map PyData.int) := rfl
          rw [st, PySem.W.dataLt_int, List.foldl_cons]
          by_cases c : z < y
          · rw [if_pos (decide_eq_true c), if_pos c, ih]
          · rw [if_neg (fun q => c (of_decide_eq_true q)), if_neg c, ih]
      rw [e] at hr
      cases hr
      exact ⟨.int _, H, I.kept (t' := tk) hk, ⟨_, rfl⟩, q⟩
def rLenSq (K : PySem.W.Frag) : List V → Hp → VK → Prop := fun xs H Q => ∃ p ys, xs = [.ref p] ∧ (SqL K H p ys ∨ SqT K H p ys) ∧ Q (.int ys.length) H
theorem cr_lenSq : CallR X (.builtin "len") (rLenSq X.K) := call_len_seq
def rTupOf (K : PySem.W.Frag) : List V → Hp → VK → Prop := fun xs H Q => ∃ p ys, xs = [.ref p] ∧ ((SqL K H p ys ∧ ∀ l, H l = none → Q (.ref l) (L2.upd H l (.tup ys))) ∨ (SqT K H p ys ∧ Q (.ref p) H))
theorem cr_tupOf : CallR X (.type "tuple") (rTupOf X.K) := call_tuple_of
/-- comb(n, k), n below 2^300, k at most 5 -/
def cmb (n : Int) (k : Int) : Int := if n < k then 0 else Builtin.Math.fallingProduct n (min k (n - k)).toNat / Builtin.Math.fallingProduct (min k (n - k)) (min k (n - k)).toNat
theorem cr_comb : CallR X (.builtin "math.comb") (fun xs H Q => ∃ n k : Int, xs = [.int n, .int k] ∧ 0 ≤ n ∧ 0 ≤ k ∧ k ≤ 9000 ∧ (n < k ∨ (Builtin.Math.fallingProduct n (min k (n - k)).toNat / Builtin.Math.fallingProduct (min k (n - k)) (min k (n - k)).toNat).natAbs.log2 < bitsLine) ∧ Q (.int (cmb n k)) H) := by
  intro pins s σ H xs us Q I r h
  obtain ⟨n, k, rfl, n0, k0, k9, sz, q⟩ := h
  obtain ⟨t, u, rfl⟩ := Vals.int2 r
  unfold cmb at q
  by_cases c : n < k
  · rw [if_pos c] at q
    exact call_function_meets PySem.W.MGF.kind_comb PySem.W.MGF.plain_comb PySem.W.MGF.entry_comb (PySem.W.MGF.args_comb _ _) (PySem.W.mc_run_comb0 n t k u (by omega) (by omega) c).meets ⟨.int 0, H, I.tok _, ⟨_, rfl⟩, q⟩
  · rw [if_neg c] at q
    have z := sz.resolve_left c
    refine call_function_meets PySem.W.MGF.kind_comb PySem.W.MGF.plain_comb PySem.W.MGF.entry_comb (PySem.W.MGF.args_comb _ _) (PySem.W.mc_run_comb n t k u (by omega) (by omega) (by omega) ?_ ?_ (by omega) z).meets ⟨.int _, H, I.tok _, ⟨_, rfl⟩, q⟩
    · have : (9000 : Int) < Builtin.Math.maxSsize := by decide +kernel
      omega
    · have : (9000 : Int) ≤ Builtin.Math.manyFactors := by decide +kernel
      omega
end
end BR

/-! ### all rankings -/
namespace BR
open PySem PySem.Spec PyProof.Rows L2
def gapsI (r : List Int) : Int := mx r + 1 - ((srt r).length : Int)
def addR (n : Nat) (r : List Int) : List (List Int) := (List.range n).map fun x => r ++ [((x : Nat) : Int)]
def keepR (n : Nat) (r : List Int) : Bool := decide (gapsI r ≤ (n : Int) - (r.length : Int))
def rowsR (n : Nat) : Nat → List (List Int)
  | 0 => [[]]
  | k + 1 => ((rowsR n k).flatMap (addR n)).filter (keepR n)
def cutsR (r : List Int) : List (List Int × Int) := (List.range (mx r + 2).toNat).map fun c => (r, ((c : Nat) : Int))
def allRk (n : Nat) : List (List Int × Int) := (rowsR n n).flatMap cutsR
def okRk (n : Nat) (p : List Int × Int) : Bool := decide (p.1.length = n) && decide (srt p.1 = rg (srt p.1).length) && decide (0 ≤ p.2) && decide (p.2 ≤ ((srt p.1).length : Int))
theorem rows_small : ∀ n ∈ ([1, 2, 3, 4, 5] : List Nat), ∀ k ∈ List.range n, (rowsR n k).length ≤ 700 ∧ ∀ r ∈ rowsR n k, r.length = k := by decide +kernel
theorem rows_last : ∀ n ∈ ([1, 2, 3, 4, 5] : List Nat), (rowsR n n).length ≤ 700 ∧ (∀ r ∈ rowsR n n, r.length = n ∧ 0 ≤ mx r ∧ mx r ≤ 4) := by decide +kernel
theorem all_len : [1, 2, 3, 4, 5].map (fun n => (allRk n).length) = [2, 8, 44, 308, 2612] := by decide +kernel
theorem all_ok : ∀ n ∈ ([1, 2, 3, 4, 5] : List Nat), (allRk n).all (okRk n) = true := by decide +kernel
theorem five {n : Nat} (h1 : 1 ≤ n) (h2 : n ≤ 5) : n ∈ ([1, 2, 3, 4, 5] : List Nat) := by
  have : n = 1 ∨ n = 2 ∨ n = 3 ∨ n = 4 ∨ n = 5 := by omega
  simpa using this
theorem flat_len {α β : Type} {f : α → List β} {m : Nat} : ∀ {l : List α}, (∀ x ∈ l, (f x).length ≤ m) → (l.flatMap f).length ≤ l.length * m
  | [], _ => Nat.zero_le _
  | x :: l, h => by
    rw [List.flatMap_cons, List.length_append, List.length_cons, Nat.succ_mul]
    have a := h x List.mem_cons_self
    have b := flat_len (f := f) (m := m) (l := l) fun y hy => h y (List.mem_cons_of_mem _ hy)
    omega
/-- refs to tuples of ints -/
def TL (H : Hp) (as : List Addr) (rows : List (List Int)) : Prop := Paired (fun a row => H a = some (.tup (row.map V.int))) as rows
theorem pr_mono {α β : Type} {R S : α → β → Prop} : ∀ {as : List α} {bs : List β}, Paired R as bs → (∀ a b, R a b → S a b) → Paired S as bs
  | _, _, .nil, _ => .nil
  | _, _, .cons h t, m => .cons (m _ _ h) (pr_mono t m)
theorem pr_snoc {α β : Type} {R : α → β → Prop} {a : α} {b : β} : ∀ {as : List α} {bs : List β}, Paired R as bs → R a b → Paired R (as ++ [a]) (bs ++ [b])
  | _, _, .nil, r => .cons r .nil
  | _, _, .cons h t, r => .cons h (pr_snoc t r)
theorem pr_len {α β : Type} {R : α → β → Prop} : ∀ {as : List α} {bs : List β}, Paired R as bs → as.length = bs.length
  | _, _, .nil => rfl
  | _, _, .cons _ t => congrArg Nat.succ (pr_len t)
theorem pr_at {α β : Type} {R : α → β → Prop} : ∀ {as : List α} {bs : List β}, Paired R as bs → ∀ {i : Nat} {a : α}, as[i]? = some a → ∃ b, bs[i]? = some b ∧ R a b
  | _, _, .cons h t, 0, a, e => by
    cases e
    exact ⟨_, rfl, h⟩
  | _, _, .cons h t, i + 1, a, e => pr_at t (i := i) e
theorem pr_at2 {α β : Type} {R : α → β → Prop} : ∀ {as : List α} {bs : List β}, Paired R as bs → ∀ {i : Nat} {b : β}, bs[i]? = some b → ∃ a, as[i]? = some a ∧ R a b
  | _, _, .cons h t, 0, a, e => by
    cases e
    exact ⟨_, rfl, h⟩
  | _, _, .cons h t, i + 1, a, e => pr_at2 t (i := i) e
theorem TL.same {H H' : Hp} {as : List Addr} {rows : List (List Int)} (h : TL H as rows) (s : Same H H') : TL H' as rows := pr_mono h fun a r e => s _ _ e
theorem TL.put {H : Hp} {as : List Addr} {rows : List (List Int)} {D : Addr} {xs : List V} {o : HO} (h : TL H as rows) (e : H D = some (.lst xs)) : TL (L2.upd H D o) as rows := pr_mono h fun a r q => by
  rw [upd_ne (fun z => by rw [z, e] at q; cases q)]
  exact q
/-- refs to rankings -/
def RL (H : Hp) (qs : List Addr) (ps : List (List Int × Int)) : Prop := Paired (fun q p => ∃ rt, RkAt H q rt p.1 p.2) qs ps
theorem RL.same {H H' : Hp} {qs : List Addr} {ps : List (List Int × Int)} (h : RL H qs ps) (s : Same H H') : RL H' qs ps := pr_mono h fun q p e => let ⟨rt, r⟩ := e; ⟨rt, r.same s⟩
theorem RL.put {H : Hp} {qs : List Addr} {ps : List (List Int × Int)} {D : Addr} {xs : List V} {o : HO} (h : RL H qs ps) (e : H D = some (.lst xs)) : RL (L2.upd H D o) qs ps := pr_mono h fun q p r => by
  obtain ⟨rt, r1, r2⟩ := r
  exact ⟨rt, by rw [upd_ne (fun z => by rw [z, e] at r1; cases r1)]; exact r1, by rw [upd_ne (fun z => by rw [z, e] at r2; cases r2)]; exact r2⟩
theorem mapR_at {as : List Addr} {i : Nat} {x : V} (h : (as.map V.ref)[i]? = some x) : ∃ a, as[i]? = some a ∧ x = .ref a := by
  rw [List.getElem?_map] at h
  cases e : as[i]? with
  | none =>
    rw [e] at h
    cases h
  | some a =>
    rw [e] at h
    cases h
    exact ⟨a, rfl, rfl⟩
theorem flat_take {α β : Type} {f : α → List β} {l : List α} {i : Nat} {x : α} (h : l[i]? = some x) : (l.take (i + 1)).flatMap f = (l.take i).flatMap f ++ f x := by
  rw [List.take_add_one, h, List.flatMap_append]
  simp
theorem addR_take {n j : Nat} {r : List Int} (h : j < n) : (addR n r).take (j + 1) = (addR n r).take j ++ [r ++ [((j : Nat) : Int)]] := by
  have e : (addR n r)[j]? = some (r ++ [((j : Nat) : Int)]) := by
    unfold addR
    rw [List.getElem?_map, List.getElem?_range h]
    rfl
  rw [List.take_add_one, e]
  rfl
theorem cutsR_take {j : Nat} {r : List Int} (h : j < (mx r + 2).toNat) : (cutsR r).take (j + 1) = (cutsR r).take j ++ [(r, ((j : Nat) : Int))] := by
  have e : (cutsR r)[j]? = some (r, ((j : Nat) : Int)) := by
    unfold cutsR
    rw [List.getElem?_map, List.getElem?_range h]
    rfl
  rw [List.take_add_one, e]
  rfl
end BR

/-! ### words counted; words turned; outcomes tell rankings -/
namespace BR
open PySem PySem.Spec PyProof.Rows L2
theorem cmb_small : ∀ n ∈ List.range 8, ∀ k ∈ List.range 5, (k = 0 → cmb (n : Int) k = 1) ∧ (k = 1 → cmb (n : Int) k = n) ∧ (k = 2 → 2 * cmb (n : Int) k = (n : Int) * ((n : Int) - 1)) ∧ (k = 3 → 6 * cmb (n : Int) k = (n : Int) * ((n : Int) - 1) * ((n : Int) - 2)) ∧ (k = 4 → 24 * cmb (n : Int) k = (n : Int) * ((n : Int) - 1) * ((n : Int) - 2) * ((n : Int) - 3)) := by decide +kernel
theorem fall_nn {n : Int} (k : Nat) (h : (k : Int) ≤ n) : 0 ≤ Builtin.Math.fallingProduct n k := by
  induction k with
  | zero => exact (by decide : (0 : Int) ≤ 1)
  | succ k ih =>
    unfold Builtin.Math.fallingProduct at ih ⊢
    rw [List.range_succ, List.foldl_append]
    exact Int.mul_nonneg (ih (by omega)) (by omega)
theorem cmb_polys {n : Int} (h : 0 ≤ n) : cmb n 0 = 1 ∧ cmb n 1 = n ∧ 2 * cmb n 2 = n * (n - 1) ∧ 6 * cmb n 3 = n * (n - 1) * (n - 2) ∧ 24 * cmb n 4 = n * (n - 1) * (n - 2) * (n - 3) := by
  by_cases c : n < 8
  · obtain ⟨a, rfl⟩ := Int.eq_ofNat_of_zero_le h
    have s := cmb_small a (List.mem_range.mpr (by omega))
    exact ⟨(s 0 (by decide)).1 rfl, (s 1 (by decide)).2.1 rfl, (s 2 (by decide)).2.2.1 rfl, (s 3 (by decide)).2.2.2.1 rfl, (s 4 (by decide)).2.2.2.2 rfl⟩
  · have e : ∀ k : Nat, k ≤ 4 → cmb n (k : Int) = Builtin.Math.fallingProduct n k / Builtin.Math.fallingProduct (k : Int) k := fun k hk => by
      unfold cmb
      rw [if_neg (by omega)]
      have m : min (k : Int) (n - k) = (k : Int) := by omega
      rw [m]
      rfl
    have f0 : cmb n 0 = 1 := by rw [show (0 : Int) = ((0 : Nat) : Int) from rfl, e 0 (by decide)]; rfl
    have f1 : cmb n 1 = n := by
      rw [show (1 : Int) = ((1 : Nat) : Int) from rfl, e 1 (by decide)]
      show (1 * (n - 0)) / 1 = n
      omega
    have f2 : cmb n 2 = (1 * (n - 0) * (n - 1)) / 2 := by rw [show (2 : Int) = ((2 : Nat) : Int) from rfl, e 2 (by decide)]; rfl
    have f3 : cmb n 3 = (1 * (n - 0) * (n - 1) * (n - 2)) / 6 := by rw [show (3 : Int) = ((3 : Nat) : Int) from rfl, e 3 (by decide)]; rfl
    have f4 : cmb n 4 = (1 * (n - 0) * (n - 1) * (n - 2) * (n - 3)) / 24 := by rw [show (4 : Int) = ((4 : Nat) : Int) from rfl, e 4 (by decide)]; rfl
    have d2 : (n * (n - 1)) % 2 = 0 := by
      have : n % 2 = 0 ∨ n % 2 = 1 := by omega
      rcases this with h | h <;> simp [Int.mul_emod, Int.sub_emod, h]
    have d3 : (n * (n - 1) * (n - 2)) % 6 = 0 := by
      have : n % 6 = 0 ∨ n % 6 = 1 ∨ n % 6 = 2 ∨ n % 6 = 3 ∨ n % 6 = 4 ∨ n % 6 = 5 := by omega
      rcases this with h | h | h | h | h | h <;> simp [Int.mul_emod, Int.sub_emod, h]
    have d4 : (n * (n - 1) * (n - 2) * (n - 3)) % 24 = 0 := by
      have : n % 24 = 0 ∨ n % 24 = 1 ∨ n % 24 = 2 ∨ n % 24 = 3 ∨ n % 24 = 4 ∨ n % 24 = 5 ∨ n % 24 = 6 ∨ n % 24 = 7 ∨ n % 24 = 8 ∨ n % 24 = 9 ∨ n % 24 = 10 ∨ n % 24 = 11 ∨ n % 24 = 12 ∨ n % 24 = 13 ∨ n % 24 = 14 ∨ n % 24 = 15 ∨ n % 24 = 16 ∨ n % 24 = 17 ∨ n % 24 = 18 ∨ n % 24 = 19 ∨ n % 24 = 20 ∨ n % 24 = 21 ∨ n % 24 = 22 ∨ n % 24 = 23 := by omega
      rcases this with h | h | h | h | h | h | h | h | h | h | h | h | h | h | h | h | h | h | h | h | h | h | h | h <;> simp [Int.mul_emod, Int.sub_emod, h]
    rw [Int.one_mul, Int.sub_zero] at f2 f3 f4
    refine ⟨f0, f1, ?_, ?_, ?_⟩
    · rw [f2]
      generalize n * (n - 1) = z at d2
      omega
    · rw [f3]
      generalize n * (n - 1) * (n - 2) = z at d3
      omega
    · rw [f4]
      generalize n * (n - 1) * (n - 2) * (n - 3) = z at d4
      omega
/-- how many words a ranking has -/
def wordsOf (h : Int) (p : List Int × Int) : Int := cmb h p.2 * cmb h (((srt p.1).length : Int) - p.2)
def shape (p : List Int × Int) : Nat × Nat := (p.2.toNat, (((srt p.1).length : Int) - p.2).toNat)
def cnt {α : Type} [DecidableEq α] (l : List α) (x : α) : Nat := l.count x
theorem sum_count {α : Type} [DecidableEq α] (f : α → Int) : ∀ (l s : List α), s.Nodup → (∀ x ∈ l, x ∈ s) → (l.map f).sum = (s.map fun x => ((cnt l x : Nat) : Int) * f x).sum
  | [], s, _, _ => by
    have : (s.map fun x => ((cnt ([] : List α) x : Nat) : Int) * f x) = s.map fun _ => (0 : Int) := List.map_congr_left fun x _ => by simp [cnt]
    rw [this]
    have z : ∀ s : List α, (s.map fun _ => (0 : Int)).sum = 0 := fun s => by
      induction s with
      | nil => rfl
      | cons x s ih => rw [List.map_cons, List.sum_cons, ih]; rfl
    rw [z]
    rfl
  | y :: l, s, nd, h => by
    have ih := sum_count f l s nd fun x hx => h x (List.mem_cons_of_mem _ hx)
    have my := h y List.mem_cons_self
    rw [List.map_cons, List.sum_cons, ih]
    have g : ∀ (t : List α), t.Nodup → (t.map fun x => ((cnt (y :: l) x : Nat) : Int) * f x).sum = (if y ∈ t then f y else 0) + (t.map fun x => ((cnt l x : Nat) : Int) * f x).sum := by
      unfold cnt
      intro t
      induction t with
      | nil => intro _; rfl
      | cons x t iht =>
        intro ndt
        obtain ⟨nx, nt⟩ := List.nodup_cons.mp ndt
        rw [List.map_cons, List.sum_cons, List.map_cons, List.sum_cons, iht nt]
        by_cases e : y = x
        · subst e
          rw [if_neg nx, if_pos List.mem_cons_self, List.count_cons_self]
          have : (((l.count y + 1 : Nat) : Int)) * f y = f y + ((l.count y : Nat) : Int) * f y := by
            rw [Int.natCast_add, Int.add_mul]
            omega
          rw [this]
          omega
        · rw [List.count_cons_of_ne e]
          have m : (y ∈ x :: t) ↔ y ∈ t := by simp [e]
          by_cases q : y ∈ t
          · rw [if_pos q, if_pos (m.mpr q)]
            omega
          · rw [if_neg q, if_neg (fun z => q (m.mp z))]
            omega
    rw [g s nd, if_pos my]
theorem words_shape (h : Int) (p : List Int × Int) (c0 : 0 ≤ p.2) (cm : p.2 ≤ ((srt p.1).length : Int)) : wordsOf h p = cmb h ((shape p).1 : Int) * cmb h ((shape p).2 : Int) := by
  unfold wordsOf shape
  rw [Int.toNat_of_nonneg c0, Int.toNat_of_nonneg (by omega)]
def keys (n : Nat) : List (Nat × Nat) := (List.range (n + 1)).flatMap fun i => (List.range (n + 1 - i)).map fun j => (i, j)
theorem shape_in : ∀ n ∈ ([1, 2, 3, 4] : List Nat), (keys n).Nodup ∧ ∀ x ∈ (allRk n).map shape, x ∈ keys n := by decide +kernel
theorem ok_at {n : Nat} (h1 : 1 ≤ n) (h2 : n ≤ 5) {p : List Int × Int} (m : p ∈ allRk n) : p.1.length = n ∧ IsRk p.1 (srt p.1).length ∧ 0 ≤ p.2 ∧ p.2 ≤ ((srt p.1).length : Int) := by
  have o := List.all_eq_true.mp (all_ok n (five h1 h2)) p m
  unfold okRk at o
  simp only [Bool.and_eq_true, decide_eq_true_eq] at o
  obtain ⟨⟨⟨a, b⟩, c⟩, d⟩ := o
  refine ⟨a, fun k => ?_, c, d⟩
  rw [← srt_mem (l := p.1), b, rg_len, rg_mem]
theorem sum_all {h : Int} (h0 : 0 ≤ h) {n : Nat} (h1 : 1 ≤ n) (h4 : n ≤ 4) : ((allRk n).map (wordsOf h)).sum = (2 * h) ^ n := by
  have e : (allRk n).map (wordsOf h) = ((allRk n).map shape).map fun s => cmb h (s.1 : Int) * cmb h (s.2 : Int) := by
    rw [List.map_map]
    refine List.map_congr_left fun p m => ?_
    obtain ⟨_, _, c0, cm⟩ := ok_at h1 (by omega) m
    exact words_shape h p c0 cm
  obtain ⟨b0, b1, b2, b3, b4⟩ := cmb_polys h0
  have m4 : n ∈ ([1, 2, 3, 4] : List Nat) := by
    have : n = 1 ∨ n = 2 ∨ n = 3 ∨ n = 4 := by omega
    simpa using this
  obtain ⟨k1, k2⟩ := shape_in n m4
  rw [e, sum_count _ _ _ k1 k2]
  have : n = 1 ∨ n = 2 ∨ n = 3 ∨ n = 4 := by omega
  rcases this with rfl | rfl | rfl | rfl
  · have q : ((keys 1).map fun x => (x, cnt ((allRk 1).map shape) x)) = [((0, 0), 0), ((0, 1), 1), ((1, 0), 1)] := by decide +kernel
    have q2 := congrArg (List.map fun y : (Nat × Nat) × Nat => ((y.2 : Nat) : Int) * (cmb h (y.1.1 : Int) * cmb h (y.1.2 : Int))) q
    rw [List.map_map] at q2
    rw [show (keys 1).map (fun x => ((cnt ((allRk 1).map shape) x : Nat) : Int) * (cmb h (x.1 : Int) * cmb h (x.2 : Int))) = _ from q2]
    show 0 * (cmb h 0 * cmb h 0) + (1 * (cmb h 0 * cmb h 1) + (1 * (cmb h 1 * cmb h 0) + 0)) = (2 * h) ^ 1
    rw [b0, b1]
    grind
  · have q : ((keys 2).map fun x => (x, cnt ((allRk 2).map shape) x)) = [((0, 0), 0), ((0, 1), 1), ((0, 2), 2), ((1, 0), 1), ((1, 1), 2), ((2, 0), 2)] := by decide +kernel
    have q2 := congrArg (List.map fun y : (Nat × Nat) × Nat => ((y.2 : Nat) : Int) * (cmb h (y.1.1 : Int) * cmb h (y.1.2 : Int))) q
    rw [List.map_map] at q2
    rw [show (keys 2).map (fun x => ((cnt ((allRk 2).map shape) x : Nat) : Int) * (cmb h (x.1 : Int) * cmb h (x.2 : Int))) = _ from q2]
    show 0 * (cmb h 0 * cmb h 0) + (1 * (cmb h 0 * cmb h 1) + (2 * (cmb h 0 * cmb h 2) + (1 * (cmb h 1 * cmb h 0) + (2 * (cmb h 1 * cmb h 1) + (2 * (cmb h 2 * cmb h 0) + 0))))) = (2 * h) ^ 2
    rw [b0, b1]
    grind
  · have q : ((keys 3).map fun x => (x, cnt ((allRk 3).map shape) x)) = [((0, 0), 0), ((0, 1), 1), ((0, 2), 6), ((0, 3), 6), ((1, 0), 1), ((1, 1), 6), ((1, 2), 6), ((2, 0), 6), ((2, 1), 6), ((3, 0), 6)] := by decide +kernel
    have q2 := congrArg (List.map fun y : (Nat × Nat) × Nat => ((y.2 : Nat) : Int) * (cmb h (y.1.1 : Int) * cmb h (y.1.2 : Int))) q
    rw [List.map_map] at q2
    rw [show (keys 3).map (fun x => ((cnt ((allRk 3).map shape) x : Nat) : Int) * (cmb h (x.1 : Int) * cmb h (x.2 : Int))) = _ from q2]
    show 0 * (cmb h 0 * cmb h 0) + (1 * (cmb h 0 * cmb h 1) + (6 * (cmb h 0 * cmb h 2) + (6 * (cmb h 0 * cmb h 3) + (1 * (cmb h 1 * cmb h 0) + (6 * (cmb h 1 * cmb h 1) + (6 * (cmb h 1 * cmb h 2) + (6 * (cmb h 2 * cmb h 0) + (6 * (cmb h 2 * cmb h 1) + (6 * (cmb h 3 * cmb h 0) + 0))))))))) = (2 * h) ^ 3
    rw [b0, b1]
    grind
  · have q : ((keys 4).map fun x => (x, cnt ((allRk 4).map shape) x)) = [((0, 0), 0), ((0, 1), 1), ((0, 2), 14), ((0, 3), 36), ((0, 4), 24), ((1, 0), 1), ((1, 1), 14), ((1, 2), 36), ((1, 3), 24), ((2, 0), 14), ((2, 1), 36), ((2, 2), 24), ((3, 0), 36), ((3, 1), 24), ((4, 0), 24)] := by decide +kernel
    have q2 := congrArg (List.map fun y : (Nat × Nat) × Nat => ((y.2 : Nat) : Int) * (cmb h (y.1.1 : Int) * cmb h (y.1.2 : Int))) q
    rw [List.map_map] at q2
    rw [show (keys 4).map (fun x => ((cnt ((allRk 4).map shape) x : Nat) : Int) * (cmb h (x.1 : Int) * cmb h (x.2 : Int))) = _ from q2]
    show 0 * (cmb h 0 * cmb h 0) + (1 * (cmb h 0 * cmb h 1) + (14 * (cmb h 0 * cmb h 2) + (36 * (cmb h 0 * cmb h 3) + (24 * (cmb h 0 * cmb h 4) + (1 * (cmb h 1 * cmb h 0) + (14 * (cmb h 1 * cmb h 1) + (36 * (cmb h 1 * cmb h 2) + (24 * (cmb h 1 * cmb h 3) + (14 * (cmb h 2 * cmb h 0) + (36 * (cmb h 2 * cmb h 1) + (24 * (cmb h 2 * cmb h 2) + (36 * (cmb h 3 * cmb h 0) + (24 * (cmb h 3 * cmb h 1) + (24 * (cmb h 4 * cmb h 0) + 0)))))))))))))) = (2 * h) ^ 4
    rw [b0, b1]
    grind
end BR

/-! ### ranks of turned words; outcomes tell rankings -/
namespace BR
open PySem PySem.Spec PyProof.Rows L2
/-- ranks of f's values: how many different words have less -/
theorem rk_image {f : Int → Int} {xs : List Int} (inj : ∀ x ∈ xs, ∀ y ∈ xs, f x = f y → x = y) (z : Int) : rk (srt (xs.map f)) z = ((srt xs).filter fun y => decide (f y < z)).length := by
  have nd : (((srt xs).filter fun y => decide (f y < z)).map f).Nodup := by
    rw [List.Nodup, List.pairwise_map]
    have n0 : ((srt xs).filter fun y => decide (f y < z)).Nodup := (up_nodup (srt_up xs)).filter _
    have : ((srt xs).filter fun y => decide (f y < z)).Pairwise fun a b => a ∈ xs ∧ b ∈ xs ∧ a ≠ b := by
      refine List.Pairwise.imp_of_mem ?_ n0
      intro a b ha hb ne
      exact ⟨srt_mem.mp (List.mem_filter.mp ha).1, srt_mem.mp (List.mem_filter.mp hb).1, ne⟩
    exact this.imp fun h e => h.2.2 (inj _ h.1 _ h.2.1 e)
  have e := card_one nd ((up_nodup (srt_up (xs.map f))).filter fun y => decide (y < z)) fun k => by
    rw [List.mem_map, List.mem_filter, srt_mem, List.mem_map, decide_eq_true_eq]
    constructor
    · rintro ⟨x, hx, rfl⟩
      obtain ⟨h1, h2⟩ := List.mem_filter.mp hx
      exact ⟨⟨x, srt_mem.mp h1, rfl⟩, of_decide_eq_true h2⟩
    · rintro ⟨⟨x, hx, rfl⟩, h2⟩
      exact ⟨x, List.mem_filter.mpr ⟨srt_mem.mpr hx, decide_eq_true h2⟩, rfl⟩
  rw [List.length_map] at e
  unfold rk
  rw [← e]
theorem filt_congr {l : List Int} {p q : Int → Bool} (h : ∀ y ∈ l, p y = q y) : (l.filter p).length = (l.filter q).length := by
  rw [List.filter_congr h]
theorem filt_not (l : List Int) (p : Int → Bool) : (l.filter p).length + (l.filter fun y => !p y).length = l.length := by
  induction l with
  | nil => rfl
  | cons y l ih =>
    rw [List.filter_cons, List.filter_cons]
    cases p y <;> simp <;> omega
/-- between two bounds -/
theorem filt_between {l : List Int} {a b : Int} (h : a ≤ b) : (l.filter fun y => decide (a ≤ y) && decide (y < b)).length + rk l a = rk l b := by
  induction l with
  | nil => rfl
  | cons y l ih =>
    rw [rk_cons, rk_cons, List.filter_cons]
    by_cases c : a ≤ y <;> by_cases d : y < b <;> simp [c, d] <;> split <;> omega
theorem filt_above (l : List Int) (a : Int) : (l.filter fun y => decide (a ≤ y)).length + rk l a = l.length := by
  have := filt_not l fun y => decide (y < a)
  have e := filt_congr (l := l) (p := fun y => !decide (y < a)) (q := fun y => decide (a ≤ y)) fun y _ => by
    by_cases c : a ≤ y
    · simp [c]
    · simp [c]
      omega
  unfold rk
  omega
theorem filt_above2 {l : List Int} (nd : l.Nodup) {x : Int} (hx : x ∈ l) : (l.filter fun y => decide (x < y)).length + rk l x + 1 = l.length := by
  have h1 := filt_above l x
  have e : ∀ l : List Int, l.Nodup → (l.filter fun y => decide (x ≤ y)).length = (l.filter fun y => decide (x < y)).length + if x ∈ l then 1 else 0 := by
    intro l
    induction l with
    | nil => intro _; rfl
    | cons y l ih =>
      intro nd
      obtain ⟨ny, nl⟩ := List.nodup_cons.mp nd
      have i := ih nl
      rw [List.filter_cons, List.filter_cons]
      by_cases c : y = x
      · subst c
        rw [if_neg ny] at i
        simp [i]
      · have m : (x ∈ y :: l) ↔ x ∈ l := by rw [List.mem_cons]; exact ⟨fun z => z.resolve_left (fun e => c e.symm), .inr⟩
        by_cases d : x ≤ y
        · have d2 : x < y := by omega
          by_cases q : x ∈ l
          · rw [if_pos q] at i
            rw [if_pos (m.mpr q)]
            simp [d, d2]
            omega
          · rw [if_neg q] at i
            rw [if_neg (fun z => q (m.mp z))]
            simp [d, d2]
            omega
        · have d2 : ¬ x < y := by omega
          by_cases q : x ∈ l
          · rw [if_pos q] at i
            rw [if_pos (m.mpr q)]
            simp [d, d2]
            omega
          · rw [if_neg q] at i
            rw [if_neg (fun z => q (m.mp z))]
            simp [d, d2]
            omega
  have := e l nd
  rw [if_pos hx] at this
  omega
/-- what stands after a turn -/
def turnR (c m r : Int) : Int := if c ≤ r then r - c else r + m - c
theorem rks_flip {wd : Int} {xs : List Int} (h1 : 1 ≤ wd) (w : ∀ x ∈ xs, 0 ≤ x ∧ x < 2 ^ wd.toNat) :
    rks (xs.map (fl wd)) = (rks xs).map (turnR (ct xs (2 ^ (wd - 1).toNat)) ((srt xs).length : Int)) ∧ ct (xs.map (fl wd)) (2 ^ (wd - 1).toNat) = ((srt xs).length : Int) - ct xs (2 ^ (wd - 1).toNat) := by
  have e2 := two_half h1
  have inj : ∀ x ∈ xs, ∀ y ∈ xs, fl wd x = fl wd y → x = y := fun x hx y hy e => by
    rw [← fl_fl h1 (w x hx), ← fl_fl h1 (w y hy), e]
  refine ⟨?_, ?_⟩
  · unfold rks
    rw [List.map_map, List.map_map]
    refine List.map_congr_left fun x hx => ?_
    show ((rk (srt (xs.map (fl wd))) (fl wd x) : Nat) : Int) = turnR _ _ ((rk (srt xs) x : Nat) : Int)
    rw [rk_image inj]
    have mx := srt_mem.mpr hx
    have cc := rk_cut (h := (2 : Int) ^ (wd - 1).toNat) mx
    have wx := w x hx
    unfold turnR ct
    by_cases c : x < 2 ^ (wd - 1).toNat
    · have lt := cc.mp c
      rw [if_neg (by omega)]
      have q := filt_congr (l := srt xs) (p := fun y => decide (fl wd y < fl wd x)) (q := fun y => !(decide (x ≤ y) && decide (y < 2 ^ (wd - 1).toNat))) fun y hy => by
        have wy := w y (srt_mem.mp hy)
        have : (fl wd y < fl wd x) ↔ ¬ (x ≤ y ∧ y < 2 ^ (wd - 1).toNat) := by
          unfold fl
          rw [if_pos c]
          split <;> omega
        rw [← Bool.decide_and, ← decide_not]
        exact decide_eq_decide.mpr this
      have n := filt_not (srt xs) fun y => (decide (x ≤ y) && decide (y < 2 ^ (wd - 1).toNat))
      have b := filt_between (l := srt xs) (show x ≤ 2 ^ (wd - 1).toNat by omega)
      rw [q]
      omega
    · have ge : ¬ rk (srt xs) x < rk (srt xs) (2 ^ (wd - 1).toNat) := fun z => c (cc.mpr z)
      rw [if_pos (by omega)]
      have q := filt_congr (l := srt xs) (p := fun y => decide (fl wd y < fl wd x)) (q := fun y => (decide (2 ^ (wd - 1).toNat ≤ y) && decide (y < x))) fun y hy => by
        have wy := w y (srt_mem.mp hy)
        have : (fl wd y < fl wd x) ↔ (2 ^ (wd - 1).toNat ≤ y ∧ y < x) := by
          unfold fl
          rw [if_neg c]
          split <;> omega
        rw [← Bool.decide_and]
        exact decide_eq_decide.mpr this
      have b := filt_between (l := srt xs) (show (2 : Int) ^ (wd - 1).toNat ≤ x by omega)
      rw [q]
      omega
  · unfold ct
    rw [rk_image inj]
    have q := filt_congr (l := srt xs) (p := fun y => decide (fl wd y < 2 ^ (wd - 1).toNat)) (q := fun y => decide (2 ^ (wd - 1).toNat ≤ y)) fun y hy => by
      have wy := w y (srt_mem.mp hy)
      refine decide_eq_decide.mpr ?_
      unfold fl
      split <;> omega
    have a := filt_above (srt xs) (2 ^ (wd - 1).toNat)
    rw [q]
    omega
theorem rks_inv {wd : Int} {xs : List Int} (h1 : 1 ≤ wd) (w : ∀ x ∈ xs, 0 ≤ x ∧ x < 2 ^ wd.toNat) :
    rks (xs.map (iv wd)) = (rks xs).map (fun r => ((srt xs).length : Int) - 1 - r) ∧ ct (xs.map (iv wd)) (2 ^ (wd - 1).toNat) = ((srt xs).length : Int) - ct xs (2 ^ (wd - 1).toNat) := by
  have e2 := two_half h1
  have inj : ∀ x ∈ xs, ∀ y ∈ xs, iv wd x = iv wd y → x = y := fun x hx y hy e => by
    rw [← iv_iv wd x, ← iv_iv wd y, e]
  refine ⟨?_, ?_⟩
  · unfold rks
    rw [List.map_map, List.map_map]
    refine List.map_congr_left fun x hx => ?_
    show ((rk (srt (xs.map (iv wd))) (iv wd x) : Nat) : Int) = ((srt xs).length : Int) - 1 - ((rk (srt xs) x : Nat) : Int)
    rw [rk_image inj]
    have q := filt_congr (l := srt xs) (p := fun y => decide (iv wd y < iv wd x)) (q := fun y => decide (x < y)) fun y hy => by
      refine decide_eq_decide.mpr ?_
      unfold iv
      omega
    have a := filt_above2 (up_nodup (srt_up xs)) (srt_mem.mpr hx)
    rw [q]
    omega
  · unfold ct
    rw [rk_image inj]
    have q := filt_congr (l := srt xs) (p := fun y => decide (iv wd y < 2 ^ (wd - 1).toNat)) (q := fun y => decide (2 ^ (wd - 1).toNat ≤ y)) fun y hy => by
      refine decide_eq_decide.mpr ?_
      unfold iv
      omega
    have a := filt_above (srt xs) (2 ^ (wd - 1).toNat)
    rw [q]
    omega
theorem rks_ext {wd wi : Int} {xs : List Int} (h1 : 1 ≤ wd) (h2 : wd ≤ wi) (w : ∀ x ∈ xs, 0 ≤ x ∧ x < 2 ^ wd.toNat) :
    rks (xs.map (ex wd wi)) = rks xs ∧ ct (xs.map (ex wd wi)) (2 ^ (wi - 1).toNat) = ct xs (2 ^ (wd - 1).toNat) := by
  have e2 := two_half h1
  have e3 := two_half (show 1 ≤ wi by omega)
  have le := pow_le (a := (wd - 1).toNat) (b := (wi - 1).toNat) (by omega)
  have mono : ∀ x ∈ xs, ∀ y ∈ xs, (ex wd wi x < ex wd wi y ↔ x < y) := fun x hx y hy => by
    have wx := w x hx
    have wy := w y hy
    unfold ex
    split <;> split <;> constructor <;> intro _ <;> omega
  have inj : ∀ x ∈ xs, ∀ y ∈ xs, ex wd wi x = ex wd wi y → x = y := fun x hx y hy e => by
    have a := mono x hx y hy
    have b := mono y hy x hx
    omega
  refine ⟨?_, ?_⟩
  · unfold rks
    rw [List.map_map]
    refine List.map_congr_left fun x hx => ?_
    show ((rk (srt (xs.map (ex wd wi))) (ex wd wi x) : Nat) : Int) = ((rk (srt xs) x : Nat) : Int)
    rw [rk_image inj]
    unfold rk
    rw [filt_congr (l := srt xs) (p := fun y => decide (ex wd wi y < ex wd wi x)) (q := fun y => decide (y < x)) fun y hy => decide_eq_decide.mpr (mono y (srt_mem.mp hy) x hx)]
  · unfold ct
    rw [rk_image inj]
    unfold rk
    rw [filt_congr (l := srt xs) (p := fun y => decide (ex wd wi y < 2 ^ (wi - 1).toNat)) (q := fun y => decide (y < 2 ^ (wd - 1).toNat)) fun y hy => by
      have wy := w y (srt_mem.mp hy)
      refine decide_eq_decide.mpr ?_
      unfold ex
      split <;> constructor <;> intro _ <;> omega]
theorem ct_all {xs : List Int} {h : Int} (w : ∀ x ∈ xs, x < h) : ct xs h = ((srt xs).length : Int) := by
  unfold ct rk
  rw [List.filter_eq_self.mpr fun y hy => decide_eq_true (w y (srt_mem.mp hy))]
theorem mx_is {rs : List Int} {m : Nat} (hm : 0 < m) (is : IsRk rs m) : mx rs = (m : Int) - 1 := by
  have g : ∀ (l : List Int) (z : Int), (l.foldl (fun a y => if a < y then y else a) z ∈ z :: l) ∧ ∀ y ∈ z :: l, y ≤ l.foldl (fun a y => if a < y then y else a) z := by
    intro l
    induction l with
    | nil => exact fun z => ⟨List.mem_cons_self, fun y hy => by rw [List.mem_singleton.mp hy]; exact Int.le_refl _⟩
    | cons y l ih =>
      intro z
      rw [List.foldl_cons]
      obtain ⟨a, b⟩ := ih (if z < y then y else z)
      refine ⟨?_, fun k hk => ?_⟩
      · rcases List.mem_cons.mp a with e | e
        · rw [e]
          split
          · exact List.mem_cons_of_mem _ List.mem_cons_self
          · exact List.mem_cons_self
        · exact List.mem_cons_of_mem _ (List.mem_cons_of_mem _ e)
      · have hz := b _ List.mem_cons_self
        rcases List.mem_cons.mp hk with rfl | hk
        · exact Int.le_trans (show k ≤ if k < y then y else k by split <;> omega) hz
        · rcases List.mem_cons.mp hk with rfl | hk
          · exact Int.le_trans (show k ≤ if z < k then k else z by split <;> omega) hz
          · exact b k (List.mem_cons_of_mem _ hk)
  cases rs with
  | nil => exact absurd ((is 0).mpr ⟨by omega, by omega⟩) (by simp)
  | cons x l =>
    obtain ⟨a, b⟩ := g l x
    have h1 := (is _).mp a
    have h2 := b ((m : Int) - 1) ((is _).mpr ⟨by omega, by omega⟩)
    show l.foldl (fun a y => if a < y then y else a) x = (m : Int) - 1
    omega
theorem srt_pos {xs : List Int} (h : xs ≠ []) : 0 < (srt xs).length := by
  cases xs with
  | nil => exact absurd rfl h
  | cons x l =>
    refine List.length_pos_of_mem (a := x) (srt_mem.mpr List.mem_cons_self)
/-! outcomes of all pairs -/
def shownR (rs : List Int) (c : Int) : List Str := rs.flatMap fun a => rs.map fun b => ocut c a b
def single (rs : List Int) (c : Int) : Bool := decide (c = 0) || decide (c = mx rs + 1)
theorem oc_facts {c a b : Int} : (ocut c a b = "E" ↔ a = b) ∧ ((ocut c a b = "LB" ∨ ocut c a b = "GB") ↔ a < b) ∧ ((ocut c a b = "LA" ∨ ocut c a b = "GB") ↔ a ≠ b ∧ ((a < c) ↔ ¬ (b < c))) := by
  unfold ocut
  by_cases e : a = b
  · subst e
    rw [if_pos rfl]
    refine ⟨by simp, ⟨fun z => absurd z (by decide +kernel), fun z => absurd z (Int.lt_irrefl _)⟩, ?_⟩
    constructor
    · intro z
      exact absurd z (by decide +kernel)
    · intro z
      exact absurd rfl z.1
  · rw [if_neg e]
    by_cases l : a < b
    · rw [if_pos l]
      by_cases x : a < c <;> by_cases y : b < c <;> simp [x, y, l, e] <;> decide +kernel
    · rw [if_neg l]
      by_cases x : a < c <;> by_cases y : b < c <;> simp [x, y, l, e] <;> decide +kernel
theorem rks_same {xs ys : List Int} (hl : xs.length = ys.length) (h : ∀ (i j : Nat) (a b c d : Int), xs[i]? = some a → xs[j]? = some b → ys[i]? = some c → ys[j]? = some d → (a < b ↔ c < d)) : rks xs = rks ys := by
  let f : Int → Int := fun x => ys.getD (xs.idxOf x) 0
  have at_f : ∀ (i : Nat) (a c : Int), xs[i]? = some a → ys[i]? = some c → f a = c := fun i a c ha hc => by
    have m := List.mem_of_getElem? ha
    have hi : xs.idxOf a < xs.length := List.idxOf_lt_length_of_mem m
    have ea : xs[xs.idxOf a]? = some a := by
      rw [List.getElem?_eq_getElem hi]
      exact congrArg some (List.getElem_idxOf hi)
    have ec : ys[xs.idxOf a]? = some (ys[xs.idxOf a]'(by omega)) := List.getElem?_eq_getElem (by omega)
    have h1 := h _ _ _ _ _ _ ea ha ec hc
    have h2 := h _ _ _ _ _ _ ha ea hc ec
    have e : f a = ys[xs.idxOf a]'(by omega) := by
      show ys.getD (xs.idxOf a) 0 = _
      rw [List.getD_eq_getElem?_getD, ec]
      rfl
    rw [e]
    omega
  have both : ∀ x ∈ xs, ∃ (i : Nat) (c : Int), xs[i]? = some x ∧ ys[i]? = some c ∧ f x = c := fun x hx => by
    obtain ⟨i, hi, e⟩ := List.mem_iff_getElem.mp hx
    have ex : xs[i]? = some x := by rw [List.getElem?_eq_getElem hi, e]
    have ec : ys[i]? = some (ys[i]'(by omega)) := List.getElem?_eq_getElem (by omega)
    exact ⟨i, _, ex, ec, at_f i x _ ex ec⟩
  have mono : ∀ x ∈ xs, ∀ y ∈ xs, (f x < f y ↔ x < y) := fun x hx y hy => by
    obtain ⟨i, c, h1, h2, rfl⟩ := both x hx
    obtain ⟨j, d, h3, h4, rfl⟩ := both y hy
    exact (h i j _ _ _ _ h1 h3 h2 h4).symm
  have e : ys = xs.map f := by
    apply List.ext_getElem?
    intro i
    rw [List.getElem?_map]
    by_cases hi : i < xs.length
    · have ex : xs[i]? = some xs[i] := List.getElem?_eq_getElem hi
      have ec : ys[i]? = some (ys[i]'(by omega)) := List.getElem?_eq_getElem (by omega)
      rw [ex, ec, Option.map_some, at_f i _ _ ex ec]
    · rw [List.getElem?_eq_none (by omega), List.getElem?_eq_none (by omega)]
      rfl
  rw [e]
  unfold rks
  rw [List.map_map]
  refine List.map_congr_left fun x hx => ?_
  show _ = ((rk (srt (xs.map f)) (f x) : Nat) : Int)
  rw [rk_image fun a ha b hb q => by
    have h1 := mono a ha b hb
    have h2 := mono b hb a ha
    omega]
  unfold rk
  rw [filt_congr (l := srt xs) (p := fun y => decide (f y < f x)) (q := fun y => decide (y < x)) fun y hy => decide_eq_decide.mpr (mono y (srt_mem.mp hy) x hx)]
theorem srt_isRk {rs : List Int} {m : Nat} (is : IsRk rs m) : srt rs = rg m := isRk_srt is (srt_up rs) fun k => srt_mem
theorem rks_id {rs : List Int} {m : Nat} (is : IsRk rs m) : rks rs = rs := by
  unfold rks
  rw [srt_isRk is]
  have : ∀ r ∈ rs, ((rk (rg m) r : Nat) : Int) = r := fun r hr => by
    obtain ⟨a, b⟩ := (is r).mp hr
    exact rk_rg a (by omega)
  rw [List.map_congr_left this, List.map_id']
theorem flat_inj {α β : Type} {f g : α → List β} {n : Nat} : ∀ {as bs : List α}, as.length = bs.length → (∀ a ∈ as, (f a).length = n) → (∀ b ∈ bs, (g b).length = n) → as.flatMap f = bs.flatMap g → ∀ (i : Nat) (a b : α), as[i]? = some a → bs[i]? = some b → f a = g b
  | [], _, _, _, _, _, i, a, b, e, _ => by cases i <;> cases e
  | _ :: _, [], h, _, _, _, _, _, _, _, _ => by cases h
  | x :: as, y :: bs, h, hf, hg, e, i, a, b, ea, eb => by
    rw [List.flatMap_cons, List.flatMap_cons] at e
    obtain ⟨e1, e2⟩ := List.append_inj e (by rw [hf x List.mem_cons_self, hg y List.mem_cons_self])
    cases i with
    | zero =>
      cases ea
      cases eb
      exact e1
    | succ i => exact flat_inj (Nat.succ.inj h) (fun a m => hf a (List.mem_cons_of_mem _ m)) (fun b m => hg b (List.mem_cons_of_mem _ m)) e2 i a b ea eb
theorem shown_tell {rs rt : List Int} {c d : Int} {m k : Nat} (hl : rs.length = rt.length) (i1 : IsRk rs m) (i2 : IsRk rt k) (c0 : 0 ≤ c) (cm : c ≤ (m : Int)) (d0 : 0 ≤ d) (dk : d ≤ (k : Int)) (hm : 0 < m) (hk : 0 < k) :
    decide (shownR rs c = shownR rt d) = (decide (rs = rt ∧ c = d) || (decide (rs = rt) && (single rs c && single rt d))) := by
  have s1 : single rs c = (decide (c = 0) || decide (c = (m : Int))) := by unfold single; rw [mx_is hm i1, show (m : Int) - 1 + 1 = m by omega]
  have s2 : single rt d = (decide (d = 0) || decide (d = (k : Int))) := by unfold single; rw [mx_is hk i2, show (k : Int) - 1 + 1 = k by omega]
  rw [s1, s2, ← Bool.decide_or, ← Bool.decide_or, ← Bool.decide_and, ← Bool.decide_and, ← Bool.decide_or]
  refine decide_eq_decide.mpr ⟨fun e => ?_, fun h => ?_⟩
  · have pt : ∀ (i j : Nat) (a b x y : Int), rs[i]? = some a → rs[j]? = some b → rt[i]? = some x → rt[j]? = some y → ocut c a b = ocut d x y := fun i j a b x y ha hb hx hy => by
      have g := flat_inj (n := rs.length) hl (fun a _ => List.length_map ..) (fun b _ => by rw [List.length_map, hl]) e i a x ha hx
      have q := congrArg (fun l : List Str => l[j]?) g
      rw [List.getElem?_map, List.getElem?_map, hb, hy] at q
      exact Option.some.inj q
    have er : rs = rt := by
      rw [← rks_id i1, ← rks_id i2]
      refine rks_same hl fun i j a b x y ha hb hx hy => ?_
      have p := pt i j a b x y ha hb hx hy
      have f1 := (oc_facts (c := c) (a := a) (b := b)).2.1
      have f2 := (oc_facts (c := d) (a := x) (b := y)).2.1
      rw [← f1, ← f2, p]
    subst er
    have mk : m = k := by
      have := congrArg List.length ((srt_isRk i1).symm.trans (srt_isRk i2))
      rwa [rg_len, rg_len] at this
    subst mk
    by_cases cd : c = d
    · exact .inl ⟨rfl, cd⟩
    · refine .inr ⟨rfl, ?_⟩
      have mixed : ∀ u v : Int, u ∈ rs → v ∈ rs → (u ≠ v ∧ ((u < c) ↔ ¬ (v < c)) ↔ u ≠ v ∧ ((u < d) ↔ ¬ (v < d))) := fun u v hu hv => by
        obtain ⟨i, hi, e1⟩ := List.mem_iff_getElem.mp hu
        obtain ⟨j, hj, e2⟩ := List.mem_iff_getElem.mp hv
        have a1 : rs[i]? = some u := by rw [List.getElem?_eq_getElem hi, e1]
        have a2 : rs[j]? = some v := by rw [List.getElem?_eq_getElem hj, e2]
        have p := pt i j u v u v a1 a2 a1 a2
        rw [← (oc_facts (c := c) (a := u) (b := v)).2.2, ← (oc_facts (c := d) (a := u) (b := v)).2.2, p]
      refine ⟨?_, ?_⟩
      · refine Decidable.byContradiction fun n => ?_
        have := mixed (c - 1) c ((i1 _).mpr ⟨by omega, by omega⟩) ((i1 _).mpr ⟨by omega, by omega⟩)
        omega
      · refine Decidable.byContradiction fun n => ?_
        have := mixed (d - 1) d ((i1 _).mpr ⟨by omega, by omega⟩) ((i1 _).mpr ⟨by omega, by omega⟩)
        omega
  · rcases h with ⟨rfl, rfl⟩ | ⟨rfl, h1, h2⟩
    · rfl
    · have mk : m = k := by
        have := congrArg List.length ((srt_isRk i1).symm.trans (srt_isRk i2))
        rwa [rg_len, rg_len] at this
      subst mk
      have same : ∀ u ∈ rs, ∀ v ∈ rs, ocut c u v = ocut d u v := fun u hu v hv => by
        obtain ⟨u0, u1⟩ := (i1 u).mp hu
        obtain ⟨v0, v1⟩ := (i1 v).mp hv
        have mc : (decide (u < c) != decide (v < c)) = false := by
          rcases h1 with h | h
          · rw [decide_eq_false (show ¬ u < c by omega), decide_eq_false (show ¬ v < c by omega)]
            rfl
          · rw [decide_eq_true (show u < c by omega), decide_eq_true (show v < c by omega)]
            rfl
        have md : (decide (u < d) != decide (v < d)) = false := by
          rcases h2 with h | h
          · rw [decide_eq_false (show ¬ u < d by omega), decide_eq_false (show ¬ v < d by omega)]
            rfl
          · rw [decide_eq_true (show u < d by omega), decide_eq_true (show v < d by omega)]
            rfl
        unfold ocut
        rw [mc, md]
      unfold shownR
      have fm : ∀ l : List Int, (∀ u ∈ l, u ∈ rs) → l.flatMap (fun a => rs.map fun b => ocut c a b) = l.flatMap fun a => rs.map fun b => ocut d a b := by
        intro l
        induction l with
        | nil => exact fun _ => rfl
        | cons u l ih =>
          intro hs
          rw [List.flatMap_cons, List.flatMap_cons, ih fun u m => hs u (List.mem_cons_of_mem _ m)]
          rw [List.map_congr_left fun v hv => same u (hs u List.mem_cons_self) v hv]
      exact fm rs fun u m => m
end BR
namespace BR
open PySem PySem.Spec PyProof.Rows L2
theorem fall_le {n : Int} {a : Nat} (h0 : 0 ≤ n) (h1 : n ≤ 2 ^ a) (k : Nat) (hk : (k : Int) ≤ n) : Builtin.Math.fallingProduct n k ≤ 2 ^ (a * k) := by
  induction k with
  | zero => exact (by decide : (1 : Int) ≤ 1)
  | succ k ih =>
    have i := ih (by omega)
    have nn := fall_nn (n := n) k (by omega)
    have e : Builtin.Math.fallingProduct n (k + 1) = Builtin.Math.fallingProduct n k * (n - (k : Int)) := by
      unfold Builtin.Math.fallingProduct
      rw [List.range_succ, List.foldl_append]
      rfl
    rw [e, Nat.mul_succ, Int.pow_add]
    exact Int.mul_le_mul i (by omega) (by omega) (Int.le_of_lt (pow_pos _))
theorem cmb_log {n k : Int} (h0 : 0 ≤ n) (h1 : n ≤ 2 ^ 1000) (k0 : 0 ≤ k) (k8 : k ≤ 8) : (n < k ∨ (Builtin.Math.fallingProduct n (min k (n - k)).toNat / Builtin.Math.fallingProduct (min k (n - k)) (min k (n - k)).toNat).natAbs.log2 < bitsLine) ∧ (cmb n k).natAbs.log2 < 10000 := by
  by_cases c : n < k
  · refine ⟨.inl c, ?_⟩
    unfold cmb
    rw [if_pos c]
    decide
  · have key : (Builtin.Math.fallingProduct n (min k (n - k)).toNat / Builtin.Math.fallingProduct (min k (n - k)) (min k (n - k)).toNat).natAbs.log2 < 10000 := by
      have a := fall_nn (n := n) (min k (n - k)).toNat (by omega)
      have b := fall_le h0 h1 (min k (n - k)).toNat (by omega)
      have d := fall_nn (n := min k (n - k)) (min k (n - k)).toNat (by omega)
      have q0 : 0 ≤ Builtin.Math.fallingProduct n (min k (n - k)).toNat / Builtin.Math.fallingProduct (min k (n - k)) (min k (n - k)).toNat := Int.ediv_nonneg a d
      have q1 := Int.ediv_le_self (Builtin.Math.fallingProduct (min k (n - k)) (min k (n - k)).toNat) a
      have b2 : (2 : Int) ^ (1000 * (min k (n - k)).toNat) ≤ 2 ^ 9000 := pow_le (by omega)
      have b3 : (2 : Int) ^ 9000 < 2 ^ 9001 := pow_lt (by decide)
      have e : ((2 : Int) ^ 9001) = ((2 ^ 9001 : Nat) : Int) := nat_cast_pow 9001
      rw [e] at b3
      refine Nat.lt_of_lt_of_le (PySem.Flt.log2_lt_of (k := 9001) (by decide) ?_) (by decide)
      omega
    refine ⟨.inr (Nat.lt_trans key (by decide)), ?_⟩
    unfold cmb
    rw [if_neg c]
    exact key
end BR

/-! ### rankings as a law lists them -/
namespace BR
open PySem PySem.Spec PyProof.Rows L2
def lawRows (n : Nat) : Nat → List (List Int)
  | 0 => [[]]
  | k + 1 => (lawRows n k).flatMap (addR n)
def lawCuts (r : List Int) : List (List Int × Int) := if ((srt r).length : Int) = mx r + 1 then cutsR r else []
theorem law_all : ∀ n ∈ ([1, 2, 3, 4] : List Nat), (lawRows n n).flatMap lawCuts = allRk n := by decide +kernel
theorem law_rows : ∀ n ∈ ([1, 2, 3, 4] : List Nat), ∀ k ∈ List.range (n + 1), (lawRows n k).length ≤ 256 ∧ ∀ r ∈ lawRows n k, r.length = k ∧ 0 ≤ mx r ∧ mx r ≤ 3 := by decide +kernel
theorem four {n : Nat} (h1 : 1 ≤ n) (h2 : n ≤ 4) : n ∈ ([1, 2, 3, 4] : List Nat) := by
  have : n = 1 ∨ n = 2 ∨ n = 3 ∨ n = 4 := by omega
  simpa using this
theorem all_len4 {n : Nat} (h1 : 1 ≤ n) (h2 : n ≤ 4) : 0 < (allRk n).length ∧ (allRk n).length ≤ 308 := by
  have := all_len
  have e : ∀ n ∈ ([1, 2, 3, 4] : List Nat), 0 < (allRk n).length ∧ (allRk n).length ≤ 308 := by decide +kernel
  exact e n (four h1 h2)
/-- refs to lists of ints -/
def LL (H : Hp) (as : List Addr) (rows : List (List Int)) : Prop := Paired (fun a row => H a = some (.lst (row.map V.int))) as rows
theorem LL.but {H H' : Hp} {D : Addr} : ∀ {as : List Addr} {rows : List (List Int)}, LL H as rows → But D H H' → (∀ a ∈ as, a ≠ D) → LL H' as rows
  | _, _, .nil, _, _ => .nil
  | _, _, .cons h t, b, n => .cons (b _ _ (n _ List.mem_cons_self) h) (LL.but t b fun a m => n a (List.mem_cons_of_mem _ m))
theorem LL.same {H H' : Hp} {as : List Addr} {rows : List (List Int)} (h : LL H as rows) (s : Same H H') : LL H' as rows := pr_mono h fun a r e => s _ _ e
theorem pr_app {α β : Type} {R : α → β → Prop} : ∀ {as : List α} {bs : List β} {cs : List α} {ds : List β}, Paired R as bs → Paired R cs ds → Paired R (as ++ cs) (bs ++ ds)
  | _, _, _, _, .nil, r => r
  | _, _, _, _, .cons h t, r => .cons h (pr_app t r)
theorem mx_one {ns : List Int} {m : Int} (hm : m ∈ ns) (h : ∀ y ∈ ns, y ≤ m) : m = mx ns := by
  have g : ∀ (l : List Int) (z : Int), (l.foldl (fun a y => if a < y then y else a) z ∈ z :: l) ∧ ∀ y ∈ z :: l, y ≤ l.foldl (fun a y => if a < y then y else a) z := by
    intro l
    induction l with
    | nil => exact fun z => ⟨List.mem_cons_self, fun y hy => by rw [List.mem_singleton.mp hy]; exact Int.le_refl _⟩
    | cons y l ih =>
      intro z
      rw [List.foldl_cons]
      obtain ⟨a, b⟩ := ih (if z < y then y else z)
      refine ⟨?_, fun k hk => ?_⟩
      · rcases List.mem_cons.mp a with e | e
        · rw [e]
          split
          · exact List.mem_cons_of_mem _ List.mem_cons_self
          · exact List.mem_cons_self
        · exact List.mem_cons_of_mem _ (List.mem_cons_of_mem _ e)
      · have hz := b _ List.mem_cons_self
        rcases List.mem_cons.mp hk with rfl | hk
        · exact Int.le_trans (show k ≤ if k < y then y else k by split <;> omega) hz
        · rcases List.mem_cons.mp hk with rfl | hk
          · exact Int.le_trans (show k ≤ if z < k then k else z by split <;> omega) hz
          · exact b k (List.mem_cons_of_mem _ hk)
  cases ns with
  | nil => exact absurd hm (by simp)
  | cons x l =>
    obtain ⟨a, b⟩ := g l x
    have h1 := h _ a
    have h2 := b m hm
    show m = l.foldl (fun a y => if a < y then y else a) x
    omega
theorem addR_len (n : Nat) (r : List Int) : (addR n r).length = n := by unfold addR; rw [List.length_map, List.length_range]
end BR
namespace BR
open PySem PySem.Spec PyProof.Rows L2
theorem CMulW_small {i j : Int} (hi : i.natAbs < 2 ^ 20) (hj : j.natAbs < 2 ^ 20) : CMulW i j := by
  have a := PySem.Flt.log2_lt_of (k := 20) (by decide) hi
  have b := PySem.Flt.log2_lt_of (k := 20) (by decide) hj
  show _ + _ < 1000000
  omega
end BR

/-! ### data compared: outcomes, rankings, bools -/
namespace BR
open PySem PySem.Spec PyProof.Rows L2
theorem strs_shapedL {xs : List Str} (ok : ∀ x ∈ xs, PyData.strOk x = true) : SeqAt.shaped (.list (xs.map PyData.str)) = true := by
  obtain ⟨h1, h2⟩ := strs_lay xs ok
  unfold SeqAt.shaped
  show (PyData.canLayAll0 (xs.map PyData.str) && decide (PyData.depthAll (xs.map PyData.str) + 1 ≤ 64)) = true
  rw [h1, h2]
  rfl
theorem strs_eqvL (xs ys : List Str) : PyData.eqv (.list (xs.map PyData.str)) (.list (ys.map PyData.str)) = decide (xs = ys) := strs_eqvA xs ys
theorem dp_strsL {K : PySem.W.Frag} {H : Hp} {a : Addr} {xs : List Str} (h : H a = some (.lst (xs.map V.str))) : Dp K H (.ref a) (.list (xs.map PyData.str)) := .lst (SqL.of h) (strs_all xs)
theorem ints_eqvA : ∀ xs ys : List Int, PyData.eqvAll (xs.map PyData.int) (ys.map PyData.int) = decide (xs = ys)
  | [], [] => rfl
  | [], _ :: _ => rfl
  | _ :: _, [] => rfl
  | x :: xs, y :: ys => by
    show (x == y && PyData.eqvAll (xs.map PyData.int) (ys.map PyData.int)) = decide (x :: xs = y :: ys)
    rw [ints_eqvA xs ys]
    by_cases h : x = y
    · by_cases g : xs = ys <;> simp [h, g]
    · simp [h]
theorem ints_eqvT (xs ys : List Int) : PyData.eqv (.tuple (xs.map PyData.int)) (.tuple (ys.map PyData.int)) = decide (xs = ys) := ints_eqvA xs ys
theorem rkD_eqv (rs rt : List Int) (c d : Int) : PyData.eqv (rkD rs c) (rkD rt d) = decide (rs = rt ∧ c = d) := by
  show (PyData.eqvAll (rs.map PyData.int) (rt.map PyData.int) && ((c == d) && true)) = _
  rw [ints_eqvA]
  by_cases h : rs = rt <;> by_cases g : c = d <;> simp [h, g]
theorem rkD_sh {rs : List Int} {c : Int} : SeqAt.shaped (rkD rs c) = true := by
  obtain ⟨l1, l2⟩ := ints_lay rs
  unfold SeqAt.shaped
  show ((PyData.canLayAll0 (rs.map PyData.int) && (true && true)) && decide (max (PyData.depthAll (rs.map PyData.int) + 1) (max 0 0) + 1 ≤ 64)) = true
  rw [l1, l2]
  rfl
theorem ocut_ok (c a b : Int) : PyData.strOk (ocut c a b) = true := by
  unfold ocut
  split
  · decide +kernel
  · split <;> split <;> decide +kernel
theorem shown_okS (rs : List Int) (c : Int) : ∀ x ∈ shownR rs c, PyData.strOk x = true := fun x m => by
  obtain ⟨a, _, h⟩ := List.mem_flatMap.mp m
  obtain ⟨b, _, rfl⟩ := List.mem_map.mp h
  exact ocut_ok c a b
theorem two_bools (a b : Bool) : PyData.eqv (.list [.bool a, .bool b]) (.list [.bool true, .bool true]) = (a && b) := by
  cases a <;> cases b <;> decide +kernel
theorem single_in (rs : List Int) (c : Int) : inV (.int c) [.int 0, .int (mx rs + 1)] = single rs c := by
  unfold inV single
  show ((0 == c) || ((mx rs + 1 == c) || false)) = _
  have e1 : ((0 : Int) == c) = decide (c = 0) := by
    by_cases h : c = 0
    · subst h
      rfl
    · rw [decide_eq_false h]
      exact beq_eq_false_iff_ne.mpr fun z => h z.symm
  have e2 : (mx rs + 1 == c) = decide (c = mx rs + 1) := by
    by_cases h : c = mx rs + 1
    · rw [decide_eq_true h, h]
      exact beq_self_eq_true _
    · rw [decide_eq_false h]
      exact beq_eq_false_iff_ne.mpr fun z => h z.symm
  rw [e1, e2, Bool.or_false]
theorem turn_in {c m r : Int} (c0 : 0 ≤ c) (cm : c ≤ m) (r0 : 0 ≤ r) (r1 : r < m) : 0 ≤ turnR c m r ∧ turnR c m r < m := by
  unfold turnR
  split <;> omega
/-- the first words of the next width -/
theorem lw_grown {h c r : Int} (h0 : 0 ≤ h) (hc : c ≤ h) (r0 : 0 ≤ r) : lw (2 * h) c r = if h ≤ lw h c r then lw h c r + h else lw h c r := by
  unfold lw
  by_cases q : r < c
  · rw [if_pos q, if_pos q, if_neg (by omega)]
  · rw [if_neg q, if_neg q, if_pos (by omega)]
    omega
theorem map_take_one {α β : Type} {f : α → β} {l : List α} {i : Nat} {x : α} (h : l[i]? = some x) : (l.take (i + 1)).map f = (l.take i).map f ++ [f x] := by
  rw [List.take_add_one, h, List.map_append]
  rfl
end BR

/-! ### rankings in their order: sorted(xs) of rankings that stand in order; the place of one -/
namespace BR
open PySem PySem.Spec PyProof.Rows L2
def cd : List Int → Int
  | [] => 0
  | x :: xs => x * 8 ^ xs.length + cd xs
def cdk (p : List Int × Int) : Int := cd p.1 * 8 + p.2
def Dig (ns : List Int) : Prop := ∀ x ∈ ns, 0 ≤ x ∧ x < 8
theorem pos8 : ∀ n : Nat, (0 : Int) < 8 ^ n
  | 0 => by decide
  | n + 1 => by
    have := pos8 n
    rw [Int.pow_succ]
    omega
theorem cd_rng : ∀ {ns : List Int}, Dig ns → 0 ≤ cd ns ∧ cd ns < 8 ^ ns.length
  | [], _ => by decide
  | x :: xs, h => by
    obtain ⟨a, b⟩ := cd_rng (ns := xs) fun y m => h y (List.mem_cons_of_mem _ m)
    obtain ⟨c, d⟩ := h x List.mem_cons_self
    have p := pos8 xs.length
    have e1 : 0 ≤ x * 8 ^ xs.length := Int.mul_nonneg c (Int.le_of_lt p)
    have e2 : x * 8 ^ xs.length ≤ 7 * 8 ^ xs.length := Int.mul_le_mul_of_nonneg_right (by omega) (Int.le_of_lt p)
    show 0 ≤ x * 8 ^ xs.length + cd xs ∧ x * 8 ^ xs.length + cd xs < 8 ^ (xs.length + 1)
    rw [Int.pow_succ]
    generalize (8 : Int) ^ xs.length = P at *
    omega
theorem lexAt_shift {e r : Nat → Bool} {z : Bool} : ∀ k i : Nat, Ob.lexAt (fun j => e (j + 1)) (fun j => r (j + 1)) z i k = Ob.lexAt e r z (i + 1) k
  | 0, _ => rfl
  | k + 1, i => by
    rw [Ob.lexAt_succ, Ob.lexAt_succ, lexAt_shift k (i + 1)]
theorem lex_cd : ∀ {ns ms : List Int}, Dig ns → Dig ms → ns.length = ms.length →
    Ob.lexAt (fun j => decide (ns.getD j 0 = ms.getD j 0)) (fun j => decide (ns.getD j 0 < ms.getD j 0)) false 0 ns.length = decide (cd ns < cd ms)
  | [], [], _, _, _ => rfl
  | [], _ :: _, _, _, e => nomatch e
  | _ :: _, [], _, _, e => nomatch e
  | x :: xs, y :: ys, h1, h2, e => by
    have e' : xs.length = ys.length := Nat.succ.inj e
    have d1 : Dig xs := fun z m => h1 z (List.mem_cons_of_mem _ m)
    have d2 : Dig ys := fun z m => h2 z (List.mem_cons_of_mem _ m)
    have ih := lex_cd d1 d2 e'
    obtain ⟨a1, a2⟩ := cd_rng d1
    obtain ⟨b1, b2⟩ := cd_rng d2
    have p := pos8 xs.length
    rw [show (x :: xs).length = xs.length + 1 from rfl, Ob.lexAt_succ, ← lexAt_shift]
    show (if decide (x = y) = true then Ob.lexAt (fun j => decide (xs.getD j 0 = ys.getD j 0)) (fun j => decide (xs.getD j 0 < ys.getD j 0)) false 0 xs.length else decide (x < y)) = decide (x * 8 ^ xs.length + cd xs < y * 8 ^ ys.length + cd ys)
    rw [ih, ← e']
    rw [← e'] at b2
    by_cases c : x = y
    · subst c
      rw [if_pos (decide_eq_true rfl)]
      exact decide_eq_decide.mpr (by omega)
    · rw [if_neg (by simp [c])]
      refine decide_eq_decide.mpr ⟨fun l => ?_, fun l => ?_⟩
      · have : (x + 1) * 8 ^ xs.length ≤ y * 8 ^ xs.length := Int.mul_le_mul_of_nonneg_right (by omega) (Int.le_of_lt p)
        rw [Int.add_mul] at this
        omega
      · rcases Int.lt_or_lt_of_ne c with g | g
        · exact g
        · have : (y + 1) * 8 ^ xs.length ≤ x * 8 ^ xs.length := Int.mul_le_mul_of_nonneg_right (by omega) (Int.le_of_lt p)
          rw [Int.add_mul] at this
          omega
theorem cd_inj : ∀ {ns ms : List Int}, Dig ns → Dig ms → ns.length = ms.length → cd ns = cd ms → ns = ms
  | [], [], _, _, _, _ => rfl
  | [], _ :: _, _, _, e, _ => nomatch e
  | _ :: _, [], _, _, e, _ => nomatch e
  | x :: xs, y :: ys, h1, h2, e, c => by
    have e' : xs.length = ys.length := Nat.succ.inj e
    have d1 : Dig xs := fun z m => h1 z (List.mem_cons_of_mem _ m)
    have d2 : Dig ys := fun z m => h2 z (List.mem_cons_of_mem _ m)
    obtain ⟨a1, a2⟩ := cd_rng d1
    obtain ⟨b1, b2⟩ := cd_rng d2
    have p := pos8 xs.length
    change x * 8 ^ xs.length + cd xs = y * 8 ^ ys.length + cd ys at c
    rw [← e'] at b2 c
    have exy : x = y := by
      by_cases g : x = y
      · exact g
      rcases Int.lt_or_lt_of_ne g with g | g
      · have : (x + 1) * 8 ^ xs.length ≤ y * 8 ^ xs.length := Int.mul_le_mul_of_nonneg_right (by omega) (Int.le_of_lt p)
        rw [Int.add_mul] at this
        omega
      · have : (y + 1) * 8 ^ xs.length ≤ x * 8 ^ xs.length := Int.mul_le_mul_of_nonneg_right (by omega) (Int.le_of_lt p)
        rw [Int.add_mul] at this
        omega
    subst exy
    rw [cd_inj d1 d2 e' (by omega)]
/-- a value that is a ranking -/
def RkV (h : Heap) (v : Value) (ns : List Int) (c : Int) : Prop := ∃ (q rt : Addr) (t : Tok) (its : List Value), v = .ref q ∧ h.IsTuple q #[.ref rt, .int c t] ∧ h.IsTuple rt its.toArray ∧ IntsAre its ns
theorem RkV.keeps {h h' : Heap} {v : Value} {ns : List Int} {c : Int} (r : RkV h v ns c) (k : ∀ b o, h.get? b = some o → h'.get? b = some o) : RkV h' v ns c := by
  obtain ⟨q, rt, t, its, e, ⟨o, ho, hc, n, hd⟩, ⟨o', ho', hc', n', hd'⟩, hi⟩ := r
  exact ⟨q, rt, t, its, e, ⟨o, k _ _ ho, hc, n, hd⟩, ⟨o', k _ _ ho', hc', n', hd'⟩, hi⟩
section
variable {prog : Program} {w : World} {A : Around} {s : Shared}
theorem rkv_cmp {v u : Value} {ns ms : List Int} {c d : Int} (hv : RkV s.heap v ns c) (hu : RkV s.heap u ms d) (h1 : Dig ns) (h2 : Dig ms) (he : ns.length = ms.length) (hc : 0 ≤ c ∧ c < 8) (hd : 0 ≤ d ∧ d < 8) (hA : A.units + 8 < cLine) :
    wpAny (model prog w) A (keyLt' (tuples' false) v u) (fun r s' => s' = s ∧ r = decide (cdk (ns, c) < cdk (ms, d))) (fun _ _ => False) s := by
  obtain ⟨q, rt, t, its, rfl, ⟨o, ho, hcl, n, hda⟩, hrt, hi⟩ := hv
  obtain ⟨q', rt', t', its', rfl, ⟨o', ho', hcl', n', hda'⟩, hrt', hi'⟩ := hu
  have e1 : its.toArray.size = ns.length := by rw [List.size_toArray]; exact hi.length
  have e2 : its'.toArray.size = ms.length := by rw [List.size_toArray]; exact hi'.length
  refine PySem.W.kat_lt ho hda ho' hda' ?_
  show PySem.W.KatLex prog w A false (decide (2 < 2)) _ [(.ref rt, .ref rt'), (.int c t, .int d t')] 0 s
  have R1 : Reads s.heap (.ref rt) (.tuple (ns.map .int)) [] := reads_tuple_ints hrt hi
  have R2 : Reads s.heap (.ref rt') (.tuple (ms.map .int)) [] := reads_tuple_ints hrt' hi'
  obtain ⟨l1, p1⟩ := ints_lay ns
  obtain ⟨l2, p2⟩ := ints_lay ms
  have EQ := SeqAt.eqAt_reads (.tuple (ns.map .int)) (.tuple (ms.map .int)) A s _ _ _ _ R1 R2 l1 l2 (by
    show A.units + min (PyData.depthAll (ns.map PyData.int) + 1) (PyData.depthAll (ms.map PyData.int) + 1) < cLine
    rw [p1, p2]
    show A.units + 1 < cLine
    omega)
  rw [ints_eqvT] at EQ
  have one : ∀ {a b : Int}, cdk (ns, a) < cdk (ms, b) ↔ cd ns * 8 + a < cd ms * 8 + b := Iff.rfl
  refine PySem.W.kat_cons (EQ prog w _ _ ?_)
  refine PySem.W.kat_go (fun c1 => ?_) (fun c1 => ?_)
  · have en : ns = ms := of_decide_eq_true c1
    subst en
    refine PySem.W.kat_yes (PySem.W.kat_cons (SeqAt.EqAt.int_int c t d t' prog w _ _ ?_))
    refine PySem.W.kat_go (fun c2 => ?_) (fun c2 => ?_)
    · have ec : c = d := by simpa using c2
      refine PySem.W.kat_yes (PySem.W.kat_nil ⟨rfl, ?_⟩)
      rw [ec]
      exact (decide_eq_false (Int.lt_irrefl _)).symm
    · refine PySem.W.kat_no (PySem.W.kat_one _ _ (PyProof.Rows.lt_int ?_))
      refine (show s = s ∧ decide (c < d) = decide (cdk (ns, c) < cdk (ns, d)) from ⟨rfl, decide_eq_decide.mpr ?_⟩)
      rw [one]
      omega
  · have en : ¬ ns = ms := of_decide_eq_false c1
    have nc : cd ns ≠ cd ms := fun z => en (cd_inj h1 h2 he z)
    have at1 : ∀ j (h1 : j < its.toArray.size), ∃ t, its.toArray[j] = .int (ns.getD j 0) t := fun j h1 => PyProof.Rows.IntsAre.int_at hi _ _ (by simp at h1; simp [h1])
    have at2 : ∀ j (h1 : j < its'.toArray.size), ∃ t, its'.toArray[j] = .int (ms.getD j 0) t := fun j h1 => PyProof.Rows.IntsAre.int_at hi' _ _ (by simp at h1; simp [h1])
    have R := Ob.RcOp.tuples_lt (A := A) (s := s) (e := fun j => decide (ns.getD j 0 = ms.getD j 0)) (r := fun j => decide (ns.getD j 0 < ms.getD j 0)) hrt hrt' (by omega) (fun j h1 h2 => by
      obtain ⟨t, et⟩ := at1 j h1
      obtain ⟨t', et'⟩ := at2 j h2
      rw [et, et']
      have z : (ns.getD j 0 == ms.getD j 0) = decide (ns.getD j 0 = ms.getD j 0) := by
        by_cases q : ns.getD j 0 = ms.getD j 0
        · rw [decide_eq_true q]; exact beq_iff_eq.mpr q
        · rw [decide_eq_false q]; exact beq_eq_false_iff_ne.mpr q
      rw [← z]
      exact SeqAt.EqAt.int_int _ _ _ _) (fun j h1 h2 _ => by
      obtain ⟨t, et⟩ := at1 j h1
      obtain ⟨t', et'⟩ := at2 j h2
      rw [et, et']
      exact Ob.RcOp.lt_int _ _ _ _)
    rw [e1, e2, he, Nat.min_self, decide_eq_false (Nat.lt_irrefl _), ← he, lex_cd h1 h2 he] at R
    refine PySem.W.kat_no (PySem.W.kat_one _ _ ?_)
    refine (show wpAny (model prog w) A (richCompare .Lt (.ref rt) (.ref rt')) _ _ s from R prog w _ _ ?_)
    refine (show s = s ∧ decide (cd ns < cd ms) = decide (cdk (ns, c) < cdk (ms, d)) from ⟨rfl, decide_eq_decide.mpr ?_⟩)
    rw [one]
    omega
end
def intV : V → Int
  | .int i => i
  | _ => 0
/-- the code of a ranking that stands in H -/
def kfH (H : Hp) : V → Int
  | .ref q => match H q with
    | some (.tup [.ref rt, .int c]) => match H rt with
      | some (.tup xs) => cdk (xs.map intV, c)
      | _ => 0
    | _ => 0
  | _ => 0
theorem kfH_at {H : Hp} {q rt : Addr} {ns : List Int} {c : Int} (h : RkAt H q rt ns c) : kfH H (.ref q) = cdk (ns, c) := by
  have e : (ns.map V.int).map intV = ns := by
    rw [List.map_map]
    exact List.map_id' _
  simp only [kfH, h.1, h.2, e]
theorem kfH_swo (H : Hp) : SrtO.Swo (fun v u : Value => decide (kfH H (backV v) < kfH H (backV u))) := by
  refine ⟨fun x y h => ?_, fun x y z h1 h2 => ?_⟩
  · have a := of_decide_eq_true h
    exact decide_eq_false (by omega)
  · have a := of_decide_eq_false h1
    have b := of_decide_eq_false h2
    exact decide_eq_false (by omega)
/-- sorted(xs), xs a list of rankings in their order: a new list of the same ones -/
def rSortedRk (K : PySem.W.Frag) : List V → Hp → VK → Prop := fun vs H Q => ∃ (a : Addr) (qs : List Addr) (ps : List (List Int × Int)) (n : Nat), vs = [V.ref a] ∧ SqL K H a (qs.map V.ref) ∧ RL H qs ps ∧
  (∀ p ∈ ps, Dig p.1 ∧ p.1.length = n ∧ 0 ≤ p.2 ∧ p.2 < 8) ∧ ps.Pairwise (fun p r => cdk p < cdk r) ∧ ∀ p, H p = none → Q (.ref p) (L2.upd H p (.lst (qs.map V.ref)))
theorem pr_pair {α β : Type} {R : α → β → Prop} {S : β → β → Prop} {T : α → α → Prop} : ∀ {as : List α} {bs : List β}, Paired R as bs → bs.Pairwise S → (∀ a b a' b', R a b → R a' b' → S b b' → T a a') → as.Pairwise T
  | _, _, .nil, _, _ => .nil
  | _, _, .cons h t, p, m => by
    obtain ⟨p1, p2⟩ := List.pairwise_cons.mp p
    refine List.pairwise_cons.mpr ⟨fun a' ha => ?_, pr_pair t p2 m⟩
    obtain ⟨i, hi, e⟩ := List.mem_iff_getElem.mp ha
    obtain ⟨b', hb, r⟩ := pr_at t (i := i) (by rw [List.getElem?_eq_getElem hi, e])
    exact m _ _ _ _ h r (p1 _ (List.mem_of_getElem? hb))
theorem rkv_firsts {h : Heap} : ∀ {vs : List Value}, (∀ v ∈ vs, ∃ ns c, RkV h v ns c) → ∃ fs : List Value, PySem.W.KatTups h vs fs ∧ fs.length = vs.length ∧ ∀ f ∈ fs, ∃ rt o, f = Value.ref rt ∧ h.get? rt = some o ∧ o.cls = .type "tuple"
  | [], _ => ⟨[], True.intro, rfl, fun f m => by cases m⟩
  | v :: vs, hv => by
    obtain ⟨fs, h1, h2, h3⟩ := rkv_firsts (vs := vs) fun u m => hv u (List.mem_cons_of_mem _ m)
    obtain ⟨ns, c, q, rt, t, its, rfl, ⟨o, ho, hc, n, hd⟩, ⟨o', ho', hc', n', hd'⟩, hi⟩ := hv v List.mem_cons_self
    refine ⟨.ref rt :: fs, PySem.W.KatTups.cons ho hc hd rfl h1, by rw [List.length_cons, List.length_cons, h2], fun f m => ?_⟩
    rcases List.mem_cons.mp m with rfl | m
    · exact ⟨rt, o', rfl, ho', hc'⟩
    · exact h3 f m
section
variable {X : Cx}
theorem cr_sortedRk (hu : X.A.units + 64 < cLine) : CallR X (.builtin "sorted") (rSortedRk X.K) := by
  intro pins s σ H vs us Q I r h
  obtain ⟨a, qs, ps, n, rfl, hs, hx, hp, hso, q⟩ := h
  obtain ⟨its, rv, hl, hz⟩ := I.list hs
  obtain ⟨u, rfl, ru⟩ := vals1 r
  obtain rfl : u = Value.ref a := ru
  obtain ⟨e1, e2⟩ := refs_back rv fun x m => by
    obtain ⟨t, _, rfl⟩ := List.mem_map.mp m
    exact ⟨t, rfl⟩
  have old : ∀ v ∈ its, ∃ ns c, RkV s.heap v ns c ∧ Dig ns ∧ ns.length = n ∧ (0 ≤ c ∧ c < 8) ∧ kfH H (backV v) = cdk (ns, c) := fun v hv => by
    obtain ⟨t, rfl⟩ := e2 v hv
    have hm : V.ref t ∈ qs.map V.ref := by rw [e1]; exact List.mem_map.mpr ⟨_, hv, rfl⟩
    obtain ⟨t', ht, e⟩ := List.mem_map.mp hm
    cases e
    obtain ⟨i, hi, ei⟩ := List.mem_iff_getElem.mp ht
    obtain ⟨p, hpi, rt, hr⟩ := pr_at hx (i := i) (a := t) (by rw [List.getElem?_eq_getElem hi, ei])
    obtain ⟨d1, d2, d3, d4⟩ := hp p (List.mem_of_getElem? hpi)
    obtain ⟨_, its2, r2, o, ho, hc, n2, hd⟩ := I.hok _ _ hr.1
    obtain ⟨_, its3, r3, o3, ho3, hc3, n3, hd3⟩ := I.hok _ _ hr.2
    obtain ⟨u1, u2, rfl, ri, rj⟩ := vals2 r2
    obtain rfl : u1 = Value.ref rt := ri
    obtain ⟨t2, rfl⟩ := rj
    exact ⟨p.1, p.2, ⟨t, rt, t2, its3, rfl, ⟨o, ho, hc, n2, hd⟩, ⟨o3, ho3, hc3, n3, hd3⟩, Vals.ints r3⟩, d1, d2, ⟨d3, d4⟩, kfH_at hr⟩
  refine SrtO.sorted_ord (kfH_swo H) hl.isList (by rw [← rv.length]; exact hz) (fun h2 h₁ a' ha kk => ?_) fun out h1 h2 => ?_
  · intro h' keep
    have kS : ∀ b o, s.heap.get? b = some o → h'.get? b = some o := fun b o e => keep b o (kk b o e).1 (kk b o e).2
    refine ⟨tuples' false, fun Q E hq => ?_, fun p r hm hm' => ?_⟩
    · obtain ⟨fs, g1, g2, g3⟩ := rkv_firsts (h := h') (vs := its) fun v hv => by
        obtain ⟨ns, c, k1, _⟩ := old v hv
        exact ⟨ns, c, k1.keeps kS⟩
      refine PySem.W.kat_kind (s := { s with heap := h' }) (T := .type "tuple") g1 (by omega) (fun f hm => ?_) (by rfl) ?_
      · obtain ⟨rt, o, rfl, ho, hc⟩ := g3 f hm
        rw [← hc]
        exact (PySem.W.Looks.ld ho).andThen .now
      · have e : (Value.type "tuple" != Value.type "tuple") = false := by first | decide +kernel | rfl | decide
        rw [e]
        exact hq
    · obtain ⟨ns, c, k1, d1, l1, c1, f1⟩ := old p.1 hm
      obtain ⟨ms, d, k2, d2, l2, c2, f2⟩ := old r.1 hm'
      have C := rkv_cmp (prog := X.prog) (w := X.w) (A := X.A.in1.in1) (s := { s with heap := h' }) (k1.keeps kS) (k2.keeps kS) d1 d2 (l1.trans l2.symm) c1 c2 (by show X.A.units + 1 + 1 + 8 < cLine; omega)
      have e : SrtO.lt2 (fun v u : Value => decide (kfH H (backV v) < kfH H (backV u))) p r = decide (cdk (ns, c) < cdk (ms, d)) := by
        show decide (kfH H (backV p.1) < kfH H (backV r.1)) = _
        rw [f1, f2]
      rw [e]
      exact C
  · have so : SrtO.Srtd (fun v u : Value => decide (kfH H (backV v) < kfH H (backV u))) its := by
      have p1 : (qs.map V.ref).Pairwise fun x y => kfH H x < kfH H y := List.pairwise_map.mpr (pr_pair hx hso fun q p q' p' r r' l => by
        obtain ⟨_, r⟩ := r
        obtain ⟨_, r'⟩ := r'
        rw [kfH_at r, kfH_at r']
        exact l)
      rw [e1] at p1
      exact (List.pairwise_map.mp p1).imp fun l => decide_eq_false (by omega)
    obtain rfl := SrtO.stb_uniq (kfH_swo H) h1 so h2
    obtain ⟨n9, hn⟩ := sortedAll_at s.heap out out.toArray
    refine ⟨.ref (s.heap.objs.size + 1), L2.upd H (s.heap.objs.size + 1) (.lst (qs.map V.ref)), I.laid (t' := s.toks) (fun b o e => sortedAll_old (vs := out) (out := out.toArray) e) (Nat.le_succ _) ⟨?_, out, n9, by rw [e1]; exact vals_back e2, hn⟩, rfl, q _ (I.hok.fresh (Nat.le_succ _))⟩
    rw [List.length_map] at hz ⊢
    exact hz
end
end BR

/-! ### all rankings: in order, each of them once; found by all rows of ranks -/
namespace BR
open PySem PySem.Spec PyProof.Rows L2
def ascB : List Int → Bool
  | x :: y :: r => decide (x < y) && ascB (y :: r)
  | _ => true
theorem ascB_pw : ∀ {l : List Int}, ascB l = true → l.Pairwise (· < ·)
  | [], _ => .nil
  | [x], _ => List.pairwise_singleton _ _
  | x :: y :: r, h => by
    obtain ⟨h1, h2⟩ := Bool.and_eq_true_iff.mp h
    have p := ascB_pw (l := y :: r) h2
    have xy : x < y := of_decide_eq_true h1
    refine List.pairwise_cons.mpr ⟨fun z m => ?_, p⟩
    rcases List.mem_cons.mp m with rfl | m
    · exact xy
    · exact Int.lt_trans xy ((List.pairwise_cons.mp p).1 z m)
def digB (n : Nat) (p : List Int × Int) : Bool := p.1.all (fun x => decide (0 ≤ x) && decide (x < 8)) && decide (p.1.length = n) && decide (0 ≤ p.2) && decide (p.2 < 8)
theorem all_asc : ∀ n ∈ ([1, 2, 3, 4, 5] : List Nat), ascB ((allRk n).map cdk) = true := by decide +kernel
theorem all_dig : ∀ n ∈ ([1, 2, 3, 4, 5] : List Nat), (allRk n).all (digB n) = true := by decide +kernel
theorem law_all5 : ∀ n ∈ ([1, 2, 3, 4, 5] : List Nat), (lawRows n n).flatMap lawCuts = allRk n := by decide +kernel
theorem law_rows5 : ∀ n ∈ ([1, 2, 3, 4, 5] : List Nat), ∀ k ∈ List.range (n + 1), (lawRows n k).length ≤ 3125 ∧ ∀ r ∈ lawRows n k, r.length = k ∧ 0 ≤ mx r ∧ mx r ≤ 4 := by decide +kernel
theorem all_pw {n : Nat} (m : n ∈ ([1, 2, 3, 4, 5] : List Nat)) : (allRk n).Pairwise fun p r => cdk p < cdk r := List.pairwise_map.mp (ascB_pw (all_asc n m))
theorem all_dg {n : Nat} (m : n ∈ ([1, 2, 3, 4, 5] : List Nat)) : ∀ p ∈ allRk n, Dig p.1 ∧ p.1.length = n ∧ 0 ≤ p.2 ∧ p.2 < 8 := fun p hp => by
  have h := List.all_eq_true.mp (all_dig n m) p hp
  obtain ⟨h, h4⟩ := Bool.and_eq_true_iff.mp h
  obtain ⟨h, h3⟩ := Bool.and_eq_true_iff.mp h
  obtain ⟨h1, h2⟩ := Bool.and_eq_true_iff.mp h
  refine ⟨fun x hx => ?_, of_decide_eq_true h2, of_decide_eq_true h3, of_decide_eq_true h4⟩
  obtain ⟨a, b⟩ := Bool.and_eq_true_iff.mp (List.all_eq_true.mp h1 x hx)
  exact ⟨of_decide_eq_true a, of_decide_eq_true b⟩
theorem all_once {n : Nat} (m : n ∈ ([1, 2, 3, 4, 5] : List Nat)) {i j : Nat} {p r : List Int × Int} (hi : (allRk n)[i]? = some p) (hj : (allRk n)[j]? = some r) (l : i < j) : p ≠ r := fun e => by
  obtain ⟨i1, i2⟩ := List.getElem?_eq_some_iff.mp hi
  obtain ⟨j1, j2⟩ := List.getElem?_eq_some_iff.mp hj
  have h := List.pairwise_iff_getElem.mp (all_pw m) i j i1 j1 l
  rw [i2, j2, e] at h
  exact Int.lt_irrefl _ h
theorem units1 {k : Nat} {A : Around} (r : Room k A) : A.units + 65 < cLine := by have := r.un; omega
theorem small20000 {n : Nat} (h : n ≤ 20000) : n < sizeLine := by rw [sizeLine_eq]; omega
def rksD (ps : List (List Int × Int)) : List PyData := ps.map fun p => rkD p.1 p.2
theorem rks_all {K : PySem.W.Frag} {H : Hp} : ∀ {qs : List Addr} {ps : List (List Int × Int)}, RL H qs ps → DpAll K H (qs.map V.ref) (rksD ps)
  | _, _, .nil => .nil
  | _, _, .cons h t => let ⟨_, r⟩ := h; .cons r.dp (rks_all t)
theorem rkD_lay (p : List Int × Int) : (rkD p.1 p.2).canLay0 = true ∧ (rkD p.1 p.2).depth = 2 := by
  obtain ⟨l1, l2⟩ := ints_lay p.1
  refine ⟨?_, ?_⟩
  · show (PyData.canLayAll0 (p.1.map PyData.int) && (true && true)) = true
    rw [l1]
    rfl
  · show max (PyData.depthAll (p.1.map PyData.int) + 1) (max 0 0) + 1 = 2
    rw [l2]
    rfl
theorem rks_lay : ∀ ps : List (List Int × Int), PyData.canLayAll0 (rksD ps) = true ∧ PyData.depthAll (rksD ps) ≤ 2
  | [] => ⟨rfl, Nat.zero_le _⟩
  | p :: ps => by
    obtain ⟨h1, h2⟩ := rks_lay ps
    obtain ⟨g1, g2⟩ := rkD_lay p
    refine ⟨?_, ?_⟩
    · show ((rkD p.1 p.2).canLay0 && PyData.canLayAll0 (rksD ps)) = true
      rw [g1, h1]
      rfl
    · show max (rkD p.1 p.2).depth (PyData.depthAll (rksD ps)) ≤ 2
      rw [g2]
      omega
theorem rks_shaped (ps : List (List Int × Int)) : SeqAt.shaped (.list (rksD ps)) = true := by
  obtain ⟨h1, h2⟩ := rks_lay ps
  unfold SeqAt.shaped
  show (PyData.canLayAll0 (rksD ps) && decide (PyData.depthAll (rksD ps) + 1 ≤ 64)) = true
  rw [h1, decide_eq_true (by omega)]
  rfl
theorem ints_shapedL (xs : List Int) : SeqAt.shaped (.list (xs.map PyData.int)) = true := by
  obtain ⟨h1, h2⟩ := ints_lay xs
  unfold SeqAt.shaped
  show (PyData.canLayAll0 (xs.map PyData.int) && decide (PyData.depthAll (xs.map PyData.int) + 1 ≤ 64)) = true
  rw [h1, h2]
  rfl
theorem all_cnt {n : Nat} : n ∈ ([1, 2, 3, 4, 5] : List Nat) → ((allRk n).length : Int) = ([2, 8, 44, 308, 2612] : List Int).getD (n - 1) 0 ∧ 2 ≤ (allRk n).length ∧ (allRk n).length ≤ 2612 := by
  have h : ∀ n ∈ ([1, 2, 3, 4, 5] : List Nat), ((allRk n).length : Int) = ([2, 8, 44, 308, 2612] : List Int).getD (n - 1) 0 ∧ 2 ≤ (allRk n).length ∧ (allRk n).length ≤ 2612 := by decide +kernel
  exact h n
theorem rg_of {n : Nat} {L : Int} (n1 : 1 ≤ n) (n4 : n ≤ 4) (e : L = ([2, 8, 44, 308, 2612] : List Int).getD (n - 1) 0) :
    ∃ (st : Int) (cnt : Nat), atI [V.int 1, V.int 1, V.int 1, V.int 7] ((n : Int) - 1) = some (.int st) ∧ RgC 0 L st cnt ∧ 0 ≤ st ∧ ∀ i : Nat, i < cnt → 0 ≤ (i : Int) * st ∧ (i : Int) * st < L := by
  have : n = 1 ∨ n = 2 ∨ n = 3 ∨ n = 4 := by omega
  rcases this with rfl | rfl | rfl | rfl
  · obtain rfl : L = 2 := e
    exact ⟨1, 2, rfl, ⟨by decide, by decide, by decide +kernel, by decide +kernel⟩, by decide, fun i h => by omega⟩
  · obtain rfl : L = 8 := e
    exact ⟨1, 8, rfl, ⟨by decide, by decide, by decide +kernel, by decide +kernel⟩, by decide, fun i h => by omega⟩
  · obtain rfl : L = 44 := e
    exact ⟨1, 44, rfl, ⟨by decide, by decide, by decide +kernel, by decide +kernel⟩, by decide, fun i h => by omega⟩
  · obtain rfl : L = 308 := e
    exact ⟨7, 44, rfl, ⟨by decide, by decide, by decide +kernel, by decide +kernel⟩, by decide, fun i h => by omega⟩
end BR

/-! ### lists of bools: count; errors let out; tuples that are rankings or not -/
namespace BR
open PySem PySem.Spec PyProof.Rows L2
theorem bools_of_vals : ∀ {bs : List Bool} {us : List Value}, Vals (bs.map V.bl) us → us = bs.map Value.bool
  | [], us, r => by
    rw [List.map_nil] at r
    cases r
    rfl
  | b :: bs, us, r => by
    rw [List.map_cons] at r
    cases r with
    | cons h t =>
      rw [bools_of_vals t]
      cases h
      rfl
def eqB (k : Bool) : Value → Bool
  | .bool b => b == k
  | _ => false
def cntB (k : Bool) (bs : List Bool) : Nat := bs.countP fun b => b == k
def rCntB (K : PySem.W.Frag) : V → List V → Hp → VK → Prop := fun x xs H Q => ∃ (p : Addr) (bs : List Bool) (k : Bool), x = V.ref p ∧ xs = [V.bl k] ∧ SqL K H p (bs.map V.bl) ∧ Q (.int ((cntB k bs : Nat) : Int)) H
theorem mt_lcountB {X : Cx} : MtR X "list.count" (rCntB X.K) := by
  intro pins s σ H x xs v us Q I rx rxs h
  obtain ⟨p, bs, k, rfl, rfl, hs, q⟩ := h
  cases rx
  obtain ⟨u, rfl, ru⟩ := rxs.one
  obtain rfl : u = Value.bool k := ru
  obtain ⟨its, rv, ⟨⟨cls, dd, data, sl⟩, n, ho, hc, hdn, hd⟩, hlen⟩ := I.list hs
  simp only at hc hd
  subst hc hd
  have hi := bools_of_vals rv
  refine call_meets PySem.F.slot_list_count ⟨_, ho, rfl⟩ PySem.F.entry_list_count (PySem.F.args_list_count_2 _ _)
    (SeqAt.list_countAt p its.toArray n dd sl (.bool k) (eqB k)) ⟨ho, fun y hy => ?_, ?_⟩
  · have hy' : y ∈ its := by simpa using hy
    rw [hi] at hy'
    obtain ⟨b, _, rfl⟩ := List.mem_map.mp hy'
    exact SeqAt.EqAt.bool_bool b k
  · have ec : its.toArray.toList.countP (eqB k) = cntB k bs := by
      rw [hi]
      show (bs.map Value.bool).countP (eqB k) = _
      rw [List.countP_map]
      rfl
    refine ⟨.int ((cntB k bs : Nat) : Int), H, I.tok _, ⟨s.toks, ?_⟩, q⟩
    show Value.int ((its.toArray.toList.countP (eqB k) : Nat) : Int) s.toks = Value.int ((cntB k bs : Nat) : Int) s.toks
    rw [ec]
/-- whether (rs, c) is a ranking -/
def okR (rs : List Int) (c : Int) : Bool := decide (srt rs = rg (srt rs).length) && (decide (0 ≤ c) && decide (c ≤ ((srt rs).length : Int)))
theorem isRk_of {rs : List Int} (h : srt rs = rg (srt rs).length) : IsRk rs (srt rs).length := fun k => by
  have e : k ∈ srt rs ↔ k ∈ rg (srt rs).length := by rw [← h]
  exact srt_mem.symm.trans (e.trans rg_mem)
theorem okR_is {rs : List Int} {c : Int} (h : okR rs c = true) : IsRk rs (srt rs).length ∧ 0 ≤ c ∧ c ≤ ((srt rs).length : Int) := by
  obtain ⟨h1, h2⟩ := Bool.and_eq_true_iff.mp h
  obtain ⟨h2, h3⟩ := Bool.and_eq_true_iff.mp h2
  exact ⟨isRk_of (of_decide_eq_true h1), of_decide_eq_true h2, of_decide_eq_true h3⟩
def kindName (j : Nat) : Str := (["wide", "words", "outcome", "cond", "ranking", "odd", "program", "row", "odd", "odd", "odd", "number", "unlike", "odd", "odd"] : List Str).getD j "odd"
theorem rows_has {n : Nat} : ∀ (k : Nat) (r : List Int), r.length = k → (∀ x ∈ r, 0 ≤ x ∧ x < (n : Int)) → r ∈ lawRows n k
  | 0, r, e, _ => by
    rw [List.length_eq_zero_iff.mp e]
    exact List.mem_singleton.mpr rfl
  | k + 1, r, e, h => by
    rcases List.eq_nil_or_concat r with z | ⟨r', x, z⟩
    · rw [z] at e
      exact absurd e (by simp)
    rw [z] at e h ⊢
    rw [List.concat_eq_append] at e h ⊢
    rw [List.length_append] at e
    obtain ⟨x0, x1⟩ := h x (by simp)
    refine List.mem_flatMap.mpr ⟨r', rows_has k r' (Nat.succ.inj e) fun y m => h y (List.mem_append_left _ m), ?_⟩
    refine List.mem_map.mpr ⟨x.toNat, List.mem_range.mpr (by omega), ?_⟩
    rw [Int.toNat_of_nonneg x0]
def kindsAt : List Nat := [0, 1, 2, 3, 4, 6, 7, 11, 12]
def kindNames : List Str := ["wide", "words", "outcome", "cond", "ranking", "program", "row", "number", "unlike"]
def bsOf (j : Nat) : List Bool := kindsAt.map fun i => decide (j = i)
def kindOk (j : Nat) : Bool := decide (kindName j = "odd") || ([5, 8, 9, 10, 13, 14].all (fun i => decide (j ≠ i)) && decide (cntB true (bsOf j) = 1) && (List.range 9).any fun i => decide ((bsOf j)[i]? = some true) && decide (kindNames[i]? = some (kindName j)) && (List.range i).all fun m => decide ((bsOf j)[m]? = some false))
theorem kinds15 : (List.range 15).all kindOk = true := by decide +kernel
theorem kind_of {j : Nat} (kn : kindName j ≠ "odd") (jl : j < 15) : (∀ i ∈ ([5, 8, 9, 10, 13, 14] : List Nat), j ≠ i) ∧ cntB true (bsOf j) = 1 ∧ ∃ i, i < 9 ∧ (bsOf j)[i]? = some true ∧ kindNames[i]? = some (kindName j) ∧ ∀ m, m < i → (bsOf j)[m]? = some false := by
  have h := List.all_eq_true.mp kinds15 j (List.mem_range.mpr jl)
  rcases Bool.or_eq_true_iff.mp h with h | h
  · exact absurd (of_decide_eq_true h) kn
  obtain ⟨h, h3⟩ := Bool.and_eq_true_iff.mp h
  obtain ⟨h1, h2⟩ := Bool.and_eq_true_iff.mp h
  obtain ⟨i, hi, h3⟩ := List.any_eq_true.mp h3
  obtain ⟨h3, h5⟩ := Bool.and_eq_true_iff.mp h3
  obtain ⟨h3, h4⟩ := Bool.and_eq_true_iff.mp h3
  refine ⟨fun i hi => of_decide_eq_true (List.all_eq_true.mp h1 i hi), of_decide_eq_true h2, i, List.mem_range.mp hi, of_decide_eq_true h3, of_decide_eq_true h4, fun m hm => of_decide_eq_true (List.all_eq_true.mp h5 m (List.mem_range.mpr hm))⟩
theorem kindSplit : Txt.split "wide words outcome cond ranking program row number unlike" " " = kindNames := by decide +kernel
theorem kitAny_no {K : PySem.W.Frag} {t : Value} : ∀ {us : List Value}, (∀ u ∈ us, PySem.W.kitOne K t u = some false) → PySem.W.kitAny K t us = some false
  | [], _ => rfl
  | u :: us, h => by
    show (match PySem.W.kitOne K t u with | some true => some true | some false => PySem.W.kitAny K t us | none => none) = some false
    rw [h u List.mem_cons_self]
    exact kitAny_no fun y m => h y (List.mem_cons_of_mem _ m)
theorem mx_in {rs : List Int} (ne : rs ≠ []) : mx rs ∈ rs ∧ ∀ y ∈ rs, y ≤ mx rs := by
  obtain ⟨m, hm, hx⟩ : ∃ m ∈ rs, ∀ y ∈ rs, y ≤ m := by
    induction rs with
    | nil => exact absurd rfl ne
    | cons x l ih =>
      by_cases e : l = []
      · subst e
        exact ⟨x, List.mem_cons_self, fun y hy => by rw [List.mem_singleton.mp hy]; exact Int.le_refl _⟩
      obtain ⟨m, hm, hx⟩ := ih e
      by_cases c : m < x
      · exact ⟨x, List.mem_cons_self, fun y hy => by
          rcases List.mem_cons.mp hy with rfl | hy
          · exact Int.le_refl _
          · have := hx y hy
            omega⟩
      · exact ⟨m, List.mem_cons_of_mem _ hm, fun y hy => by
          rcases List.mem_cons.mp hy with rfl | hy
          · omega
          · exact hx y hy⟩
  rw [← mx_one hm hx]
  exact ⟨hm, hx⟩
/-- asked by the greatest rank -/
theorem okR_mx {rs : List Int} {c : Int} {m : Nat} (ne : rs ≠ []) (em : mx rs + 1 = (m : Int)) : okR rs c = (decide (srt rs = rg m) && (decide (0 ≤ c) && decide (c ≤ (m : Int)))) := by
  by_cases h : srt rs = rg m
  · have l : (srt rs).length = m := by rw [h, rg_len]
    unfold okR
    rw [l]
  · have h2 : ¬ srt rs = rg (srt rs).length := fun z => by
      have := mx_is (srt_pos ne) (isRk_of z)
      have e : (srt rs).length = m := by omega
      rw [e] at z
      exact h z
    unfold okR
    rw [decide_eq_false h, decide_eq_false h2, Bool.false_and, Bool.false_and]
/-- all that are rankings stand among all rankings -/
theorem all_has {rs : List Int} {c : Int} (n1 : 1 ≤ rs.length) (n5 : rs.length ≤ 5) (o : okR rs c = true) : ∃ j : Nat, (allRk rs.length)[j]? = some (rs, c) := by
  obtain ⟨is, c0, cm⟩ := okR_is o
  have ls := srt_len rs
  have ne : rs ≠ [] := fun e => by rw [e] at n1; exact absurd n1 (by decide)
  have em := mx_is (srt_pos ne) is
  have mem : (rs, c) ∈ allRk rs.length := by
    rw [← law_all5 rs.length (five n1 n5)]
    refine List.mem_flatMap.mpr ⟨rs, rows_has _ rs rfl fun x m => ?_, ?_⟩
    · have := (is x).mp m
      omega
    · unfold lawCuts
      rw [if_pos (by omega)]
      refine List.mem_map.mpr ⟨c.toNat, List.mem_range.mpr (by omega), ?_⟩
      rw [Int.toNat_of_nonneg c0]
  obtain ⟨j, hj, e⟩ := List.mem_iff_getElem.mp mem
  exact ⟨j, by rw [List.getElem?_eq_getElem hj, e]⟩
/-- an error of the class at C that carries v is let out -/
def Lets (C : Addr) (v : V) (H : Hp) (E : XK) : Prop := ∀ d H', H d = none → Same H H' → H' d = some (.xd [("value", v)]) → E (.ref C) (some d) H'
theorem Lets.now {C : Addr} {v : V} {H : Hp} {E : XK} (h : Lets C v H E) : ∀ d, H d = none → E (.ref C) (some d) (L2.upd H d (.xd [("value", v)])) := fun d hd => h d _ hd (sameNew hd) upd_same
theorem Lets.later {C : Addr} {v : V} {H H1 : Hp} {E : XK} (h : Lets C v H E) (s : Same H H1) : Lets C v H1 E := fun d H' hd s2 e => h d H' (s.free hd) (s.trans s2) e
def Word (wd x : Int) : Prop := 0 ≤ x ∧ x < 2 ^ wd.toNat
/-- the first integer that is no word stands at i -/
def BadAt (wd : Int) (xs : List Int) (i : Nat) : Prop := ∃ z, xs[i]? = some z ∧ ¬ Word wd z ∧ ∀ (j : Nat) (y : Int), j < i → xs[j]? = some y → Word wd y
theorem bad_or {wd : Int} : ∀ xs : List Int, (∀ x ∈ xs, Word wd x) ∨ ∃ i, BadAt wd xs i
  | [] => .inl fun x m => absurd m (by simp)
  | x :: xs => by
    by_cases h : Word wd x
    · rcases bad_or (wd := wd) xs with a | ⟨i, z, e, nz, pre⟩
      · exact .inl fun y m => by
          rcases List.mem_cons.mp m with rfl | m
          · exact h
          · exact a y m
      · refine .inr ⟨i + 1, z, e, nz, fun j y hj hy => ?_⟩
        cases j with
        | zero =>
          cases hy
          exact h
        | succ j => exact pre j y (by omega) hy
    · exact .inr ⟨0, x, rfl, h, fun j y hj => absurd hj (Nat.not_lt_zero j)⟩
end BR

/-! ### [e for x in l], l a list of ints, e an int of x alone -/
namespace BR
open PySem PySem.Spec PyProof.Rows L2
theorem lc_intsL {K : PySem.W.Frag} {a : Addr} {xs : List Int} {j : Nat} {te : TE} {vs : List Nat} {σ : L2.St} {H1 : Hp} {D : Addr} {Qd : Hp → Prop} (f : Int → Int) (hL : SqL K H1 a (xs.map V.int)) (hz : xs.length ≤ 1000) (hD : H1 D = none)
    (hw : ∀ x : V, wipe ((wipe σ vs).set j (some x)) vs = wipe σ vs)
    (he : ∀ (x : Int) (H2 : Hp) (Q : VK), x ∈ xs → Same H1 H2 → (∀ H3, Same H2 H3 → Q (.int (f x)) H3) → te ((wipe σ vs).set j (some (.int x))) H2 Q)
    (hd : ∀ H, Same H1 H → H D = some (.lst ((xs.map f).map V.int)) → Qd H) :
    ∃ W : Nat → Nat → Hp → Prop, (∃ m, W 0 m (L2.upd H1 D (.lst []))) ∧ ∀ i m H, W i m H →
      ((Itl K a).stop i H ∧ Qd H) ∨ ((Itl K a).go i H ∧ ∃ Nx : Hp → Prop, (∀ H', Nx H' → ∃ m', m' < m ∧ W (i + 1) m' H') ∧ ∀ x H', (Itl K a).yld i H x H' → gName j x (wipe σ vs) H' fun σ2 H2 => wipe σ2 vs = wipe σ vs ∧ tYes σ2 H2 fun b H3 =>
        if b = true then te σ2 H3 fun y H4 => ∃ acc, H4 D = some (.lst acc) ∧ acc.length < sizeLine ∧ Nx (L2.upd H4 D (.lst (acc ++ [y]))) else Nx H3) := by
  refine lc_list (xs := xs.map V.int) (fun i H => Same H1 H ∧ H D = some (.lst (((xs.take i).map f).map V.int))) ⟨sameNew hD, upd_same⟩ (fun i H _ p => p.1.seq hL) ?_ ?_
  · rintro i x H hx ⟨s, hH⟩
    obtain ⟨z, hz1, rfl⟩ := map_at hx
    refine ⟨hw _, ?_⟩
    show te ((wipe σ vs).set j (some (V.int z))) H _
    refine he z H _ (List.mem_of_getElem? hz1) s fun H3 s3 => ?_
    refine ⟨_, s3 _ _ hH, small1000 (by rw [List.length_map, List.length_map, List.length_take]; omega), ?_, ?_⟩
    · intro b o e
      rw [upd_ne (ne_of_none e hD)]
      exact s3 _ _ (s _ _ e)
    · rw [upd_same, map_take_succ hz1]
  · rintro H ⟨s, hH⟩
    rw [List.length_map, List.take_length] at hH
    exact hd H s hH
theorem ite_by {K : PySem.W.Frag} {H0 : Hp} {Qd : Hp → Prop} {B : V → Hp → (Hp → Prop) → Prop} {a : Addr} {xs : List V} (Pv : Nat → Hp → Prop) (h0 : Pv 0 H0) (hl : ∀ i H, i ≤ xs.length → Pv i H → SqL K H a xs)
    (hs : ∀ i x H T, xs[i]? = some x → Pv i H → H T = none → B (.ref T) (L2.upd H T (.tup [.int (i : Nat), x])) (Pv (i + 1))) (hd : ∀ H, Pv xs.length H → Qd H) :
    ∃ W : Nat → Nat → Hp → Prop, (∃ m, W 0 m H0) ∧ ∀ i m H, W i m H → ((Ite K a).stop i H ∧ Qd H) ∨ ((Ite K a).go i H ∧ ∃ Nx : Hp → Prop, (∀ H', Nx H' → ∃ m', m' < m ∧ W (i + 1) m' H') ∧ ∀ x H', (Ite K a).yld i H x H' → B x H' Nx) := by
  refine ⟨fun i m H => m = xs.length - i ∧ i ≤ xs.length ∧ Pv i H, ⟨xs.length, by simp, Nat.zero_le _, h0⟩, fun i m H => ?_⟩
  rintro ⟨rfl, hi, p⟩
  have q := hl i H hi p
  rcases Nat.lt_or_eq_of_le hi with c | c
  · refine .inr ⟨⟨xs, xs[i], q, by simp [c]⟩, Pv (i + 1), fun H' p' => ⟨xs.length - (i + 1), by omega, rfl, c, p'⟩, fun x H' y => ?_⟩
    obtain ⟨T, x1, e1, e2, e3, y⟩ := y
    subst e1 e3
    exact hs i x1 _ T (y xs q) p e2
  · subst c
    exact .inl ⟨⟨xs, q, Nat.le_refl _⟩, hd H p⟩
theorem rep_if (b : Bool) (x : V) : (List.replicate (if b = true then (1 : Int) else 0).toNat [x]).flatten = if b = true then [x] else [] := by cases b <;> rfl
/-- [[word, value]] * int(test) -/
theorem flagL {σ : L2.St} {H : Hp} {Q : VK} {wd : Str} {i : Nat} {v : V} {tb : TE} {b : Bool} (hv : σ[i]? = some (some v)) (hb : ∀ (H' : Hp) (Q' : VK), Same H H' → (∀ H'', Same H' H'' → Q' (.bl b) H'') → tb σ H' Q')
    (k : ∀ g0 g2 H', Same H H' → H' g0 = some (.lst [.str wd, v]) → H' g2 = some (.lst (if b = true then [.ref g0] else [])) → Q (.ref g2) H') :
    tOp rRep (tLst (tCons (tLst (tCons (tC (.str wd)) (tCons (tVar i) tNil))) tNil)) (tCB (fun xs H Q => (∃ i, xs = [V.int i] ∧ Q (V.int i) H) ∨ ∃ k, xs = [V.bl k] ∧ Q (V.int (if k = true then 1 else 0)) H) (tCons tb tNil)) σ H Q := by
  refine ⟨_, hv, (by show 2 ≤ sizeLine; decide), fun g0 hg0 => ⟨(by show 1 ≤ sizeLine; decide), fun g1 hg1 => ?_⟩⟩
  refine hb _ _ ((sameNew hg0).trans (sameNew hg1)) fun H2 s2 => ?_
  refine .inr ⟨_, rfl, ?_⟩
  refine ⟨g1, _, [.ref g0], rfl, rfl, s2 _ _ upd_same, by split <;> decide, by split <;> decide, (by show 1 * _ ≤ sizeLine; split <;> decide), fun g2 hg2 => ?_⟩
  rw [rep_if]
  exact k g0 g2 _ (((sameNew hg0).trans (sameNew hg1)).trans (s2.trans (sameNew hg2))) ((sameNew hg2) _ _ (s2 _ _ ((sameNew hg1) _ _ upd_same))) upd_same
end BR

/-! ### the conditions and the outcomes of words -/
namespace BR
open PySem PySem.Spec PyProof.Rows L2
def outs : List Str := ["E", "LB", "GA", "GB", "LA"]
def tabC : List (Str × List Str) := [("e", ["E"]), ("ne", ["LB", "GA", "GB", "LA"]), ("l", ["LB", "LA"]), ("le", ["E", "LB", "LA"]), ("g", ["GA", "GB"]), ("ge", ["E", "GA", "GB"]), ("b", ["LB", "GB"]), ("be", ["E", "LB", "GB"]), ("a", ["GA", "LA"]), ("ae", ["E", "GA", "LA"]), ("same", ["E", "LB", "GA"]), ("mixed", ["GB", "LA"])]
def mixedO (z : Str) : Bool := decide (z ∈ (["GB", "LA"] : List Str))
def compOuts (a b : Str) : List Str := if a = "E" then [b] else if b = "E" then [a] else if mixedO a != mixedO b then (if mixedO a then [a] else [b]) else if a ≠ b then ["E", "LB", "GA"] else if mixedO a then [] else [a]
def Wd (wd x : Int) : Prop := 0 ≤ x ∧ x < 2 ^ wd.toNat
/-- how two words stand -/
inductive Ord5 (wd x y : Int) : Str → Prop
  | e : x = y → sv wd x = sv wd y → (sv wd x < 0 ↔ sv wd y < 0) → Ord5 wd x y "E"
  | lb : x < y → sv wd x < sv wd y → (sv wd x < 0 ↔ sv wd y < 0) → Ord5 wd x y "LB"
  | ga : y < x → sv wd y < sv wd x → (sv wd x < 0 ↔ sv wd y < 0) → Ord5 wd x y "GA"
  | gb : x < y → sv wd y < sv wd x → ¬ sv wd x < 0 → sv wd y < 0 → Ord5 wd x y "GB"
  | la : y < x → sv wd x < sv wd y → sv wd x < 0 → ¬ sv wd y < 0 → Ord5 wd x y "LA"
theorem ord5 {wd x y : Int} (h : 1 ≤ wd) (hx : Wd wd x) (hy : Wd wd y) : Ord5 wd x y (oc wd x y) := by
  have e := two_half h
  have p := pow_pos (wd - 1).toNat
  obtain ⟨x0, x1⟩ := hx
  obtain ⟨y0, y1⟩ := hy
  unfold oc
  by_cases c : x = y
  · rw [if_pos c]
    subst c
    exact .e rfl rfl Iff.rfl
  rw [if_neg c]
  by_cases d : sv wd x < sv wd y
  · rw [if_pos d]
    by_cases f : x < y
    · rw [if_pos f]
      refine .lb f d ?_
      unfold sv at d ⊢
      split at d <;> split at d <;> constructor <;> intro _ <;> omega
    · rw [if_neg f]
      refine .la (by omega) d ?_ ?_ <;> (unfold sv at d ⊢; split at d <;> split at d <;> omega)
  · rw [if_neg d]
    by_cases f : x < y
    · rw [if_pos f]
      refine .gb f ?_ ?_ ?_ <;> (unfold sv at d ⊢; split at d <;> split at d <;> omega)
    · rw [if_neg f]
      refine .ga (by omega) ?_ ?_
      · unfold sv at d ⊢; split at d <;> split at d <;> omega
      · unfold sv at d ⊢; split at d <;> split at d <;> constructor <;> intro _ <;> omega
theorem oc_in {wd x y : Int} (h : 1 ≤ wd) (hx : Wd wd x) (hy : Wd wd y) : oc wd x y ∈ outs := by
  have o := ord5 h hx hy
  generalize oc wd x y = z at o
  cases o <;> decide +kernel
theorem comp_ok {wd x y z : Int} (h : 1 ≤ wd) (hx : Wd wd x) (hy : Wd wd y) (hz : Wd wd z) : oc wd x z ∈ compOuts (oc wd x y) (oc wd y z) := by
  have o1 := ord5 h hx hy
  have o2 := ord5 h hy hz
  have o3 := ord5 h hx hz
  generalize oc wd x y = a at o1
  generalize oc wd y z = b at o2
  generalize oc wd x z = c at o3
  cases o1 <;> cases o2 <;> cases o3 <;> first | decide +kernel | (exfalso; omega)
/-- the truth of a condition by its meaning -/
def truV (wd x y : Int) : List (Str × Bool) := [("e", decide (x = y)), ("ne", !decide (x = y)), ("l", decide (sv wd x < sv wd y)), ("le", decide (sv wd x ≤ sv wd y)), ("g", decide (sv wd x > sv wd y)),
  ("ge", decide (sv wd x ≥ sv wd y)), ("b", decide (x < y)), ("be", decide (x ≤ y)), ("a", decide (x > y)), ("ae", decide (x ≥ y)), ("same", decide (decide (sv wd x < 0) = decide (sv wd y < 0))), ("mixed", !decide (decide (sv wd x < 0) = decide (sv wd y < 0)))]
theorem tab_cases {z : Str} {os : List Str} (h : tabC.lookup z = some os) : (z = "e" ∧ os = (["E"] : List Str)) ∨ (z = "ne" ∧ os = (["LB", "GA", "GB", "LA"] : List Str)) ∨ (z = "l" ∧ os = (["LB", "LA"] : List Str)) ∨ (z = "le" ∧ os = (["E", "LB", "LA"] : List Str)) ∨ (z = "g" ∧ os = (["GA", "GB"] : List Str)) ∨ (z = "ge" ∧ os = (["E", "GA", "GB"] : List Str)) ∨ (z = "b" ∧ os = (["LB", "GB"] : List Str)) ∨ (z = "be" ∧ os = (["E", "LB", "GB"] : List Str)) ∨ (z = "a" ∧ os = (["GA", "LA"] : List Str)) ∨ (z = "ae" ∧ os = (["E", "GA", "LA"] : List Str)) ∨ (z = "same" ∧ os = (["E", "LB", "GA"] : List Str)) ∨ (z = "mixed" ∧ os = (["GB", "LA"] : List Str)) := by
  have key : ∀ {l : List (Str × List Str)}, l.lookup z = some os → (z, os) ∈ l := by
    intro l
    induction l with
    | nil => intro h; cases h
    | cons p l ih =>
      obtain ⟨k, v⟩ := p
      intro h
      by_cases c : z = k
      · subst c
        simp [List.lookup] at h
        subst h
        exact List.mem_cons_self
      · have e : (z == k) = false := by simpa using c
        simp only [List.lookup, e] at h
        exact List.mem_cons_of_mem _ (ih h)
  have m := key h
  simpa [tabC] using m
theorem truV_ok {wd x y : Int} {z : Str} {os : List Str} (h : 1 ≤ wd) (hx : Wd wd x) (hy : Wd wd y) (hz : tabC.lookup z = some os) : (truV wd x y).lookup z = some (decide (oc wd x y ∈ os)) := by
  have o1 := ord5 h hx hy
  generalize oc wd x y = a at o1
  have tr : ∀ {p : Prop} [Decidable p] {b : Bool}, (p ↔ b = true) → decide p = b := fun {p} _ {b} h => by
    cases b
    · exact decide_eq_false fun q => absurd (h.mp q) (by decide)
    · exact decide_eq_true (h.mpr rfl)
  rcases tab_cases hz with ⟨rfl, rfl⟩ | ⟨rfl, rfl⟩ | ⟨rfl, rfl⟩ | ⟨rfl, rfl⟩ | ⟨rfl, rfl⟩ | ⟨rfl, rfl⟩ | ⟨rfl, rfl⟩ | ⟨rfl, rfl⟩ | ⟨rfl, rfl⟩ | ⟨rfl, rfl⟩ | ⟨rfl, rfl⟩ | ⟨rfl, rfl⟩
  · refine congrArg some ((?_ : decide (x = y) = _)); cases o1 <;> first | exact (decide_eq_true (by omega)).trans (by decide +kernel) | exact (decide_eq_false (by omega)).trans (by decide +kernel)
  · refine congrArg some ((?_ : (!decide (x = y)) = _)); cases o1 <;> first | exact (congrArg not (decide_eq_true (by omega))).trans (by decide +kernel) | exact (congrArg not (decide_eq_false (by omega))).trans (by decide +kernel)
  · refine congrArg some ((?_ : decide (sv wd x < sv wd y) = _)); cases o1 <;> first | exact (decide_eq_true (by omega)).trans (by decide +kernel) | exact (decide_eq_false (by omega)).trans (by decide +kernel)
  · refine congrArg some ((?_ : decide (sv wd x ≤ sv wd y) = _)); cases o1 <;> first | exact (decide_eq_true (by omega)).trans (by decide +kernel) | exact (decide_eq_false (by omega)).trans (by decide +kernel)
  · refine congrArg some ((?_ : decide (sv wd x > sv wd y) = _)); cases o1 <;> first | exact (decide_eq_true (by omega)).trans (by decide +kernel) | exact (decide_eq_false (by omega)).trans (by decide +kernel)
  · refine congrArg some ((?_ : decide (sv wd x ≥ sv wd y) = _)); cases o1 <;> first | exact (decide_eq_true (by omega)).trans (by decide +kernel) | exact (decide_eq_false (by omega)).trans (by decide +kernel)
  · refine congrArg some ((?_ : decide (x < y) = _)); cases o1 <;> first | exact (decide_eq_true (by omega)).trans (by decide +kernel) | exact (decide_eq_false (by omega)).trans (by decide +kernel)
  · refine congrArg some ((?_ : decide (x ≤ y) = _)); cases o1 <;> first | exact (decide_eq_true (by omega)).trans (by decide +kernel) | exact (decide_eq_false (by omega)).trans (by decide +kernel)
  · refine congrArg some ((?_ : decide (x > y) = _)); cases o1 <;> first | exact (decide_eq_true (by omega)).trans (by decide +kernel) | exact (decide_eq_false (by omega)).trans (by decide +kernel)
  · refine congrArg some ((?_ : decide (x ≥ y) = _)); cases o1 <;> first | exact (decide_eq_true (by omega)).trans (by decide +kernel) | exact (decide_eq_false (by omega)).trans (by decide +kernel)
  · have g : ∀ b, ((sv wd x < 0 ↔ sv wd y < 0) ↔ b = true) → decide (decide (sv wd x < 0) = decide (sv wd y < 0)) = b := fun b hb => tr ⟨fun q => hb.mp (decide_eq_decide.mp q), fun q => decide_eq_decide.mpr (hb.mpr q)⟩
    refine congrArg some ((?_ : decide (decide (sv wd x < 0) = decide (sv wd y < 0)) = _))
    refine g _ ?_
    cases o1 <;> first | exact ⟨fun _ => by decide +kernel, fun _ => by omega⟩ | exact ⟨fun q => by exfalso; omega, fun q => absurd q (by decide +kernel)⟩
  · have g : ∀ b, ((sv wd x < 0 ↔ sv wd y < 0) ↔ b = false) → (!decide (decide (sv wd x < 0) = decide (sv wd y < 0))) = b := fun b hb => by
      cases b
      · rw [tr (b := true) ⟨fun q => rfl, fun q => decide_eq_decide.mpr (hb.mpr rfl)⟩]
        rfl
      · rw [tr (b := false) ⟨fun q => absurd (hb.mp (decide_eq_decide.mp q)) (by decide), fun q => absurd q (by decide)⟩]
        rfl
    refine congrArg some ((?_ : (!decide (decide (sv wd x < 0) = decide (sv wd y < 0))) = _))
    refine g _ ?_
    cases o1 <;> first | exact ⟨fun _ => by decide +kernel, fun _ => by omega⟩ | exact ⟨fun q => by exfalso; omega, fun q => absurd q (by decide +kernel)⟩
/-! sets of outcomes -/
def allSets : List (List Str) := outs.foldr (fun x r => r.map (x :: ·) ++ r) [[]]
theorem pick_mem (f : Str → Bool) : outs.filter f ∈ allSets := by
  have g : ∀ l : List Str, l.filter f ∈ l.foldr (fun x r => r.map (x :: ·) ++ r) [[]] := by
    intro l
    induction l with
    | nil => exact List.mem_singleton.mpr rfl
    | cons x l ih =>
      rw [List.foldr_cons, List.filter_cons]
      cases f x
      · exact List.mem_append_right _ ih
      · exact List.mem_append_left _ (List.mem_map.mpr ⟨_, ih, rfl⟩)
  exact g outs
def conds : List Str := ["e", "ne", "l", "le", "g", "ge", "b", "be", "a", "ae", "same", "mixed"]
def outsOf (z : Str) : List Str := (tabC.lookup z).getD []
def dueOf (s : List Str) : List Str := conds.filter fun c => decide (outsOf c = s)
theorem due_ok (f : Str → Bool) : (dueOf (outs.filter f)).length ≤ 1 ∧ (tabC.find? fun q => decide (q.2 = outs.filter f)).map (·.1) = (dueOf (outs.filter f)).head? := by
  have : ∀ s ∈ allSets, (dueOf s).length ≤ 1 ∧ (tabC.find? fun q => decide (q.2 = s)).map (·.1) = (dueOf s).head? := by decide +kernel
  exact this _ (pick_mem f)
theorem cond_back : ∀ c ∈ conds, ((tabC.find? fun q => decide (q.2 = outs.filter fun o => decide (o ∈ outsOf c))).isSome = true) ∧ tabC.lookup c = some (outsOf c) ∧ (∀ z ∈ outsOf c, z ∈ outs) ∧ (outsOf c).length ≤ 5 := by decide +kernel
/-! all triples of words of three bits -/
def lsOf (n : Nat) (a b : Str) : List Str := (List.range n).filterMap fun i => if oc 3 ((i / 64 : Nat) : Int) ((i / 8 % 8 : Nat) : Int) = a ∧ oc 3 ((i / 8 % 8 : Nat) : Int) ((i % 8 : Nat) : Int) = b then some (oc 3 ((i / 64 : Nat) : Int) ((i % 8 : Nat) : Int)) else none
theorem ls_all : ∀ a ∈ outs, ∀ b ∈ outs, (outs.filter fun o => decide (o ∈ lsOf 512 a b)) = compOuts a b := by decide +kernel
theorem ls_len (n : Nat) (a b : Str) : (lsOf n a b).length ≤ n := by
  unfold lsOf
  exact Nat.le_trans (List.length_filterMap_le _ _) (by simp)
theorem idx_ok : ∀ z ∈ outs, (outs.map V.str)[outs.idxOf z]? = some (.str z) ∧ ∀ (m : Nat) (z' : V), m < outs.idxOf z → (outs.map V.str)[m]? = some z' → eqV z' (.str z) = false := by
  intro z hz
  have : z = "E" ∨ z = "LB" ∨ z = "GA" ∨ z = "GB" ∨ z = "LA" := by simpa [outs] using hz
  rcases this with rfl | rfl | rfl | rfl | rfl
  · exact ⟨rfl, fun m z' h => absurd h (Nat.not_lt_zero m)⟩
  · refine ⟨rfl, fun m z' h e => ?_⟩
    have h' : m < 1 := h
    obtain rfl : m = 0 := by omega
    cases e
    decide +kernel
  · refine ⟨rfl, fun m z' h e => ?_⟩
    have h' : m < 2 := h
    have : m = 0 ∨ m = 1 := by omega
    rcases this with rfl | rfl <;> cases e <;> decide +kernel
  · refine ⟨rfl, fun m z' h e => ?_⟩
    have h' : m < 3 := h
    have : m = 0 ∨ m = 1 ∨ m = 2 := by omega
    rcases this with rfl | rfl | rfl <;> cases e <;> decide +kernel
  · refine ⟨rfl, fun m z' h e => ?_⟩
    have h' : m < 4 := h
    have : m = 0 ∨ m = 1 ∨ m = 2 ∨ m = 3 := by omega
    rcases this with rfl | rfl | rfl | rfl <;> cases e <;> decide +kernel
theorem spots_up : ∀ c ∈ conds, ((outsOf c).map fun z => ((outs.idxOf z : Nat) : Int)).Pairwise (· ≤ ·) := by decide +kernel
end BR

/-! ### conditions turned: what becomes of the outcomes of two words -/
namespace BR
open PySem PySem.Spec PyProof.Rows L2
def tabE : List (Str × Str) := [("l", "b"), ("le", "be"), ("g", "a"), ("ge", "ae"), ("b", "l"), ("be", "le"), ("a", "g"), ("ae", "ge")]
def tabV : List (Str × Str) := [("l", "g"), ("le", "ge"), ("g", "l"), ("ge", "le"), ("b", "a"), ("be", "ae"), ("a", "b"), ("ae", "be")]
def exC (c : Str) : Str := (tabE.lookup c).getD c
def rvC (c : Str) : Str := (tabV.lookup c).getD c
def swapO (o : Str) : Str := if o = "GB" then "LA" else if o = "LA" then "GB" else o
def revO (o : Str) : Str := if o = "GB" then "LA" else if o = "LA" then "GB" else if o = "LB" then "GA" else if o = "GA" then "LB" else o
def flW (wd x : Int) : Int := (x + 2 ^ (wd - 1).toNat) % 2 ^ wd.toNat
def ivW (wd x : Int) : Int := 2 ^ wd.toNat - 1 - x
section
variable {wd x y : Int}
theorem fl_eq (h : 1 ≤ wd) (hx : Wd wd x) : flW wd x = sv wd x + 2 ^ (wd - 1).toNat := by
  have e := two_half h
  have p := pow_pos (wd - 1).toNat
  obtain ⟨x0, x1⟩ := hx
  unfold flW sv
  by_cases c : (2 : Int) ^ (wd - 1).toNat ≤ x
  · rw [if_pos c, show x + 2 ^ (wd - 1).toNat = (x + 2 ^ (wd - 1).toNat - 2 ^ wd.toNat) + 2 ^ wd.toNat * 1 by omega, Int.add_mul_emod_self_left, Int.emod_eq_of_lt (by omega) (by omega)]
    omega
  · rw [if_neg c, Int.emod_eq_of_lt (by omega) (by omega)]
theorem fl_wd (h : 1 ≤ wd) (hx : Wd wd x) : Wd wd (flW wd x) := ⟨Int.emod_nonneg _ (by have := pow_pos wd.toNat; omega), Int.emod_lt_of_pos _ (pow_pos _)⟩
theorem sv_fl (h : 1 ≤ wd) (hx : Wd wd x) : sv wd (flW wd x) = x - 2 ^ (wd - 1).toNat := by
  have e := two_half h
  have p := pow_pos (wd - 1).toNat
  have f := fl_eq h hx
  obtain ⟨x0, x1⟩ := hx
  rw [f]
  unfold sv
  split <;> split <;> omega
theorem iv_wd (h : 1 ≤ wd) (hx : Wd wd x) : Wd wd (ivW wd x) := by
  obtain ⟨x0, x1⟩ := hx
  unfold ivW
  exact ⟨by omega, by omega⟩
theorem sv_iv (h : 1 ≤ wd) (hx : Wd wd x) : sv wd (ivW wd x) = -1 - sv wd x := by
  have e := two_half h
  have p := pow_pos (wd - 1).toNat
  obtain ⟨x0, x1⟩ := hx
  unfold sv ivW
  split <;> split <;> omega
theorem oc_fl (h : 1 ≤ wd) (hx : Wd wd x) (hy : Wd wd y) : oc wd (flW wd x) (flW wd y) = swapO (oc wd x y) := by
  have o1 := ord5 h hx hy
  have o2 := ord5 h (fl_wd h hx) (fl_wd h hy)
  have a1 := sv_fl h hx
  have a2 := sv_fl h hy
  have f := fl_eq h hx
  have g := fl_eq h hy
  generalize oc wd x y = a at o1
  generalize oc wd (flW wd x) (flW wd y) = b at o2
  cases o1 <;> cases o2 <;> first | decide +kernel | (exfalso; omega)
theorem oc_iv (h : 1 ≤ wd) (hx : Wd wd x) (hy : Wd wd y) : oc wd (ivW wd x) (ivW wd y) = revO (oc wd x y) := by
  have o1 := ord5 h hx hy
  have o2 := ord5 h (iv_wd h hx) (iv_wd h hy)
  have a1 := sv_iv h hx
  have a2 := sv_iv h hy
  have f : ivW wd x = 2 ^ wd.toNat - 1 - x := rfl
  have g : ivW wd y = 2 ^ wd.toNat - 1 - y := rfl
  generalize oc wd x y = a at o1
  generalize oc wd (ivW wd x) (ivW wd y) = b at o2
  cases o1 <;> cases o2 <;> first | decide +kernel | (exfalso; omega)
end
theorem ex_ok : ∀ c ∈ conds, exC c ∈ conds ∧ rvC c ∈ conds ∧ exC (exC c) = c ∧ rvC (rvC c) = c ∧ exC (rvC c) = rvC (exC c) ∧ (tabC.find? fun q => decide (q.2 = outs.filter fun o => decide (o ∈ outsOf c))).map (·.1) = some c := by decide +kernel
theorem ex_in : ∀ c ∈ conds, ∀ o ∈ outs, decide (swapO o ∈ outsOf c) = decide (o ∈ outsOf (exC c)) ∧ decide (revO o ∈ outsOf c) = decide (o ∈ outsOf (rvC c)) := by decide +kernel
theorem pair_up : ∀ a ∈ conds, ∀ b ∈ conds, sortedS [a, b] = true → sortedS [b, a] = true → a = b := by decide +kernel
theorem perm2 {a b : Str} {ys : List Str} (h : ys.Perm [a, b]) : ys = [a, b] ∨ ys = [b, a] := by
  have l := h.length_eq
  match ys, l with
  | [x, y], _ =>
    rcases List.mem_cons.mp (h.mem_iff.mp List.mem_cons_self) with rfl | m
    · have q := (List.perm_cons x).mp h
      rw [List.singleton_perm_singleton.mp q]
      exact .inl rfl
    · obtain rfl := List.mem_singleton.mp m
      have q := (List.perm_cons x).mp (h.trans (List.Perm.swap x a []))
      rw [List.singleton_perm_singleton.mp q]
      exact .inr rfl
theorem pair_one {a b : Str} (ha : a ∈ conds) (hb : b ∈ conds) {ys zs : List Str} (h1 : ys.Perm [a, b]) (h2 : zs.Perm [a, b]) (s1 : sortedS ys = true) (s2 : sortedS zs = true) : ys = zs := by
  rcases perm2 h1 with rfl | rfl <;> rcases perm2 h2 with rfl | rfl
  · rfl
  · obtain rfl := pair_up a ha b hb s1 s2
    rfl
  · obtain rfl := pair_up a ha b hb s2 s1
    rfl
  · rfl
theorem strs_shaped4 {xs : List Str} (ok : ∀ x ∈ xs, PyData.strOk x = true) : SeqAt.shaped (.list (xs.map PyData.str)) = true := by
  obtain ⟨h1, h2⟩ := strs_lay xs ok
  unfold SeqAt.shaped
  show (PyData.canLayAll0 (xs.map PyData.str) && decide (PyData.depthAll (xs.map PyData.str) + 1 ≤ 64)) = true
  rw [h1, h2]
  rfl
theorem dp_strs4 {K : PySem.W.Frag} {H : Hp} {a : Addr} {xs : List Str} (h : H a = some (.lst (xs.map V.str))) : Dp K H (.ref a) (.list (xs.map PyData.str)) := .lst (SqL.of h) (strs_all xs)
end BR

/-! ### own classes: len(o), a + b, a == b by the class's own defs -/
namespace BR
open PySem PySem.Spec PyProof.Rows L2
section
variable {X : Cx} {CX : CXT} {k : Nat} {C f : Addr} {fd : FuncData} {ps : List Str} {sp : Sp} {E : XK}
/-- the callee runs inside a built-in's call -/
theorem run_fnIn {pins : List (Addr × Obj)} {σ : L2.St} {H : Hp} {s : Shared} {Q : VK} {us : List Value} {vs : List V} (F : FnOk X.prog X.w X.K X.mg X.base CX k f fd ps sp) (hr : Room k X.A.in1) (hb : Binds X.K fd ps []) (hx : Passes CX X E)
    (I : Inv X pins σ H s) (r : Vals vs us) (h : sp vs H Q E) : wpAny (model X.prog X.w) X.A.in1 (call (.ref f) us) (EP X pins σ Q) X.xe s := by
  have hl : us.length = ps.length := by rw [← r.length]; exact F.len _ _ _ _ h
  have b := hb s us I.kIn (by simpa using hl)
  rw [List.append_nil] at b
  refine wpAny_call (codeAny_mono (F.run X.A.in1 X.stack s H ⟨us, []⟩ us vs Q E hr I.env0.in1 b r h) fun r s' hq => ?_)
  cases r with
  | error e => exact hx pins σ H s e s' I hq
  | ok fl =>
    cases fl with
    | ret u => exact I.after hq
    | next => exact False.elim hq
    | brk => exact False.elim hq
    | cont => exact False.elim hq
def rLenOwn (C : Addr) (sp : Sp) (E : XK) : List V → Hp → VK → Prop := fun xs H Q => ∃ a dx fs, xs = [V.ref a] ∧ H a = some (.ins C dx fs) ∧ sp [.ref a] H (fun z H' => ∃ n : Nat, z = .int (n : Int) ∧ n < 2 ^ 62 ∧ Q (.int (n : Int)) H') E
theorem call_lenOwn (m : Meth X.K C "__len__" f) (F : FnOk X.prog X.w X.K X.mg X.base CX k f fd ps sp) (hr : Room (k + 1) X.A) (hb : Binds X.K fd ps []) (hx : Passes CX X E) : CallR X (.builtin "len") (rLenOwn C sp E) := by
  intro pins s σ H xs us Q I r h
  obtain ⟨a, dx, fs, rfl, ha, q⟩ := h
  rw [Vals.ref1 r]
  obtain ⟨mA, O, _⟩ := ins_get I.hok ha
  obtain ⟨od, J, _⟩ := O.look
  obtain ⟨m0, hF⟩ := I.fr
  refine PySem.W.len_K hF I.ok.mod.kin J m.at_ m.fn (wpAny_mono (run_fnIn (us := [.ref a]) (vs := [.ref a]) F hr.in1 hb hx I (.cons rfl .nil) q) (fun w s' z => ?_) fun _ _ x => x)
  obtain ⟨z', H', I', rz, n, e, hn, qz⟩ := z
  subst e
  obtain ⟨t, rfl⟩ := (show ∃ t, w = Value.int n t from rz)
  exact ⟨⟨by omega, by omega⟩, .int n, H', I'.tok _, ⟨_, rfl⟩, qz⟩
def rEqOwn (K : PySem.W.Frag) (C : Addr) (sp : Sp) (E : XK) : R2 := fun x y H Q => ∃ a b dx dy fs gs, x = .ref a ∧ y = .ref b ∧ H a = some (.ins C dx fs) ∧ H b = some (.ins C dy gs) ∧ sp [x, y] H Q E
theorem op_eqOwn (m : Meth X.K C "__eq__" f) (F : FnOk X.prog X.w X.K X.mg X.base CX k f fd ps sp) (hr : Room k X.A) (hb : Binds X.K fd ps []) (hx : Passes CX X E) : OpR X (compareOp .Eq) (rEqOwn X.K C sp E) := by
  intro pins s σ H x y v u Q I rx ry h
  obtain ⟨a, b, dx, dy, fs, gs, rfl, rfl, ha, hb', q⟩ := h
  cases rx
  cases ry
  obtain ⟨mA, O, _⟩ := ins_get I.hok ha
  obtain ⟨mB, O', _⟩ := ins_get I.hok hb'
  obtain ⟨od, J, _⟩ := O.look
  obtain ⟨od', J', _⟩ := O'.look
  obtain ⟨m0, hF⟩ := I.fr
  show wpAny _ _ (richCompare .Eq (.ref a) (.ref b)) _ _ _
  refine PySem.W.cmp_K (op := .Eq) (tb := .ref C) hr.units0 hF I.ok.mod.kin J J'.type (by simp [PySem.W.notFirst]) m.at_ m.fn ?_
  refine wpAny_mono (run_fn (us := [.ref a, .ref b]) (vs := [.ref a, .ref b]) F hr hb .nil hx I (.cons rfl (.cons rfl .nil)) (by simpa using q)) (fun w s' z => ?_) fun _ _ x => x
  obtain ⟨z', H', I', rz, qz⟩ := z
  exact SlX.cmpback rz ⟨z', H', I', rz, qz⟩
/-- a + b, by the class's own def, which may raise -/
def tAddOwnS (C : Addr) (sp : Sp) (E : L2.St → XK) (ta tb : TE) : TE := fun σ H Q => ta σ H fun x H1 => tb σ H1 fun y H2 => ∃ a b dx dy fs gs, x = .ref a ∧ y = .ref b ∧ H2 a = some (.ins C dx fs) ∧ H2 b = some (.ins C dy gs) ∧ sp [x, y] H2 Q (E σ)
theorem pe_addOwnS {e1 e2 : Expr} {ta tb : TE} {pos : Pos} {Ef : L2.St → XK} (m : Meth X.K C "__add__" f) (sf : PySem.W.selfFirst X.K C = true) (F : FnOk X.prog X.w X.K X.mg X.base CX k f fd ps sp) (hr : Room k X.A) (hb : Binds X.K fd ps []) (hx : ∀ σ, PassesAt CX X σ (Ef σ)) (h1 : PE X e1 ta) (h2 : PE X e2 tb) :
    PE X (.BinOp e1 .Add e2 pos) (tAddOwnS C sp Ef ta tb) := by
  refine ⟨fun pins s σ H Q I h => ?_⟩
  refine wpAny_BinOp (binT h1 h2 I h fun v u s2 x y H2 I2 rx ry q => ?_)
  obtain ⟨a, b, dx, dy, fs, gs, rfl, rfl, ha, hb', q⟩ := q
  cases rx
  cases ry
  obtain ⟨mA, O, _⟩ := ins_get I2.hok ha
  obtain ⟨mB, O', _⟩ := ins_get I2.hok hb'
  obtain ⟨od, J, _⟩ := O.look
  obtain ⟨od', J', _⟩ := O'.look
  obtain ⟨m0, hF⟩ := I2.fr
  refine PySem.W.binop_K (op := .Add) hF I2.ok.mod.kin J J'.type sf m.at_ m.fn ?_
  refine wpAny_mono (run_fnS (us := [.ref a, .ref b]) (vs := [.ref a, .ref b]) F hr hb (hx σ) I2 (.cons rfl (.cons rfl .nil)) q) (fun w s' z => ?_) fun _ _ x => x
  obtain ⟨z', H', I', rz, qz⟩ := z
  exact SlX.cmpback rz ⟨z', H', I', rz, qz⟩
end
end BR

/-! ### own classes where something may be raised: C(..), o.m(..) -/
namespace BR
open PySem PySem.Spec PyProof.Rows L2
def tMakeS (C : Addr) (sp : Sp) (E : L2.St → XK) (t : TA) : TE := fun σ H Q => t σ H fun vs H1 => ∀ x dx, H1 x = none → H1 dx = none → dx ≠ x → sp (.ref x :: vs) (upd (upd H1 dx (.own x)) x (.ins C dx [])) (fun v H2 => v = .non ∧ Q (.ref x) H2) (E σ)
def tMethS (C : Addr) (m : Str) (sp : Sp) (E : L2.St → XK) (ta : TE) (t : TA) : TE := fun σ H Q => ta σ H fun x H1 => ∃ a dx fs, x = .ref a ∧ H1 a = some (.ins C dx fs) ∧ fs.lookup m = none ∧ t σ H1 fun vs H2 => sp (x :: vs) H2 Q (E σ)
section
variable {X : Cx} {CX : CXT} {k : Nat} {f C : Addr} {fd : FuncData} {ps : List Str} {sp : Sp} {E : L2.St → XK} {x m : Str} {p pos apos : Pos} {e o : Expr} {es : List Expr} {ta : TE} {t : TA}
theorem pe_makeS (M : Mk X.K C f) (F : FnOk X.prog X.w X.K X.mg X.base CX k f fd ps sp) (room : Room (k + 1) X.A) (hg : Gl X x) (hm : X.mg x = some (.ref C)) (b : Binds X.K fd ps []) (hx : ∀ σ, PassesAt CX X σ (E σ)) (args : PA X (e :: es) t)
    (nodb : (x == ("__debug__" : Str)) = false := by decide) (st1 : starEach (e :: es) X.env = (false, eval e X.env) :: starEach es X.env := by rfl) (st2 : (backTo pos (starEach es X.env)).any (·.1) = false := by rfl) : PE X (.Call (.Name x p) (e :: es) [] pos) (tMakeS C sp E t) := by
  refine ⟨fun pins s σ H Q I0 hh => ?_⟩
  refine wpAny_Call_Name_kw (ld_glob I0 hg hm ?_ nodb)
  refine PySem.W.callWith_K (h₀ := X.base) I0.ok.mod.kin M.kp (thn (args.run pos pins s σ H _ I0 hh) fun us s1 ⟨vs, H1, I, r, q⟩ => ⟨I.kIn, ?_⟩) st1 st2
  have hq := q (s1.heap.objs.size + 1) s1.heap.objs.size (I.hok.fresh (Nat.le_succ _)) (I.hok.fresh (Nat.le_refl _)) (Nat.ne_of_lt (Nat.lt_succ_self _))
  have I2 := Inv.made (C := C) I
  have r2 : Vals (V.ref (s1.heap.objs.size + 1) :: vs) (Value.ref (s1.heap.objs.size + 1) :: us) := .cons rfl r
  have hl : (Value.ref (s1.heap.objs.size + 1) :: us).length = ps.length := r2.length.symm.trans (F.len _ _ _ _ hq)
  have bd := b _ (Value.ref (s1.heap.objs.size + 1) :: us) I2.kIn (by rw [List.append_nil]; exact hl)
  rw [List.append_nil] at bd
  refine wpAny_call (make_map (f := f) I.kIn M.makes M.init (beq_iff_eq.mp M.fn) (codeAny_mono (F.run _ X.stack _ _ ⟨Value.ref (s1.heap.objs.size + 1) :: us, []⟩ _ _ _ (E σ) (room.make C us []) (I2.env0.make C us []) bd r2 hq) fun r s' hq' => ?_))
  cases r with
  | error er => exact hx σ pins _ _ er s' I2 hq'
  | ok fl =>
    cases fl with
    | ret u =>
      obtain ⟨v, H2, I3, rv, ev, q3⟩ := I2.after hq'
      subst ev
      exact ⟨rv, ⟨V.ref (s1.heap.objs.size + 1), H2, I3, rfl, q3⟩⟩
    | next => exact hq'.elim
    | brk => exact hq'.elim
    | cont => exact hq'.elim
theorem pe_methO {pl : Sem Bool} (he : PE X o ta) (c : Cls X.K C) (hm : Meth X.K C m f) (F : FnOk X.prog X.w X.K X.mg X.base CX k f fd ps sp) (room : Room k X.A) (b : Binds X.K fd ps []) (hx : ∀ σ, PassesAt CX X σ (E σ)) (args : PA X (e :: es) t)
    (st1 : starEach (e :: es) X.env = (false, eval e X.env) :: starEach es X.env := by rfl) (st2 : (backTo pos (starEach es X.env)).any (·.1) = false := by rfl)
    (tree : eval (.Call (.Attribute o m apos) (e :: es) [] pos) X.env = (do let ov ← eval o X.env; standAt apos.atName; let (f, first) ← holding [ov] (getMethod ov m pl); callWith pos f first (backTo pos (starEach (e :: es) X.env)) (backToKw pos (keywordEach [] X.env))) := by rfl) :
    PE X (.Call (.Attribute o m apos) (e :: es) [] pos) (tMethS C m sp E ta t) := by
  refine ⟨fun pins s σ H Q I0 hh => ?_⟩
  refine PySem.W.methodCall_KW (pl := pl) (thn (he.run pins s σ H _ I0 hh) fun u s1 ⟨x, H1, I1, rx, a, dx, fs, ex, ea, l, q⟩ => ?_) tree
  subst ex
  obtain rfl : u = Value.ref a := rx
  refine getmeth_ok I1 ea c hm l ?_
  exact PySem.W.callWith_K (first := [.ref a]) (h₀ := X.base) I0.ok.mod.kin hm.kp (thn (args.run pos pins s1 σ H1 _ I1 q) fun us s2 ⟨vs, H2, I2, r, q2⟩ => ⟨I2.kIn, run_fnS (us := .ref a :: us) (vs := .ref a :: vs) F room b (hx σ) I2 (.cons rfl r) q2⟩) st1 st2
end
end BR

/-! ### a dict display whose keys are tuples -/
namespace BR
open PySem PySem.Spec PyProof.Rows L2
section
variable {X : Cx} {pins : List (Addr × Obj)} {σ : L2.St} {H : Hp} {s : Shared} {a b : Addr} {v : V} {r : Value} {A : Around} {E : Value → Shared → Prop}
theorem d_dictSetT {kvs : List (List L2.Key × V)} {k : List L2.Key} {Q : Unit → Shared → Prop} (hu : A.units < cLine) (I : Inv X pins σ H s) (e : H a = some (.dT kvs)) (eb : H b = some (.tup (k.map kV))) (hl : kvs.length < sizeLine) (rv : RelV v r)
    (h : ∀ s', Inv X pins σ (upd H a (.dT (putK kvs k v))) s' → Q () s') : wpAny (model X.prog X.w) A (dictSet a (.ref b) r) Q E s := by
  obtain ⟨z, hd, xs, rel, dd⟩ := dt_of I.hok e
  have hz : xs.length ≤ sizeLine := by rw [← Paired.length rel]; exact z
  have hl : (putK kvs k v).length ≤ sizeLine := by have := length_putK kvs k v; omega
  refine wpAny_dictSet_heap (hsz := hz) (knd := tupleKind (mixKind X.prog X.w)) hu (key_of I.hok eb) dd fun h' dd' hs => h _ ?_
  obtain ⟨q, es, ep, hq, h2, h3, h4, _, h5⟩ := dd'
  refine d_write I (by rw [e]; exact True.intro) hs ⟨q, hq⟩ ⟨hl, hd, _, (rel.put k eb rv).keeps fun c ys ec => ?_, q, es, ep, hq, h2, h3, h4, h5⟩
  rw [upd_ne (ne_of ec e (fun z => nomatch z))]
  exact ec
/-- the entries of the display: key, the tuple that carries it, value -/
abbrev TEs := List (List L2.Key × Addr × V)
def putAll (acc : List (List L2.Key × V)) (l : TEs) : List (List L2.Key × V) := l.foldl (fun acc e => putK acc e.1 e.2.2) acc
theorem d_storeAllT : ∀ (l : TEs) {ws : List (Value × Value)} {kvs : List (List L2.Key × V)} {H : Hp} {s : Shared} {Q : PUnit → Shared → Prop}, A.units < cLine → Inv X pins σ H s → H a = some (.dT kvs) →
    (∀ e ∈ l, H e.2.1 = some (.tup (e.1.map kV))) → kvs.length + l.length < sizeLine → VV (l.map fun e => (.ref e.2.1, e.2.2)) ws →
    (∀ s', Inv X pins σ (upd H a (.dT (putAll kvs l))) s' → Q PUnit.unit s') → wpAny (model X.prog X.w) A (storeAll a ws) Q E s
  | [], ws, kvs, H, s, Q, hu, I, e, _, _, r, h => by
    cases r
    unfold storeAll
    rw [List.forIn_nil]
    refine wpAny_pure (h s ?_)
    rw [show putAll kvs [] = kvs from rfl, show upd H a (.dT kvs) = H from by funext b; unfold upd; split <;> simp_all]
    exact I
  | x :: l, ws, kvs, H, s, Q, hu, I, e, hk, hl, r, h => by
    rw [List.map_cons] at r
    cases r with
    | @cons p q ps qs h1 t =>
      obtain ⟨q1, q2⟩ := q
      obtain rfl : q1 = Value.ref x.2.1 := h1.1
      unfold storeAll
      rw [List.forIn_cons]
      have hx := hk x List.mem_cons_self
      rw [List.length_cons] at hl
      refine wpAny_bind (wpAny_bind (d_dictSetT (k := x.1) hu I e hx (by omega) h1.2 fun s' I' => wpAny_pure ?_))
      refine d_storeAllT l (kvs := putK kvs x.1 x.2.2) hu I' upd_same (fun y m => ?_) (by have := length_putK kvs x.1 x.2.2; omega) t fun s2 I2 => h s2 ?_
      · rw [upd_ne (ne_of (hk y (List.mem_cons_of_mem x m)) e (fun z => nomatch z))]
        exact hk y (List.mem_cons_of_mem x m)
      · rw [upd_upd] at I2
        exact I2
end
/-- {k: v, ..} with tuples of ints and texts as keys -/
def tDispT (trs : List (TE × TE)) : TE := fun σ H Q => ∀ p, H p = none → tPairs trs σ (upd H p (.dT [])) fun ps H2 => H2 p = some (.dT []) ∧ ∃ l : TEs, ps = l.map (fun e => (.ref e.2.1, e.2.2)) ∧ (∀ e ∈ l, H2 e.2.1 = some (.tup (e.1.map kV))) ∧ l.length ≤ 15 ∧ Q (.ref p) (upd H2 p (.dT (putAll [] l)))
theorem pe_dispT {X : Cx} {pos : Pos} {keys : List (Option Expr)} {values : List Expr} {trs : List (TE × TE)} (hu : X.A.units < cLine) (h : PPs X pos keys values trs) (hall : keys.all (·.isSome) = true) (hl : keys.length = values.length) (h0 : keys ≠ [])
    (h15 : keys.length ≤ 15) : PE X (.Dict keys values pos) (tDispT trs) := by
  refine ⟨fun pins s σ H Q I q => ?_⟩
  have hn := I.hok.fresh (Nat.le_refl s.heap.objs.size)
  have I1 := I.laid (a := s.heap.objs.size) (o := .dT []) (h' := s.heap.push { cls := .type "dict", data := .dict #[] }) (t' := s.toks) (fun _ _ q => Heap.get?_push_of_some _ q) (Nat.le_refl _) (dt_empty s.heap I.big)
  refine wpAny_Dict_any hall hl h0 h15 (thn (h.run pins _ σ _ _ I1 (q _ hn)) fun ws s2 ⟨ps, H2, I2, rel, e, l, ep, hk, lk, q2⟩ => ?_)
  subst ep
  refine d_storeAllT l hu I2 e hk (by rw [sizeLine_eq]; simp only [List.length_nil]; omega) rel fun s3 I3 => ⟨.ref s.heap.objs.size, _, I3, rfl, q2⟩
/-! ### a dict of the module, its keys walked -/
def ItY (kvs : List (Str × V)) : It := ⟨fun i _ => i < kvs.length, fun i H v H' => H' = H ∧ ∃ k x, v = .str k ∧ kvs[i]? = some (k, x), fun i _ => kvs.length ≤ i⟩
theorem turn_keysY {P : Program} {w : World} {K : PySem.W.Frag} {tg : Expr} {d : Addr} {kvs : List (Str × V)} {us : List (Str × Value)} {n : Nat} (it : Addr)
    (hm : ∀ h : Heap, K.In h → h.DictAt (strKind P w) d us n) (rel : KV kvs us) : Turn P w K tg (ItY kvs) [it] it (fun i h => h.IsKeyIter it d i us.length n) where
  mem := by simp
  obj := by
    rintro i h ⟨oi, e, c, dd⟩ b hb
    obtain rfl : b = it := by simpa using hb
    exact ⟨oi, e, fun v z => by rw [dd] at z; cases z⟩
  keep := fun i h h' st k => st.at fun oi e => k it (by simp) oi e
  item := by
    intro X hP hw hK hc i pins s σ H E I hf st hg
    subst hP hw hK
    have hi : i < kvs.length := hg
    obtain ⟨f0, f1, f2, f3, f4, f5⟩ := hf it (by simp)
    obtain ⟨⟨k, x⟩, hp⟩ : ∃ p, kvs[i]? = some p := ⟨kvs[i], List.getElem?_eq_getElem hi⟩
    obtain ⟨u, hq, ru⟩ := kv_get rel hp
    refine wpAny_pyNext_dict_item st (hm _ I.kIn) hq fun key h' hkey st' sb => ?_
    have I1 : Inv X pins σ H { s with heap := h' } := I.turned (t' := s.toks) (fun b ob hb e => (sb.2 b hb).trans e) f0 f1 f3 f4 f5
    obtain ⟨oi, e, c, dd⟩ := id st'
    obtain ⟨tk, rfl⟩ := Value.isStrOf_shape hkey
    exact ⟨_, rfl, go_of (s := { s with heap := h' }) e c dd (by decide) ⟨.str k, H, I1, ⟨_, rfl⟩, ⟨rfl, k, x, rfl, hp⟩, st', fun b hb => (hf b hb).1⟩⟩
  done := by
    intro X hP hw hK hc i pins s σ H E I hf st hg
    subst hP hw hK
    have hge : kvs.length ≤ i := hg
    have lz : kvs.length = us.length := Paired.length rel
    obtain ⟨f0, f1, f2, f3, f4, f5⟩ := hf it (by simp)
    exact wpAny_pyNext_dict_end (I.ok.hd hc) st (hm _ I.kIn) (List.getElem?_eq_none (by omega)) fun h' eb => ⟨rfl, I.turned (t' := s.toks) (fun b o hb z => eb b o hb z) f0 f1 f3 f4 f5⟩
  self := fun A i s Q E st h => wpAny_pyIter_keyiter st h
def iKeysY (K : PySem.W.Frag) (P : Program) (w : World) (td : TE) : TI := fun σ H R => td σ H fun x H1 => ∃ d kvs, x = .ref d ∧ KTab K P w d kvs ∧ R (ItY kvs) H1
theorem pi_keysY {X : Cx} {tg e : Expr} {td : TE} (he : PE X e td) : PI X tg e (iKeysY X.K X.prog X.w td) := by
  refine ⟨fun pins s σ H R I h => ?_⟩
  refine thn (he.run pins s σ H _ I h) ?_
  rintro u s1 ⟨x, H1, I1, rx, d, kvs, rfl, T, q⟩
  obtain rfl : u = Value.ref d := rx
  obtain ⟨es, n, us, lk, lit, ps, nd, rel⟩ := T.ex
  have hm : ∀ h : Heap, X.K.In h → h.DictAt (strKind X.prog X.w) d us n := fun h XK => ⟨_, es, XK _ _ lk, ⟨rfl, rfl, rfl⟩, rfl, fun e he => by
    obtain ⟨x, t, e1, e2⟩ := lit.all e (Array.mem_toList_iff.mpr he)
    exact ⟨x, by rw [e1]; exact strKind_is X.prog X.w x t, e2⟩, ps, nd⟩
  exact wpAny_pyIter_dict T.low (hm _ I1.kIn) (pi_one (tk := s1.toks) I1 _ (turn_keysY _ hm rel) ⟨_, Heap.get?_push_size _ rfl, rfl, rfl⟩ q)
theorem walk_keysY {kvs : List (Str × V)} : L2.Walk (ItY kvs) kvs.length (fun _ => True) (fun i H v H' => H' = H ∧ ∃ k x, v = .str k ∧ kvs[i]? = some (k, x)) :=
  ⟨fun _ _ hi _ => hi, fun _ _ => Nat.le_refl _, fun _ _ _ _ _ _ h => h⟩
/-! ### a comprehension with two fors: each walk by an invariant over the heap -/
section
variable {J : It} {n : Nat} {G : Hp → Prop} {Y : Nat → Hp → V → Hp → Prop}
theorem lc2_in (w : L2.Walk J n G Y) {g1 : TG} {tt1 : TT} {te : TE} {vs1 : List Nat} {σ2 : L2.St} {H4 : Hp} {D : Addr} {Nx : Hp → Prop} (P : Nat → Hp → Prop) (h0 : P 0 H4) (hG : ∀ i H, i ≤ n → P i H → G H)
    (hs : ∀ i x H H', i < n → P i H → Y i H x H' → g1 x (wipe σ2 vs1) H' fun σ3 H5 => wipe σ3 vs1 = wipe σ2 vs1 ∧ tt1 σ3 H5 fun b H6 =>
        if b = true then te σ3 H6 fun y H7 => ∃ acc, H7 D = some (.lst acc) ∧ acc.length < sizeLine ∧ P (i + 1) (upd H7 D (.lst (acc ++ [y]))) else P (i + 1) H6) (hd : ∀ H, P n H → Nx H) :
    ∃ W1 : Nat → Nat → Hp → Prop, (∃ m, W1 0 m H4) ∧ ∀ j k H, W1 j k H →
      (J.stop j H ∧ Nx H) ∨ (J.go j H ∧ ∃ Nx1 : Hp → Prop, (∀ H', Nx1 H' → ∃ k', k' < k ∧ W1 (j + 1) k' H') ∧ ∀ x H', J.yld j H x H' → g1 x (wipe σ2 vs1) H' fun σ3 H5 => wipe σ3 vs1 = wipe σ2 vs1 ∧ tt1 σ3 H5 fun b H6 =>
        if b = true then te σ3 H6 fun y H7 => ∃ acc, H7 D = some (.lst acc) ∧ acc.length < sizeLine ∧ Nx1 (upd H7 D (.lst (acc ++ [y]))) else Nx1 H6) := by
  refine ⟨fun i m H => m = n - i ∧ i ≤ n ∧ P i H, ⟨n, by simp, Nat.zero_le _, h0⟩, ?_⟩
  rintro i m H ⟨rfl, hi, p⟩
  have q := hG i H hi p
  by_cases hlt : i < n
  · exact .inr ⟨w.goes i H hlt q, P (i + 1), fun H' p' => ⟨n - (i + 1), by omega, rfl, hlt, p'⟩, fun x H' y => hs i x H H' hlt p (w.yields i H x H' hlt q y)⟩
  · have e : i = n := by omega
    subst e
    exact .inl ⟨w.stops H q, hd H p⟩
theorem lc2_it (w : L2.Walk J n G Y) {g g1 : TG} {tt tt1 : TT} {wi1 : TI} {te : TE} {vs vs1 : List Nat} {σ : L2.St} {H1 : Hp} {D : Addr} {Qd : Hp → Prop} (P : Nat → Hp → Prop) (h0 : P 0 (upd H1 D (.lst []))) (hG : ∀ i H, i ≤ n → P i H → G H)
    (hs : ∀ i x H H', i < n → P i H → Y i H x H' → g x (wipe σ vs) H' fun σ2 H2 => wipe σ2 vs = wipe σ vs ∧ tt σ2 H2 fun b H3 =>
      if b = true then wi1 σ2 H3 fun J1 H4 => ∃ W1 : Nat → Nat → Hp → Prop, (∃ m, W1 0 m H4) ∧ ∀ j k H, W1 j k H →
        (J1.stop j H ∧ P (i + 1) H) ∨ (J1.go j H ∧ ∃ Nx1 : Hp → Prop, (∀ H', Nx1 H' → ∃ k', k' < k ∧ W1 (j + 1) k' H') ∧ ∀ x H', J1.yld j H x H' → g1 x (wipe σ2 vs1) H' fun σ3 H5 => wipe σ3 vs1 = wipe σ2 vs1 ∧ tt1 σ3 H5 fun b H6 =>
          if b = true then te σ3 H6 fun y H7 => ∃ acc, H7 D = some (.lst acc) ∧ acc.length < sizeLine ∧ Nx1 (upd H7 D (.lst (acc ++ [y]))) else Nx1 H6)
      else P (i + 1) H3) (hd : ∀ H, P n H → Qd H) :
    ∃ W : Nat → Nat → Hp → Prop, (∃ m, W 0 m (upd H1 D (.lst []))) ∧ ∀ i m H, W i m H →
      (J.stop i H ∧ Qd H) ∨ (J.go i H ∧ ∃ Nx : Hp → Prop, (∀ H', Nx H' → ∃ m', m' < m ∧ W (i + 1) m' H') ∧ ∀ x H', J.yld i H x H' → g x (wipe σ vs) H' fun σ2 H2 => wipe σ2 vs = wipe σ vs ∧ tt σ2 H2 fun b H3 =>
        if b = true then wi1 σ2 H3 fun J1 H4 => ∃ W1 : Nat → Nat → Hp → Prop, (∃ m, W1 0 m H4) ∧ ∀ j k H, W1 j k H →
          (J1.stop j H ∧ Nx H) ∨ (J1.go j H ∧ ∃ Nx1 : Hp → Prop, (∀ H', Nx1 H' → ∃ k', k' < k ∧ W1 (j + 1) k' H') ∧ ∀ x H', J1.yld j H x H' → g1 x (wipe σ2 vs1) H' fun σ3 H5 => wipe σ3 vs1 = wipe σ2 vs1 ∧ tt1 σ3 H5 fun b H6 =>
            if b = true then te σ3 H6 fun y H7 => ∃ acc, H7 D = some (.lst acc) ∧ acc.length < sizeLine ∧ Nx1 (upd H7 D (.lst (acc ++ [y]))) else Nx1 H6)
        else Nx H3) := by
  refine ⟨fun i m H => m = n - i ∧ i ≤ n ∧ P i H, ⟨n, by simp, Nat.zero_le _, h0⟩, ?_⟩
  rintro i m H ⟨rfl, hi, p⟩
  have q := hG i H hi p
  by_cases hlt : i < n
  · exact .inr ⟨w.goes i H hlt q, P (i + 1), fun H' p' => ⟨n - (i + 1), by omega, rfl, hlt, p'⟩, fun x H' y => hs i x H H' hlt p (w.yields i H x H' hlt q y)⟩
  · have e : i = n := by omega
    subst e
    exact .inl ⟨w.stops H q, hd H p⟩
end
/-! ### a if t else b as a test -/
def tIfT (tc t1 t2 : TT) : TT := fun σ H Q => tc σ H fun c H1 => if c = true then t1 σ H1 Q else t2 σ H1 Q
theorem pt_ifExp {X : Cx} {c a b : Expr} {pos : Pos} {tc t1 t2 : TT} (hc : PT X c tc) (ha : PT X a t1) (hb : PT X b t2) : PT X (.IfExp c a b pos) (tIfT tc t1 t2) := by
  refine ⟨fun pins s σ H Q I h => ?_⟩
  refine isTrue_IfExp (thn (hc.run pins s σ H _ I h) fun d s1 ⟨H1, I1, q1⟩ => ?_)
  cases d with
  | true => exact ha.run pins s1 σ H1 Q I1 q1
  | false => exact hb.run pins s1 σ H1 Q I1 q1
theorem prm {α β : Type} {R S : α → β → Prop} : ∀ {as : List α} {bs : List β}, Paired R as bs → (∀ a b, R a b → S a b) → Paired S as bs
  | _, _, .nil, _ => .nil
  | _, _, .cons h t, m => .cons (m _ _ h) (prm t m)
theorem pra {α β : Type} {R : α → β → Prop} : ∀ {as : List α} {bs : List β} {cs : List α} {ds : List β}, Paired R as bs → Paired R cs ds → Paired R (as ++ cs) (bs ++ ds)
  | _, _, _, _, .nil, q => q
  | _, _, _, _, .cons h t, q => .cons h (pra t q)
end BR

/-! ### dicts whose keys are tuples, nested too, new ones and the module's own -/
namespace BR
open PySem PySem.Spec PyProof.Rows L2
mutual
/-- the layer's value v is the key k -/
inductive NkAt (K : PySem.W.Frag) (H : Hp) : NestedKey → V → Prop
  | non : NkAt K H .none .non
  | bl (b : Bool) : NkAt K H (.num (if b = true then 1 else 0)) (.bl b)
  | int (i : Int) : NkAt K H (.num i) (.int i)
  | str (z : Str) : NkAt K H (.text z) (.str z)
  | tup {a : Addr} {xs : List V} {ks : List NestedKey} : SqT K H a xs → NkAll K H ks xs → NkAt K H (.tup ks) (.ref a)
inductive NkAll (K : PySem.W.Frag) (H : Hp) : List NestedKey → List V → Prop
  | nil : NkAll K H [] []
  | cons {k : NestedKey} {v : V} {ks : List NestedKey} {vs : List V} : NkAt K H k v → NkAll K H ks vs → NkAll K H (k :: ks) (v :: vs)
end
section
variable {P : Program} {w : World} {K : PySem.W.Frag} {H H' : Hp} {h : Heap}
mutual
theorem NkAt.is (hok : HOk P w H h) (KX : K.In h) : ∀ {k : NestedKey} {v : V} {u : Value}, NkAt K H k v → RelV v u → NestedIs h k u
  | _, _, _, .non, r => by cases r; exact .none
  | _, _, _, .bl b, r => by cases r; exact .bool rfl
  | _, _, _, .int i, r => by obtain ⟨t, rfl⟩ := r; exact .int i t
  | _, _, _, .str z, r => by obtain ⟨t, rfl⟩ := r; exact .text z t
  | _, _, _, .tup hS hA, r => by
    cases r
    obtain ⟨its, o, n, hv, e, hc, hd⟩ := sqT_at hok KX hS
    refine .tup e hc hd ?_
    have q := NkAll.is hok KX hA hv
    simpa using q
theorem NkAll.is (hok : HOk P w H h) (KX : K.In h) : ∀ {ks : List NestedKey} {vs : List V} {us : List Value}, NkAll K H ks vs → Vals vs us → NestedAll h ks us
  | _, _, _, .nil, r => by cases r; exact .nil
  | _, _, _, .cons a b, r => by
    cases r with
    | cons r1 r2 => exact .cons (NkAt.is hok KX a r1) (NkAll.is hok KX b r2)
end
mutual
theorem NkAt.mono (ht : ∀ b ys, SqT K H b ys → SqT K H' b ys) : ∀ {k : NestedKey} {v : V}, NkAt K H k v → NkAt K H' k v
  | _, _, .non => .non
  | _, _, .bl b => .bl b
  | _, _, .int i => .int i
  | _, _, .str z => .str z
  | _, _, .tup hS hA => .tup (ht _ _ hS) (NkAll.mono ht hA)
theorem NkAll.mono (ht : ∀ b ys, SqT K H b ys → SqT K H' b ys) : ∀ {ks : List NestedKey} {vs : List V}, NkAll K H ks vs → NkAll K H' ks vs
  | _, _, .nil => .nil
  | _, _, .cons a b => .cons (NkAt.mono ht a) (NkAll.mono ht b)
end
theorem NkAt.same {k : NestedKey} {v : V} (x : NkAt K H k v) (s : Same H H') : NkAt K H' k v := x.mono fun b ys q => sameT s q
/-- key, the tuple that carries it, value -/
abbrev NEs := List (NestedKey × Addr × V)
abbrev NR : NEs → List (NestedKey × Addr × Value) → Prop := Paired fun p q => p.1 = q.1 ∧ p.2.1 = q.2.1 ∧ RelV p.2.2 q.2.2
def valN (kvs : NEs) (k : NestedKey) : Option V := (kvs.find? fun e => decide (e.1 = k)).map (·.2.2)
def putN (kvs : NEs) (k : NestedKey) (b : Addr) (v : V) : NEs := if (valN kvs k).isSome = true then kvs.map (fun e => if e.1 = k then (e.1, e.2.1, v) else e) else kvs ++ [(k, b, v)]
/-- the dict at d, the keys by their tuples' addresses alone -/
def dRaw (P : Program) (w : World) (d : Addr) (kvs : NEs) : HO := .ext fun h => kvs.length ≤ sizeLine ∧ (d == sysModules) = false ∧ ∃ xs : List (NestedKey × Addr × Value), NR kvs xs ∧
  ∃ o es ep, h.get? d = some o ∧ o.ExactDict ∧ o.data = .dict es ep ∧ es.toList = xs.map (entryOfKey (nestedKind P w)) ∧ (xs.map (·.1)).Nodup
theorem NR.val {kvs : NEs} {xs : List (NestedKey × Addr × Value)} (r : NR kvs xs) (k : NestedKey) : RelO (valN kvs k) ((atKey xs k).map (·.2)) := by
  induction r with
  | nil => exact True.intro
  | @cons p q ps qs h t ih =>
    obtain ⟨h1, _, h2⟩ := h
    by_cases e : p.1 = k
    · have e' : q.1 = k := h1.symm.trans e
      have a : valN (p :: ps) k = some p.2.2 := by simp [valN, List.find?_cons, e]
      have b : atKey (q :: qs) k = some q.2 := by simp [atKey, List.find?_cons, e']
      rw [a, b]; exact h2
    · have e' : ¬ q.1 = k := fun z => e (h1.trans z)
      have a : valN (p :: ps) k = valN ps k := by simp [valN, List.find?_cons, e]
      have b : atKey (q :: qs) k = atKey qs k := by simp [atKey, List.find?_cons, e']
      rw [a, b]; exact ih
theorem NR.repl {kvs : NEs} {xs : List (NestedKey × Addr × Value)} (r : NR kvs xs) (k : NestedKey) {y : V} {u : Value} (ry : RelV y u) : NR (kvs.map fun e => if e.1 = k then (e.1, e.2.1, y) else e) (xs.map (putAt k u)) := by
  induction r with
  | nil => exact .nil
  | @cons p q ps qs h t ih =>
    rw [List.map_cons, List.map_cons]
    refine .cons ?_ ih
    obtain ⟨h1, h2, h3⟩ := h
    unfold putAt
    by_cases e : p.1 = k
    · rw [if_pos e, if_pos (h1.symm.trans e)]; exact ⟨h1, h2, ry⟩
    · rw [if_neg e, if_neg (fun z => e (h1.trans z))]; exact ⟨h1, h2, h3⟩
theorem NR.put {kvs : NEs} {xs : List (NestedKey × Addr × Value)} (r : NR kvs xs) (k : NestedKey) {b : Addr} {y : V} {u : Value} (ry : RelV y u) : NR (putN kvs k b y) (storedH xs k b u) := by
  have e : (valN kvs k).isSome = (atKey xs k).isSome := by rw [(r.val k).isSome_eq, Option.isSome_map]
  unfold putN storedH
  rw [e]
  by_cases q : (atKey xs k).isSome = true
  · rw [if_pos q, if_pos q]; exact r.repl k ry
  · rw [if_neg q, if_neg q]; exact Paired.snoc r ⟨rfl, rfl, ry⟩
theorem putN_len (kvs : NEs) (k : NestedKey) (b : Addr) (v : V) : (putN kvs k b v).length ≤ kvs.length + 1 := by
  unfold putN
  split <;> simp
theorem putN_new {kvs : NEs} {k : NestedKey} {b : Addr} {v : V} (h : valN kvs k = none) : putN kvs k b v = kvs ++ [(k, b, v)] := by
  unfold putN
  rw [h]
  rfl
/-- the dict at d holds kvs -/
structure NDict (K : PySem.W.Frag) (P : Program) (w : World) (H : Hp) (d : Addr) (kvs : NEs) : Prop where
  at' : H d = some (dRaw P w d kvs)
  keys : ∀ e ∈ kvs, NkAt K H e.1 (.ref e.2.1) ∧ e.1.depth ≤ 8
theorem NDict.of {d : Addr} {kvs : NEs} (D : NDict K P w H d kvs) (hok : HOk P w H h) (KX : K.In h) : kvs.length ≤ sizeLine ∧ (d == sysModules) = false ∧ ∃ xs, NR kvs xs ∧ h.DictOfH (nestedKind P w) d xs := by
  obtain ⟨⟨z, y, xs, r, o, es, ep, h1, h2, h3, h4, h5⟩, _⟩ := (show ObjOk P w H h d (dRaw P w d kvs) from hok d _ D.at')
  refine ⟨z, y, xs, r, o, es, ep, h1, h2, h3, h4, fun x hx => ?_, h5⟩
  have all : ∀ {l : NEs} {m : List (NestedKey × Addr × Value)}, NR l m → (∀ e ∈ l, NkAt K H e.1 (.ref e.2.1) ∧ e.1.depth ≤ 8) → ∀ x ∈ m, (nestedKind P w).is h x.1 x.2.1 := by
    intro l m q
    induction q with
    | nil => intro _ x hx; exact nomatch hx
    | @cons p q ps qs hq t ih =>
      intro hk x hx
      rcases List.mem_cons.mp hx with e | hx
      · subst e
        obtain ⟨a, b⟩ := hk p List.mem_cons_self
        rw [← hq.1, ← hq.2.1]
        exact ⟨a.is hok KX rfl, b⟩
      · exact ih (fun e m => hk e (List.mem_cons_of_mem p m)) x hx
  exact all r D.keys x hx
theorem dRaw_ok {d : Addr} {kvs : NEs} {xs : List (NestedKey × Addr × Value)} {h' : Heap} (z : kvs.length ≤ sizeLine) (y : (d == sysModules) = false) (r : NR kvs xs) (m : h'.DictOfH (nestedKind P w) d xs) : ObjOk P w H' h' d (dRaw P w d kvs) := by
  obtain ⟨o, es, ep, h1, h2, h3, h4, _, h5⟩ := m
  refine ⟨⟨z, y, xs, r, o, es, ep, h1, h2, h3, h4, h5⟩, ⟨o, h1⟩, ?_⟩
  rintro h1' h2' ⟨z, y, xs, r, o, es, ep, g1, g2, g3, g4, g5⟩ k
  exact ⟨z, y, xs, r, o, es, ep, k o g1, g2, g3, g4, g5⟩
theorem tup_dict {b d : Addr} {xs : List V} {P : Program} {w : World} {kvs : NEs} {o : HO} (e : H d = some (dRaw P w d kvs)) (q : SqT K H b xs) : SqT K (upd H d o) b xs := by
  have rd : ∀ {u : HO}, H b = some u → (∀ φ, u ≠ .ext φ) → (upd H d o) b = some u := fun {u} eb ne => by
    rw [upd_ne (fun z => ?_)]
    · exact eb
    · rw [z, e] at eb
      exact ne _ (Option.some.inj eb).symm
  rcases q with (q | ⟨ob, q⟩) | q
  · exact .inl (.inl (rd q fun φ z => nomatch z))
  · exact .inl (.inr ⟨ob, rd q fun φ z => nomatch z⟩)
  · exact .inr q
theorem NDict.put {d b : Addr} {kvs : NEs} {k : NestedKey} {v : V} (D : NDict K P w H d kvs) (hk : NkAt K H k (.ref b)) (hz : k.depth ≤ 8) : NDict K P w (upd H d (dRaw P w d (putN kvs k b v))) d (putN kvs k b v) := by
  have up : ∀ {k2 : NestedKey} {x : V}, NkAt K H k2 x → NkAt K (upd H d (dRaw P w d (putN kvs k b v))) k2 x := fun n => n.mono fun b ys q => tup_dict D.at' q
  refine ⟨upd_same, fun e he => ?_⟩
  unfold putN at he
  split at he
  · obtain ⟨f, hf, rfl⟩ := List.mem_map.mp he
    obtain ⟨a, c⟩ := D.keys f hf
    split
    · exact ⟨up a, c⟩
    · exact ⟨up a, c⟩
  · rcases List.mem_append.mp he with he | he
    · obtain ⟨a, c⟩ := D.keys e he
      exact ⟨up a, c⟩
    · obtain rfl := List.mem_singleton.mp he
      exact ⟨up hk, hz⟩
theorem NDict.same {d : Addr} {kvs : NEs} (D : NDict K P w H d kvs) (s : Same H H') : NDict K P w H' d kvs := ⟨s _ _ D.at', fun e m => let ⟨a, b⟩ := D.keys e m; ⟨a.same s, b⟩⟩
end
section
variable {X : Cx} {pos : Pos}
def tDNewN (P : Program) (w : World) : TE := fun _ H Q => ∀ p, H p = none → Q (.ref p) (upd H p (dRaw P w p []))
theorem dn_empty {P : Program} {w : World} {H : Hp} (h : Heap) (hb : sysModules < h.objs.size) : ObjOk P w H (h.push { cls := .type "dict", data := .dict #[] }) h.objs.size (dRaw P w h.objs.size []) :=
  dRaw_ok (Nat.zero_le _) (beq_eq_false_iff_ne.mpr (Ne.symm (Nat.ne_of_lt hb))) .nil (Heap.DictOfH.new h)
theorem pe_dnewN : PE X (.Dict [] [] pos) (tDNewN X.prog X.w) := ⟨fun pins s σ H Q I h =>
  wpAny_Dict_empty ⟨.ref s.heap.objs.size, _, I.laid (a := s.heap.objs.size) (o := dRaw X.prog X.w s.heap.objs.size []) (t' := s.toks) (fun _ _ q => Heap.get?_push_of_some _ q) (Nat.le_refl _) (dn_empty s.heap I.big), rfl, h _ (I.hok.fresh (Nat.le_refl _))⟩⟩
def rInN (K : PySem.W.Frag) (P : Program) (w : World) (neg : Bool) : R2 := fun x y H Q => ∃ b d kvs k, x = .ref b ∧ y = .ref d ∧ NDict K P w H d kvs ∧ NkAt K H k (.ref b) ∧ k.depth ≤ 8 ∧ Q (.bl (if neg then !(valN kvs k).isSome else (valN kvs k).isSome)) H
theorem op_inN (hu : X.A.units + 64 < cLine) : OpR X (compareOp .In) (rInN X.K X.prog X.w false) := by
  rintro pins s σ H x y v u Q I rx ry ⟨b, d, kvs, k, rfl, rfl, D, hk, hz, q⟩
  cases rx
  cases ry
  obtain ⟨z, hd, xs, rel, dd⟩ := D.of I.hok I.kIn
  refine wpAny_in_heap (knd := nestedKind X.prog X.w) (by show X.A.units + 1 + 8 < cLine; omega) ⟨hk.is I.hok I.kIn rfl, hz⟩ hd dd ?_
  have e := (rel.val k).isSome_eq
  rw [Option.isSome_map] at e
  rw [← e]
  exact ⟨.bl (valN kvs k).isSome, H, I.tok _, rfl, q⟩
theorem op_notInN (hu : X.A.units + 64 < cLine) : OpR X (compareOp .NotIn) (rInN X.K X.prog X.w true) := by
  rintro pins s σ H x y v u Q I rx ry ⟨b, d, kvs, k, rfl, rfl, D, hk, hz, q⟩
  cases rx
  cases ry
  obtain ⟨z, hd, xs, rel, dd⟩ := D.of I.hok I.kIn
  refine wpAny_notIn_heap (knd := nestedKind X.prog X.w) (by show X.A.units + 1 + 8 < cLine; omega) ⟨hk.is I.hok I.kIn rfl, hz⟩ hd dd ?_
  have e := (rel.val k).isSome_eq
  rw [Option.isSome_map] at e
  rw [← e]
  exact ⟨.bl (!(valN kvs k).isSome), H, I.tok _, rfl, q⟩
def rIxN (K : PySem.W.Frag) (P : Program) (w : World) : R2 := fun x y H Q => ∃ d b kvs k v, x = .ref d ∧ y = .ref b ∧ NDict K P w H d kvs ∧ NkAt K H k (.ref b) ∧ k.depth ≤ 8 ∧ valN kvs k = some v ∧ Q v H
theorem ix_nd (hu : X.A.units + 64 < cLine) : IxR X (rIxN X.K X.prog X.w) := by
  rintro value slice pins s σ H x y v u Q I rx ry ⟨d, b, kvs, k, r, rfl, rfl, D, hk, hz, ev, q⟩ hs
  obtain rfl : v = Value.ref d := rx
  cases ry
  obtain ⟨z, hd, xs, rel, dd⟩ := D.of I.hok I.kIn
  obtain ⟨u0, e, ru⟩ := RelO.some_of (v := r) (o := (atKey xs k).map (·.2)) (by rw [← ev]; exact rel.val k)
  obtain ⟨p, hp, hp2⟩ := Option.map_eq_some_iff.mp e
  refine tail_any dd.typeIs slot_dict_getitem.lookup (wpAny_getItem_heap (knd := nestedKind X.prog X.w) (by show X.A.units + 1 + 8 < cLine; omega) ⟨hk.is I.hok I.kIn rfl, hz⟩ dd hp ?_) hs
  rw [hp2]
  exact ⟨r, H, I.tok _, ru, q⟩
theorem d_writeN {pins : List (Addr × Obj)} {σ : L2.St} {H : Hp} {s : Shared} {d b : Addr} {kvs : NEs} {k : NestedKey} {v : V} {u : Value} {xs : List (NestedKey × Addr × Value)} {h' : Heap} {t' : Nat} (I : Inv X pins σ H s) (D : NDict X.K X.prog X.w H d kvs) (hl : kvs.length < sizeLine) (rel : NR kvs xs) (hd : (d == sysModules) = false) (ru : RelV v u)
    (dd' : h'.DictOfH (nestedKind X.prog X.w) d (storedH xs k b u)) (hs : Heap.SameBut d s.heap h') : Inv X pins σ (upd H d (dRaw X.prog X.w d (putN kvs k b v))) { s with heap := h', toks := t' } := by
  have he : ∃ q, h'.get? d = some q := let ⟨q, _, _, hq, _⟩ := dd'; ⟨q, hq⟩
  exact L2.d_write I (by rw [D.at']; exact True.intro) hs he (dRaw_ok (by have := putN_len kvs k b v; omega) hd (rel.put k ru) dd')
/-- d[k] = v -/
def rSetN (K : PySem.W.Frag) (P : Program) (w : World) : TSet := fun o i v H Q => ∃ d b kvs k, o = .ref d ∧ i = .ref b ∧ NDict K P w H d kvs ∧ NkAt K H k (.ref b) ∧ k.depth ≤ 8 ∧ kvs.length < sizeLine ∧ Q (upd H d (dRaw P w d (putN kvs k b v)))
theorem set_nd (hu : X.A.units + 64 < cLine) : PSet X (rSetN X.K X.prog X.w) := by
  rintro pins s σ H o i v ov iv u Q I ro ri rv ⟨d, b, kvs, k, rfl, rfl, D, hk, hz, hl, q⟩
  cases ro
  cases ri
  obtain ⟨z, hd, xs, rel, dd⟩ := D.of I.hok I.kIn
  refine wpAny_setItem_heap (hsz := by rw [← Paired.length rel]; exact z) (knd := nestedKind X.prog X.w) (by show X.A.units + 1 + 8 < cLine; omega) ⟨hk.is I.hok I.kIn rfl, hz⟩ dd fun h' dd' hs => ?_
  exact ⟨_, d_writeN I D hl rel hd rv dd' hs, q⟩
variable {A : Around} {E : Value → Shared → Prop} {pins : List (Addr × Obj)} {σ : L2.St}
def putNs (acc : NEs) (l : NEs) : NEs := l.foldl (fun acc e => putN acc e.1 e.2.1 e.2.2) acc
theorem d_storeAllN {d : Addr} : ∀ (l : NEs) {ws : List (Value × Value)} {kvs : NEs} {H : Hp} {s : Shared} {Q : PUnit → Shared → Prop}, A.units + 64 < cLine → Inv X pins σ H s → NDict X.K X.prog X.w H d kvs →
    (∀ e ∈ l, NkAt X.K H e.1 (.ref e.2.1) ∧ e.1.depth ≤ 8) → kvs.length + l.length < sizeLine → VV (l.map fun e => (.ref e.2.1, e.2.2)) ws →
    (∀ s', Inv X pins σ (upd H d (dRaw X.prog X.w d (putNs kvs l))) s' → Q PUnit.unit s') → wpAny (model X.prog X.w) A (storeAll d ws) Q E s
  | [], ws, kvs, H, s, Q, hu, I, D, _, _, r, h => by
    cases r
    unfold storeAll
    rw [List.forIn_nil]
    refine wpAny_pure (h s ?_)
    have e := D.at'
    rw [show putNs kvs [] = kvs from rfl, show upd H d (dRaw X.prog X.w d kvs) = H from by funext b; unfold upd; split <;> simp_all]
    exact I
  | x :: l, ws, kvs, H, s, Q, hu, I, D, hk, hl, r, h => by
    rw [List.map_cons] at r
    cases r with
    | @cons p q ps qs h1 t =>
      obtain ⟨q1, q2⟩ := q
      obtain rfl : q1 = Value.ref x.2.1 := h1.1
      unfold storeAll
      rw [List.forIn_cons]
      obtain ⟨hx, hz⟩ := hk x List.mem_cons_self
      rw [List.length_cons] at hl
      obtain ⟨z, hd, xs, rel, dd⟩ := D.of I.hok I.kIn
      refine wpAny_bind (wpAny_bind (wpAny_dictSet_heap (hsz := by rw [← Paired.length rel]; exact z) (knd := nestedKind X.prog X.w) (by show A.units + 8 < cLine; omega) ⟨hx.is I.hok I.kIn rfl, hz⟩ dd fun h' dd' hs => wpAny_pure ?_))
      have I' := d_writeN (t' := s.toks + (nestedKind X.prog X.w).draws x.1) I D (by omega) rel hd h1.2 dd' hs
      refine d_storeAllN l (kvs := putN kvs x.1 x.2.1 x.2.2) hu I' (D.put hx hz) (fun y m => ?_) (by have := putN_len kvs x.1 x.2.1 x.2.2; omega) t fun s2 I2 => h s2 ?_
      · obtain ⟨a, c⟩ := hk y (List.mem_cons_of_mem x m)
        exact ⟨a.mono fun b ys q => tup_dict D.at' q, c⟩
      · rw [upd_upd] at I2
        exact I2
/-- {k: v, ..} with tuples as keys -/
def tDispN (K : PySem.W.Frag) (P : Program) (w : World) (trs : List (TE × TE)) : TE := fun σ H Q => ∀ p, H p = none → tPairs trs σ (upd H p (dRaw P w p [])) fun ps H2 => H2 p = some (dRaw P w p []) ∧ ∃ l : NEs, ps = l.map (fun e => (.ref e.2.1, e.2.2)) ∧ (∀ e ∈ l, NkAt K H2 e.1 (.ref e.2.1) ∧ e.1.depth ≤ 8) ∧ l.length ≤ 15 ∧ Q (.ref p) (upd H2 p (dRaw P w p (putNs [] l)))
theorem pe_dispN {keys : List (Option Expr)} {values : List Expr} {trs : List (TE × TE)} (hu : X.A.units + 64 < cLine) (h : PPs X pos keys values trs) (hall : keys.all (·.isSome) = true) (hl : keys.length = values.length) (h0 : keys ≠ [])
    (h15 : keys.length ≤ 15) : PE X (.Dict keys values pos) (tDispN X.K X.prog X.w trs) := by
  refine ⟨fun pins s σ H Q I q => ?_⟩
  have hn := I.hok.fresh (Nat.le_refl s.heap.objs.size)
  have I1 := I.laid (a := s.heap.objs.size) (o := dRaw X.prog X.w s.heap.objs.size []) (h' := s.heap.push { cls := .type "dict", data := .dict #[] }) (t' := s.toks) (fun _ _ q => Heap.get?_push_of_some _ q) (Nat.le_refl _) (dn_empty s.heap I.big)
  refine wpAny_Dict_any hall hl h0 h15 (thn (h.run pins _ σ _ _ I1 (q _ hn)) fun ws s2 ⟨ps, H2, I2, rel, e, l, ep, hk, lk, q2⟩ => ?_)
  subst ep
  refine d_storeAllN l hu I2 ⟨e, fun _ m => nomatch m⟩ hk (by rw [sizeLine_eq]; simp only [List.length_nil]; omega) rel fun s3 I3 => ⟨.ref s.heap.objs.size, _, I3, rfl, q2⟩
end
end BR

/-! ### list(zip(a, b)): a zip whose last tuple is kept by somebody else; what list makes of it -/
namespace PySem
namespace BRZ
open PySem.W PySem.Calls PyProof.Rows
/-- the zip behind a turn: the tuple at a was handed out -/
abbrev ZipO (h : Heap) (z TI TO a : Addr) (f : Bool) : Prop := h.get? z = some { cls := .type "zip", dict := none, data := .fields #[rawInt a, .bool f, .bool false, .ref TI, .ref TO], slots := #[] }
section
variable {prog : Program} {w : World} {A : Around} {E : Value → Shared → Prop} {s : Shared} {z TI TO i1 i2 a : Addr} {fp1 fp2 : List Addr} {n1 n2 i : Nat} {P1 P2 : Nat → Value → Prop} {St1 St2 : Nat → Heap → Prop} {f : Bool} {oa : Obj}
theorem zo_free {Q : Bool → Shared → Prop} (hz : ZipO s.heap z TI TO a f) (ha : s.heap.get? a = some oa) (go : ∀ h2, ZipO h2 z TI TO a true → Heap.SameBut z s.heap h2 → Q false { s with heap := h2 }) : wpAny (model prog w) A (Builtin.SmallTypes.ownedTupleIsFree (.ref z)) Q E s := by
  unfold Builtin.SmallTypes.ownedTupleIsFree
  refine wpAny_bind (wpAny_field hz rfl (x := rawInt a) rfl ?_)
  show wpAny _ _ (loadIfAlive ((a : Int).toNat) >>= _) _ _ _
  rw [Int.toNat_natCast]
  refine wpAny_bind (kdx_alive ha ?_)
  simp only [Option.isNone_some, Bool.false_eq_true, if_false]
  refine wpAny_bind (wpAny_field hz rfl (x := .bool f) rfl ?_)
  cases f with
  | true =>
    rw [if_neg (show ¬ ((Value.bool true != Value.bool true) = true) from Bool.false_ne_true)]
    exact wpAny_pure (go _ hz (Heap.SameBut.refl _ _))
  | false =>
    rw [if_pos (show (Value.bool false != Value.bool true) = true from rfl)]
    exact wpAny_bind (wpAny_setField_rec hz (by simp) fun h3 e3 s3 => wpAny_pure (go h3 e3 s3))
theorem zo_item {Q : Option Value → Shared → Prop} (D : ZipSep2 z TI TO i1 i2 fp1 fp2) (D1 : Draws prog w A.in1 i1 fp1 n1 P1 St1) (D2 : Draws prog w A.in1 i2 fp2 n2 P2 St2) (hz : ZipO s.heap z TI TO a f) (ha : s.heap.get? a = some oa)
    (hTI : IsTupOf2 s.heap TI (.ref i1) (.ref i2)) (st1 : St1 i s.heap) (st2 : St2 i s.heap) (l1 : i < n1) (l2 : i < n2)
    (go : ∀ x1 x2 h' tk, P1 i x1 → P2 i x2 → ZipO h' z TI TO a true → St1 (i + 1) h' → St2 (i + 1) h' → IsTupOf2 h' s.heap.objs.size x1 x2 → h'.objs.size = s.heap.objs.size + 1 →
      (∀ c o, c ≠ z → c ≠ i1 → c ≠ i2 → s.heap.get? c = some o → h'.get? c = some o) → Q (some (.ref s.heap.objs.size)) { s with heap := h', toks := tk }) : wpAny (model prog w) A (pyNext (.ref z)) Q E s := by
  have hT : s.TypeIs (.ref z) "zip" := ⟨_, hz, rfl⟩
  unfold pyNext
  refine wpAny_bind (wpAny_attempt (wpAny_callSpecial?_slot (name := Str.ofString "__next__") hT F.slot_zip_next (wpAny_call_entry F.slot_zip_next hT F.entry_zip_next ?_ (F.args_zip_next_1 _))))
  obtain ⟨hp, g, d, tk0, os⟩ := s
  show wpAny _ _ (field (.ref z) 2 >>= _) _ _ _
  refine wpAny_bind (wpAny_field hz rfl (x := .bool false) rfl ?_)
  show wpAny _ _ (field (.ref z) 3 >>= _) _ _ _
  refine wpAny_bind (wpAny_field hz rfl (x := .ref TI) rfl ?_)
  refine wpAny_bind (wpAny_seqItems hTI rfl ?_)
  show wpAny _ _ (Builtin.SmallTypes.ownedTupleIsFree (.ref z) >>= _) _ _ _
  refine wpAny_bind (zo_free hz ha fun h2 hz2 sb2 => ?_)
  replace sb2 : Heap.SameBut z hp h2 := sb2
  simp only [Bool.false_eq_true, if_false]
  refine wpAny_bind ?_
  first | rw [List.forIn_toArray] | (rw [← Array.forIn_toList]; simp only [List.toList_toArray]) | rw [← Array.forIn_toList]
  simp only [List.forIn_cons, List.forIn_nil]
  refine wpAny_bind (wpAny_bind (wpAny_holding ?_))
  show wpAny _ _ (Builtin.SmallTypes.nextOf (.ref i1) >>= _) _ _ ⟨h2, g, d, tk0, os⟩
  refine wpAny_bind (D1.item i _ _ _ l1 (D1.over st1 sb2 D.zf1) fun x1 h3 tk1 e1 n1' sb3 => wpAny_pure ?_)
  replace sb3 : Heap.SameBut i1 h2 h3 := sb3
  refine wpAny_pure ?_
  dsimp only
  refine wpAny_bind (wpAny_bind (wpAny_holding ?_))
  show wpAny _ _ (Builtin.SmallTypes.nextOf (.ref i2) >>= _) _ _ ⟨h3, g, d, tk1, os⟩
  refine wpAny_bind (D2.item i _ _ _ l2 (D2.over (D2.over st2 sb2 D.zf2) sb3 D.sep1_2) fun x2 h4 tk2 e2 n2' sb4 => wpAny_pure ?_)
  replace sb4 : Heap.SameBut i2 h3 h4 := sb4
  refine wpAny_pure ?_
  dsimp only
  refine wpAny_pure ?_
  dsimp only
  refine wpAny_bind (wpAny_newTuple ?_ (by show 2 ≤ sizeLine; decide))
  refine wpAny_pure ⟨_, rfl, wpAny_pure ?_⟩
  show Q (some (.ref h4.objs.size)) ⟨h4.push { cls := .type "tuple", data := .seq #[x1, x2] }, g, d, tk2, os⟩
  have sz : h4.objs.size = hp.objs.size := by rw [sb4.1, sb3.1, sb2.1]
  have new : IsTupOf2 (h4.push { cls := .type "tuple", data := .seq #[x1, x2] }) h4.objs.size x1 x2 := Heap.get?_push_size _ rfl
  rw [sz] at new ⊢
  refine go x1 x2 _ tk2 e1 e2 (Heap.get?_push_of_some _ (sb4.extBut _ _ D.zi2 (sb3.extBut _ _ D.zi1 hz2))) (D1.frame _ _ _ (D1.over n1' sb4 D.sep2_1) fun b _ o e => Heap.get?_push_of_some _ e) (D2.frame _ _ _ n2' fun b _ o e => Heap.get?_push_of_some _ e) new ?_ fun c o c0 c1 c2 e => ?_
  · show (h4.push _).objs.size = hp.objs.size + 1
    rw [Heap.size_push, sz]
  · exact Heap.get?_push_of_some _ (sb4.extBut _ _ c2 (sb3.extBut _ _ c1 (sb2.extBut _ _ c0 e)))
theorem zo_end {Q : Option Value → Shared → Prop} (D : ZipSep2 z TI TO i1 i2 fp1 fp2) (D1 : Draws prog w A.in1 i1 fp1 n1 P1 St1) (hz : ZipO s.heap z TI TO a f) (ha : s.heap.get? a = some oa) (hTI : IsTupOf2 s.heap TI (.ref i1) (.ref i2)) (st1 : St1 n1 s.heap)
    (go : ∀ h' tk, (∀ c o, c ≠ z → c ≠ i1 → s.heap.get? c = some o → h'.get? c = some o) → Q none { s with heap := h', toks := tk }) : wpAny (model prog w) A (pyNext (.ref z)) Q E s := by
  have hT : s.TypeIs (.ref z) "zip" := ⟨_, hz, rfl⟩
  unfold pyNext
  refine wpAny_bind (wpAny_attempt (wpAny_callSpecial?_slot (name := Str.ofString "__next__") hT F.slot_zip_next (wpAny_call_entry F.slot_zip_next hT F.entry_zip_next ?_ (F.args_zip_next_1 _))))
  obtain ⟨hp, g, d, tk0, os⟩ := s
  show wpAny _ _ (field (.ref z) 2 >>= _) _ _ _
  refine wpAny_bind (wpAny_field hz rfl (x := .bool false) rfl ?_)
  show wpAny _ _ (field (.ref z) 3 >>= _) _ _ _
  refine wpAny_bind (wpAny_field hz rfl (x := .ref TI) rfl ?_)
  refine wpAny_bind (wpAny_seqItems hTI rfl ?_)
  show wpAny _ _ (Builtin.SmallTypes.ownedTupleIsFree (.ref z) >>= _) _ _ _
  refine wpAny_bind (zo_free hz ha fun h2 hz2 sb2 => ?_)
  replace sb2 : Heap.SameBut z hp h2 := sb2
  simp only [Bool.false_eq_true, if_false]
  refine wpAny_bind ?_
  first | rw [List.forIn_toArray] | (rw [← Array.forIn_toList]; simp only [List.toList_toArray]) | rw [← Array.forIn_toList]
  simp only [List.forIn_cons, List.forIn_nil]
  refine wpAny_bind (wpAny_bind (wpAny_holding ?_))
  show wpAny _ _ (Builtin.SmallTypes.nextOf (.ref i1) >>= _) _ _ ⟨h2, g, d, tk0, os⟩
  refine wpAny_bind (D1.done ⟨h2, g, d, tk0, os⟩ _ _ (D1.over st1 sb2 D.zf1) fun h3 e hx he => ?_)
  replace hx : Heap.ExtBut i1 h2 h3 := hx
  obtain ⟨o, ho, hc⟩ := he
  refine wpAny_bind (wpAny_isInstance (T := "StopIteration") (b := true) ⟨o, ho, hc⟩ isSubtype_stop ?_)
  exact wpAny_pure (go h3 tk0 fun c o c0 c1 e => hx _ _ c1 (sb2.extBut _ _ c0 e))
theorem zo_end2 {Q : Option Value → Shared → Prop} (D : ZipSep2 z TI TO i1 i2 fp1 fp2) (D1 : Draws prog w A.in1 i1 fp1 n1 P1 St1) (D2 : Draws prog w A.in1 i2 fp2 n2 P2 St2) (hz : ZipO s.heap z TI TO a f) (ha : s.heap.get? a = some oa) (hTI : IsTupOf2 s.heap TI (.ref i1) (.ref i2)) (st1 : St1 n2 s.heap) (st2 : St2 n2 s.heap) (l1 : n2 < n1)
    (go : ∀ h' tk, (∀ c o, c ≠ z → c ≠ i1 → c ≠ i2 → s.heap.get? c = some o → h'.get? c = some o) → Q none { s with heap := h', toks := tk }) : wpAny (model prog w) A (pyNext (.ref z)) Q E s := by
  have hT : s.TypeIs (.ref z) "zip" := ⟨_, hz, rfl⟩
  unfold pyNext
  refine wpAny_bind (wpAny_attempt (wpAny_callSpecial?_slot (name := Str.ofString "__next__") hT F.slot_zip_next (wpAny_call_entry F.slot_zip_next hT F.entry_zip_next ?_ (F.args_zip_next_1 _))))
  obtain ⟨hp, g, d, tk0, os⟩ := s
  show wpAny _ _ (field (.ref z) 2 >>= _) _ _ _
  refine wpAny_bind (wpAny_field hz rfl (x := .bool false) rfl ?_)
  show wpAny _ _ (field (.ref z) 3 >>= _) _ _ _
  refine wpAny_bind (wpAny_field hz rfl (x := .ref TI) rfl ?_)
  refine wpAny_bind (wpAny_seqItems hTI rfl ?_)
  show wpAny _ _ (Builtin.SmallTypes.ownedTupleIsFree (.ref z) >>= _) _ _ _
  refine wpAny_bind (zo_free hz ha fun h2 hz2 sb2 => ?_)
  replace sb2 : Heap.SameBut z hp h2 := sb2
  simp only [Bool.false_eq_true, if_false]
  refine wpAny_bind ?_
  first | rw [List.forIn_toArray] | (rw [← Array.forIn_toList]; simp only [List.toList_toArray]) | rw [← Array.forIn_toList]
  simp only [List.forIn_cons, List.forIn_nil]
  refine wpAny_bind (wpAny_bind (wpAny_holding ?_))
  show wpAny _ _ (Builtin.SmallTypes.nextOf (.ref i1) >>= _) _ _ ⟨h2, g, d, tk0, os⟩
  refine wpAny_bind (D1.item n2 _ _ _ l1 (D1.over st1 sb2 D.zf1) fun x1 h3 tk1 e1 n1' sb3 => wpAny_pure ?_)
  replace sb3 : Heap.SameBut i1 h2 h3 := sb3
  refine wpAny_pure ?_
  dsimp only
  refine wpAny_bind (wpAny_bind (wpAny_holding ?_))
  show wpAny _ _ (Builtin.SmallTypes.nextOf (.ref i2) >>= _) _ _ ⟨h3, g, d, tk1, os⟩
  refine wpAny_bind (D2.done ⟨h3, g, d, tk1, os⟩ _ _ (D2.over (D2.over st2 sb2 D.zf2) sb3 D.sep1_2) fun h4 e hx he => ?_)
  replace hx : Heap.ExtBut i2 h3 h4 := hx
  obtain ⟨o, ho, hc⟩ := he
  refine wpAny_bind (wpAny_isInstance (T := "StopIteration") (b := true) ⟨o, ho, hc⟩ isSubtype_stop ?_)
  exact wpAny_pure (go h4 tk1 fun c o c0 c1 c2 e => hx _ _ c2 (sb3.extBut _ _ c1 (sb2.extBut _ _ c0 e)))
/-- the zip as it stands between two turns of list's loop -/
def ZSt (h : Heap) (z TI TO i1 i2 S : Addr) : Prop := IsTupOf2 h TI (.ref i1) (.ref i2) ∧ ((IsZip h z TI TO .none ∧ ∃ a1 a2, IsTupOf2 h TO a1 a2) ∨ ∃ a f oa, ZipO h z TI TO a f ∧ h.get? a = some oa ∧ a ≠ z ∧ a ≠ i1 ∧ a ≠ i2 ∧ a ≠ S)
theorem ZSt.keep {h h' : Heap} {S : Addr} (x : ZSt h z TI TO i1 i2 S) (hk : ∀ b o, b ≠ S → h.get? b = some o → h'.get? b = some o) (n1 : TI ≠ S) (n2 : z ≠ S) (n3 : TO ≠ S) : ZSt h' z TI TO i1 i2 S := by
  obtain ⟨hT, x⟩ := x
  refine ⟨hk _ _ n1 hT, ?_⟩
  rcases x with ⟨a, b, c, e⟩ | ⟨a, f, oa, e1, e2, e3, e4, e5, e6⟩
  · exact .inl ⟨hk _ _ n2 a, b, c, hk _ _ n3 e⟩
  · exact .inr ⟨a, f, oa, hk _ _ n2 e1, hk _ _ e6 e2, e3, e4, e5, e6⟩
theorem zs_item {Q : Option Value → Shared → Prop} {S : Addr} (D : ZipSep2 z TI TO i1 i2 fp1 fp2) (D1 : Draws prog w A.in1 i1 fp1 n1 P1 St1) (D2 : Draws prog w A.in1 i2 fp2 n2 P2 St2) (hz : ZSt s.heap z TI TO i1 i2 S) (hS : S < s.heap.objs.size) (hi1 : i1 < s.heap.objs.size) (hi2 : i2 < s.heap.objs.size) (hzl : z < s.heap.objs.size)
    (st1 : St1 i s.heap) (st2 : St2 i s.heap) (l1 : i < n1) (l2 : i < n2)
    (go : ∀ x1 x2 h' tk, P1 i x1 → P2 i x2 → ZSt h' z TI TO i1 i2 S → St1 (i + 1) h' → St2 (i + 1) h' → IsTupOf2 h' s.heap.objs.size x1 x2 → h'.objs.size = s.heap.objs.size + 1 →
      (∀ c o, c ≠ z → c ≠ TO → c ≠ i1 → c ≠ i2 → s.heap.get? c = some o → h'.get? c = some o) → Q (some (.ref s.heap.objs.size)) { s with heap := h', toks := tk }) : wpAny (model prog w) A (pyNext (.ref z)) Q E s := by
  obtain ⟨hT, x⟩ := hz
  rcases x with ⟨a, b, c, e⟩ | ⟨a, f, oa, e1, e2, e3, e4, e5, e6⟩
  · refine wpAny_pyNext_zipD2_item D D1 D2 a hT e st1 st2 l1 l2 fun x1 x2 h' tk y1 y2 b1 b2 d1 d2 b5 b6 hk => ?_
    refine go x1 x2 h' tk y1 y2 ⟨hk _ _ D.TIz D.TITO D.TIi1 D.TIi2 hT, .inr ⟨_, false, _, b1, b5, Nat.ne_of_gt hzl, Nat.ne_of_gt hi1, Nat.ne_of_gt hi2, Nat.ne_of_gt hS⟩⟩ d1 d2 b5 b6 hk
  · refine zo_item D D1 D2 e1 e2 hT st1 st2 l1 l2 fun x1 x2 h' tk y1 y2 b1 d1 d2 b5 b6 hk => ?_
    exact go x1 x2 h' tk y1 y2 ⟨hk _ _ D.TIz D.TIi1 D.TIi2 hT, .inr ⟨a, true, oa, b1, hk _ _ e3 e4 e5 e2, e3, e4, e5, e6⟩⟩ d1 d2 b5 b6 fun c o c0 _ c1 c2 e => hk c o c0 c1 c2 e
theorem zs_end {Q : Option Value → Shared → Prop} {S : Addr} (D : ZipSep2 z TI TO i1 i2 fp1 fp2) (D1 : Draws prog w A.in1 i1 fp1 n1 P1 St1) (D2 : Draws prog w A.in1 i2 fp2 n2 P2 St2) {n : Nat} (hz : ZSt s.heap z TI TO i1 i2 S) (st1 : St1 n s.heap) (st2 : St2 n s.heap) (hm1 : n ≤ n1) (hm2 : n ≤ n2) (hn : n = n1 ∨ n = n2)
    (go : ∀ h' tk, (∀ c o, c ≠ z → c ≠ TO → c ≠ i1 → c ≠ i2 → s.heap.get? c = some o → h'.get? c = some o) → Q none { s with heap := h', toks := tk }) : wpAny (model prog w) A (pyNext (.ref z)) Q E s := by
  obtain ⟨hT, x⟩ := hz
  rcases x with ⟨a, b, c, e⟩ | ⟨a, f, oa, e1, e2, e3, e4, e5, e6⟩
  · exact wpAny_pyNext_zipD2_end D D1 D2 a hT e st1 st2 hm1 hm2 hn go
  · by_cases c : n = n1
    · subst c
      exact zo_end D D1 e1 e2 hT st1 fun h' tk hk => go h' tk fun c o c0 _ c1 _ e => hk c o c0 c1 e
    · obtain rfl : n = n2 := hn.resolve_left c
      exact zo_end2 D D1 D2 e1 e2 hT st1 st2 (by omega) fun h' tk hk => go h' tk fun c o c0 _ c1 c2 e => hk c o c0 c1 c2 e
end
/-- the tuples that were handed out, in rising order -/
structure ZG (P1 P2 : Nat → Value → Prop) (lo : Addr) (h : Heap) (as : List Addr) : Prop where
  rise : as.Pairwise (· < ·)
  above : ∀ a ∈ as, lo < a
  pairs : ∀ (j : Nat) (a : Addr), as[j]? = some a → ∃ x y, P1 j x ∧ P2 j y ∧ IsTupOf2 h a x y
theorem ZG.there {P1 P2 : Nat → Value → Prop} {lo : Addr} {h : Heap} {as : List Addr} (g : ZG P1 P2 lo h as) {a : Addr} (ha : a ∈ as) : a < h.objs.size := by
  obtain ⟨j, hj⟩ := List.mem_iff_getElem?.mp ha
  obtain ⟨_, _, _, _, e⟩ := g.pairs j a hj
  exact Heap.lt_size e
theorem ZG.low {P1 P2 : Nat → Value → Prop} {lo lo' : Addr} {h : Heap} {as : List Addr} (g : ZG P1 P2 lo h as) (hl : lo' ≤ lo) : ZG P1 P2 lo' h as := ⟨g.rise, fun a ha => Nat.lt_of_le_of_lt hl (g.above a ha), g.pairs⟩
section
variable {prog : Program} {w : World} {A : Around} {s : Shared} {R : Result → Shared → Prop} {z TI TO i1 i2 : Addr} {fp1 fp2 : List Addr} {n1 n2 : Nat} {P1 P2 : Nat → Value → Prop} {St1 St2 : Nat → Heap → Prop}
/-! what stands low: the zip's own cells and those of its sources lie below top, apart from the list at S -/
theorem low_ne {t b c : Nat} (h1 : t - 1 < b) (h2 : c < t) : b ≠ c := by omega
theorem top_lt {t s : Nat} (h : t ≤ s) (h0 : 0 < t) : t - 1 < s := by omega
structure ZLow (z TI TO i1 i2 S top : Addr) (fp1 fp2 : List Addr) : Prop where
  lz : z < top
  lTI : TI < top
  lTO : TO < top
  l1 : i1 < top
  l2 : i2 < top
  lS : S < top
  zS : z ≠ S
  TIS : TI ≠ S
  TOS : TO ≠ S
  f1 : S ∉ fp1
  f2 : S ∉ fp2
theorem lz_loop {S top : Addr} (D : ZipSep2 z TI TO i1 i2 fp1 fp2) (L : ZLow z TI TO i1 i2 S top fp1 fp2) (D1 : Draws prog w A.in1.in1 i1 fp1 n1 P1 St1) (D2 : Draws prog w A.in1.in1 i2 fp2 n2 P2 St2) {n : Nat} (hm1 : n ≤ n1) (hm2 : n ≤ n2) (hn : n = n1 ∨ n = n2) (hsz : n ≤ sizeLine) (res : Value) {h0 : Heap}
    (hR : ∀ h' tk acc c as, (∀ b o, b ≠ S → b ≠ z → b ≠ TO → b ≠ i1 → b ≠ i2 → h0.get? b = some o → h'.get? b = some o) → h'.get? S = some { cls := .type "list", dict := none, data := .seq acc c, slots := #[] } → as.length = n → ZG P1 P2 (top - 1) h' as →
      acc.toList = as.map Value.ref → R (.ok (.ret res)) { s with heap := h', toks := tk }) :
    ∀ (k i : Nat) (h : Heap) (tk c : Nat) (acc : Array Value) (as : List Addr), n - i = k → i ≤ n → ZSt h z TI TO i1 i2 S → St1 i h → St2 i h → (∀ b o, b ≠ S → b ≠ z → b ≠ TO → b ≠ i1 → b ≠ i2 → h0.get? b = some o → h.get? b = some o) →
      h.get? S = some { cls := .type "list", dict := none, data := .seq acc c, slots := #[] } → acc.toList = as.map Value.ref → as.length = i → ZG P1 P2 (top - 1) h as → top ≤ h.objs.size →
      codeAny (model prog w) A (.builtin "list.extend.loop" ⟨[.ref S, .ref z, res], []⟩) R { s with heap := h, toks := tk } := by
  have lowN : ∀ {h : Heap} {as : List Addr}, ZG P1 P2 (top - 1) h as → ∀ {b : Addr}, b ∈ as → ∀ {c : Addr}, c < top → b ≠ c := fun {h as} g {b} m {c} l => low_ne (g.above b m) l
  intro k
  induction k with
  | zero =>
    intro i h tk c acc as hk hi hst s1 s2 kp hS hacc hal hG htop
    obtain rfl : i = n := by omega
    refine codeAny_builtin PySem.F.entry_extend_loop ?_
    rw [Around.under_plainId PySem.F.plain_extend_loop _]
    show wpAny _ A.in1 (pyNext (.ref z) >>= _) _ _ _
    refine wpAny_bind (zs_end (s := { s with heap := h, toks := tk }) (A := A.in1) D D1 D2 hst s1 s2 hm1 hm2 hn fun h' tk' he => ?_)
    refine wpAny_pure (hR h' tk' acc c as (fun b o b0 b1 b2 b3 b4 e => he b o b1 b2 b3 b4 (kp b o b0 b1 b2 b3 b4 e)) (he S _ (Ne.symm L.zS) (Ne.symm L.TOS) (fun e => L.f1 (e ▸ D.mem1)) (fun e => L.f2 (e ▸ D.mem2)) hS) hal ⟨hG.rise, hG.above, fun j a hj => ?_⟩ hacc)
    obtain ⟨x, y, p1, p2, e⟩ := hG.pairs j a hj
    have m := List.mem_of_getElem? hj
    exact ⟨x, y, p1, p2, he a _ (lowN hG m L.lz) (lowN hG m L.lTO) (lowN hG m L.l1) (lowN hG m L.l2) e⟩
  | succ k ih =>
    intro i h tk c acc as hk hi hst s1 s2 kp hS hacc hal hG htop
    have hlt : i < n := by omega
    have hsz' : acc.size = i := by rw [← Array.length_toList, hacc, List.length_map, hal]
    have lt : ∀ {c : Addr}, c < top → c < h.objs.size := fun {c} l => Nat.lt_of_lt_of_le l htop
    refine codeAny_builtin PySem.F.entry_extend_loop ?_
    rw [Around.under_plainId PySem.F.plain_extend_loop _]
    show wpAny _ A.in1 (pyNext (.ref z) >>= _) _ _ _
    refine wpAny_bind (zs_item (s := { s with heap := h, toks := tk }) (S := S) D D1 D2 hst (lt L.lS) (lt L.l1) (lt L.l2) (lt L.lz) s1 s2 (by omega) (by omega) fun x y h' tk' p1 p2 hst' n1' n2' ht hz hkp => ?_)
    dsimp only at ht hz hkp ⊢
    have hS' := hkp S _ (Ne.symm L.zS) (Ne.symm L.TOS) (fun e => L.f1 (e ▸ D.mem1)) (fun e => L.f2 (e ▸ D.mem2)) hS
    have up : ∀ b o, b ≠ S → h'.get? b = some o → (h'.update S (Obj.mapSeq (·.push (Value.ref h.objs.size)))).get? b = some o := fun b o hb e => (Heap.get?_update_other _ _ (Ne.symm hb)).trans e
    have hSl : S < h.objs.size := lt L.lS
    have upE : ∀ {fp : List Addr}, S ∉ fp → ∀ b ∈ fp, ∀ o, h'.get? b = some o → (h'.update S (Obj.mapSeq (·.push (Value.ref h.objs.size)))).get? b = some o := fun nf b m o e => up b o (fun q => nf (q ▸ m)) e
    show wpAny _ A.in1 (updateSeq S (·.push (Value.ref h.objs.size)) >>= _) _ _ _
    refine wpAny_bind ?_
    refine wpAny_updateSeq hS' rfl (wpAny_pure ⟨plainId_quiet PySem.F.plain_extend_loop _, ih (i + 1) _ tk' _ (acc.push (Value.ref h.objs.size)) (as ++ [h.objs.size]) (by omega) hlt (hst'.keep up L.TIS L.zS L.TOS) (D1.frame _ _ _ n1' (upE L.f1)) (D2.frame _ _ _ n2' (upE L.f2))
      (fun b o b0 b1 b2 b3 b4 e => up b o b0 (hkp b o b1 b2 b3 b4 (kp b o b0 b1 b2 b3 b4 e))) (Heap.get?_update_self _ hS' rfl) (by rw [Array.toList_push, hacc, List.map_append]; rfl) (by rw [List.length_append, hal]; rfl) ⟨?_, ?_, ?_⟩ ?_⟩) (by rw [hsz']; omega) (by show (acc.push (Value.ref h.objs.size)).size ≤ sizeLine + 1; rw [Array.size_push, hsz']; omega)
    · refine List.pairwise_append.mpr ⟨hG.rise, List.pairwise_singleton _ _, fun a ha b hb => ?_⟩
      rw [List.mem_singleton.mp hb]
      exact hG.there ha
    · intro a ha
      rcases List.mem_append.mp ha with ha | ha
      · exact hG.above a ha
      · rw [List.mem_singleton.mp ha]
        exact top_lt htop (Nat.lt_of_le_of_lt (Nat.zero_le _) L.lS)
    · intro j b hj
      rcases Nat.lt_trichotomy j as.length with q | q | q
      · rw [List.getElem?_append_left q] at hj
        obtain ⟨x', y', p1', p2', e⟩ := hG.pairs j b hj
        have m := List.mem_of_getElem? hj
        exact ⟨x', y', p1', p2', up b _ (lowN hG m L.lS) (hkp b _ (lowN hG m L.lz) (lowN hG m L.lTO) (lowN hG m L.l1) (lowN hG m L.l2) e)⟩
      · subst q
        have hb : h.objs.size = b := by simpa using hj
        subst hb
        rw [hal]
        exact ⟨x, y, p1, p2, up _ _ (Nat.ne_of_gt hSl) ht⟩
      · have hnone : (as ++ [h.objs.size])[j]? = none := List.getElem?_eq_none (by rw [List.length_append, List.length_singleton]; omega)
        rw [hnone] at hj; cases hj
    · have e : (h'.update S (Obj.mapSeq (·.push (Value.ref h.objs.size)))).get? h.objs.size = _ := up _ _ (Nat.ne_of_gt hSl) ht
      exact Nat.le_trans htop (Nat.le_of_lt (Heap.lt_size e))
theorem nolen_zip : typeLookup (.type "zip") "__len__" = pure none := by rw [typeLookup_type, builtinLookup_eq_fast]; kernel_rfl
theorem nohint_zip : typeLookup (.type "zip") "__length_hint__" = pure none := by rw [typeLookup_type, builtinLookup_eq_fast]; kernel_rfl
theorem lz_extend {S top : Addr} (D : ZipSep2 z TI TO i1 i2 fp1 fp2) (L : ZLow z TI TO i1 i2 S top fp1 fp2) (D1 : Draws prog w A.in1.in1 i1 fp1 n1 P1 St1) (D2 : Draws prog w A.in1.in1 i2 fp2 n2 P2 St2) {n : Nat} (hm1 : n ≤ n1) (hm2 : n ≤ n2) (hn : n = n1 ∨ n = n2) (hsz : n ≤ sizeLine) (res : Value) {c0 : Nat}
    (hS : s.heap.get? S = some { cls := .type "list", data := .seq #[] c0 }) (hz : IsZip s.heap z TI TO .none) (hTI : IsTupOf2 s.heap TI (.ref i1) (.ref i2)) (hTO : ∃ a1 a2, IsTupOf2 s.heap TO a1 a2) (s1 : St1 0 s.heap) (s2 : St2 0 s.heap) (htop : top ≤ s.heap.objs.size)
    (hR : ∀ h' tk acc c as, (∀ b o, b ≠ S → b ≠ z → b ≠ TO → b ≠ i1 → b ≠ i2 → s.heap.get? b = some o → h'.get? b = some o) → h'.get? S = some { cls := .type "list", dict := none, data := .seq acc c, slots := #[] } → as.length = n → ZG P1 P2 (top - 1) h' as →
      acc.toList = as.map Value.ref → R (.ok (.ret res)) { s with heap := h', toks := tk }) :
    wpAny (model prog w) A.in1 (Builtin.List.listExtendWith (.ref S) (.ref z) res)
      (fun fin s' => match fin with | .done f => R (.ok f) s' | .again c' => c'.quiet = true ∧ codeAny (model prog w) A c' R s') (fun e s' => R (.error e) s') s := by
  have hT : s.TypeIs (.ref z) "zip" := ⟨_, hz, rfl⟩
  unfold Builtin.List.listExtendWith
  refine wpAny_bind (wpAny_typeOf (T := "zip") hT ?_)
  have h1 : Builtin.List.listSameRef (.ref S) (.ref z) = false := by simp [Builtin.List.listSameRef, Ne.symm L.zS]
  have h2 : (Value.type "zip" == Value.type "list") = false := by decide
  have h3 : (Value.type "zip" == Value.type "tuple") = false := by decide
  simp only [h1, h2, h3, Bool.or_false, Bool.false_eq_true, if_false]
  refine wpAny_bind (wpAny_pyIter_zip hz ?_)
  refine wpAny_bind (wpAny_holding ?_)
  unfold Builtin.List.listLengthHint
  refine wpAny_bind (wpAny_specialOf hT nolen_zip ?_)
  show wpAny _ A.in1 (specialOf (Value.ref z) (Str.ofString "__length_hint__") >>= _) _ _ _
  refine wpAny_bind (wpAny_specialOf hT nohint_zip ?_)
  refine wpAny_pure ?_
  show wpAny _ A.in1 (rule "list.extend.makes-room" >>= fun _ => Builtin.List.listTouch (.ref S) >>= fun _ => again (.builtin "list.extend.loop" ⟨[.ref S, .ref z, res], []⟩)) _ _ _
  refine wpAny_bind (wpAny_rule ?_)
  refine wpAny_bind ?_
  show wpAny _ A.in1 (updateSeq S (·.push .none) >>= fun _ => updateSeq S (·.pop)) _ _ _
  refine wpAny_bind (wpAny_updateSeq hS rfl ?_)
  have e2 := Heap.get?_update_self (Obj.mapSeq (·.push Value.none)) hS rfl
  refine wpAny_updateSeq (hz := by seq_fits) e2 rfl ?_
  have e3 := Heap.get?_update_self (Obj.mapSeq (·.pop)) e2 rfl
  have oth : ∀ b o, b ≠ S → s.heap.get? b = some o → ((s.heap.update S (Obj.mapSeq (·.push Value.none))).update S (Obj.mapSeq (·.pop))).get? b = some o := fun b o hb e => (Heap.get?_update_other _ _ (Ne.symm hb)).trans ((Heap.get?_update_other _ _ (Ne.symm hb)).trans e)
  obtain ⟨b1, b2, hTO⟩ := hTO
  have upE : ∀ {fp : List Addr}, S ∉ fp → ∀ b ∈ fp, ∀ o, s.heap.get? b = some o → ((s.heap.update S (Obj.mapSeq (·.push Value.none))).update S (Obj.mapSeq (·.pop))).get? b = some o := fun nf b m o e => oth b o (fun q => nf (q ▸ m)) e
  refine wpAny_pure ⟨plainId_quiet PySem.F.plain_extend_loop _, ?_⟩
  refine lz_loop (s := s) (h0 := s.heap) D L D1 D2 hm1 hm2 hn hsz res hR n 0 _ s.toks _ #[] [] (Nat.sub_zero _) (Nat.zero_le _) ⟨oth _ _ L.TIS hTI, .inl ⟨oth _ _ L.zS hz, b1, b2, oth _ _ L.TOS hTO⟩⟩ (D1.frame _ _ _ s1 (upE L.f1)) (D2.frame _ _ _ s2 (upE L.f2)) (fun b o hb _ _ _ _ e => oth b o hb e) e3 rfl rfl ⟨List.Pairwise.nil, (fun _ ha => nomatch ha), (fun j a hj => by simp at hj)⟩ ?_
  refine Nat.le_trans htop (Nat.le_of_eq ?_)
  rw [Heap.size_update, Heap.size_update]
theorem lz_init {S top : Addr} (D : ZipSep2 z TI TO i1 i2 fp1 fp2) (L : ZLow z TI TO i1 i2 S top fp1 fp2) (D1 : Draws prog w A.in1.in1 i1 fp1 n1 P1 St1) (D2 : Draws prog w A.in1.in1 i2 fp2 n2 P2 St2) {n : Nat} (hm1 : n ≤ n1) (hm2 : n ≤ n2) (hn : n = n1 ∨ n = n2) (hsz : n ≤ sizeLine)
    (hS : s.heap.get? S = some { cls := .type "list", data := .seq #[] }) (hz : IsZip s.heap z TI TO .none) (hTI : IsTupOf2 s.heap TI (.ref i1) (.ref i2)) (hTO : ∃ a1 a2, IsTupOf2 s.heap TO a1 a2) (s1 : St1 0 s.heap) (s2 : St2 0 s.heap) (htop : top ≤ s.heap.objs.size)
    (hR : ∀ h' tk acc c as, (∀ b o, b ≠ S → b ≠ z → b ≠ TO → b ≠ i1 → b ≠ i2 → s.heap.get? b = some o → h'.get? b = some o) → h'.get? S = some { cls := .type "list", dict := none, data := .seq acc c, slots := #[] } → as.length = n → ZG P1 P2 (top - 1) h' as →
      acc.toList = as.map Value.ref → R (.ok (.ret .none)) { s with heap := h', toks := tk }) :
    wpAny (model prog w) A.in1 (Builtin.«list.__init__» ⟨[.ref S, .ref z], []⟩)
      (fun fin s' => match fin with | .done f => R (.ok f) s' | .again c' => c'.quiet = true ∧ codeAny (model prog w) A c' R s') (fun e s' => R (.error e) s') s := by
  show wpAny _ _ (do let old ← Builtin.List.listItems (.ref S); Builtin.List.listUpdate (.ref S) (fun _ => #[]); letGo old.toList.reverse; Builtin.List.listExtendWith (.ref S) (.ref z) .none) _ _ s
  refine wpAny_bind ?_
  unfold Builtin.List.listItems
  refine wpAny_bind (wpAny_seqItems hS rfl (wpAny_pure ?_))
  show wpAny _ _ (updateSeq S (fun _ => #[]) >>= fun _ => letGo (#[] : Array Value).toList.reverse >>= fun _ => Builtin.List.listExtendWith (.ref S) (.ref z) .none) _ _ s
  refine wpAny_bind (wpAny_updateSeq hS rfl ?_)
  have e2 := Heap.get?_update_self (Obj.mapSeq (fun _ => (#[] : Array Value))) hS rfl
  have oth : ∀ b o, b ≠ S → s.heap.get? b = some o → (s.heap.update S (Obj.mapSeq (fun _ => (#[] : Array Value)))).get? b = some o := fun b o hb e => (Heap.get?_update_other _ _ (Ne.symm hb)).trans e
  have upE : ∀ {fp : List Addr}, S ∉ fp → ∀ b ∈ fp, ∀ o, s.heap.get? b = some o → (s.heap.update S (Obj.mapSeq (fun _ => (#[] : Array Value)))).get? b = some o := fun nf b m o e => oth b o (fun q => nf (q ▸ m)) e
  obtain ⟨b1, b2, hTO⟩ := hTO
  refine wpAny_bind (wpAny_letGo ?_)
  refine lz_extend D L D1 D2 hm1 hm2 hn hsz .none e2 (oth _ _ L.zS hz) (oth _ _ L.TIS hTI) ⟨b1, b2, oth _ _ L.TOS hTO⟩ (D1.frame _ _ _ s1 (upE L.f1)) (D2.frame _ _ _ s2 (upE L.f2)) (by show top ≤ (s.heap.update S _).objs.size; rw [Heap.size_update]; exact htop) fun h' tk acc c as hk hS' hl hG hacc => ?_
  exact hR h' tk acc c as (fun b o n0 n1 n2 n3 n4 e => hk b o n0 n1 n2 n3 n4 (oth b o n0 e)) hS' hl hG hacc
theorem lz_call {E : Value → Shared → Prop} {Q : Value → Shared → Prop} (D : ZipSep2 z TI TO i1 i2 fp1 fp2) (D1 : Draws prog w A.in1.in1.in1 i1 fp1 n1 P1 St1) (D2 : Draws prog w A.in1.in1.in1 i2 fp2 n2 P2 St2) {n : Nat} (hm1 : n ≤ n1) (hm2 : n ≤ n2) (hn : n = n1 ∨ n = n2) (hsz : n ≤ sizeLine)
    (hz : IsZip s.heap z TI TO .none) (hTI : IsTupOf2 s.heap TI (.ref i1) (.ref i2)) (hTO : ∃ a1 a2, IsTupOf2 s.heap TO a1 a2) (s1 : St1 0 s.heap) (s2 : St2 0 s.heap) (li1 : i1 < s.heap.objs.size) (li2 : i2 < s.heap.objs.size) (f1 : ∀ b ∈ fp1, b < s.heap.objs.size) (f2 : ∀ b ∈ fp2, b < s.heap.objs.size)
    (hQ : ∀ h' tk acc c as, (∀ b o, b ≠ z → b ≠ TO → b ≠ i1 → b ≠ i2 → s.heap.get? b = some o → h'.get? b = some o) → h'.get? s.heap.objs.size = some { cls := .type "list", dict := none, data := .seq acc c, slots := #[] } → as.length = n → ZG P1 P2 s.heap.objs.size h' as →
      acc.toList = as.map Value.ref → Q (.ref s.heap.objs.size) { s with heap := h', toks := tk }) :
    wpAny (model prog w) A (call (.type "list") [.ref z]) Q E s := by
  refine callType_codes (Q₁ := fun obj s₁ => obj = .ref s.heap.objs.size ∧ s₁ = { s with heap := s.heap.push { cls := .type "list", data := .seq #[] } }) PySem.F.called_list (PySem.F.typeCall_list_1 _) PySem.F.entry_list_init
    (code_list_new _ ⟨rfl, rfl⟩) fun obj s₁ h₁ => ?_
  obtain ⟨rfl, rfl⟩ := h₁
  have hS : (s.heap.push { cls := .type "list", data := .seq #[] }).get? s.heap.objs.size = some { cls := .type "list", data := .seq #[] } := Heap.get?_push_size _ rfl
  have up : ∀ b o, s.heap.get? b = some o → (s.heap.push { cls := .type "list", data := .seq #[] }).get? b = some o := fun b o e => Heap.get?_push_of_some _ e
  have lz := Heap.lt_size hz
  have lTI := Heap.lt_size hTI
  obtain ⟨b1, b2, hTO⟩ := hTO
  have lTO := Heap.lt_size hTO
  have L : ZLow z TI TO i1 i2 s.heap.objs.size (s.heap.objs.size + 1) fp1 fp2 := ⟨Nat.lt_succ_of_lt lz, Nat.lt_succ_of_lt lTI, Nat.lt_succ_of_lt lTO, Nat.lt_succ_of_lt li1, Nat.lt_succ_of_lt li2, Nat.lt_succ_self _, Nat.ne_of_lt lz, Nat.ne_of_lt lTI, Nat.ne_of_lt lTO, fun m => Nat.lt_irrefl _ (f1 _ m), fun m => Nat.lt_irrefl _ (f2 _ m)⟩
  refine ⟨⟨_, hS, rfl⟩, PySem.F.args_list_init_2 _ _, lz_init (A := A.in1) D L D1 D2 hm1 hm2 hn hsz hS (up _ _ hz) (up _ _ hTI) ⟨b1, b2, up _ _ hTO⟩ (D1.frame _ _ _ s1 fun b _ o e => up b o e) (D2.frame _ _ _ s2 fun b _ o e => up b o e) (Nat.le_of_eq (Heap.size_push _ _).symm) fun h' tk acc c as hk hS' hl hG hacc => ?_⟩
  exact ⟨rfl, hQ h' tk acc c as (fun b o n1 n2 n3 n4 e => hk b o (Nat.ne_of_lt (Heap.lt_size e)) n1 n2 n3 n4 (up b o e)) hS' hl hG hacc⟩
end
end BRZ
end PySem
namespace BR
open PySem PySem.Spec PyProof.Rows L2
/-- the pairs tracked at their addresses -/
def putP : Hp → List Addr → List (V × V) → Hp
  | H, a :: as, q :: qs => putP (upd H a (.tup [q.1, q.2])) as qs
  | H, _, _ => H
theorem putP_off {b : Addr} : ∀ (as : List Addr) (qs : List (V × V)) (H : Hp), b ∉ as → putP H as qs b = H b
  | [], _, _, _ => rfl
  | _ :: _, [], _, _ => rfl
  | a :: as, q :: qs, H, h => by
    show putP (upd H a (.tup [q.1, q.2])) as qs b = H b
    rw [putP_off as qs _ (fun z => h (List.mem_cons_of_mem _ z)), upd_ne (fun z => h (by rw [z]; exact List.mem_cons_self))]
theorem putP_at : ∀ (as : List Addr) (qs : List (V × V)) (H : Hp), as.length = qs.length → as.Nodup → Paired (fun (t : Addr) (q : V × V) => putP H as qs t = some (.tup [q.1, q.2])) as qs
  | [], [], _, _, _ => .nil
  | [], _ :: _, _, h, _ => by cases h
  | _ :: _, [], _, h, _ => by cases h
  | a :: as, q :: qs, H, h, hn => by
    have hn' := List.nodup_cons.mp hn
    refine .cons ?_ (putP_at as qs (upd H a (.tup [q.1, q.2])) (Nat.succ.inj h) hn'.2)
    show putP (upd H a (.tup [q.1, q.2])) as qs a = some (.tup [q.1, q.2])
    rw [putP_off as qs _ hn'.1, upd_same]
section
variable {X : Cx} {pins : List (Addr × Obj)} {σ : L2.St} {H : Hp} {s : Shared}
theorem pairs_laid {h' : Heap} {tk : Nat} {S : Addr} {acc : Array Value} {c : Nat} {as : List Addr} {qs : List (V × V)} (I : Inv X pins σ H s) (hz : qs.length ≤ sizeLine) (hk : ∀ b o, s.heap.get? b = some o → h'.get? b = some o) (lS : s.heap.objs.size ≤ S) (hS : h'.get? S = some { cls := .type "list", dict := none, data := .seq acc c, slots := #[] })
    (hl : as.length = qs.length) (rise : as.Pairwise (· < ·)) (above : ∀ a ∈ as, S < a) (hp : ∀ (j : Nat) (a : Addr) (q : V × V), as[j]? = some a → qs[j]? = some q → ∃ x y, RelV q.1 x ∧ RelV q.2 y ∧ IsTupOf2 h' a x y) (hacc : acc.toList = as.map Value.ref) :
    ∃ H' : Hp, Same H H' ∧ H S = none ∧ H' S = some (.lst (as.map V.ref)) ∧ Paired (fun (t : Addr) (q : V × V) => H' t = some (.tup [q.1, q.2])) as qs ∧ Inv X pins σ H' { s with heap := h', toks := tk } := by
  have hSn : S ∉ as := fun z => Nat.lt_irrefl _ (above _ z)
  have nd : as.Nodup := List.Pairwise.imp (fun {a b} (h : a < b) => Nat.ne_of_lt h) rise
  have big : ∀ t ∈ as, s.heap.objs.size ≤ t := fun t ht => Nat.le_of_lt (Nat.lt_of_le_of_lt lS (above t ht))
  have new : ∀ t ∈ as, H t = none := fun t ht => I.hok.fresh (big t ht)
  have newS : H S = none := I.hok.fresh lS
  have atP := putP_at as qs (upd H S (.lst (as.map V.ref))) hl nd
  have off : ∀ b, b ∉ as → b ≠ S → putP (upd H S (.lst (as.map V.ref))) as qs b = H b := fun b h1 h2 => by rw [putP_off as qs _ h1, upd_ne h2]
  have low : ∀ b o, s.heap.get? b = some o → b ∉ as ∧ b ≠ S := fun b o e => ⟨fun z => absurd (Heap.lt_size e) (Nat.not_lt.mpr (big b z)), fun z => absurd (Heap.lt_size e) (Nat.not_lt.mpr (z ▸ lS))⟩
  have kp : ∀ b u, H b = some u → (putP (upd H S (.lst (as.map V.ref))) as qs) b = some u := fun b u e => by
    rw [off b (fun z => by rw [new b z] at e; cases e) (fun z => by rw [z, newS] at e; cases e)]
    exact e
  have eS : putP (upd H S (.lst (as.map V.ref))) as qs S = some (.lst (as.map V.ref)) := by rw [putP_off as qs _ hSn, upd_same]
  refine ⟨putP (upd H S (.lst (as.map V.ref))) as qs, kp, newS, eS, atP, ?_⟩
  refine I.call' (ch := []) rfl ⟨fun b o q _ _ _ => hk b o q, fun b o q _ _ _ => ⟨o.slots, hk b o q⟩, fun b o q n _ => ?_, fun b o q _ => ⟨o, hk b o q⟩, fun b xs q => kp b _ q, fun b o u q => kp b _ q, fun b ps q => ⟨#[], by rw [kp b _ q]; simp⟩⟩ (fun b u q => ?_) I.bare fun b z => by simp at z
  · obtain ⟨z1, z2⟩ := low b o q
    rw [off b z1 z2]
    exact n
  · by_cases hb : b ∈ as
    · obtain ⟨j, pk, e1, e2, e3⟩ := LiI.paired_ix atP hb
      rw [e3] at q
      cases q
      obtain ⟨x, y, r1, r2, f3⟩ := hp j b pk e1 e2
      exact ⟨by show 2 ≤ sizeLine; decide, [x, y], .cons r1 (.cons r2 .nil), ⟨_, f3, rfl, _, rfl⟩⟩
    · by_cases hb2 : b = S
      · rw [hb2] at q ⊢
        rw [eS] at q
        cases q
        refine ⟨by rw [List.length_map]; omega, acc.toList, c, by rw [hacc]; exact LiI.vals_refs as, ?_⟩
        rw [Array.toArray_toList]
        exact hS
      · rw [off b hb hb2] at q
        exact (I.hok b u q).stay (fun d v _ y => hk d v y) (fun d y => kp d _ y) fun d xs y => kp d _ y
end
theorem small1000' {n : Nat} (h : n ≤ 1000) : n ≤ sizeLine := by rw [sizeLine_eq]; omega
/-- the signs of a text -/
def sgn (x : Str) : List V := x.cps.toList.map fun c => V.str ⟨#[c]⟩
/-- list(zip(a text, a tuple)) where C holds of them -/
def tLZc (C : Str → List V → Prop) (K : PySem.W.Frag) (ta : TA) : TE := fun σ H Q => ta σ H fun vs H1 => ∃ (x : Str) (b : Addr) (ys : List V), vs = [.str x, .ref b] ∧ SqT K H1 b ys ∧ C x ys ∧ ys.length ≤ 1000 ∧
  ∀ (p : Addr) (ts : List Addr) (H' : Hp), Same H1 H' → H1 p = none → H' p = some (.lst (ts.map V.ref)) → Paired (fun (t : Addr) (q : V × V) => H' t = some (.tup [q.1, q.2])) ts ((sgn x).zip ys) → Q (.ref p) H'
theorem pe_listZipC {C : Str → List V → Prop} {X : Cx} {e1 e2 : Expr} {ta : TA} {p p2 pos pos2 : Pos} (hc : X.calm = true) (hg : Gl X "list") (hm : X.mg "list" = none) (hg2 : Gl X "zip") (hm2 : X.mg "zip" = none) (ha : PA X [e1, e2] ta)
    (hs : starEach [.Call (.Name "zip" p2) [e1, e2] [] pos2] X.env = (false, eval (.Call (.Name "zip" p2) [e1, e2] [] pos2) X.env) :: starEach [] X.env := by rfl)
    (hs2 : starEach [e1, e2] X.env = (false, eval e1 X.env) :: starEach [e2] X.env := by rfl) (hpl2 : (backTo pos2 (starEach [e2] X.env)).any (·.1) = false := by rfl) :
    PE X (.Call (.Name "list" p) [.Call (.Name "zip" p2) [e1, e2] [] pos2] [] pos) (tLZc C X.K ta) := by
  refine ⟨fun pins s σ H Q I h => ?_⟩
  refine wpAny_Call_Name_kw (ld_blt I hg hm (show bootBuiltins "list" = some (.type "list") by decide +kernel) ?_)
  refine PyProof.Rows.callWith_type1 ?_ hs rfl
  rw [hs]
  show wpAny _ _ (spliced ((false, eval (.Call (.Name "zip" p2) [e1, e2] [] pos2) X.env) :: backTo pos (starEach [] X.env))) _ _ s
  refine Calls.spliced_cons ?_
  refine Call_ (ld_blt I hg2 hm2 PyProof.Rows.boot_zip (PyProof.Rows.callWith_type1 (thn (ha.run pos2 pins s σ H _ I h) fun us s1 ⟨vs, H1, I1, r1, x, b, ys, ev, hq, hxy, hy, k⟩ => ?_) hs2 hpl2))
  subst ev
  cases r1 with
  | @cons _ u1 _ _ ra rr =>
  cases rr with
  | @cons _ u2 _ _ rb rr =>
  cases rr
  obtain ⟨t, rfl⟩ := (show ∃ t, u1 = Value.str x t from ra)
  obtain rfl : u2 = Value.ref b := rb
  obtain ⟨its, rv, isT, hz⟩ := I1.tuple hq
  have li := rv.length
  refine zip_begins2 (begins_text x t) (begins_tuple b its.toArray) trivial isT fun h' ez eTI eTO g1 g2 hsz hk => ?_
  refine Calls.spliced_nil ?_
  have hb : b < s1.heap.objs.size := by obtain ⟨o, e, _⟩ := isT; exact Heap.lt_size e
  have hh : X.A.in1.in1.in1.handled = none := I1.ok.hd hc
  have D1 := Draws.text (prog := X.prog) (w := X.w) hh s1.heap.objs.size x t
  have D2 := Draws.tuple (prog := X.prog) (w := X.w) hh (s1.heap.objs.size + 1) b (Nat.ne_of_lt (Nat.lt_succ_of_lt hb)) its.toArray
  have nn : its.toArray.size = ys.length := by rw [li, List.size_toArray]
  have mm : min x.cps.size ys.length = x.cps.size ∨ min x.cps.size ys.length = its.toArray.size := by rw [nn]; omega
  refine BRZ.lz_call (zip_sep2 (N := s1.heap.objs.size) (fp1 := []) (fp2 := [b]) (fun _ m => nomatch m) (fun c m => by rw [List.mem_singleton.mp m]; exact hb)) D1 D2 (n := min x.cps.size ys.length) (Nat.min_le_left _ _) (by rw [nn]; exact Nat.min_le_right _ _) mm (small1000' (Nat.le_trans (Nat.min_le_right _ _) hy)) ez eTI ⟨_, _, eTO⟩ ⟨_, g1, rfl, rfl⟩ ⟨⟨_, g2, rfl, rfl⟩, Heap.IsTuple.at isT fun o e => hk b o e⟩ ?_ ?_ (fun c m => ?_) (fun c m => ?_) fun h2 tk acc c as hk2 hS hl hG hacc => ?_
  · show s1.heap.objs.size < h'.objs.size
    omega
  · show s1.heap.objs.size + 1 < h'.objs.size
    omega
  · rw [List.mem_singleton.mp m]
    show s1.heap.objs.size < h'.objs.size
    omega
  · have q : c = s1.heap.objs.size + 1 ∨ c = b := by simpa using m
    show c < h'.objs.size
    rcases q with q | q
    · rw [q]
      show s1.heap.objs.size + 1 < h'.objs.size
      omega
    · rw [q, hsz]; exact Nat.lt_of_lt_of_le hb (Nat.le_add_right _ _)
  have up : ∀ c o, s1.heap.get? c = some o → h2.get? c = some o := fun c o e => by
    have l := Heap.lt_size e
    have ne : ∀ j : Nat, c ≠ s1.heap.objs.size + j := fun j => Nat.ne_of_lt (Nat.lt_of_lt_of_le l (Nat.le_add_right _ _))
    exact hk2 c o (ne 4) (ne 3) (ne 0) (ne 1) (hk c o e)
  have ln : ((sgn x).zip ys).length = min x.cps.size ys.length := by
    rw [List.length_zip, sgn, List.length_map, Array.length_toList]
  have hp : ∀ (j : Nat) (a : Addr) (q : V × V), as[j]? = some a → ((sgn x).zip ys)[j]? = some q → ∃ x y, RelV q.1 x ∧ RelV q.2 y ∧ IsTupOf2 h2 a x y := fun j a q ea eq => by
    obtain ⟨v1, v2, ⟨cc, u, ec, rfl⟩, p2, et⟩ := hG.pairs j a ea
    obtain ⟨q1, q2⟩ := List.getElem?_zip_eq_some.mp eq
    obtain ⟨u2, h1, h2'⟩ := rv.get q2
    have p2' : its[j]? = some v2 := by simpa using p2
    rw [h1] at p2'
    cases p2'
    refine ⟨_, _, ?_, h2', et⟩
    have e1 : (sgn x)[j]? = some (.str ⟨#[cc]⟩) := by
      rw [sgn, List.getElem?_map, Array.getElem?_toList, ec]
      rfl
    rw [e1] at q1
    rw [← Option.some.inj q1]
    exact ⟨u, rfl⟩
  obtain ⟨H2, a1, a2, a3, a4, J⟩ := pairs_laid (tk := tk) (S := h'.objs.size) (qs := (sgn x).zip ys) I1 (small1000' (by rw [ln]; exact Nat.le_trans (Nat.min_le_right _ _) hy)) up (by omega) hS (by rw [hl, ln]) hG.rise hG.above hp hacc
  exact ⟨.ref _, H2, J, rfl, k _ as H2 a1 a2 a3 a4⟩
/-- list(zip(a text, a tuple)), as long as each other -/
def tLZ (K : PySem.W.Frag) (ta : TA) : TE := fun σ H Q => ta σ H fun vs H1 => ∃ (x : Str) (b : Addr) (ys : List V), vs = [.str x, .ref b] ∧ SqT K H1 b ys ∧ x.cps.size = ys.length ∧ ys.length ≤ 1000 ∧
  ∀ (p : Addr) (ts : List Addr) (H' : Hp), Same H1 H' → H1 p = none → H' p = some (.lst (ts.map V.ref)) → Paired (fun (t : Addr) (q : V × V) => H' t = some (.tup [q.1, q.2])) ts ((sgn x).zip ys) → Q (.ref p) H'
theorem pe_listZip {X : Cx} {e1 e2 : Expr} {ta : TA} {p p2 pos pos2 : Pos} (hc : X.calm = true) (hg : Gl X "list") (hm : X.mg "list" = none) (hg2 : Gl X "zip") (hm2 : X.mg "zip" = none) (ha : PA X [e1, e2] ta)
    (hs : starEach [.Call (.Name "zip" p2) [e1, e2] [] pos2] X.env = (false, eval (.Call (.Name "zip" p2) [e1, e2] [] pos2) X.env) :: starEach [] X.env := by rfl)
    (hs2 : starEach [e1, e2] X.env = (false, eval e1 X.env) :: starEach [e2] X.env := by rfl) (hpl2 : (backTo pos2 (starEach [e2] X.env)).any (·.1) = false := by rfl) :
    PE X (.Call (.Name "list" p) [.Call (.Name "zip" p2) [e1, e2] [] pos2] [] pos) (tLZ X.K ta) := pe_listZipC (C := fun x ys => x.cps.size = ys.length) hc hg hm hg2 hm2 ha hs hs2 hpl2
end BR

/-! ### a new tuple of texts whose very object is known: its index -/
namespace BR
open PySem PySem.Spec PyProof.Rows L2
def rCatZ (K : PySem.W.Frag) : R2 := fun x y H Q => ∃ a b xs ys, x = .ref a ∧ y = .ref b ∧ SqT K H a xs ∧ SqT K H b ys ∧ xs ≠ [] ∧ ys ≠ [] ∧ xs.length + ys.length ≤ sizeLine ∧
  ∀ (p : Addr) (o : Obj), H p = none → o.cls = .type "tuple" → o.dict = none → Q (.ref p) (upd H p (.frz o (.tup (xs ++ ys))))
theorem op_catZ {X : Cx} : OpR X (binaryOp .Add) (rCatZ X.K) := by
  intro pins s σ H x y v u Q I rx ry h
  obtain ⟨a, b, xs, ys, rfl, rfl, ha, hb, hx, hy, hz, q⟩ := h
  cases rx
  cases ry
  obtain ⟨its, r1, p1, _⟩ := I.tuple ha
  obtain ⟨its2, r2, p2, _⟩ := I.tuple hb
  refine HT.cat_tup p1 p2 (fun z => hx (r1.nil_iff.mp z)) (fun z => absurd (r2.nil_iff.mp z) hy) (fun z => ?_) (by rw [← r1.length, ← r2.length]; exact hz)
  refine ⟨.ref s.heap.objs.size, _, I.laid (t' := s.toks) (o := .frz _ (.tup (xs ++ ys))) (fun b ob q => Heap.get?_push_of_some _ q) (Nat.le_refl _) ⟨Heap.get?_push_size _ rfl, ?_⟩, rfl, q _ _ (I.hok.fresh (Nat.le_refl _)) rfl rfl⟩
  exact ⟨by rw [List.length_append]; exact hz, _, r1.append r2, IsTup.new _ _⟩
/-- a tuple of texts, its object known -/
def NmAt (H : Hp) (t : Addr) (ns : List Str) : Prop := ∃ o : Obj, H t = some (.frz o (.tup (ns.map V.str))) ∧ o.cls = .type "tuple" ∧ o.dict = none
theorem NmAt.same {H H' : Hp} {t : Addr} {ns : List Str} (h : NmAt H t ns) (s : Same H H') : NmAt H' t ns := let ⟨o, e, r⟩ := h; ⟨o, s _ _ e, r⟩
theorem NmAt.sq {K : PySem.W.Frag} {H : Hp} {t : Addr} {ns : List Str} (h : NmAt H t ns) : SqT K H t (ns.map V.str) := let ⟨o, e, _⟩ := h; .inl (.inr ⟨o, e⟩)
def tTIx (K : PySem.W.Frag) (to : TE) (ta : TA) : TE := fun σ H Q => to σ H fun x H1 => ∃ (p : Addr) (ns : List Str), x = .ref p ∧ NmAt H1 p ns ∧ ta σ H1 fun vs H2 => ∃ (z : Str) (j : Nat), vs = [.str z] ∧ NmAt H2 p ns ∧ ns[j]? = some z ∧ (∀ m, m < j → ns[m]? ≠ some z) ∧ Q (.int (j : Nat)) H2
theorem pe_tupIx {X : Cx} {o e : Expr} {to : TE} {ta : TA} {apos cpos : Pos} (ho : PE X o to) (ha : PA X [e] ta)
    (c1 : attributeBase o "index" X.env (eval o X.env) = eval o X.env := by rfl)
    (c2 : ((backTo cpos (starEach [e] X.env)).all (fun x => !x.1) && (backToKw cpos (keywordEach [] X.env)).all (fun x => x.1.isSome) && decide ([e].length + ([] : List Keyword).length + (if ([] : List Keyword).isEmpty then 0 else 1) < 30)) = true := by rfl)
    (c3 : (apos.endLine == cpos.line) = true := by rfl) (c4 : starEach [e] X.env = (false, eval e X.env) :: starEach [] X.env := by rfl) (c5 : (backTo cpos (starEach [] X.env)).any (·.1) = false := by rfl) :
    PE X (.Call (.Attribute o "index" apos) [e] [] cpos) (tTIx X.K to ta) := by
  refine ⟨fun pins s σ H Q I h => ?_⟩
  refine wpAny_Call_method_late c1 c2 c3 rfl (thn (ho.run pins s σ H _ I h) fun v s1 ⟨x, H1, I1, r1, p, ns, ex, hn, q1⟩ => ?_)
  subst ex
  obtain rfl : v = Value.ref p := r1
  obtain ⟨ob, e1, e2, e3⟩ := id hn
  have there : s1.heap.get? p = some ob := (show s1.heap.get? p = some ob ∧ _ from I1.hok p _ e1).1
  refine ⟨"tuple", "tuple.index", PySem.F.plainAttrs_tuple, PySem.F.slot_tuple_index, PySem.F.type_tuple_index, ⟨ob, there, e2⟩, fun a ea => by cases ea; exact ⟨ob, there, e3⟩, ?_⟩
  have hA := ha.run cpos pins s1 σ H1 _ I1 q1
  rw [c4] at hA ⊢
  refine Calls.callWith_builtin (by show (false || (backTo cpos (starEach [] X.env)).any (·.1)) = false; rw [c5] <;> rfl) (Calls.evalArgs_plain ?_)
  refine thn hA fun us s2 ⟨vs, H2, I2, r2, z, j, ev, hn2, h1, h2, q2⟩ => ?_
  subst ev
  exact mt_tup_index pins s2 σ H2 (.ref p) [.str z] (.ref p) us Q I2 rfl r2 ⟨p, ns, z, j, rfl, rfl, hn2.sq, h1, h2, q2⟩
end BR

/-! ### for a, b in zip(text, tuple) -/
namespace BR
open PySem PySem.Spec PyProof.Rows L2
/-- a text and the tuple at b, the items in new pairs -/
def ItzS (K : PySem.W.Frag) (x : Str) (b : Addr) : It :=
  ⟨fun i H => ∃ (ys : List V) (y : V), SqT K H b ys ∧ ys[i]? = some y ∧ i < x.cps.size,
    fun i H v H' => ∃ (T : Addr) (k y : V), v = .ref T ∧ H T = none ∧ H' = upd H T (.tup [k, y]) ∧ (sgn x)[i]? = some k ∧ ∀ ys, SqT K H b ys → ys[i]? = some y,
    fun i H => ∃ ys : List V, SqT K H b ys ∧ i ≤ x.cps.size ∧ i ≤ ys.length ∧ (i = x.cps.size ∨ i = ys.length)⟩
theorem fiveOf {c z TI TO i1 i2 : Addr} (h : c ∈ [z, TI, TO, i1, i2]) : c = z ∨ c = TI ∨ c = TO ∨ c = i1 ∨ c = i2 := by simpa using h
theorem turn_zipS {P : Program} {w : World} {K : PySem.W.Frag} {elts : List Expr} {kk : Nat} {tpos : Pos} {x : Str} {t : Tok} {b z TI TO i1 i2 : Addr} (D : ZipSep2 z TI TO i1 i2 [i1] [i2, b]) (hb : b ≠ i2) :
    Turn P w K (.Tuple elts kk tpos) (ItzS K x b) [z, TI, TO, i1, i2] z (fun i h => IsZip h z TI TO .none ∧ IsTupOf2 h TI (.ref i1) (.ref i2) ∧ (∃ x y, IsTupOf2 h TO x y) ∧ h.IsStrIter i1 (strIterType x) x t i ∧ h.IsTupleIter i2 b i) where
  mem := by simp
  obj := fun i h st c hc => by
    obtain ⟨hz, hTI, ⟨x, y, hTO⟩, ⟨o1, e1, _, d1⟩, ⟨o2, e2, _, d2⟩⟩ := st
    rcases fiveOf hc with q | q | q | q | q
    · rw [q]; exact ⟨_, hz, fun v q => nomatch q⟩
    · rw [q]; exact ⟨_, hTI, fun v q => nomatch q⟩
    · rw [q]; exact ⟨_, hTO, fun v q => nomatch q⟩
    · rw [q]; exact ⟨o1, e1, fun v q => by rw [d1] at q; cases q⟩
    · rw [q]; exact ⟨o2, e2, fun v q => by rw [d2] at q; cases q⟩
  keep := fun i h h' st k => by
    obtain ⟨hz, hTI, ⟨x, y, hTO⟩, ⟨o1, e1, r1⟩, h2⟩ := st
    exact ⟨k z (by simp) _ hz, k TI (by simp) _ hTI, ⟨x, y, k TO (by simp) _ hTO⟩, ⟨o1, k i1 (by simp) _ e1, r1⟩, h2.at fun o q => k i2 (by simp) o q⟩
  item := by
    intro X hP hw hK hc i pins s σ H E I hf st hg
    subst hP hw hK
    obtain ⟨hz, hTI, ⟨x0, y0, hTO⟩, h1, h2⟩ := st
    obtain ⟨ys, y, hqy, hy, hi⟩ := hg
    obtain ⟨its, rv, isT, _⟩ := I.tuple hqy
    obtain ⟨u2, hu2, ru2⟩ := rv.get hy
    have hh : X.A.in1.handled = none := I.ok.hd hc
    have hzl : z < s.heap.objs.size := Heap.lt_size hz
    have D1 := Draws.text (prog := X.prog) (w := X.w) hh i1 x t
    have D2 := Draws.tuple (prog := X.prog) (w := X.w) hh i2 b hb its.toArray
    refine wpAny_pyNext_zipD2_item D D1 D2 hz hTI hTO h1 ⟨h2, isT⟩ hi (by rw [List.size_toArray]; exact (List.getElem?_eq_some_iff.mp hu2).1) fun x1 x2 h' tk p1 p2 z' TO' n1' n2' hT hsz hk => ?_
    obtain ⟨c, u, ec, rfl⟩ := p1
    have p2' : its[i]? = some x2 := by simpa using p2
    rw [hu2] at p2'
    cases p2'
    have ek : (sgn x)[i]? = some (.str ⟨#[c]⟩) := by
      rw [sgn, List.getElem?_map, Array.getElem?_toList, ec]
      rfl
    refine ⟨_, rfl, wpAny_letOwnedTupleGo_zip (s := { s with heap := h', toks := tk }) z' fun h'' z'' sb => ?_⟩
    have hT2 : h''.get? s.heap.objs.size = some { cls := .type "tuple", data := .seq #[.str ⟨#[c]⟩ u, u2] } := (sb.2 _ (Nat.ne_of_gt hzl)).trans hT
    have rc : RelV (.str ⟨#[c]⟩) (.str ⟨#[c]⟩ u) := ⟨u, rfl⟩
    have new : ObjOk X.prog X.w (upd H s.heap.objs.size (.tup [.str ⟨#[c]⟩, y])) h'' s.heap.objs.size (.tup [.str ⟨#[c]⟩, y]) :=
      ⟨by show 2 ≤ sizeLine; decide, [.str ⟨#[c]⟩ u, u2], .cons rc (.cons ru2 .nil), ⟨_, hT2, rfl, _, rfl⟩⟩
    have I1 : Inv X pins σ (upd H s.heap.objs.size (.tup [.str ⟨#[c]⟩, y])) { s with heap := h'', toks := tk } :=
      I.turnedNew (t' := tk) (ch := [z, TI, TO, i1, i2]) (fun c o hb q => (sb.2 c (fun q' => hb (by simp [q']))).trans (hk c o (fun q' => hb (by simp [q'])) (fun q' => hb (by simp [q'])) (fun q' => hb (by simp [q'])) (fun q' => hb (by simp [q'])) q)) hf (Nat.le_refl _) new
    have zi1 := D.zi1
    have zi2 := D.zi2
    refine ⟨.ref s.heap.objs.size, _, I1, rfl, ⟨_, .str ⟨#[c]⟩, y, rfl, I.hok.fresh (Nat.le_refl _), rfl, ek, fun l hl => by rw [I.tuple_inj hl hqy]; exact hy⟩, ⟨z'', ?_, ⟨.str ⟨#[c]⟩ u, u2, ?_⟩, ?_, ?_⟩, fun c hcm => ?_⟩
    · exact (sb.2 _ D.TIz).trans (hk _ _ D.TIz D.TITO D.TIi1 D.TIi2 hTI)
    · exact (sb.2 _ D.TOz).trans TO'
    · obtain ⟨o1, e1, r1⟩ := n1'
      exact ⟨o1, (sb.2 _ (Ne.symm zi1)).trans e1, r1⟩
    · exact n2'.1.at fun o q => (sb.2 _ (Ne.symm zi2)).trans q
    · have hlt : c < s.heap.objs.size := by
        rcases fiveOf hcm with q | q | q | q | q
        · rw [q]; exact hzl
        · rw [q]; exact Heap.lt_size hTI
        · rw [q]; exact Heap.lt_size hTO
        · rw [q]; obtain ⟨_, e1, _⟩ := h1; exact Heap.lt_size e1
        · rw [q]; obtain ⟨_, e2, _⟩ := h2; exact Heap.lt_size e2
      rw [upd_ne (Nat.ne_of_lt hlt)]
      exact (hf c hcm).1
  done := by
    intro X hP hw hK hc i pins s σ H E I hf st hg
    subst hP hw hK
    obtain ⟨hz, hTI, ⟨x0, y0, hTO⟩, h1, h2⟩ := st
    obtain ⟨ys, hqy, l1, l2, hend⟩ := hg
    obtain ⟨its, rv, isT, _⟩ := I.tuple hqy
    have ly := rv.length
    have le : its.toArray.size = ys.length := (List.size_toArray (as := its)).trans ly.symm
    have hh : X.A.in1.handled = none := I.ok.hd hc
    have D1 := Draws.text (prog := X.prog) (w := X.w) hh i1 x t
    have D2 := Draws.tuple (prog := X.prog) (w := X.w) hh i2 b hb its.toArray
    refine wpAny_pyNext_zipD2_end D D1 D2 hz hTI hTO h1 ⟨h2, isT⟩ l1 (by rw [le]; exact l2) (by rw [le]; exact hend) fun h' tk hk => ⟨rfl, I.turnedL (t' := tk) (ch := [z, TI, TO, i1, i2]) (fun c o hb q =>
      hk c o (fun q' => hb (by simp [q'])) (fun q' => hb (by simp [q'])) (fun q' => hb (by simp [q'])) (fun q' => hb (by simp [q'])) q) hf⟩
  self := fun A i s Q E st h => wpAny_pyIter_zip st.1 h
def iZS (K : PySem.W.Frag) (ta : TA) : TI := fun σ H R => ta σ H fun vs H1 => ∃ (x : Str) (b : Addr) (ys : List V), vs = [.str x, .ref b] ∧ SqT K H1 b ys ∧ R (ItzS K x b) H1
theorem pi_zipS {X : Cx} {e e2 : Expr} {ta : TA} {p pos tpos : Pos} {elts : List Expr} {kk : Nat} (hg : Gl X "zip") (hm : X.mg "zip" = none) (ha : PA X [e, e2] ta)
    (hs : starEach [e, e2] X.env = (false, eval e X.env) :: starEach [e2] X.env := by rfl) (hpl : (backTo pos (starEach [e2] X.env)).any (·.1) = false := by rfl) :
    PI X (.Tuple elts kk tpos) (.Call (.Name "zip" p) [e, e2] [] pos) (iZS X.K ta) := by
  refine ⟨fun pins s σ H R I h => ?_⟩
  refine Call_ (ld_blt I hg hm PyProof.Rows.boot_zip (PyProof.Rows.callWith_type1 (thn (ha.run pos pins s σ H _ I h) fun us s1 ⟨vs, H1, I1, r1, x, b, ys, ev, hq, k⟩ => ?_) hs hpl))
  subst ev
  cases r1 with
  | @cons _ u1 _ _ ra rr =>
  cases rr with
  | @cons _ u2 _ _ rb rr =>
  cases rr
  obtain ⟨t, rfl⟩ := (show ∃ t, u1 = Value.str x t from ra)
  obtain rfl : u2 = Value.ref b := rb
  obtain ⟨its, rv, isT, hz⟩ := I1.tuple hq
  refine zip_begins2 (begins_text x t) (begins_tuple b its.toArray) trivial isT fun h' ez eTI eTO g1 g2 hsz hk => wpAny_pyIter_zip ez ?_
  have hb : b < s1.heap.objs.size := by obtain ⟨o, e, _⟩ := isT; exact Heap.lt_size e
  have I2 : Inv X pins σ H1 { s1 with heap := h' } := I1.kept (t' := s1.toks) hk
  refine ⟨s1.heap.objs.size + 4, [s1.heap.objs.size + 4, s1.heap.objs.size + 2, s1.heap.objs.size + 3, s1.heap.objs.size, s1.heap.objs.size + 1], _, _, H1, rfl, I2, turn_zipS (t := t) (zip_sep2 (N := s1.heap.objs.size) (fp1 := []) (fp2 := [b]) (fun _ m => nomatch m) (fun c m => by rw [List.mem_singleton.mp m]; exact hb)) (Nat.ne_of_lt (Nat.lt_succ_of_lt hb)), ⟨ez, eTI, ⟨_, _, eTO⟩, ⟨_, g1, rfl, rfl⟩, ⟨_, g2, rfl, rfl⟩⟩, fun c hcm => ?_, k⟩
  have hle : s1.heap.objs.size ≤ c := by
    rcases fiveOf hcm with z | z | z | z | z
    · rw [z]; exact Nat.le_add_right _ _
    · rw [z]; exact Nat.le_add_right _ _
    · rw [z]; exact Nat.le_add_right _ _
    · rw [z]; exact Nat.le_refl _
    · rw [z]; exact Nat.le_add_right _ _
  exact I1.fpOk hle (I1.hok.fresh hle)
/-- a loop over zip of a text and a tuple of its length -/
theorem for_zipS {K : PySem.W.Frag} {x : Str} {b : Addr} {ys : List V} {g : TG} {tb : TS} {D : Ends} {σ : L2.St} {H : Hp} (hl : x.cps.size = ys.length) (Pv : Nat → L2.St → Hp → Prop) (h0 : Pv 0 σ H) (hq : ∀ i σ H, Pv i σ H → SqT K H b ys)
    (hs : ∀ (i : Nat) (k y : V) (T : Addr) (σ : L2.St) (H : Hp), (sgn x)[i]? = some k → ys[i]? = some y → Pv i σ H → H T = none → g (.ref T) σ (upd H T (.tup [k, y])) fun σ2 H2 => tb { D with nx := Pv (i + 1), ct := Pv (i + 1), bk := D.nx } σ2 H2) (hd : ∀ σ H, Pv ys.length σ H → D.nx σ H) :
    ∃ W : Nat → Nat → L2.St → Hp → Prop, (∃ m, W 0 m σ H) ∧ ∀ i m σ H, W i m σ H →
      ((ItzS K x b).stop i H ∧ D.nx σ H) ∨ ((ItzS K x b).go i H ∧ ∃ N : L2.St → Hp → Prop, (∀ σ' H', N σ' H' → ∃ m', m' < m ∧ W (i + 1) m' σ' H') ∧ ∀ v H', (ItzS K x b).yld i H v H' → g v σ H' fun σ2 H2 => tb { D with nx := N, ct := N, bk := D.nx } σ2 H2) := by
  refine ⟨fun i m σ H => m = ys.length - i ∧ i ≤ ys.length ∧ Pv i σ H, ⟨ys.length, rfl, Nat.zero_le _, h0⟩, ?_⟩
  rintro i m σ H ⟨rfl, hi, p⟩
  have qy := hq i σ H p
  by_cases hlt : i < ys.length
  · have hy : ys[i]? = some ys[i] := List.getElem?_eq_getElem hlt
    refine .inr ⟨⟨ys, _, qy, hy, by omega⟩, Pv (i + 1), fun σ' H' p' => ⟨ys.length - (i + 1), by omega, rfl, hlt, p'⟩, fun v H' y => ?_⟩
    obtain ⟨T, k, y', rfl, hT, rfl, f1, f2⟩ := y
    exact hs i k y' T σ H f1 (f2 ys qy) p hT
  · have e : i = ys.length := by omega
    subst e
    exact .inl ⟨⟨ys, qy, by omega, Nat.le_refl _, Or.inr rfl⟩, hd σ H p⟩
end BR

/-! ### list(text) -/
namespace PySem
namespace BRL
open PySem.W PySem.Calls PyProof.Rows
section
variable {prog : Program} {w : World} {A : Around} {E : Value → Shared → Prop} {s : Shared}
theorem room_str {z : Str} {t : Tok} {Q : Bool → Shared → Prop} (q : Q false s) : wpAny (model prog w) A (Builtin.List.listLengthHint (.str z t)) Q E s := by
  have ty := typeIs_str s z t
  unfold Builtin.List.listLengthHint
  refine wpAny_bind (wpAny_specialOf ty PySem.F.slot_str_len.lookup ?_)
  generalize ei : ("str.__len__" : String) = i0
  wp_delta
  rw [show splitId i0 = some ("str", "__len__") from by subst ei; decide +kernel]
  subst ei
  refine wpAny_bind (wpAny_isInstance (T := "str") (b := true) ty (by rw [isSubtype_type]; kernel_rfl) ?_)
  refine wpAny_ite_split (fun c => absurd c (by decide)) fun _ => ?_
  exact wpAny_ite_split (fun _ => wpAny_bind (wpAny_typeOf ty (wpAny_pure q))) fun c => absurd (by decide +kernel) c
theorem grow_str {R : Result → Shared → Prop} (hh : A.handled = none) {z : Str} {t : Tok} {L : Addr} {r : Value} {c0 : Nat} (eL : s.heap.get? L = some { cls := .type "list", data := .seq #[] c0 }) (hz : z.cps.size ≤ sizeLine)
    (go : ∀ h2 tk ac c, (∀ b o, b ≠ L → s.heap.get? b = some o → h2.get? b = some o) → h2.get? L = some { cls := .type "list", dict := none, data := .seq ac c, slots := #[] } → ItemsOf (SignAt z) ac z.cps.size → R (.ok (.ret r)) { s with heap := h2, toks := tk }) :
    wpAny (model prog w) A.in1 (Builtin.List.listExtendWith (.ref L) (.str z t) r)
      (fun f s2 => match f with | .done f => R (.ok f) s2 | .again c' => c'.quiet = true ∧ codeAny (model prog w) A c' R s2) (fun e s2 => R (.error e) s2) s := by
  have nI : L ≠ s.heap.objs.size := Nat.ne_of_lt (Heap.lt_size eL)
  unfold Builtin.List.listExtendWith
  refine wpAny_bind (wpAny_typeOf (T := "str") (typeIs_str s z t) ?_)
  have k1 : Builtin.List.listSameRef (.ref L) (.str z t) = false := rfl
  have k2 : (Value.type "str" == Value.type "list") = false := by decide
  have k3 : (Value.type "str" == Value.type "tuple") = false := by decide
  simp only [k1, k2, k3, Bool.or_false, Bool.false_eq_true, if_false]
  refine wpAny_bind (wpAny_pyIter_str fun o St W st => ?_)
  refine wpAny_bind (wpAny_holding (room_str ?_))
  rw [if_neg (by first | decide | decide +kernel)]
  refine wpAny_pure ⟨plainId_quiet PySem.F.plain_extend_loop _, codeAny_extend_loopS (W A.in1 hh).toS hz _ (fun m => nI (List.mem_singleton.mp m)) _ z.cps.size 0 _ _ _ rfl (Nat.zero_le _) st (Heap.get?_push_of_some _ eL) (ItemsOf.nil _) fun s2 ac c mv e2 it => ?_⟩
  rw [Moved.eq_with mv]
  refine go s2.heap s2.toks ac c (fun b o nb e => mv.heap b o (fun m => ?_) (Heap.get?_push_of_some _ e)) e2 it
  rcases List.mem_cons.mp m with q | m
  · exact nb q
  · exact Nat.lt_irrefl _ (show s.heap.objs.size < s.heap.objs.size from by have := Heap.lt_size e; rw [List.mem_singleton.mp m] at this; exact this)
theorem init_str {R : Result → Shared → Prop} (hh : A.handled = none) {z : Str} {t : Tok} {L : Addr} (eL : s.heap.get? L = some { cls := .type "list", data := .seq #[] }) (hz : z.cps.size ≤ sizeLine)
    (go : ∀ h2 tk ac c, (∀ b o, b ≠ L → s.heap.get? b = some o → h2.get? b = some o) → h2.get? L = some { cls := .type "list", dict := none, data := .seq ac c, slots := #[] } → ItemsOf (SignAt z) ac z.cps.size → R (.ok (.ret .none)) { s with heap := h2, toks := tk }) :
    wpAny (model prog w) A.in1 (Builtin.«list.__init__» ⟨[.ref L, .str z t], []⟩)
      (fun f s2 => match f with | .done f => R (.ok f) s2 | .again c' => c'.quiet = true ∧ codeAny (model prog w) A c' R s2) (fun e s2 => R (.error e) s2) s := by
  show wpAny _ _ (do let old ← Builtin.List.listItems (.ref L); Builtin.List.listUpdate (.ref L) (fun _ => #[]); letGo old.toList.reverse; Builtin.List.listExtendWith (.ref L) (.str z t) .none) _ _ s
  refine wpAny_bind ?_
  unfold Builtin.List.listItems
  refine wpAny_bind (wpAny_seqItems eL rfl (wpAny_pure ?_))
  show wpAny _ _ (updateSeq L (fun _ => #[]) >>= fun _ => letGo (#[] : Array Value).toList.reverse >>= fun _ => Builtin.List.listExtendWith (.ref L) (.str z t) .none) _ _ s
  refine wpAny_bind (wpAny_updateSeq eL rfl (wpAny_bind (wpAny_letGo ?_)))
  refine grow_str hh (Heap.get?_update_self (Obj.mapSeq (fun _ => (#[] : Array Value))) eL rfl) hz fun h2 tk ac c kp e2 it => go h2 tk ac c (fun b o nb e => kp b o nb ((Heap.get?_update_other _ _ (Ne.symm nb)).trans e)) e2 it
theorem make_str {Q : Value → Shared → Prop} (hh : A.in1.handled = none) {z : Str} {t : Tok} (hz : z.cps.size ≤ sizeLine)
    (go : ∀ h2 tk ac c, (∀ b o, s.heap.get? b = some o → h2.get? b = some o) → h2.get? s.heap.objs.size = some { cls := .type "list", dict := none, data := .seq ac c, slots := #[] } → ItemsOf (SignAt z) ac z.cps.size → Q (.ref s.heap.objs.size) { s with heap := h2, toks := tk }) :
    wpAny (model prog w) A (call (.type "list") [.str z t]) Q E s := by
  refine callType_codes (Q₁ := fun v s1 => v = .ref s.heap.objs.size ∧ s1 = { s with heap := s.heap.push { cls := .type "list", data := .seq #[] } }) PySem.F.called_list (PySem.F.typeCall_list_1 _) PySem.F.entry_list_init
    (code_list_new _ ⟨rfl, rfl⟩) fun v s1 q => ?_
  obtain ⟨rfl, rfl⟩ := q
  have e1 : (s.heap.push { cls := .type "list", data := .seq #[] }).get? s.heap.objs.size = some { cls := .type "list", data := .seq #[] } := Heap.get?_push_size _ rfl
  exact ⟨⟨_, e1, rfl⟩, PySem.F.args_list_init_2 _ _, init_str (A := A.in1) hh e1 hz fun h2 tk ac c kp e2 it => ⟨rfl, go h2 tk ac c (fun b o e => kp b o (Nat.ne_of_lt (Heap.lt_size e)) (Heap.get?_push_of_some _ e)) e2 it⟩⟩
end
end BRL
end PySem
namespace BR
open PySem PySem.Spec PyProof.Rows L2
theorem signs_vals {z : Str} {ac : Array Value} (it : ItemsOf (SignAt z) ac z.cps.size) : Vals (sgn z) ac.toList := by
  have ln : (sgn z).length = ac.toList.length := by rw [sgn, List.length_map, Array.length_toList, Array.length_toList, it.1]
  have gen : ∀ (xs : List V) (us : List Value), xs.length = us.length → (∀ (i : Nat) (x : V) (u : Value), xs[i]? = some x → us[i]? = some u → RelV x u) → Vals xs us := fun xs => by
    induction xs with
    | nil =>
      intro us h _
      cases us with
      | nil => exact .nil
      | cons _ _ => cases h
    | cons x xs ih =>
      intro us h k
      cases us with
      | nil => cases h
      | cons u us => exact .cons (k 0 x u rfl rfl) (ih us (Nat.succ.inj h) fun i a b e1 e2 => k (i + 1) a b e1 e2)
  refine gen _ _ ln fun i x u e1 e2 => ?_
  obtain ⟨c, tk, ec, rfl⟩ := it.2 i u (by rw [← Array.getElem?_toList]; exact e2)
  rw [sgn, List.getElem?_map, Array.getElem?_toList, ec] at e1
  rw [← Option.some.inj e1]
  exact ⟨tk, rfl⟩
def rLstS : List V → Hp → VK → Prop := fun xs H Q => ∃ z : Str, xs = [.str z] ∧ z.cps.size ≤ 1000 ∧ ∀ l, H l = none → Q (.ref l) (upd H l (.lst (sgn z)))
theorem call_list_txt {X : Cx} (hc : X.calm = true) : CallR X (.type "list") rLstS := by
  intro pins s σ H xs us Q I r h
  obtain ⟨z, rfl, hz, k⟩ := h
  obtain ⟨u, rfl, ru⟩ := vals1 r
  obtain ⟨t, rfl⟩ := ru
  refine BRL.make_str (I.ok.hd hc) (Nat.le_of_lt (small1000 (by omega))) fun h2 tk ac c kp e it => ?_
  refine ⟨.ref s.heap.objs.size, upd H s.heap.objs.size (.lst (sgn z)), I.laid kp (Nat.le_refl _) ⟨by rw [sgn, List.length_map, Array.length_toList]; exact Nat.le_of_lt (small1000 (by omega)), ac.toList, c, signs_vals it, by rw [Array.toArray_toList]; exact e⟩, rfl, k _ (I.hok.fresh (Nat.le_refl _))⟩
end BR

/-! ### programs: their rows as lists of values -/
namespace BR
open PySem PySem.Spec PyProof.Rows L2
def fmT : List (Str × Str) := [("cmp", "RR"), ("mov", "RR"), ("swap", "RR"), ("cmov", "CRR"), ("jump", "T"), ("jif", "CT"), ("out", "R"), ("stop", "")]
def regs (n : Nat) : List Str := (["p", "q", "r", "s"] : List Str).take n ++ (["x", "y"] : List Str)
theorem regs_len (n : Nat) : (regs n).length ≤ 6 := by
  unfold regs
  rw [List.length_append, List.length_take]
  show min n 4 + 2 ≤ 6
  omega
/-- an item of a row: a text or an int -/
inductive Atom : V → Prop
  | s (z : Str) : Atom (.str z)
  | i (n : Int) : Atom (.int n)
theorem small9k {n : Nat} (h : n ≤ 9000) : n < sizeLine := by rw [sizeLine_eq]; omega
theorem small9k' {n : Nat} (h : n ≤ 9000) : n ≤ sizeLine := by rw [sizeLine_eq]; omega
theorem Atom.flat {x : V} (h : Atom x) : flatV x = true := by cases h <;> rfl
def itemOk (k x : V) (ns : List Str) (size : Int) : Bool :=
  if k = .str "R" then (match x with | .str z => decide (z ∈ ns) | _ => false)
  else if k = .str "C" then (match x with | .str z => decide (z ∈ conds) | _ => false)
  else (match x with | .int i => decide (0 ≤ i) && decide (i ≤ size) | _ => false)
def rowOk (ns : List Str) (size : Int) : List V → Bool
  | .str w :: xs => (match fmT.lookup w with | some f => decide (xs.length = f.cps.size) && ((sgn f).zip xs).all (fun q => itemOk q.1 q.2 ns size) | none => false)
  | _ => false
theorem sgn_len (f : Str) : (sgn f).length = f.cps.size := by rw [sgn, List.length_map, Array.length_toList]
def isKd (k : V) : Prop := k = .str "R" ∨ k = .str "C" ∨ k = .str "T"
instance (k : V) : Decidable (isKd k) := by unfold isKd; infer_instance
theorem fm_all : ∀ q ∈ fmT, (∀ v ∈ sgn q.2, isKd v) ∧ q.2.cps.size ≤ 3 ∧ q.2.length = q.2.cps.size := by decide +kernel
theorem lookup_mem {α : Type} {l : List (Str × α)} {w : Str} {f : α} (h : l.lookup w = some f) : (w, f) ∈ l := by
  induction l with
  | nil => cases h
  | cons p l ih =>
    obtain ⟨a, b⟩ := p
    rw [List.lookup_cons] at h
    cases c : w == a with
    | true =>
      rw [c] at h
      cases h
      rw [eq_of_beq c]
      exact List.mem_cons_self
    | false =>
      rw [c] at h
      exact List.mem_cons_of_mem _ (ih h)
/-- a row as Python hands it in -/
structure RowIs (r : List V) : Prop where
  wd : r = [] ∨ (∃ w xs, r = .str w :: xs) ∨ ∃ i xs, r = .int i :: xs
  at' : ∀ x ∈ r, Atom x
  few : r.length ≤ 4000
theorem inV_int {i : Int} (ns : List Str) : inV (.int i) (ns.map V.str) = false := by
  unfold inV
  rw [List.any_eq_false]
  intro y m
  obtain ⟨z, _, rfl⟩ := List.mem_map.mp m
  show ¬ (false = true)
  decide
theorem at0v {x : V} {l : List V} : atI (x :: l) 0 = some x := by
  unfold atI ixN
  simp
theorem sIx1 {x : V} {l : List V} : HT.sIx (x :: l).length 0 (some 1) = 1 := (HT.sIx_nat _ 0 1).trans (by rw [List.length_cons]; omega)
theorem cut_tail {x : V} {l : List V} : cutV (x :: l) (some 1) none = l := by
  unfold cutV
  rw [sIx1]
  show ((x :: l).drop 1).take ((x :: l).length - 1) = l
  rw [List.drop_one, List.tail_cons, List.length_cons, Nat.add_sub_cancel, List.take_length]
theorem item_R (x : V) (ns : List Str) (size : Int) : itemOk (.str "R") x ns size = (match x with | .str z => decide (z ∈ ns) | _ => false) := if_pos rfl
theorem item_C (x : V) (ns : List Str) (size : Int) : itemOk (.str "C") x ns size = (match x with | .str z => decide (z ∈ conds) | _ => false) := by
  unfold itemOk
  rw [if_neg (by decide +kernel), if_pos rfl]
theorem item_T (x : V) (ns : List Str) (size : Int) : itemOk (.str "T") x ns size = (match x with | .int i => decide (0 ≤ i) && decide (i ≤ size) | _ => false) := by
  unfold itemOk
  rw [if_neg (by decide +kernel), if_neg (by decide +kernel)]
theorem cond_is (z : Str) : (tabC.lookup z).isSome = decide (z ∈ conds) := by
  by_cases h : z ∈ conds
  · rw [(cond_back z h).2.1, decide_eq_true h]
    rfl
  · rw [decide_eq_false h]
    cases e : tabC.lookup z with
    | none => rfl
    | some os => exact absurd (List.mem_map.mpr ⟨_, lookup_mem e, rfl⟩ : z ∈ tabC.map (·.1)) h
theorem rowOk_int {i : Int} {xs : List V} {ns : List Str} {size : Int} : rowOk ns size (.int i :: xs) = false := rfl
theorem rowOk_none {w : Str} {xs : List V} {ns : List Str} {size : Int} (h : fmT.lookup w = none) : rowOk ns size (.str w :: xs) = false := by simp only [rowOk, h]
theorem rowOk_some {w f : Str} {xs : List V} {ns : List Str} {size : Int} (h : fmT.lookup w = some f) : rowOk ns size (.str w :: xs) = (decide (xs.length = f.cps.size) && ((sgn f).zip xs).all fun q => itemOk q.1 q.2 ns size) := by simp only [rowOk, h]
theorem prG {α β : Type} {R : α → β → Prop} : ∀ {as : List α} {bs : List β} {i : Nat} {a : α}, Paired R as bs → as[i]? = some a → ∃ b, bs[i]? = some b ∧ R a b
  | _, _, 0, _, .cons h _, e => by cases e; exact ⟨_, rfl, h⟩
  | _, _, i + 1, _, .cons _ t, e => prG (i := i) t e
  | _, _, _, _, .nil, e => nomatch e
theorem prH {α β : Type} {R : α → β → Prop} : ∀ {as : List α} {bs : List β} {i : Nat} {b : β}, Paired R as bs → bs[i]? = some b → ∃ a, as[i]? = some a ∧ R a b
  | _, _, 0, _, .cons h _, e => by cases e; exact ⟨_, rfl, h⟩
  | _, _, i + 1, _, .cons _ t, e => prH (i := i) t e
  | _, _, _, _, .nil, e => nomatch e
theorem refAt {bs : List Addr} {i : Nat} {x : V} (h : (bs.map V.ref)[i]? = some x) : ∃ b, bs[i]? = some b ∧ x = .ref b := by
  rw [List.getElem?_map] at h
  obtain ⟨b, e, r⟩ := Option.map_eq_some_iff.mp h
  exact ⟨b, e, r.symm⟩
theorem tkS {α : Type} {l : List α} {n : Nat} {r : α} (h : l[n]? = some r) : l.take (n + 1) = l.take n ++ [r] := by rw [List.take_succ, h, Option.toList_some]
theorem map_at' {α β : Type} {f : α → β} {l : List α} {i : Nat} {a : α} (h : l[i]? = some a) : (l.map f)[i]? = some (f a) := by rw [List.getElem?_map, h]; rfl
theorem first_at {z : Str} : ∀ {ns : List Str}, z ∈ ns → ∃ j : Nat, ns[j]? = some z ∧ ∀ m : Nat, m < j → ns[m]? ≠ some z
  | x :: l, h => by
    by_cases c : x = z
    · exact ⟨0, by rw [c]; rfl, fun m q => absurd q (Nat.not_lt_zero m)⟩
    · rcases List.mem_cons.mp h with e | h
      · exact absurd e.symm c
      · obtain ⟨j, h1, h2⟩ := first_at h
        refine ⟨j + 1, h1, fun m q => ?_⟩
        cases m with
        | zero => exact fun e => c (Option.some.inj e)
        | succ m => exact h2 m (by omega)
/-- what stands in place of an item, by its kind -/
def PlRel (K : PySem.W.Frag) (ns : List Str) (k x p : V) : Prop :=
  (k = .str "R" ∧ ∃ (z : Str) (j : Nat), x = .str z ∧ ns[j]? = some z ∧ (∀ m, m < j → ns[m]? ≠ some z) ∧ p = .int (j : Nat)) ∨ (k = .str "C" ∧ ∃ (z : Str) (b : Addr), x = .str z ∧ z ∈ conds ∧ p = .ref b ∧ TupK K b (outsOf z)) ∨ (k = .str "T" ∧ p = x)
def PlAt (K : PySem.W.Frag) (H : Hp) (ns : List Str) (p : Addr) (r : List V) : Prop :=
  ∃ (w : Str) (xs : List V) (f : Str) (ps : List V), r = .str w :: xs ∧ fmT.lookup w = some f ∧ H p = some (.tup (.str w :: ps)) ∧ Paired (fun (q : V × V) p => PlRel K ns q.1 q.2 p) ((sgn f).zip xs) ps
theorem PlAt.same {K : PySem.W.Frag} {H H' : Hp} {ns : List Str} {p : Addr} {r : List V} (h : PlAt K H ns p r) (s : Same H H') : PlAt K H' ns p r :=
  let ⟨w, xs, f, ps, a, b, c, d⟩ := h
  ⟨w, xs, f, ps, a, b, s _ _ c, d⟩
/-- the first place with a given answer, or none -/
theorem first_bad {α : Type} (p : α → Bool) : ∀ l : List α, (∀ x ∈ l, p x = true) ∨ ∃ (i : Nat) (x : α), l[i]? = some x ∧ p x = false ∧ ∀ (j : Nat) (y : α), j < i → l[j]? = some y → p y = true
  | [] => .inl fun _ m => nomatch m
  | x :: l => by
    cases c : p x with
    | false => exact .inr ⟨0, x, rfl, c, fun j y q => absurd q (Nat.not_lt_zero j)⟩
    | true =>
      rcases first_bad p l with h | ⟨i, y, h1, h2, h3⟩
      · exact .inl fun y m => by
          rcases List.mem_cons.mp m with rfl | m
          · exact c
          · exact h y m
      · refine .inr ⟨i + 1, y, h1, h2, fun j z hj hz => ?_⟩
        cases j with
        | zero => cases hz; exact c
        | succ j => exact h3 j z (by omega) hz
theorem rowOk_shape {ns : List Str} {size : Int} {r : List V} (h : rowOk ns size r = true) : ∃ w xs f, r = .str w :: xs ∧ fmT.lookup w = some f := by
  match r, h with
  | [], h => exact absurd (show false = true from h) (by decide)
  | .str w :: xs, h =>
    cases e : fmT.lookup w with
    | none =>
      rw [rowOk_none e] at h
      exact absurd h (by decide)
    | some f => exact ⟨w, xs, f, rfl, e⟩
  | .non :: _, h => exact absurd (show false = true from h) (by decide)
  | .bl _ :: _, h => exact absurd (show false = true from h) (by decide)
  | .int _ :: _, h => exact absurd (show false = true from h) (by decide)
  | .byt _ :: _, h => exact absurd (show false = true from h) (by decide)
  | .flt _ :: _, h => exact absurd (show false = true from h) (by decide)
  | .ref _ :: _, h => exact absurd (show false = true from h) (by decide)
  | .ty _ :: _, h => exact absurd (show false = true from h) (by decide)
theorem PlAt.up {K : PySem.W.Frag} {H : Hp} {ns : List Str} {p D : Addr} {r : List V} {o : HO} {ys : List V} (h : PlAt K H ns p r) (e : H D = some (.lst ys)) : PlAt K (upd H D o) ns p r :=
  let ⟨w, xs, f, ps, a, b, c, d⟩ := h
  ⟨w, xs, f, ps, a, b, by rw [upd_ne (fun z => by rw [z, e] at c; cases c)]; exact c, d⟩
theorem PlAt.tp {K : PySem.W.Frag} {H H' : Hp} {ns : List Str} {p : Addr} {r : List V} (h : PlAt K H ns p r) (s : ∀ b xs, H b = some (.tup xs) → H' b = some (.tup xs)) : PlAt K H' ns p r :=
  let ⟨w, xs, f, ps, a, b, c, d⟩ := h
  ⟨w, xs, f, ps, a, b, s _ _ c, d⟩
/-- rows at their addresses -/
def RowsAt (H : Hp) (as : List Addr) (rs : List (List V)) : Prop := Paired (fun a r => H a = some (.tup r)) as rs
theorem RowsAt.same {H H' : Hp} {as : List Addr} {rs : List (List V)} (h : RowsAt H as rs) (s : Same H H') : RowsAt H' as rs := prm h fun _ _ e => s _ _ e
/-- a program stands at a -/
def ProgAt (K : PySem.W.Frag) (H : Hp) (C a : Addr) (n : Int) (as : List Addr) (rs : List (List V)) : Prop :=
  ∃ (dx l t : Addr) (ps : List Addr), H a = some (.ins C dx [("_inputs", .int n), ("_rows", .ref l), ("_placed", .ref t)]) ∧ H l = some (.lst (as.map V.ref)) ∧ RowsAt H as rs ∧ H t = some (.tup (ps.map V.ref)) ∧ Paired (PlAt K H (regs n.toNat)) ps rs ∧ 1 ≤ n ∧ n ≤ 4 ∧ rs.length ≤ 4000 ∧ (∀ r ∈ rs, RowIs r) ∧ ∀ r ∈ rs, rowOk (regs n.toNat) rs.length r = true
theorem ProgAt.same {K : PySem.W.Frag} {H H' : Hp} {C a : Addr} {n : Int} {as : List Addr} {rs : List (List V)} (h : ProgAt K H C a n as rs) (s : Same H H') : ProgAt K H' C a n as rs :=
  let ⟨dx, l, t, ps, e1, e2, e3, e4, e5, r⟩ := h
  ⟨dx, l, t, ps, s _ _ e1, s _ _ e2, e3.same s, s _ _ e4, prm e5 fun _ _ q => q.same s, r⟩
theorem fld3 (x y z : V) : putF "_placed" z (putF "_rows" y (putF "_inputs" x [])) = ([("_inputs", x), ("_rows", y), ("_placed", z)] : List (Str × V)) := by
  have n1 : ¬ (("_inputs" : Str) = "_rows") := by decide +kernel
  have n2 : ¬ (("_inputs" : Str) = "_placed") := by decide +kernel
  have n3 : ¬ (("_rows" : Str) = "_placed") := by decide +kernel
  show putF "_placed" z (if ("_inputs" : Str) = "_rows" then _ else (("_inputs" : Str), x) :: putF "_rows" y []) = _
  rw [if_neg n1]
  show (if ("_inputs" : Str) = "_placed" then _ else (("_inputs" : Str), x) :: (if ("_rows" : Str) = "_placed" then _ else (("_rows" : Str), y) :: putF "_placed" z [])) = _
  rw [if_neg n2, if_neg n3]
  rfl
end BR

/-! ### programs that are changed: their rows -/
namespace BR
open PySem PySem.Spec PyProof.Rows L2
section
variable {x y z : V}
theorem lk_in : ([("_inputs", x), ("_rows", y), ("_placed", z)] : List (Str × V)).lookup ("_inputs" : Str) = some x := rfl
theorem lk_rows : ([("_inputs", x), ("_rows", y), ("_placed", z)] : List (Str × V)).lookup ("_rows" : Str) = some y := by
  rw [List.lookup_cons, show (("_rows" : Str) == "_inputs") = false by decide +kernel]
  rfl
theorem lk_placed : ([("_inputs", x), ("_rows", y), ("_placed", z)] : List (Str × V)).lookup ("_placed" : Str) = some z := by
  rw [List.lookup_cons, show (("_placed" : Str) == "_inputs") = false by decide +kernel]
  show List.lookup ("_placed" : Str) _ = _
  rw [List.lookup_cons, show (("_placed" : Str) == "_rows") = false by decide +kernel]
  rfl
theorem lk_no {m : Str} (h1 : (m == "_inputs") = false) (h2 : (m == "_rows") = false) (h3 : (m == "_placed") = false) : ([("_inputs", x), ("_rows", y), ("_placed", z)] : List (Str × V)).lookup m = none := by
  rw [List.lookup_cons, h1]
  show List.lookup m _ = _
  rw [List.lookup_cons, h2]
  show List.lookup m _ = _
  rw [List.lookup_cons, h3]
  rfl
end
def mvZ (ls by' i : Int) : Int := if ls ≤ i then i + by' else i
def mvI (ls by' : Int) (q : V × V) : V := if q.1 = .str "T" then (match q.2 with | .int i => .int (mvZ ls by' i) | v => v) else q.2
theorem mvI_R {ls by' : Int} {x : V} : mvI ls by' (.str "R", x) = x := by
  unfold mvI
  exact if_neg (show ¬ (V.str "R" = V.str "T") by decide +kernel)
theorem mvI_C {ls by' : Int} {x : V} : mvI ls by' (.str "C", x) = x := by
  unfold mvI
  exact if_neg (show ¬ (V.str "C" = V.str "T") by decide +kernel)
theorem mvI_T {ls by' i : Int} : mvI ls by' (.str "T", .int i) = .int (mvZ ls by' i) := by
  unfold mvI
  exact if_pos rfl
def mvRow (ls by' : Int) (r : List V) : List V := match r with
  | .str w :: xs => (match fmT.lookup w with | some f => .str w :: ((sgn f).zip xs).map (mvI ls by') | none => .str w :: xs)
  | r => r
theorem mvRow_some {ls by' : Int} {w f : Str} {xs : List V} (h : fmT.lookup w = some f) : mvRow ls by' (.str w :: xs) = .str w :: ((sgn f).zip xs).map (mvI ls by') := by simp only [mvRow, h]
section
variable {ns : List Str} {size size' : Int}
theorem item_mv {k x : V} {ls by' : Int} (hk : isKd k) (h : itemOk k x ns size = true) (hm : ∀ i, 0 ≤ i → i ≤ size → 0 ≤ mvZ ls by' i ∧ mvZ ls by' i ≤ size') : itemOk k (mvI ls by' (k, x)) ns size' = true := by
  rcases hk with rfl | rfl | rfl
  · rw [mvI_R]
    rw [item_R] at h ⊢
    exact h
  · rw [mvI_C]
    rw [item_C] at h ⊢
    exact h
  · rw [item_T] at h
    cases x with
    | int i =>
      rw [mvI_T, item_T]
      dsimp only at h ⊢
      obtain ⟨a, b⟩ := Bool.and_eq_true_iff.mp h
      obtain ⟨c, d⟩ := hm i (of_decide_eq_true a) (of_decide_eq_true b)
      rw [decide_eq_true c, decide_eq_true d]
      rfl
    | _ => exact absurd (show false = true from h) (by decide)
theorem all_mv {ls by' : Int} (hm : ∀ i, 0 ≤ i → i ≤ size → 0 ≤ mvZ ls by' i ∧ mvZ ls by' i ≤ size') : ∀ (ks xs : List V), (∀ k ∈ ks, isKd k) → ((ks.zip xs).all fun q => itemOk q.1 q.2 ns size) = true → ((ks.zip ((ks.zip xs).map (mvI ls by'))).all fun q => itemOk q.1 q.2 ns size') = true
  | [], _, _, _ => rfl
  | _ :: _, [], _, _ => rfl
  | k :: ks, x :: xs, hk, h => by
    rw [List.zip_cons_cons, List.all_cons] at h
    obtain ⟨a, b⟩ := Bool.and_eq_true_iff.mp h
    rw [List.zip_cons_cons, List.map_cons, List.zip_cons_cons, List.all_cons]
    rw [item_mv (hk k List.mem_cons_self) a hm, all_mv hm ks xs (fun k m => hk k (List.mem_cons_of_mem _ m)) b]
    rfl
theorem rowOk_mv {ls by' : Int} {r : List V} (hm : ∀ i, 0 ≤ i → i ≤ size → 0 ≤ mvZ ls by' i ∧ mvZ ls by' i ≤ size') (h : rowOk ns size r = true) : rowOk ns size' (mvRow ls by' r) = true := by
  obtain ⟨w, xs, f, rfl, fl⟩ := rowOk_shape h
  rw [rowOk_some fl] at h
  obtain ⟨a, b⟩ := Bool.and_eq_true_iff.mp h
  have a := of_decide_eq_true a
  rw [mvRow_some fl, rowOk_some fl, all_mv hm _ _ (fm_all _ (lookup_mem fl)).1 b, decide_eq_true (by rw [List.length_map, List.length_zip, sgn_len, a, Nat.min_self])]
  rfl
theorem rowOk_le {r : List V} (hs : size ≤ size') (h : rowOk ns size r = true) : rowOk ns size' r = true := by
  obtain ⟨w, xs, f, rfl, fl⟩ := rowOk_shape h
  rw [rowOk_some fl] at h ⊢
  obtain ⟨a, b⟩ := Bool.and_eq_true_iff.mp h
  rw [a, Bool.true_and]
  rw [List.all_eq_true] at b ⊢
  intro q m
  have c := b q m
  obtain ⟨k, x⟩ := q
  have hk := (fm_all _ (lookup_mem fl)).1 k (List.of_mem_zip m).1
  have e := item_mv (size' := size') (ls := size + 1) (by' := 0) hk c fun i i0 i1 => by unfold mvZ; rw [if_neg (by omega)]; exact ⟨i0, by omega⟩
  rcases hk with rfl | rfl | rfl
  · rw [mvI_R] at e
    exact e
  · rw [mvI_C] at e
    exact e
  · rw [item_T] at c ⊢
    cases x with
    | int i =>
      dsimp only at c ⊢
      obtain ⟨c1, c2⟩ := Bool.and_eq_true_iff.mp c
      rw [c1, decide_eq_true (by have := of_decide_eq_true c2; omega)]
      rfl
    | _ => exact absurd (show false = true from c) (by decide)
theorem atom_ok {k x : V} (hk : isKd k) (h : itemOk k x ns size = true) : Atom x ∧ (k = .str "C" → ∃ z, x = .str z) := by
  rcases hk with rfl | rfl | rfl
  · rw [item_R] at h
    cases x with
    | str z => exact ⟨.s z, fun _ => ⟨z, rfl⟩⟩
    | _ => exact absurd (show false = true from h) (by decide)
  · rw [item_C] at h
    cases x with
    | str z => exact ⟨.s z, fun _ => ⟨z, rfl⟩⟩
    | _ => exact absurd (show false = true from h) (by decide)
  · rw [item_T] at h
    cases x with
    | int i => exact ⟨.i i, fun e => absurd e (by decide +kernel)⟩
    | _ => exact absurd (show false = true from h) (by decide)
theorem zip_all : ∀ {ks xs : List V}, xs.length = ks.length → ∀ x ∈ xs, ∃ k ∈ ks, (k, x) ∈ ks.zip xs
  | [], [], _, x, m => nomatch m
  | k :: ks, y :: ys, h, x, m => by
    rcases List.mem_cons.mp m with rfl | m
    · exact ⟨k, List.mem_cons_self, by rw [List.zip_cons_cons]; exact List.mem_cons_self⟩
    · obtain ⟨k', a, b⟩ := zip_all (ks := ks) (xs := ys) (Nat.succ.inj h) x m
      exact ⟨k', List.mem_cons_of_mem _ a, by rw [List.zip_cons_cons]; exact List.mem_cons_of_mem _ b⟩
  | [], _ :: _, h, _, _ => nomatch h
theorem rowIs_ok {r : List V} (h : rowOk ns size r = true) : RowIs r := by
  obtain ⟨w, xs, f, rfl, fl⟩ := rowOk_shape h
  rw [rowOk_some fl] at h
  obtain ⟨a, b⟩ := Bool.and_eq_true_iff.mp h
  have a := of_decide_eq_true a
  obtain ⟨f1, f2, _⟩ := fm_all _ (lookup_mem fl)
  have f2 : f.cps.size ≤ 3 := f2
  have al := List.all_eq_true.mp b
  refine ⟨.inr (.inl ⟨w, xs, rfl⟩), fun x m => ?_, by rw [List.length_cons]; omega⟩
  · rcases List.mem_cons.mp m with rfl | m
    · exact .s w
    · obtain ⟨k, hk, mz⟩ := zip_all (ks := sgn f) (xs := xs) (by rw [sgn_len, a]) x m
      exact (atom_ok (f1 k hk) (al _ mz)).1
end
theorem cut_pre {xs : List V} {j : Nat} (h : j ≤ xs.length) : cutV xs none (some (j : Int)) = xs.take j := by
  unfold cutV
  rw [HT.sIx_nat, HT.sIx_none, Nat.min_eq_left h, Nat.sub_zero]
  rfl
theorem cut_post {xs : List V} {j : Nat} (h : j ≤ xs.length) : cutV xs (some (j : Int)) none = xs.drop j := by
  unfold cutV
  rw [HT.sIx_nat, HT.sIx_none, Nat.min_eq_left h, List.take_of_length_le]
  rw [List.length_drop]
  exact Nat.le_refl _
theorem cut_out {as : List Addr} {j : Nat} (h : j < as.length) : cutV (as.map V.ref) none (some (j : Int)) ++ cutV (as.map V.ref) (some ((j : Int) + 1)) none = (as.eraseIdx j).map V.ref := by
  rw [cut_pre (by rw [List.length_map]; omega), show ((j : Int) + 1) = ((j + 1 : Nat) : Int) from rfl, cut_post (by rw [List.length_map]; omega), List.eraseIdx_eq_take_drop_succ, List.map_append, List.map_take, List.map_drop]
theorem pr_erase {α β : Type} {R : α → β → Prop} : ∀ {as : List α} {bs : List β} (j : Nat), Paired R as bs → Paired R (as.eraseIdx j) (bs.eraseIdx j)
  | _, _, _, .nil => .nil
  | _, _, 0, .cons _ t => t
  | _, _, j + 1, .cons h t => .cons h (pr_erase j t)
theorem RowsAt.up {H : Hp} {D : Addr} {o : HO} {ys : List V} {as : List Addr} {rs : List (List V)} (h : RowsAt H as rs) (e : H D = some (.lst ys)) : RowsAt (upd H D o) as rs := prm h fun a r q => by
  rw [upd_ne (fun z => by rw [z, e] at q; cases q)]
  exact q
end BR

/-! ### rows as the laws draw them -/
namespace BR
open PySem PySem.Spec PyProof.Rows L2
theorem rows_add {H H' : Hp} {as : List Addr} {rs : List (List V)} {t : Addr} {r : List V} (h : RowsAt H as rs) (s : Same H H') (e : H' t = some (.tup r)) : RowsAt H' (as ++ [t]) (rs ++ [r]) := pra (h.same s) (.cons e .nil)
theorem rowIs_strs (z : Str) (zs : List Str) (h : zs.length ≤ 9) : RowIs (.str z :: zs.map V.str) := by
  refine ⟨.inr (.inl ⟨_, _, rfl⟩), fun x m => ?_, by rw [List.length_cons, List.length_map]; omega⟩
  rcases List.mem_cons.mp m with rfl | m
  · exact .s _
  · obtain ⟨y, _, rfl⟩ := List.mem_map.mp m
    exact .s _
theorem rowIs_jump (g : Int) : RowIs [.str "jump", .int g] := by
  refine ⟨.inr (.inl ⟨_, _, rfl⟩), fun x m => ?_, by show _ + 1 ≤ 4000; simp⟩
  simp only [List.mem_cons, List.not_mem_nil, or_false] at m
  rcases m with rfl | rfl
  · exact .s _
  · exact .i _
theorem rowIs_jif (c : Str) (g : Int) : RowIs [.str "jif", .str c, .int g] := by
  refine ⟨.inr (.inl ⟨_, _, rfl⟩), fun x m => ?_, by show _ + 1 ≤ 4000; simp⟩
  simp only [List.mem_cons, List.not_mem_nil, or_false] at m
  rcases m with rfl | rfl | rfl
  · exact .s _
  · exact .s _
  · exact .i _
theorem rowIs_jif1 (g : Int) : RowIs [.str "jif", .int g] := by
  refine ⟨.inr (.inl ⟨_, _, rfl⟩), fun x m => ?_, by show _ + 1 ≤ 4000; simp⟩
  simp only [List.mem_cons, List.not_mem_nil, or_false] at m
  rcases m with rfl | rfl
  · exact .s _
  · exact .i _
section
variable {ns : List Str} {size : Int} {a b c w : Str} {g : Int}
theorem it_R (h : a ∈ ns) : itemOk (.str "R") (.str a) ns size = true := by
  rw [item_R]
  exact decide_eq_true h
theorem it_C (h : c ∈ conds) : itemOk (.str "C") (.str c) ns size = true := by
  rw [item_C]
  exact decide_eq_true h
theorem it_T (h : 0 ≤ g ∧ g ≤ size) : itemOk (.str "T") (.int g) ns size = true := by
  rw [item_T]
  show (decide (0 ≤ g) && decide (g ≤ size)) = true
  rw [decide_eq_true h.1, decide_eq_true h.2]
  rfl
theorem ok_RR (hw : fmT.lookup w = some ("RR" : Str)) (ha : a ∈ ns) (hb : b ∈ ns) : rowOk ns size [.str w, .str a, .str b] = true := by
  rw [rowOk_some hw, show sgn "RR" = [.str "R", .str "R"] by decide +kernel]
  show (true && (itemOk (.str "R") (.str a) ns size && (itemOk (.str "R") (.str b) ns size && true))) = true
  rw [it_R ha, it_R hb]
  rfl
theorem ok_CRR (hc : c ∈ conds) (ha : a ∈ ns) (hb : b ∈ ns) : rowOk ns size [.str "cmov", .str c, .str a, .str b] = true := by
  rw [rowOk_some (show fmT.lookup ("cmov" : Str) = some ("CRR" : Str) by decide +kernel), show sgn "CRR" = [.str "C", .str "R", .str "R"] by decide +kernel]
  show (true && (itemOk (.str "C") (.str c) ns size && (itemOk (.str "R") (.str a) ns size && (itemOk (.str "R") (.str b) ns size && true)))) = true
  rw [it_C hc, it_R ha, it_R hb]
  rfl
theorem ok_T (h : 0 ≤ g ∧ g ≤ size) : rowOk ns size [.str "jump", .int g] = true := by
  rw [rowOk_some (show fmT.lookup ("jump" : Str) = some ("T" : Str) by decide +kernel), show sgn "T" = [.str "T"] by decide +kernel]
  show (true && (itemOk (.str "T") (.int g) ns size && true)) = true
  rw [it_T h]
  rfl
theorem ok_CT (hc : c ∈ conds) (h : 0 ≤ g ∧ g ≤ size) : rowOk ns size [.str "jif", .str c, .int g] = true := by
  rw [rowOk_some (show fmT.lookup ("jif" : Str) = some ("CT" : Str) by decide +kernel), show sgn "CT" = [.str "C", .str "T"] by decide +kernel]
  show (true && (itemOk (.str "C") (.str c) ns size && (itemOk (.str "T") (.int g) ns size && true))) = true
  rw [it_C hc, it_T h]
  rfl
theorem ok_R (ha : a ∈ ns) : rowOk ns size [.str "out", .str a] = true := by
  rw [rowOk_some (show fmT.lookup ("out" : Str) = some ("R" : Str) by decide +kernel), show sgn "R" = [.str "R"] by decide +kernel]
  show (true && (itemOk (.str "R") (.str a) ns size && true)) = true
  rw [it_R ha]
  rfl
theorem ok_0 : rowOk ns size [.str "stop"] = true := by
  rw [rowOk_some (show fmT.lookup ("stop" : Str) = some ("" : Str) by decide +kernel), show sgn "" = [] by decide +kernel]
  rfl
end
/-- a list of names at one address, one of them drawn -/
theorem at_str {zs : List Str} {d : Int} (h0 : 0 ≤ d) (h1 : d < (zs.length : Int)) : ∃ z ∈ zs, atI (zs.map V.str) d = some (.str z) := by
  have h : d.toNat < zs.length := by omega
  exact ⟨zs[d.toNat], List.getElem_mem h, at_of (j := d.toNat) (by omega) (by rw [List.getElem?_map, List.getElem?_eq_getElem h]; rfl)⟩
theorem at_int {zs : List Int} {d : Int} (h0 : 0 ≤ d) (h1 : d < (zs.length : Int)) : ∃ z ∈ zs, atI (zs.map V.int) d = some (.int z) := by
  have h : d.toNat < zs.length := by omega
  exact ⟨zs[d.toNat], List.getElem_mem h, at_of (j := d.toNat) (by omega) (by rw [List.getElem?_map, List.getElem?_eq_getElem h]; rfl)⟩
theorem Pool.nl {H : Hp} {p x : Addr} {n : Nat} {xs : List Str} (pl : Pool H p n) (e : H x = some (.lst (xs.map V.str))) : x ≠ p := fun z => by
  obtain ⟨_, _, _, ep, _⟩ := pl
  rw [z, ep] at e
  cases xs with
  | nil => cases e
  | cons y ys => exact nomatch (List.cons.inj (HO.lst.inj (Option.some.inj e))).1
theorem Pool.nr {H : Hp} {p x : Addr} {n : Nat} {xs : List Addr} (pl : Pool H p n) (e : H x = some (.lst (xs.map V.ref))) : x ≠ p := fun z => by
  obtain ⟨_, _, _, ep, _⟩ := pl
  rw [z, ep] at e
  cases xs with
  | nil => cases e
  | cons y ys => exact nomatch (List.cons.inj (HO.lst.inj (Option.some.inj e))).1
theorem Pool.nt {H : Hp} {p x : Addr} {n : Nat} {xs : List V} (pl : Pool H p n) (e : H x = some (.tup xs)) : x ≠ p := fun z => by
  obtain ⟨_, _, _, ep, _⟩ := pl
  rw [z, ep] at e
  cases e
theorem row_eq {w : Str} {xs r : List V} (h : RowIs (.str w :: xs)) (e : r = .str w :: xs) : (∃ w xs, r = .str w :: xs) ∧ RowIs r := by
  subst e
  exact ⟨⟨_, _, rfl⟩, h⟩
theorem at_row {H : Hp} {as : List Addr} {rs : List (List V)} {d : Int} (h : RowsAt H as rs) (h0 : 0 ≤ d) (h1 : d < (rs.length : Int)) : ∃ t r, r ∈ rs ∧ H t = some (.tup r) ∧ atI (as.map V.ref) d = some (.ref t) := by
  have l := Paired.length h
  have k : d.toNat < as.length := by omega
  obtain ⟨r, hr, e⟩ := prG h (List.getElem?_eq_getElem k)
  exact ⟨_, r, List.mem_of_getElem? hr, e, at_of (j := d.toNat) (by omega) (by rw [List.getElem?_map, List.getElem?_eq_getElem k]; rfl)⟩
theorem RowsAt.but {H H' : Hp} {p : Addr} {n : Nat} {as : List Addr} {rs : List (List V)} (h : RowsAt H as rs) (b : But p H H') (pl : Pool H p n) : RowsAt H' as rs := prm h fun a r e => b a _ (fun z => by
  obtain ⟨_, _, _, ep, _⟩ := pl
  rw [z, ep] at e
  cases e) e
theorem regs_all (n : Nat) : (regs n).map V.str = sgn (cutS "pqrs" none (some (n : Int))) ++ [.str "x", .str "y"] ∨ ¬ (1 ≤ n ∧ n ≤ 4) := by
  by_cases h : 1 ≤ n ∧ n ≤ 4
  · refine .inl ?_
    have : n = 1 ∨ n = 2 ∨ n = 3 ∨ n = 4 := by omega
    rcases this with rfl | rfl | rfl | rfl <;> decide +kernel
  · exact .inr h
end BR
namespace BR
open PySem PySem.Spec PyProof.Rows L2
/-- items that are read and change nothing -/
def TupOf (A : TA) (σ : L2.St) (xs : List V) : Prop := ∀ (H : Hp) (Q : List V → Hp → Prop), Q xs H → A σ H Q
theorem TupOf.nil {σ : L2.St} : TupOf tNil σ [] := fun _ _ q => q
theorem TupOf.con {σ : L2.St} {v : V} {A : TA} {xs : List V} (h : TupOf A σ xs) : TupOf (tCons (tC v) A) σ (v :: xs) := fun H Q q => h H _ q
theorem TupOf.var {σ : L2.St} {i : Nat} {v : V} {A : TA} {xs : List V} (e : σ[i]? = some (some v)) (h : TupOf A σ xs) : TupOf (tCons (tVar i) A) σ (v :: xs) := fun H Q q => ⟨v, e, h H _ q⟩
/-- a list of new tuples -/
def LstOf (B : TA) (σ : L2.St) (rs : List (List V)) : Prop := ∀ (H : Hp) (Q : List V → Hp → Prop), (∀ (ts : List Addr) (H' : Hp), Same H H' → RowsAt H' ts rs → Q (ts.map V.ref) H') → B σ H Q
theorem LstOf.nil {σ : L2.St} : LstOf tNil σ [] := fun H _ q => q [] H (Same.refl H) .nil
theorem LstOf.cons {σ : L2.St} {A B : TA} {xs : List V} {rs : List (List V)} (h : TupOf A σ xs) (hl : xs.length ≤ 1000) (hs : LstOf B σ rs) : LstOf (tCons (tTup A) B) σ (xs :: rs) := fun H Q q =>
  h H _ ⟨Nat.le_of_lt (small1000 (by omega)), fun t ht => hs _ _ fun ts H' s r => q (t :: ts) H' ((sameNew ht).trans s) (.cons (s _ _ upd_same) r)⟩
theorem lst_of {B : TA} {σ : L2.St} {H : Hp} {Q : VK} {rs : List (List V)} (h : LstOf B σ rs) (hl : rs.length ≤ 1000) (k : ∀ (l : Addr) (ts : List Addr) (H' : Hp), H l = none → Same H H' → H' l = some (.lst (ts.map V.ref)) → RowsAt H' ts rs → Q (.ref l) H') : tLst B σ H Q :=
  h H _ fun ts H' s r => ⟨Nat.le_of_lt (small1000 (by rw [List.length_map, Paired.length r]; omega)), fun l hl' => k l ts _ (s.free hl') (s.trans (sameNew hl')) upd_same (r.same (sameNew hl'))⟩
theorem lstc_of {B : TA} {σ : L2.St} {H : Hp} {Q : VK} {xs : List V} (h : TupOf B σ xs) (hl : xs.length ≤ 1000) (k : ∀ (l : Addr) (H' : Hp), H l = none → Same H H' → H' l = some (.lst xs) → Q (.ref l) H') : tLst B σ H Q :=
  h H _ ⟨Nat.le_of_lt (small1000 (by omega)), fun l hl' => k l _ hl' (sameNew hl') upd_same⟩
theorem cat_of {H : Hp} {Q : VK} {a b : Addr} {xs ys : List V} (ea : H a = some (.lst xs)) (eb : H b = some (.lst ys)) (hl : xs.length + ys.length ≤ 1000) (k : ∀ (p : Addr) (H' : Hp), H p = none → Same H H' → H' p = some (.lst (xs ++ ys)) → Q (.ref p) H') : rCat (.ref a) (.ref b) H Q :=
  ⟨a, b, xs, ys, rfl, rfl, ea, eb, Nat.le_of_lt (small1000 (by omega)), fun p hp => k p _ hp (sameNew hp) upd_same⟩
/-- rows in two lists, put together -/
theorem cat_rows {H : Hp} {Q : VK} {a b : Addr} {as bs : List Addr} {rs qs : List (List V)} (ea : H a = some (.lst (as.map V.ref))) (eb : H b = some (.lst (bs.map V.ref))) (ra : RowsAt H as rs) (rb : RowsAt H bs qs) (hl : rs.length + qs.length ≤ 1000) (k : ∀ (p : Addr) (H' : Hp), H p = none → Same H H' → H' p = some (.lst ((as ++ bs).map V.ref)) → RowsAt H' (as ++ bs) (rs ++ qs) → Q (.ref p) H') : rCat (.ref a) (.ref b) H Q :=
  cat_of ea eb (by rw [List.length_map, List.length_map, Paired.length ra, Paired.length rb]; exact hl) fun p H' hp s e => k p H' hp s (by rw [List.map_append]; exact e) (pra (ra.same s) (rb.same s))
theorem len_ok {α : Type} {xs : List α} (h : xs.length.ble 1000 = true) : xs.length ≤ 1000 := Nat.le_of_ble_eq_true h
theorem sa_of {te : TE} {g : TG} {S : TS} {D : Ends} {σ : L2.St} {H : Hp} (h : te σ H fun x H1 => g x σ H1 fun σ2 H2 => S D σ2 H2) : tSeq (tAsg te g) S D σ H := h
theorem gn_of {i : Nat} {v : V} {σ : L2.St} {H : Hp} {k : L2.St → Hp → Prop} (h : k (σ.set i (some v)) H) : gName i v σ H k := h
end BR
namespace BR
open PySem PySem.Spec PyProof.Rows L2
/-- the forms as the laws write them -/
def shT : List (Str × Str) := [("cmp", "rr"), ("mov", "rr"), ("swap", "rr"), ("cmov", "crr"), ("jump", "t"), ("jif", "ct"), ("out", "r"), ("stop", "")]
def lowV (k : V) : V := if k = .str "R" then .str "r" else if k = .str "C" then .str "c" else .str "t"
theorem sh_all : ∀ q ∈ fmT, (match shT.lookup q.1 with | some g => decide (g.cps.size = q.2.cps.size) && decide (sgn g = (sgn q.2).map lowV) && decide (g.length = g.cps.size) | none => false) = true := by decide +kernel
theorem sh_some {w f : Str} (h : fmT.lookup w = some f) : ∃ g, shT.lookup w = some g ∧ g.cps.size = f.cps.size ∧ sgn g = (sgn f).map lowV ∧ g.length = g.cps.size := by
  have q := sh_all _ (lookup_mem h)
  dsimp only at q
  cases e : shT.lookup w with
  | none =>
    rw [e] at q
    exact absurd (show false = true from q) (by decide)
  | some g =>
    rw [e] at q
    dsimp only at q
    rw [Bool.and_eq_true, Bool.and_eq_true, decide_eq_true_eq, decide_eq_true_eq, decide_eq_true_eq] at q
    exact ⟨g, rfl, q.1.1, q.1.2, q.2⟩
theorem sh_back : ∀ q ∈ shT, (fmT.lookup q.1).isSome = true := by decide +kernel
theorem sh_none {w : Str} (h : fmT.lookup w = none) : shT.lookup w = none := by
  cases e : shT.lookup w with
  | none => rfl
  | some g =>
    have q := sh_back _ (lookup_mem e)
    rw [h] at q
    exact absurd q (by decide)
theorem val_str : ∀ (l : List (Str × Str)) (w : Str), valV (l.map fun q => ((Sum.inr q.1 : Key), V.str q.2)) (Sum.inr w) = (l.lookup w).map V.str
  | [], _ => rfl
  | (a, b) :: l, w => by
    have ih := val_str l w
    unfold valV at ih ⊢
    rw [List.map_cons, List.find?_cons, List.lookup_cons]
    by_cases c : a = w
    · subst c
      rw [decide_eq_true rfl, beq_self_eq_true]
      rfl
    · rw [decide_eq_false (show ¬ (Sum.inr a : Key) = Sum.inr w from fun z => c (Sum.inr.inj z)), show (w == a) = false from beq_eq_false_iff_ne.mpr (Ne.symm c)]
      exact ih
theorem it_inR {y : V} (h : Atom y) (ns : List Str) (size : Int) : itemOk (.str "R") y ns size = inV y (ns.map V.str) := by
  rw [item_R]
  cases h with
  | s z => exact (inV_str).symm
  | i n => exact (inV_int _).symm
theorem it_inC {y : V} (h : Atom y) (ns : List Str) (size : Int) : itemOk (.str "C") y ns size = inV y (conds.map V.str) := by
  rw [item_C]
  cases h with
  | s z => exact (inV_str).symm
  | i n => exact (inV_int _).symm
end BR
namespace BR
open PySem PySem.Spec PyProof.Rows L2
/-- a list against the empty one -/
def rNeNil : R2 := fun x y H Q => ∃ (a b : Addr) (xs : List V), x = .ref a ∧ y = .ref b ∧ H a = some (.lst xs) ∧ H b = some (.lst []) ∧ Q (.bl (!xs.isEmpty)) H
theorem op_neNil {X : Cx} (hu : X.A.units + 64 < cLine) : OpR X (compareOp .NotEq) rNeNil := by
  intro pins s σ H x y v u Q I rx ry h
  obtain ⟨a, b, xs, ex, ey, ha, hb, q⟩ := h
  cases xs with
  | nil => exact op_neD hu pins s σ H x y v u Q I rx ry ⟨.list [], .list [], ex ▸ .lst (SqL.of ha) .nil, ey ▸ .lst (SqL.of hb) .nil, rfl, rfl, q⟩
  | cons z zs =>
    subst ex ey
    obtain rfl : v = Value.ref a := rx
    obtain rfl : u = Value.ref b := ry
    obtain ⟨its, rv, p, _⟩ := I.list (SqL.of ha)
    obtain ⟨its2, rv2, p2, _⟩ := I.list (SqL.of hb)
    have l1 := rv.length
    have l2 := rv2.length
    have sz : (its.toArray.size != its2.toArray.size) = true := by
      rw [List.size_toArray, List.size_toArray, ← l1, ← l2]
      rfl
    exact PySem.SeqAt.RcNeAt.lists_lengths p.isList p2.isList sz (by omega) X.prog X.w _ _ ⟨.bl true, H, I, rfl, q⟩
end BR
namespace BR
open PySem PySem.Spec PyProof.Rows L2
theorem prog_keep {K : PySem.W.Frag} {H H' : Hp} {C a dx l t p q : Addr} {n : Int} {m : Nat} {as : List Addr} {rs : List (List V)} {xs : List V} (h : ProgAt K H C a n as rs) (ea : H a = some (.ins C dx [("_inputs", .int n), ("_rows", .ref l), ("_placed", .ref t)])) (nl : l ≠ q) (pl : Pool H p m) (hq : H q = some (.lst xs))
    (k : ∀ b o, b ≠ p → b ≠ q → H b = some o → H' b = some o) : ProgAt K H' C a n as rs ∧ H' a = some (.ins C dx [("_inputs", .int n), ("_rows", .ref l), ("_placed", .ref t)]) := by
  obtain ⟨_, _, _, ep, _⟩ := pl
  obtain ⟨dx', l', t', ps, e1, e2, e3, e4, e5, r⟩ := h
  have q0 := e1.symm.trans ea
  injection q0 with q0
  injection q0 with _ q1 q0
  injection q0 with _ q0
  injection q0 with q0 q2
  injection q0 with _ q0
  injection q0 with q0
  have tp : ∀ b ys, H b = some (.tup ys) → H' b = some (.tup ys) := fun b ys e => k b _ (fun z => by rw [z, ep] at e; cases e) (fun z => by rw [z, hq] at e; cases e) e
  have ia : ∀ o, H a = some o → H' a = some o := fun o e => k a o (fun z => by rw [z, ep] at ea; cases ea) (fun z => by rw [z, hq] at ea; cases ea) e
  refine ⟨⟨dx', l', t', ps, ia _ e1, k l' _ (fun z => ?_) (fun z => nl (q0 ▸ z)) e2, prm e3 fun a r e => tp a r e, tp _ _ e4, prm e5 fun a r e => e.tp tp, r⟩, ia _ ea⟩
  rw [z, ep] at e2
  cases as with
  | nil => cases e2
  | cons y ys => exact nomatch (List.cons.inj (HO.lst.inj (Option.some.inj e2))).1
theorem pr_set {α β : Type} {R : α → β → Prop} {a : α} {b : β} (h : R a b) : ∀ {as : List α} {bs : List β} {i : Nat}, Paired R as bs → Paired R (as.set i a) (bs.set i b)
  | _, _, _, .nil => .nil
  | _, _, 0, .cons _ t => .cons h t
  | _, _, i + 1, .cons x t => .cons x (pr_set h t)
theorem flagC {σ : L2.St} {H : Hp} {Q : VK} {wd : Str} {v : V} {tb : TE} {b : Bool} (hb : ∀ (H' : Hp) (Q' : VK), Same H H' → (∀ H'', Same H' H'' → Q' (.bl b) H'') → tb σ H' Q')
    (k : ∀ g0 g2 H', Same H H' → H' g0 = some (.lst [.str wd, v]) → H' g2 = some (.lst (if b = true then [.ref g0] else [])) → Q (.ref g2) H') :
    tOp rRep (tLst (tCons (tLst (tCons (tC (.str wd)) (tCons (tC v) tNil))) tNil)) (tCB (fun xs H Q => (∃ i, xs = [V.int i] ∧ Q (V.int i) H) ∨ ∃ k, xs = [V.bl k] ∧ Q (V.int (if k = true then 1 else 0)) H) (tCons tb tNil)) σ H Q := by
  refine ⟨(by show 2 ≤ sizeLine; decide), fun g0 hg0 => ⟨(by show 1 ≤ sizeLine; decide), fun g1 hg1 => ?_⟩⟩
  refine hb _ _ ((sameNew hg0).trans (sameNew hg1)) fun H2 s2 => .inr ⟨_, rfl, g1, _, [.ref g0], rfl, rfl, s2 _ _ upd_same, by split <;> decide, by split <;> decide, (by show 1 * _ ≤ sizeLine; split <;> decide), fun g2 hg2 => ?_⟩
  rw [rep_if]
  exact k g0 g2 _ (((sameNew hg0).trans (sameNew hg1)).trans (s2.trans (sameNew hg2))) ((sameNew hg2) _ _ (s2 _ _ ((sameNew hg1) _ _ upd_same))) upd_same
end BR
namespace BR
open PySem PySem.Spec PyProof.Rows L2
theorem ProgAt.but {K : PySem.W.Frag} {H H' : Hp} {C a p : Addr} {n : Int} {m : Nat} {as : List Addr} {rs : List (List V)} (h : ProgAt K H C a n as rs) (b : But p H H') (pl : Pool H p m) : ProgAt K H' C a n as rs := by
  obtain ⟨dx', l', t', ps, e1, e2, e3, e4, e5, r⟩ := h
  have tp : ∀ c ys, H c = some (.tup ys) → H' c = some (.tup ys) := fun c ys e => b c _ (pl.nt e) e
  have na : a ≠ p := fun z => by
    obtain ⟨_, _, _, ep, _⟩ := pl
    rw [z, ep] at e1
    cases e1
  exact ⟨dx', l', t', ps, b _ _ na e1, b _ _ (pl.nr e2) e2, prm e3 fun a r e => tp a r e, tp _ _ e4, prm e5 fun a r e => e.tp tp, r⟩
end BR
namespace BR
open PySem PySem.Spec PyProof.Rows L2
theorem opl {r : R2} {A B : TE} {σ : L2.St} {H : Hp} {Q : VK} (h : A σ H fun x H1 => B σ H1 fun y H2 => r x y H2 Q) : tOp r A B σ H Q := h
theorem le1k (b : Bool) (x : V) : (if b = true then [x] else []).length + [x].length ≤ 1000 := by cases b <;> simp
theorem rowIs_nil : RowIs [] := ⟨.inl rfl, fun x m => (nomatch m), by decide⟩
theorem lst_in {B : TA} {σ : L2.St} {H : Hp} {Q : VK} (h : B σ H fun xs H1 => xs.length ≤ sizeLine ∧ ∀ p, H1 p = none → Q (.ref p) (upd H1 p (.lst xs))) : tLst B σ H Q := h
theorem cons_in {ta : TE} {tr : TA} {σ : L2.St} {H : Hp} {Q : List V → Hp → Prop} (h : ta σ H fun x H1 => tr σ H1 fun xs H2 => Q (x :: xs) H2) : tCons ta tr σ H Q := h
theorem con_in {v : V} {tr : TA} {σ : L2.St} {H : Hp} {Q : List V → Hp → Prop} (h : tr σ H fun xs H2 => Q (v :: xs) H2) : tCons (tC v) tr σ H Q := h
theorem call_in {sp : Sp} {dvs : List V} {E : XK} {t : TA} {σ : L2.St} {H : Hp} {Q : VK} (h : t σ H fun vs H1 => sp (vs ++ dvs) H1 Q E) : tCall sp dvs E t σ H Q := h
end BR

/-! ### numbers in texts -/
namespace BR
open PySem PySem.Spec PyProof.Rows L2
open _root_.TL (tl numL)
def dg (c : Nat) : Bool := decide (48 ≤ c) && decide (c ≤ 57)
theorem dg_iff {c : Nat} : dg c = true ↔ 48 ≤ c ∧ c ≤ 57 := by
  unfold dg
  rw [← Bool.decide_and, decide_eq_true_eq]
theorem digit_asc : ∀ c ∈ List.range 128, Unicode.isDigit c = dg c := by decide +kernel
theorem dg_in (c : Nat) : decide (c ∈ (("0123456789" : Str)).cps.toList) = dg c := by
  have e : (("0123456789" : Str)).cps.toList = [48, 49, 50, 51, 52, 53, 54, 55, 56, 57] := by decide +kernel
  rw [e, Bool.eq_iff_iff, decide_eq_true_eq, dg_iff]
  simp only [List.mem_cons, List.not_mem_nil, or_false]
  omega
theorem asc_digit (p : Str) : (Txt.isascii p && Txt.isdigit p) = (decide (tl p ≠ []) && (tl p).all dg) := by
  have e1 : Txt.isascii p = (tl p).all (fun c => decide (c < 128)) := by
    unfold Txt.isascii
    rw [← Array.all_toList]
  have e2 : Txt.isdigit p = (decide (tl p ≠ []) && (tl p).all Unicode.isDigit) := by
    unfold Txt.isdigit
    rw [← Array.all_toList, _root_.TL.len_tl]
    congr 1
    cases tl p with
    | nil => rfl
    | cons a l => simp
  rw [e1, e2]
  generalize tl p = cs
  cases h : decide (cs ≠ []) with
  | false => rw [Bool.false_and, Bool.and_false, Bool.false_and]
  | true =>
    rw [Bool.true_and, Bool.true_and]
    clear h
    induction cs with
    | nil => rfl
    | cons c l ih =>
      rw [List.all_cons, List.all_cons, List.all_cons, ← ih]
      by_cases hc : c < 128
      · rw [digit_asc c (List.mem_range.mpr hc), decide_eq_true hc]
        cases dg c <;> cases (l.all fun c => decide (c < 128)) <;> cases (l.all Unicode.isDigit) <;> rfl
      · have n : dg c = false := by
          cases e : dg c with
          | false => rfl
          | true =>
            have := dg_iff.mp e
            omega
        rw [decide_eq_false hc, n]
        rfl
/-- is the text a number's -/
def isNum (p : Str) : Bool := decide (tl p ≠ []) && ((tl p).all dg && (decide (p.length ≤ 400) && (decide (p = "0") || !decide ((tl p).head? = some 48))))
def numOf (p : Str) : Int := ((NumText.digitsVal (tl p) : Nat) : Int)
theorem isNum_digits {p : Str} (h : isNum p = true) : tl p ≠ [] ∧ NumText.AllDigits (tl p) ∧ p.length ≤ 400 := by
  unfold isNum at h
  obtain ⟨h1, h⟩ := Bool.and_eq_true_iff.mp h
  obtain ⟨h2, h⟩ := Bool.and_eq_true_iff.mp h
  obtain ⟨h3, h⟩ := Bool.and_eq_true_iff.mp h
  exact ⟨of_decide_eq_true h1, fun c m => dg_iff.mp (List.all_eq_true.mp h2 c m), of_decide_eq_true h3⟩
theorem int_of {p : Str} (h1 : tl p ≠ []) (h2 : NumText.AllDigits (tl p)) (h3 : p.length ≤ 640) : PySem.intText? p = some (numOf p) := intText_digits h2 h1 (by omega)
theorem val_lt : ∀ (cs : List Nat) (a : Nat), NumText.AllDigits cs → cs.foldl (fun acc c => acc * 10 + (c - 48)) a < (a + 1) * 10 ^ cs.length
  | [], a, _ => by simp
  | c :: l, a, h => by
    have hc := h.head
    have ih := val_lt l (a * 10 + (c - 48)) h.tail
    rw [List.foldl_cons, List.length_cons, Nat.pow_succ]
    have e : (a * 10 + (c - 48) + 1) * 10 ^ l.length ≤ (a + 1) * 10 * 10 ^ l.length := Nat.mul_le_mul_right _ (by omega)
    have e2 : (a + 1) * (10 ^ l.length * 10) = (a + 1) * 10 * 10 ^ l.length := by rw [Nat.mul_comm (10 ^ l.length) 10, ← Nat.mul_assoc]
    omega
theorem numOf_lt {p : Str} {k : Nat} (h2 : NumText.AllDigits (tl p)) (h3 : p.length ≤ k) : 0 ≤ numOf p ∧ numOf p < 10 ^ k := by
  have h := val_lt (tl p) 0 h2
  rw [← _root_.TL.len_tl] at h
  have e : (0 + 1) * 10 ^ p.length ≤ 10 ^ k := by
    rw [Nat.zero_add, Nat.one_mul]
    exact Nat.pow_le_pow_right (by decide) h3
  refine ⟨Int.natCast_nonneg _, ?_⟩
  have c : ((10 : Int) ^ k) = ((10 ^ k : Nat) : Int) := by norm_cast
  rw [c]
  unfold numOf NumText.digitsVal
  omega
def numS (n : Int) : Str := Str.ofString (toString n)
theorem tl_numS {n : Int} (h : 0 ≤ n) : tl (numS n) = numL n.toNat := by
  obtain ⟨m, rfl⟩ := Int.eq_ofNat_of_zero_le h
  exact _root_.TL.tl_num m
theorem numL_head {n : Nat} (h : 0 < n) : (numL n).head? ≠ some 48 := by
  induction n using Nat.strongRecOn with
  | _ n ih =>
    by_cases c : n < 10
    · rw [_root_.TL.numL_lt c]
      intro z
      have := Option.some.inj z
      omega
    · rw [_root_.TL.numL_step (by omega)]
      have hi := ih (n / 10) (by omega) (by omega)
      intro z
      have ne := _root_.TL.numL_ne (n / 10)
      cases e : numL (n / 10) with
      | nil => exact ne e
      | cons a l =>
        rw [e] at hi z
        exact hi z
theorem isNum_numS {n : Int} (h : 0 ≤ n) (h2 : n < 10 ^ 400) : isNum (numS n) = true ∧ numOf (numS n) = n := by
  have e := tl_numS h
  have c : ((10 : Int) ^ 400) = ((10 ^ 400 : Nat) : Int) := by norm_cast
  have lt : n.toNat < 10 ^ 400 := by rw [c] at h2; omega
  refine ⟨?_, ?_⟩
  · unfold isNum
    have a1 : decide (tl (numS n) ≠ []) = true := decide_eq_true (by rw [e]; exact _root_.TL.numL_ne _)
    have a2 : (tl (numS n)).all dg = true := List.all_eq_true.mpr fun c m => dg_iff.mpr (by rw [e] at m; exact _root_.TL.numL_digits _ c m)
    have a3 : decide ((numS n).length ≤ 400) = true := decide_eq_true (by rw [_root_.TL.len_tl, e]; exact _root_.TL.numL_len (by decide) lt)
    rw [a1, a2, a3, Bool.true_and, Bool.true_and, Bool.true_and]
    by_cases z : n = 0
    · subst z
      decide +kernel
    · rw [decide_eq_false (show ¬ (tl (numS n)).head? = some 48 by rw [e]; exact numL_head (by omega)), Bool.not_false, Bool.or_true]
  · unfold numOf
    rw [e, _root_.TL.numL_val]
    omega
/-! words as they are written -/
def wordsT (ns : List Int) : Str := Txt.join " " (ns.map numS)
theorem words_split {ns : List Int} (ne : ns ≠ []) (h : ∀ n ∈ ns, 0 ≤ n) : Txt.split (wordsT ns) " " = ns.map numS := by
  refine _root_.TL.split_join (s := 32) (S := []) (by decide +kernel) (by decide +kernel) (fun z => ne (List.map_eq_nil_iff.mp z)) fun p m => ?_
  obtain ⟨n, hn, rfl⟩ := List.mem_map.mp m
  rw [tl_numS (h n hn)]
  exact _root_.TL.numL_free (.inl (by decide))
/-- what the text of words tells: nothing, or a tuple -/
def dueI (t : Str) : Option (List Int) := if t = "none" then some [] else if (Txt.split t " ").all isNum = true then some ((Txt.split t " ").map numOf) else none
theorem none_split : Txt.split "none" " " = [("none" : Str)] := by decide +kernel
theorem due_words {ns : List Int} (ne : ns ≠ []) (h : ∀ n ∈ ns, 0 ≤ n ∧ n < 10 ^ 400) : dueI (wordsT ns) = some ns ∧ wordsT ns ≠ "none" := by
  have sp := words_split ne fun n m => (h n m).1
  have nn : wordsT ns ≠ "none" := fun z => by
    rw [z, none_split] at sp
    cases ns with
    | nil => exact ne rfl
    | cons n l =>
      rw [List.map_cons] at sp
      have e := (List.cons.inj sp).1
      have i := (isNum_numS (h n List.mem_cons_self).1 (h n List.mem_cons_self).2).1
      rw [← e] at i
      exact absurd i (by decide +kernel)
  refine ⟨?_, nn⟩
  unfold dueI
  rw [if_neg nn, sp, if_pos (List.all_eq_true.mpr fun p m => ?_)]
  · rw [List.map_map]
    congr 1
    refine (List.map_congr_left fun n m => ?_).trans (List.map_id ns)
    exact (isNum_numS (h n m).1 (h n m).2).2
  · obtain ⟨n, hn, rfl⟩ := List.mem_map.mp m
    exact (isNum_numS (h n hn).1 (h n hn).2).1
theorem due_bound {t : Str} {zs : List Int} (h : dueI t = some zs) : zs.length ≤ t.length + 2 ∧ ∀ z ∈ zs, 0 ≤ z ∧ z < 10 ^ 400 := by
  unfold dueI at h
  split at h
  · cases h
    exact ⟨Nat.zero_le _, fun z m => absurd m (by simp)⟩
  · split at h
    · next a =>
      cases h
      refine ⟨by rw [List.length_map]; exact split_le t " ", fun z m => ?_⟩
      obtain ⟨p, hp, rfl⟩ := List.mem_map.mp m
      obtain ⟨h1, h2, h3⟩ := isNum_digits (List.all_eq_true.mp a p hp)
      exact numOf_lt h2 h3
    · cases h
/-! shown -/
theorem log10 {z : Int} (h0 : 0 ≤ z) (h : z < 10 ^ 400) : z.natAbs.log2 < 1920 := by
  have e : (10 : Int) ^ 400 ≤ 2 ^ 1600 := by
    have a : ((10 : Int) ^ 400) = ((10 ^ 400 : Nat) : Int) := by norm_cast
    have b : ((2 : Int) ^ 1600) = ((2 ^ 1600 : Nat) : Int) := by norm_cast
    have c : (10 ^ 400 : Nat) ≤ 2 ^ 1600 := by
      have d : (10 : Nat) ^ 400 ≤ 16 ^ 400 := Nat.pow_le_pow_left (by decide) 400
      have f : (16 : Nat) ^ 400 = 2 ^ 1600 := by rw [show (16 : Nat) = 2 ^ 4 by rfl, ← Nat.pow_mul]
      omega
    rw [a, b]
    omega
  have p : z < 2 ^ 1600 := Int.lt_of_lt_of_le h e
  rw [nat_cast_pow] at p
  have r : z.natAbs < 2 ^ 1600 := by omega
  exact Nat.lt_of_lt_of_le (PySem.Flt.log2_lt_of (by decide) r) (by decide)
theorem numS_len {z : Int} (h0 : 0 ≤ z) (h : z < 10 ^ 400) : (numS z).length ≤ 400 := (isNum_digits (isNum_numS h0 h).1).2.2
theorem zs_show : ∀ {zs : List Int}, (∀ z ∈ zs, 0 ≤ z ∧ z < 10 ^ 400) → PyData.showableAll (zs.map PyData.int) = true ∧ PyData.hasDictAll (zs.map PyData.int) = false ∧ ((PyData.shownAll (zs.map PyData.int)).map (·.length)).sum ≤ 400 * zs.length ∧ (PyData.shownAll (zs.map PyData.int)).length = zs.length
  | [], _ => ⟨rfl, rfl, Nat.zero_le _, rfl⟩
  | z :: l, h => by
    obtain ⟨h1, h2, h3, h4⟩ := zs_show (zs := l) fun y m => h y (List.mem_cons_of_mem _ m)
    obtain ⟨z0, z1⟩ := h z List.mem_cons_self
    refine ⟨?_, ?_, ?_, ?_⟩
    · show (decide (z.natAbs.log2 < 1920) && PyData.showableAll (l.map PyData.int)) = true
      rw [h1, decide_eq_true (log10 z0 z1)]
      rfl
    · show (false || PyData.hasDictAll (l.map PyData.int)) = false
      rw [h2]
      rfl
    · have e : PyData.shownAll ((z :: l).map PyData.int) = (PyData.int z).shown :: PyData.shownAll (l.map PyData.int) := by
        rw [List.map_cons]
        simp only [PyData.shownAll]
      rw [e, List.map_cons, List.sum_cons, List.length_cons]
      have s : (PyData.int z).shown.length ≤ 400 := by
        rw [PyData.shown_int]
        exact numS_len z0 z1
      omega
    · have e : PyData.shownAll ((z :: l).map PyData.int) = (PyData.int z).shown :: PyData.shownAll (l.map PyData.int) := by
        rw [List.map_cons]
        simp only [PyData.shownAll]
      rw [e, List.length_cons, List.length_cons, h4]
theorem tup_shown {zs : List Int} (h : ∀ z ∈ zs, 0 ≤ z ∧ z < 10 ^ 400) (hl : zs.length ≤ 5000) : (PyData.tuple (zs.map PyData.int)).shown.length ≤ 402 * zs.length + 3 := by
  obtain ⟨_, _, h3, h4⟩ := zs_show h
  rw [PyData.shown_tuple, Str.length_append, Str.length_append]
  have j := StrLaws.join_length_le ", " (PyData.shownAll (zs.map PyData.int))
  rw [h4] at j
  have c1 : ((", " : Str)).length = 2 := by decide +kernel
  have c2 : (("(" : Str)).length = 1 := by decide +kernel
  have c3 : (((if (zs.map PyData.int).length == 1 then ",)" else ")" : String) : Str)).length ≤ 2 := by
    split <;> decide +kernel
  rw [c1] at j
  rw [c2]
  omega
end BR

/-! ### isinstance in a suite; a walk over a text's signs -/
namespace BR
open PySem PySem.Spec PyProof.Rows L2
def rIsS (K : PySem.W.Frag) (a : Addr) (cls : Value) (d : Option Addr) : List V → Hp → VK → Prop := fun xs H Q => ∃ (C dd : Addr) (f : Str) (v c : V) (u : Value) (b : Bool), xs = [.ref a, c] ∧ cls = .ref C ∧ d = some dd ∧ H dd = some (.xd [(f, v)]) ∧ ExcC K C ∧ ClsV c u ∧ PySem.W.kitOne K (.ref C) u = some b ∧ Q (.bl b) H
theorem call_isS {X : Cx} {a : Addr} {oe : Obj} {cls : Value} {d : Option Addr} {pn : List (Addr × Obj)} (hz : Zc cls d oe) (hf : ∃ vs, oe.data = .fields vs) : CallR (X.suite a ((a, oe) :: pn)) (.builtin "isinstance") (rIsS X.K a cls d) := by
  rintro pins s σ H xs us Q I r ⟨C, dd, f, v, c, u, b, rfl, rfl, rfl, hd, T, kc, ek, q⟩
  obtain ⟨u1, u2, rfl, r1, r2⟩ := vals2 r
  obtain rfl : u1 = Value.ref a := r1
  have e2 := kc.eq r2
  subst e2
  obtain ⟨ha, _⟩ := I.pin (a, oe) (List.mem_append_left _ List.mem_cons_self)
  obtain ⟨vs, hd2⟩ := hf
  have y : ObjOk X.prog X.w H s.heap dd (.xd [(f, v)]) := I.hok dd _ hd
  obtain ⟨mA, hns, hr⟩ := y
  obtain ⟨od, ho, hl⟩ := lookIn_ns hns
  have J : PySem.W.InstAt s.heap a oe C (some od) := ⟨ha, hz.1, by unfold PySem.W.notCls; rw [hd2] <;> rfl, by rw [hz.2]; exact ho⟩
  exact PySem.W.kia_one (PySem.W.kitx_exc (cls_of T) T.hg T.hk T.hs T.ha T.hn T.ht T.hm) I.kIn J ek (fun z => nomatch z) fun tk => ⟨.bl b, H, I.kept (t' := tk) fun _ _ z => z, rfl, q⟩
theorem its_by {H0 : Hp} {Qd : Hp → Prop} {B : V → Hp → (Hp → Prop) → Prop} {x : Str} (Pv : Nat → Hp → Prop) (h0 : Pv 0 H0) (hs : ∀ i c H, x.cps.toList[i]? = some c → Pv i H → B (.str ⟨#[c]⟩) H (Pv (i + 1))) (hd : ∀ H, Pv x.length H → Qd H) :
    ∃ W : Nat → Nat → Hp → Prop, (∃ m, W 0 m H0) ∧ ∀ i m H, W i m H → ((Its x).stop i H ∧ Qd H) ∨ ((Its x).go i H ∧ ∃ Nx : Hp → Prop, (∀ H', Nx H' → ∃ m', m' < m ∧ W (i + 1) m' H') ∧ ∀ v H', (Its x).yld i H v H' → B v H' Nx) := by
  have ls : x.length = x.cps.size := rfl
  refine ⟨fun i m H => m = x.length - i ∧ i ≤ x.length ∧ Pv i H, ⟨x.length, by simp, Nat.zero_le _, h0⟩, fun i m H => ?_⟩
  rintro ⟨rfl, hi, p⟩
  rcases Nat.lt_or_eq_of_le hi with c | c
  · refine .inr ⟨c, Pv (i + 1), fun H' p' => ⟨x.length - (i + 1), by omega, rfl, c, p'⟩, fun v H' y => ?_⟩
    obtain ⟨e, k, hk, e2⟩ := y
    subst e e2
    exact hs i k _ (by rw [Array.getElem?_toList]; exact hk) p
  · subst c
    exact .inl ⟨Nat.le_refl _, hd H p⟩
theorem joinL_le (S : List Nat) : ∀ {ps : List (List Nat)} {p : List Nat}, p ∈ ps → p.length ≤ (_root_.TL.joinL S ps).length
  | [x], p, h => by
    rw [List.mem_singleton.mp h]
    exact Nat.le_refl _
  | x :: y :: r, p, h => by
    show p.length ≤ (x ++ (S ++ _root_.TL.joinL S (y :: r))).length
    rw [List.length_append, List.length_append]
    rcases List.mem_cons.mp h with h | h
    · rw [h]
      omega
    · have := joinL_le S h
      omega
theorem part_le {t p : Str} (h : p ∈ Txt.split t " ") : p.length ≤ t.length := by
  have e := congrArg _root_.TL.tl (StrLaws.join_split t " ")
  rw [_root_.TL.tl_join] at e
  rw [_root_.TL.len_tl, _root_.TL.len_tl t, ← e]
  exact joinL_le _ (List.mem_map.mpr ⟨p, h, rfl⟩)
theorem map_atS {xs : List Str} {i : Nat} {v : V} (h : (xs.map V.str)[i]? = some v) : ∃ z, xs[i]? = some z ∧ v = V.str z := by
  rw [List.getElem?_map] at h
  cases e : xs[i]? with
  | none => rw [e] at h; cases h
  | some z => rw [e] at h; exact ⟨z, rfl, (Option.some.inj h).symm⟩
theorem map_atG {α : Type} {f : α → V} {xs : List α} {i : Nat} {v : V} (h : (xs.map f)[i]? = some v) : ∃ z, xs[i]? = some z ∧ v = f z := by
  rw [List.getElem?_map] at h
  cases e : xs[i]? with
  | none => rw [e] at h; cases h
  | some z => rw [e] at h; exact ⟨z, rfl, (Option.some.inj h).symm⟩
theorem take_map_succ {α β : Type} {f : α → β} {xs : List α} {i : Nat} {z : α} (h : xs[i]? = some z) : (xs.take (i + 1)).map f = (xs.take i).map f ++ [f z] := by
  rw [List.take_add_one, h, List.map_append]
  rfl
end BR
namespace BR
open PySem PySem.Spec PyProof.Rows L2
/-- signs below 128 -/
def Asc (x : Str) : Prop := ∀ c ∈ _root_.TL.tl x, c < 128
theorem Asc.app {x y : Str} (h : Asc x) (g : Asc y) : Asc (x ++ y) := fun c m => by
  rw [_root_.TL.tl_append] at m
  rcases List.mem_append.mp m with m | m
  · exact h c m
  · exact g c m
theorem Asc.cut {x : Str} (h : Asc x) (lo hi : Option Int) : Asc (cutS x lo hi) := fun c m => h c (List.mem_of_mem_drop (List.mem_of_mem_take m))
theorem joinL_mem (S : List Nat) : ∀ {ps : List (List Nat)} {c : Nat}, c ∈ _root_.TL.joinL S ps → c ∈ S ∨ ∃ p ∈ ps, c ∈ p
  | [p], c, h => .inr ⟨p, List.mem_cons_self, h⟩
  | p :: q :: r, c, h => by
    rcases List.mem_append.mp (show c ∈ p ++ (S ++ _root_.TL.joinL S (q :: r)) from h) with m | m
    · exact .inr ⟨p, List.mem_cons_self, m⟩
    rcases List.mem_append.mp m with m | m
    · exact .inl m
    rcases joinL_mem S m with m | ⟨z, hz, m⟩
    · exact .inl m
    · exact .inr ⟨z, List.mem_cons_of_mem _ hz, m⟩
theorem mem_joinL (S : List Nat) : ∀ {ps : List (List Nat)} {p : List Nat} {c : Nat}, p ∈ ps → c ∈ p → c ∈ _root_.TL.joinL S ps
  | [x], p, c, h, m => by
    rw [← List.mem_singleton.mp h]
    exact m
  | x :: y :: r, p, c, h, m => by
    show c ∈ x ++ (S ++ _root_.TL.joinL S (y :: r))
    rcases List.mem_cons.mp h with h | h
    · rw [← h]
      exact List.mem_append_left _ m
    · exact List.mem_append_right _ (List.mem_append_right _ (mem_joinL S h m))
theorem Asc.part {t p : Str} (h : Asc t) (m : p ∈ Txt.split t " ") : Asc p := fun c hc => by
  refine h c ?_
  have e := congrArg _root_.TL.tl (StrLaws.join_split t " ")
  rw [_root_.TL.tl_join] at e
  rw [← e]
  exact mem_joinL _ (List.mem_map.mpr ⟨p, m, rfl⟩) hc
theorem asc_words {ns : List Int} (h : ∀ n ∈ ns, 0 ≤ n) : Asc (wordsT ns) := fun c m => by
  have e : _root_.TL.tl (wordsT ns) = _root_.TL.joinL (_root_.TL.tl " ") ((ns.map numS).map _root_.TL.tl) := by
    unfold wordsT
    rw [_root_.TL.join_eq, _root_.TL.tl_join]
  rw [e] at m
  rcases joinL_mem _ m with m | ⟨p, hp, m⟩
  · rw [show _root_.TL.tl (" " : Str) = [32] by decide +kernel] at m
    rw [List.mem_singleton.mp m]
    decide
  · obtain ⟨z, hz, rfl⟩ := List.mem_map.mp hp
    obtain ⟨n, hn, rfl⟩ := List.mem_map.mp hz
    rw [tl_numS (h n hn)] at m
    have := _root_.TL.numL_digits _ c m
    omega
theorem reps_mem (c : Array Nat) : ∀ (k : Nat) (acc : Array Nat) (x : Nat), x ∈ ((List.replicate k c).foldl (· ++ ·) acc).toList → x ∈ acc.toList ∨ x ∈ c.toList
  | 0, acc, x, h => .inl h
  | k + 1, acc, x, h => by
    rcases reps_mem c k (acc ++ c) x h with m | m
    · rw [Array.toList_append] at m
      exact List.mem_append.mp m
    · exact .inr m
theorem Asc.one {c : Nat} (h : c < 128) : Asc ⟨#[c]⟩ := fun d m => by
  rw [List.mem_singleton.mp (show d ∈ [c] from m)]
  exact h
theorem ok_one {c : Nat} (h : c < 128) : PyData.strOk ⟨#[c]⟩ = true := by
  show (#[c] : Array Nat).all (· < 0x110000) = true
  simp
  omega
/-- x * n, of a short text -/
theorem op_str_rep {X : Cx} : OpR X (binaryOp .Mult) (fun x y H Q => ∃ (i : Str) (n : Int), x = .str i ∧ y = .int n ∧ 1 ≤ i.length ∧ i.length ≤ 10 ∧ 1 ≤ n ∧ n ≤ 1000 ∧ ∀ z : Str, z.length = i.length * n.toNat → (Asc i → Asc z) → Q (.str z) H) := by
  intro pins s σ H x y v u Q I rx ry h
  obtain ⟨i, n, rfl, rfl, l1, l2, h1, h2, q⟩ := h
  obtain ⟨t, rfl⟩ := rx
  obtain ⟨t', rfl⟩ := ry
  refine SB.mul (x := i) (n := n) ?_ fun t' k => ⟨.str (Txt.mul i n), H, I.tok _, ⟨_, rfl⟩, q _ ?_ ?_⟩
  · have n1 : ¬ n < 1 := by omega
    have m1 : (i.length : Int) * n ≤ 10 * 1000 := Int.mul_le_mul (by omega) h2 (by omega) (by decide)
    refine ⟨?_, fun _ _ => ?_, fun _ _ => ?_⟩
    · rw [decide_eq_false (by omega), decide_eq_false (by omega)]
      rfl
    · have := Int.le_ediv_of_mul_le (show (0 : Int) < n by omega) (show (i.length : Int) * n ≤ 2 ^ 63 - 1 by omega)
      omega
    · have e : (i.length * n.toNat : Nat) ≤ 10000 := by
        have c : ((i.length * n.toNat : Nat) : Int) = (i.length : Int) * n := by
          rw [Int.natCast_mul, Int.toNat_of_nonneg (by omega)]
        omega
      exact decide_eq_false (by rw [sizeLine_eq]; omega)
  · unfold Txt.mul
    rw [if_neg (show ¬ n < 1 by omega)]
    split
    · next c =>
      rcases Bool.or_eq_true_iff.mp c with c | c
      · rw [eq_of_beq c]
        show i.length = i.length * 1
        omega
      · have := eq_of_beq c
        omega
    · show ((List.replicate n.toNat i.cps).foldl (· ++ ·) #[]).size = _
      rw [size_reps]
      show 0 + n.toNat * i.length = i.length * n.toNat
      rw [Nat.zero_add, Nat.mul_comm]
  · intro ha
    unfold Txt.mul
    rw [if_neg (show ¬ n < 1 by omega)]
    split
    · exact ha
    · intro c m
      rcases reps_mem i.cps n.toNat #[] c m with m | m
      · exact absurd m (by simp)
      · exact ha c m
theorem joinL_nil : ∀ ps : List (List Nat), _root_.TL.joinL [] ps = ps.flatten
  | [] => rfl
  | [p] => by simp [_root_.TL.joinL]
  | p :: q :: r => by
    show p ++ ([] ++ _root_.TL.joinL [] (q :: r)) = p ++ (q :: r).flatten
    rw [joinL_nil (q :: r), List.nil_append]
theorem digits_join {ds : List Int} (h : ∀ d ∈ ds, 0 ≤ d ∧ d < 10) : _root_.TL.tl (Txt.join "" (ds.map numS)) = ds.map fun d => 48 + d.toNat := by
  rw [_root_.TL.join_eq, _root_.TL.tl_join, show _root_.TL.tl ("" : Str) = [] by decide +kernel, joinL_nil, List.map_map]
  induction ds with
  | nil => rfl
  | cons d l ih =>
    obtain ⟨d0, d1⟩ := h d List.mem_cons_self
    rw [List.map_cons, List.flatten_cons, List.map_cons, ih fun e m => h e (List.mem_cons_of_mem _ m)]
    show _root_.TL.tl (numS d) ++ _ = _
    rw [tl_numS d0, _root_.TL.numL_lt (show d.toNat < 10 by omega)]
    rfl
theorem strs_shX {xs : List Str} (ok : ∀ x ∈ xs, PyData.strOk x = true) : SeqAt.shaped (.list (xs.map PyData.str)) = true := by
  obtain ⟨h1, h2⟩ := strs_lay xs ok
  unfold SeqAt.shaped
  show (PyData.canLayAll0 (xs.map PyData.str) && decide (PyData.depthAll (xs.map PyData.str) + 1 ≤ 64)) = true
  rw [h1, h2]
  rfl
theorem strs_eqX (xs : List Str) : PyData.eqv (.list (xs.map PyData.str)) (.list []) = decide (xs = []) := strs_eqvA xs []
theorem filt_take {α : Type} {p : α → Bool} {xs : List α} {i : Nat} {z : α} (h : xs[i]? = some z) : (xs.take (i + 1)).filter p = (xs.take i).filter p ++ (if p z = true then [z] else []) := by
  rw [List.take_add_one, h, List.filter_append]
  congr 1
  cases c : p z <;> simp [List.filter, c]
theorem tup_shows {zs : List Int} (h : ∀ z ∈ zs, 0 ≤ z ∧ z < 10 ^ 400) (hl : zs.length ≤ 5000) : (PyData.tuple (zs.map PyData.int)).showable = true ∧ (PyData.tuple (zs.map PyData.int)).hasDict = false ∧ (PyData.tuple (zs.map PyData.int)).depth ≤ 60 ∧ (PyData.tuple (zs.map PyData.int)).shown.length ≤ sizeLine := by
  obtain ⟨h1, h2, _, _⟩ := zs_show h
  obtain ⟨_, h4⟩ := ints_lay zs
  have h5 := tup_shown h hl
  refine ⟨h1, h2, ?_, ?_⟩
  · show PyData.depthAll (zs.map PyData.int) + 1 ≤ 60
    omega
  · rw [sizeLine_eq]
    omega
theorem ltup_shows {zs : List Int} (h : ∀ z ∈ zs, 0 ≤ z ∧ z < 10 ^ 400) (hl : zs.length ≤ 5000) : (PyData.list [.tuple (zs.map PyData.int)]).showable = true ∧ (PyData.list [.tuple (zs.map PyData.int)]).hasDict = false ∧ (PyData.list [.tuple (zs.map PyData.int)]).depth ≤ 60 ∧ (PyData.list [.tuple (zs.map PyData.int)]).shown.length ≤ sizeLine := by
  obtain ⟨h1, h2, _, _⟩ := zs_show h
  obtain ⟨_, h4⟩ := ints_lay zs
  have h5 := tup_shown h hl
  refine ⟨?_, ?_, ?_, ?_⟩
  · show (PyData.showableAll (zs.map PyData.int) && true) = true
    rw [h1]
    rfl
  · show (PyData.hasDictAll (zs.map PyData.int) || false) = false
    rw [h2]
    rfl
  · show max (PyData.depthAll (zs.map PyData.int) + 1) 0 + 1 ≤ 60
    omega
  · have e : PyData.shownAll [PyData.tuple (zs.map PyData.int)] = [(PyData.tuple (zs.map PyData.int)).shown] := by simp only [PyData.shownAll]
    rw [PyData.shown_list, e, Str.length_append, Str.length_append, sizeLine_eq]
    show ((("[" : Str)).length + (PyData.tuple (zs.map PyData.int)).shown.length) + (("]" : Str)).length ≤ _
    have c1 : (("[" : Str)).length = 1 := by decide +kernel
    have c2 : (("]" : Str)).length = 1 := by decide +kernel
    rw [c1, c2]
    omega
theorem words_len {cs : List Int} (h : ∀ z ∈ cs, 0 ≤ z ∧ z < 10 ^ 400) (hl : cs.length ≤ 5) : (wordsT cs).length ≤ 3000 ∧ ((cs.map numS).map (·.length)).sum ≤ 400 * cs.length := by
  have hs : ((cs.map numS).map (·.length)).sum ≤ 400 * cs.length := by
    clear hl
    induction cs with
    | nil => exact Nat.zero_le _
    | cons n l ih =>
      have := ih fun m hm => h m (List.mem_cons_of_mem _ hm)
      have l4 := numS_len (h n List.mem_cons_self).1 (h n List.mem_cons_self).2
      rw [List.map_cons, List.map_cons, List.sum_cons, List.length_cons]
      omega
  refine ⟨?_, hs⟩
  have j := StrLaws.join_length_le " " (cs.map numS)
  have l1 : ((" " : Str)).length = 1 := by decide +kernel
  rw [l1, List.length_map] at j
  unfold wordsT
  rw [_root_.TL.join_eq]
  omega
end BR

/-! ### errors that are known to have no context; head, *rest = a list -/
namespace BR
open PySem PySem.Spec PyProof.Rows L2
theorem cx_forget {P : Program} {w : World} {outer : List Env} {H : Hp} {s s' : Shared} {E : XK} {u : Value} (c : L2N.CX P w outer H s E u s') : L2.CX P w outer H s E u s' := by
  obtain ⟨a, B, H', cls, d, e, fl, r⟩ := c
  exact ⟨a, B, H', cls, d, e, L2H.flyingZ_imp (fun o z => z.zc) fl, r⟩
theorem passC {X : Cx} {W : WX} (tk : L2.Takes X W) (σ : L2.St) : PassesAt (L2N.CX X.prog X.w) X σ (WE W σ) := fun pins H s e s' I c => passAt tk σ pins H s e s' I (cx_forget c)
section
variable {P : Program} {w : World} {K : PySem.W.Frag} {mg : Str → Option Value} {base : Heap} {x qual : Str} {st : Stmt} {f : Addr} {fd : FuncData} {N ps : List Str} {k : Nat} {sp : Sp}
theorem okN (F : Fun K x qual st f fd) (S : FnScope N ps (defScope st)) (len : ∀ vs H Q E, sp vs H Q E → vs.length = ps.length)
    (body : ∀ (cdv : Value) (A : Around) (outer : List Env) (s : Shared) (H : Hp) (vs : List V) (Q : VK) (E : XK), Room k (A.deeper (envOfC qual (defScope st) s.heap.objs.size f cdv)) → sp vs H Q E →
      ∃ t, PSs (cxOf (L2N.CX P w) P w K mg base N qual (defScope st) f cdv A outer s H E) (defBody st) t ∧ t { nx := fun _ H' => Q .non H', rt := Q } (start N vs) H) : FnOk P w K mg base (L2N.CX P w) (k + 1) f fd ps sp := by
  obtain ⟨oc, od, kV, doc, pm, an, cdv, ct, osl, rfl, lk, hcd⟩ := F.ex
  exact fn_of lk hcd S len fun A outer s H vs Q E room h => body cdv A outer s H vs Q E room h
/-- a def that is called where an error is being handled -/
theorem okHot {CX : CXT} (F : Fun K x qual st f fd) (S : FnScope N ps (defScope st)) (len : ∀ vs H Q E, sp vs H Q E → vs.length = ps.length)
    (body : ∀ (cdv : Value) (A : Around) (outer : List Env) (s : Shared) (H : Hp) (vs : List V) (Q : VK) (E : XK) (p : Addr × Obj), L2H.Hot1 A p → L2H.RoomH k (A.deeper (envOfC qual (defScope st) s.heap.objs.size f cdv)) → sp vs H Q E →
      ∃ t, PSs (L2H.cxH CX P w K mg base N qual (defScope st) f cdv A outer s H E p) (defBody st) t ∧ t { nx := fun _ H' => Q .non H', rt := Q } (start N vs) H) : L2H.FnH P w K mg base CX (k + 1) f fd ps sp := by
  obtain ⟨oc, od, kV, doc, pm, an, cdv, ct, osl, rfl, lk, hcd⟩ := F.ex
  exact L2H.fn_ofH lk hcd S len fun A outer s H vs Q E p hot room h => body cdv A outer s H vs Q E p hot room h
end
/-- C(v), raised where nothing is handled: its context is None -/
theorem pmk_oexN {X : Cx} {e : Expr} {es : List Expr} {p pos : Pos} {ta : TA} {CX : CXT} {x : Str} {C fI : Addr} {k : Nat} {fd : FuncData} {ps : List Str} {sp : Sp} (T : OexC X.K C) (hasI : PySem.W.findIn X.K (.ref C) "__init__" = some (some (.ref fI)))
    (fnI : PySem.W.typeIn X.K (.ref fI) = some (.type "function")) (G1 : FnOk X.prog X.w X.K X.mg X.base CX k fI fd ps sp) (room : Room (k + 1) X.A) (b : Binds X.K fd ps []) (lets : Passes CX X (fun _ _ _ => False)) (hg : Gl X x) (hm : X.mg x = some (.ref C)) (args : PA X (e :: es) ta)
    (nodb : (x == ("__debug__" : Str)) = false := by decide) (st1 : starEach (e :: es) X.env = (false, eval e X.env) :: starEach es X.env := by rfl) (st2 : (backTo pos (starEach es X.env)).any (·.1) = false := by rfl) : L2N.PMk X (.Call (.Name x p) (e :: es) [] pos) (tMkO C sp [] ta) := by
  intro pins s σ H Q I0 hh
  obtain ⟨_, _, _, _, bm, _, _, _, _, _, _, _, _, _, _, clsAt, hbm⟩ := T.cls
  refine wpAny_Call_Name_kw (ld_glob I0 hg hm ?_ nodb)
  refine PySem.W.callWith_K (h₀ := X.base) I0.ok.mod.kin T.kC (thn (args.run pos pins s σ H _ I0 hh) fun us s1 ⟨vs, H1, I, r, _, q⟩ => ⟨I.kIn, ?_⟩) st1 st2
  show wpAny _ _ (call (.ref C) us) _ _ _
  obtain ⟨hp, gs, dr, tk, os⟩ := s1
  have above : hp.objs.size ≤ hp.objs.size + 1 := Nat.le_succ _
  have sp0 := q (hp.objs.size + 1) (I.hok.fresh above)
  rw [List.append_nil] at sp0
  have stay : ∀ c o, hp.get? c = some o → ((hp.push (PySem.W.kdv_tup us)).push (PySem.HandSPX.excO C hp.objs.size)).get? c = some o := fun c o z => Heap.get?_push_of_some _ (Heap.get?_push_of_some _ z)
  have there : ((hp.push (PySem.W.kdv_tup us)).push (PySem.HandSPX.excO C hp.objs.size)).get? (hp.objs.size + 1) = some (PySem.HandSPX.excO C hp.objs.size) := by heap_get
  have J : Inv X pins σ (L2.upd H1 (hp.objs.size + 1) (exo (hp.objs.size + 1) C none)) ⟨(hp.push (PySem.W.kdv_tup us)).push (PySem.HandSPX.excO C hp.objs.size), gs, dr, tk, os⟩ :=
    I.laid (t' := tk) (a := hp.objs.size + 1) (o := exo (hp.objs.size + 1) C none) stay above (exo_ok there)
  have rv : Vals (V.ref (hp.objs.size + 1) :: vs) (Value.ref (hp.objs.size + 1) :: us) := .cons rfl r
  have many : (Value.ref (hp.objs.size + 1) :: us).length = ps.length := rv.length.symm.trans (G1.len _ _ _ _ sp0)
  have few : us.length ≤ sizeLine := by
    have := Paired.length r
    rw [sizeLine_eq]
    omega
  have bd := b _ (Value.ref (hp.objs.size + 1) :: us) J.kIn (by rw [List.append_nil]; exact many)
  rw [List.append_nil] at bd
  refine wpAny_call (PySem.HandSPX.call_own F.excBase_ValueError (fun Y => PySem.HandSPX.refsVE_contains Y bm hbm) (I.kIn _ _ clsAt) (PySem.W.looks_findIn I.kIn hasI) (fun self => PySem.W.bind_fn I.kIn self fnI) few
    (codeAny_mono (G1.run _ X.stack _ _ ⟨Value.ref (hp.objs.size + 1) :: us, []⟩ _ _ _ (fun _ _ _ => False) (room.make C us []) (J.env0.make C us []) bd rv sp0) fun r2 s2 z => ?_))
  cases r2 with
  | error er => exact lets pins σ _ _ er s2 J z
  | ok fl =>
    cases fl with
    | ret u =>
      obtain ⟨v, H2, os2, bare2, un2, hok2, rz, ev, d, fs, ea, ed, free, q2⟩ := z
      subst ev
      obtain ⟨h2, g2, d2, t2, o2⟩ := s2
      obtain ⟨t0, G, J2, kG, gone, at2, na⟩ := mk_end0 (d2 := d2) (t2 := t2) I above stay un2 hok2 os2 bare2 ea ed free
      refine ⟨rz, hp.objs.size + 1, _, _, ⟨G, g2, d2, t2, o2⟩, _, .ref C, some d, rfl, J2, kG, gone, at2, ⟨rfl, rfl, fun vs hv => ?_⟩, rfl, rfl, na, rfl, bare2, raises_own T.exC T.tyC, q2⟩
      cases hv
      rfl
    | next => exact z.elim
    | brk => exact z.elim
    | cont => exact z.elim
/-- head, *rest = a list of one item or more -/
def gStar (K : PySem.W.Frag) (g h : TG) : TG := fun v σ H Q => ∃ a x xs, v = .ref a ∧ SqL K H a (x :: xs) ∧ ∀ l, H l = none → g x σ (L2.upd H l (.lst xs)) fun σ1 H1 => h (.ref l) σ1 H1 Q
section
variable {X : Cx} {p pos : Pos}
theorem newL_ok {pins : List (Addr × Obj)} {σ : L2.St} {H : Hp} {s : Shared} {xs : List V} {us : List Value} {Q : Value → Shared → Prop} (I : Inv X pins σ H s) (r : Vals xs us) (hz : xs.length ≤ sizeLine)
    (k : ∀ l s', H l = none → Inv X pins σ (L2.upd H l (.lst xs)) s' → Q (.ref l) s') : wpAny (model X.prog X.w) X.A (newList us) Q X.xe s := by
  refine wpAny_newList (k _ _ (I.hok.fresh (Nat.le_refl _)) ?_) (by rw [← r.length]; exact hz)
  exact I.laid (t' := s.toks) (fun b u e => Heap.get?_push_of_some _ e) (Nat.le_refl _) ⟨hz, us, 0, r, Heap.get?_push_size _ rfl⟩
theorem pg_star {e1 e2 : Expr} {k : Nat} {g h : TG} (hc : X.calm = true) (h1 : PG X e1 g) (h2 : PG X e2 h) (ea : assignEach [e1, .Starred e2 p] X.env = [(false, assign e1 X.env), (true, assign e2 X.env)] := by rfl) : PG X (.Tuple [e1, .Starred e2 p] k pos) (gStar X.K g h) := by
  refine ⟨fun pins s σ H v u Q I r w => ?_⟩
  obtain ⟨a, x, xs, rfl, hq, q⟩ := w
  obtain rfl : u = Value.ref a := r
  obtain ⟨its, rv, pl, hz⟩ := I.list hq
  cases rv with
  | @cons _ y _ ys ry rys =>
  rw [PyProof.Rows.assign_Tuple]
  refine wpAny_bind (wpAny_standAt ?_)
  unfold unpack
  rw [ea]
  have hl := pl.isList
  refine wpAny_bind (wpAny_holding ?_)
  have hlt : a ≠ s.heap.objs.size := by
    obtain ⟨o, ho, _⟩ := hl
    exact Nat.ne_of_lt (Heap.lt_size ho)
  show wpAny _ _ (unpackItems (.ref a) 2 (some 1)) _ _ _
  unfold unpackItems notIterableAtAll
  refine wpAny_bind (wpAny_bind (wpAny_specialOf hl.typeIs slot_list_iter.lookup (wpAny_pure ?_)))
  simp only [Bool.false_eq_true, if_false]
  refine wpAny_bind (wpAny_holding (wpAny_pyIter_list hl ?_))
  refine wpAny_bind (wpAny_holding (PySem.W.kun_draw hlt 1 0 _ _ ⟨_, Heap.get?_push_size _ rfl, rfl, rfl⟩ (hl.push _) (by simp) fun hp1 it1 sb1 => ?_))
  have hl1 := (hl.push _).extBut sb1.extBut hlt
  have t1 : List.take 1 (List.drop 0 (y :: ys).toArray.toList) = [y] := rfl
  rw [t1]
  rw [if_neg (show ¬ [y].length < 1 from Nat.lt_irrefl 1)]
  obtain ⟨oi, hoi, _⟩ := id it1
  obtain ⟨ol, hol, _⟩ := id hl1
  have rl : ys.length ≤ sizeLine := by
    have := rys.length
    rw [List.length_cons] at hz
    omega
  refine wpAny_bind (wpAny_holding (PySem.W.kun_collect (s := { s with heap := hp1 }) (T := "list_iterator") (.inr (.inr (.inl rfl))) (Walks.list (A := X.A.in1) (I.ok.hd hc) s.heap.objs.size a hlt (y :: ys).toArray) (fun j u st => st.1.typeIs) (k := 1) (by simp) ⟨it1, hl1⟩ (Heap.lt_size hoi) (Heap.lt_size hol) (fun hp2 tk kp => ?_) ?_))
  · show wpAny _ _ (if ys.length < 0 then _ else _) _ _ _
    rw [if_neg (Nat.not_lt_zero _)]
    show wpAny _ _ (newList (ys.take (ys.length - 0)) >>= fun d => pure ([y] ++ [d] ++ ys.drop (ys.length - 0))) _ _ _
    rw [Nat.sub_zero, List.take_length, List.drop_length]
    have I2 : Inv X pins σ H { s with heap := hp2, toks := tk } := I.kept (t' := tk) fun b o e => kp b o (Nat.ne_of_lt (Heap.lt_size e)) (sb1.extBut b o (Nat.ne_of_lt (Heap.lt_size e)) (Heap.get?_push_of_some _ e))
    refine wpAny_bind (newL_ok I2 rys (by rw [rys.length]; exact rl) fun l s3 hn I3 => wpAny_pure ?_)
    show wpAny _ _ (assignInOrder [assign e1 X.env, assign e2 X.env] [y, .ref l]) _ _ _
    refine assignInOrder_cons (thn (h1.run pins s3 σ _ _ _ _ I3 ry (q l hn)) fun _ s4 ⟨σ4, H4, I4, q4⟩ => ?_)
    exact assignInOrder_cons (thn (h2.run pins s4 σ4 H4 (.ref l) (.ref l) _ I4 rfl q4) fun _ s5 ⟨σ5, H5, I5, q5⟩ => assignInOrder_nil ⟨σ5, H5, I5, q5⟩)
  · show ys.length + 1 ≤ sizeLine
    have := rys.length
    rw [List.length_cons] at hz
    omega
end
end BR

/-! ### text.replace(y, z, 1) behind a written text -/
namespace BR
open PySem PySem.Spec PyProof.Rows L2
def once (x y z : Str) : Str := if ((Builtin.Str.occurrences x y 0 x.length 1).isEmpty || (y.length == 0 && z.length == 0)) = true then x else Builtin.Str.glued z (Builtin.Str.partsBetween x (Builtin.Str.occurrences x y 0 x.length 1) y.length)
theorem once_len (x y z : Str) : (once x y z).length ≤ x.length + z.length := by
  unfold once
  split
  · exact Nat.le_add_right _ _
  · have few := StrLaws.occ_length_le x y 0 x.length 1
    have whole : (Builtin.Str.glued y (Builtin.Str.partsBetween x (Builtin.Str.occurrences x y 0 x.length 1) y.length)).length = x.length := by rw [StrLaws.glued_between_self]
    rw [size_glued, length_partsBetween, Nat.add_sub_cancel] at whole
    rw [size_glued, length_partsBetween, Nat.add_sub_cancel]
    have : (Builtin.Str.occurrences x y 0 x.length 1).length * z.length ≤ 1 * z.length := Nat.mul_le_mul_right _ few
    omega
theorem Asc.sub {x : Str} (h : Asc x) (i j : Nat) : Asc (Builtin.Str.strSub x i j) := fun c m => h c (by
  have m2 : c ∈ (x.cps.extract i j).toList := m
  rw [Array.toList_extract] at m2
  exact List.mem_of_mem_drop (List.mem_of_mem_take (by simpa [List.extract] using m2)))
theorem once_asc {x y z : Str} (hx : Asc x) (hz : Asc z) : Asc (once x y z) := by
  unfold once
  split
  · exact hx
  · rw [StrLaws.glued_eq_join]
    intro c m
    rw [_root_.TL.tl_join] at m
    rcases joinL_mem _ m with m | ⟨p, hp, m⟩
    · exact hz c m
    · obtain ⟨q, hq, rfl⟩ := List.mem_map.mp hp
      unfold Builtin.Str.partsBetween at hq
      obtain ⟨⟨i, j⟩, _, rfl⟩ := List.mem_map.mp hq
      exact hx.sub i j c m
open PySem.Builtin PySem.Builtin.Str in
theorem gives_once (x y z : Str) (t u v r : Tok) (yz : (y == z) = false) (h0 : (u == 0 || v == 0) = false) (huv : (u == v) = false) (big : tooLong (x.length + (occurrences x y 0 x.length 1).length * z.length) = false) :
    Gives («str.replace» ⟨[.str x t, .str y u, .str z v, .int 1 r], []⟩) (if ((occurrences x y 0 x.length 1).isEmpty || (y.length == 0 && z.length == 0)) = true then .val (.str x t) else .str (glued z (partsBetween x (occurrences x y 0 x.length 1) y.length))) := by
  show Gives (do let limit ← countLimit "str.replace" (some (.int 1 r)) (x.length + 1); _) _
  rw [countLimit_int "str.replace" 1 r (x.length + 1) (by decide)]
  show Gives (if ((occurrences x y 0 x.length 1).isEmpty || (y.length == 0 && z.length == 0)) = true then (do rule "str.replace.nothing"; ret (.str x t)) else
    (do let same ← isSame (.str y u) (.str z v)
        if same = true then (do rule "str.replace.old-is-new"; ret (.str x t)) else
        if tooLong (x.length + (occurrences x y 0 x.length 1).length * z.length) = true then unsupported "str.replace:memory" else
        retStr (glued z (partsBetween x (occurrences x y 0 x.length 1) y.length)))) _
  cases e : ((occurrences x y 0 x.length 1).isEmpty || (y.length == 0 && z.length == 0)) with
  | true => exact .rule (.of_eq rfl)
  | false =>
    rw [isSame_str_other y z u v h0 huv yz, big]
    exact .of_eq rfl
theorem call_once {prog : Program} {w : World} {A : Around} {E : Value → Shared → Prop} {s : Shared} {x y z : Str} {t u v r : Tok} {Q : Value → Shared → Prop} (hu : u ≠ 0) (hv : v ≠ 0) (huv : u ≠ v) (yz : (y == z) = false) (hb : x.length + z.length ≤ 16777216)
    (k : ∀ t' n, Q (.str (once x y z) t') { s with toks := n }) : wpAny (model prog w) A (call (.builtin "str.replace") [.str x t, .str y u, .str z v, .int 1 r]) Q E s := by
  have few := StrLaws.occ_length_le x y 0 x.length 1
  have big : Builtin.Str.tooLong (x.length + (Builtin.Str.occurrences x y 0 x.length 1).length * z.length) = false := by
    have m : (Builtin.Str.occurrences x y 0 x.length 1).length * z.length ≤ 1 * z.length := Nat.mul_le_mul_right _ few
    unfold Builtin.Str.tooLong
    rw [sizeLine_eq]
    exact decide_eq_false (by omega)
  refine call_gives F.slot_str_replace (typeIs_str _ _ _) F.entry_str_replace (F.args_str_replace_4 _ _ _ _) (gives_once x y z t u v r yz (by simp [hu, hv]) (by simp [huv]) big) ?_
  have l := once_len x y z
  unfold once at k l
  cases e : ((Builtin.Str.occurrences x y 0 x.length 1).isEmpty || (y.length == 0 && z.length == 0)) with
  | true =>
    simp only [e, if_true] at k ⊢
    exact k t s.toks
  | false =>
    simp only [e, Bool.false_eq_true, if_false] at k l ⊢
    exact ⟨by rw [sizeLine_eq]; omega, k _ _⟩
def tOnce (to : TE) (y z : Str) : TE := fun σ H Q => to σ H fun v H1 => ∃ x, v = .str x ∧ x.length + z.length ≤ 16777216 ∧ Q (.str (once x y z)) H1
section
variable {X : Cx} {o e f : Expr} {es : List Expr} {te tf to : TE} {ta : TA} {y z c : Str} {j k l : Nat} {c0 c1 c2 apos pos p p1 : Pos}
theorem pet_once (ho : PE X o to) (yz : (y == z) = false := by decide)
    (st : starEach [.Constant (.str y) j c0, .Constant (.str z) k c1, .Constant (.int 1) l c2] X.env = [(false, eval (.Constant (.str y) j c0) X.env), (false, eval (.Constant (.str z) k c1) X.env), (false, eval (.Constant (.int 1) l c2) X.env)] := by rfl)
    (base : attributeBase o "replace" X.env (eval o X.env) = eval o X.env := by rfl) (line : (apos.endLine == pos.line) = true := by rfl) :
    PET X (.Call (.Attribute o "replace" apos) [.Constant (.str y) j c0, .Constant (.str z) k c1, .Constant (.int 1) l c2] [] pos) (tOnce to y z) := by
  intro pins s σ H Q one I h
  refine PySem.wpAny_Call_method_lateS base (by rw [st]; rfl) line ?_
  rw [st]
  refine wpAny_mono (PySem.wpAny_toks (ho.run pins s σ H _ I h)) (fun v s1 q => ?_) fun _ _ q => q.2
  obtain ⟨more, v', H1, I1, r1, x, rfl, hb, q⟩ := q
  obtain ⟨tx, rfl⟩ := r1
  refine ⟨"str", _, PySem.F.plainAttrs_str, PySem.F.slot_str_replace, PySem.F.type_str_replace, typeIs_str _ _ _, (fun _ e => nomatch e), Calls.callWith_builtin rfl (Calls.evalArgs_plain (Calls.spliced_cons ?_))⟩
  refine Calls.Constant_str (k := j) (pos := c0) (Calls.spliced_cons (Calls.Constant_str (k := k) (pos := c1) (Calls.spliced_cons (wpAny_Constant_int (k := l) (pos := c2) (Calls.spliced_nil ?_)))))
  exact call_once (by show s1.toks ≠ 0; omega) (by show s1.toks + 1 ≠ 0; omega) (by show s1.toks ≠ s1.toks + 1; omega) yz hb fun t' n => ⟨.str (once x y z), H1, I1.tok n, ⟨t', rfl⟩, q⟩
/-- items behind «text + ..»: a token is out -/
theorem pa_catT {r : R2} (ho : OpR X (binaryOp .Add) r) (hf : PE X f tf) (hr : PAT X es ta) (st : starEach (.BinOp (.Constant (.str c) j p) .Add f p1 :: es) X.env = (false, eval (.BinOp (.Constant (.str c) j p) .Add f p1) X.env) :: starEach es X.env := by rfl) :
    PA X (.BinOp (.Constant (.str c) j p) .Add f p1 :: es) (tCons (tOp r (tC (.str c)) tf) ta) := by
  refine ⟨fun pos pins s σ H Q I h => ?_⟩
  rw [st]
  show wpAny _ _ (spliced ((false, eval (.BinOp (.Constant (.str c) j p) .Add f p1) X.env) :: backTo pos (starEach es X.env))) _ _ s
  have one : wpAny (model X.prog X.w) X.A (eval (.BinOp (.Constant (.str c) j p) .Add f p1) X.env) (fun u s1 => 1 ≤ s1.toks ∧ EP X pins σ (fun x H1 => ta σ H1 fun xs H2 => Q (x :: xs) H2) u s1) X.xe s := by
    refine wpAny_BinOp (Calls.Constant_str ?_)
    have I1 : Inv X pins σ H { s with toks := s.toks + 1 } := I.tok _
    refine wpAny_mono (PySem.wpAny_toks_of (n := 1) (show 1 ≤ s.toks + 1 by omega) (hf.run pins _ σ H _ I1 h)) (fun u s2 q2 => ?_) fun _ _ q => q.2
    obtain ⟨n2, y2, H2, I2, r2, q2⟩ := q2
    exact wpAny_mono (PySem.wpAny_toks_of (n := 1) n2 (ho pins s2 σ H2 (.str c) y2 _ u _ I2 ⟨_, rfl⟩ r2 q2)) (fun _ _ q => q) fun _ _ q => q.2
  refine Calls.spliced_cons (wpAny_mono one (fun u s1 q1 => ?_) fun _ _ q => q)
  obtain ⟨n1, x, H1, I1, r1, q1⟩ := q1
  exact thn (hr pos pins s1 σ H1 _ n1 I1 q1) fun us s2 ⟨xs, H2, I2, r2, q2⟩ => ⟨x :: xs, H2, I2, .cons r1 r2, q2⟩
end
end BR

/-! ### a program's rows as data, and as a text -/
namespace BR
open PySem PySem.Spec PyProof.Rows L2
def itemV (p : Str) : V := if isNum p = true then .int (numOf p) else .str p
def allW : List Str := (["cmp", "mov", "swap", "cmov", "jump", "jif", "out", "stop", "p", "q", "r", "s", "x", "y"] : List Str) ++ conds
def AtOk (x : V) : Prop := (∃ z ∈ allW, x = .str z) ∨ ∃ i : Int, x = .int i ∧ 0 ≤ i ∧ i < 10 ^ 400
theorem fm_in : ∀ q ∈ fmT, q.1 ∈ allW := by decide +kernel
theorem regs_in {n : Nat} {z : Str} (h : z ∈ regs n) : z ∈ allW := by
  unfold regs at h
  rcases List.mem_append.mp h with h | h
  · have : ∀ y ∈ (["p", "q", "r", "s"] : List Str), y ∈ allW := by decide +kernel
    exact this z (List.mem_of_mem_take h)
  · have : ∀ y ∈ (["x", "y"] : List Str), y ∈ allW := by decide +kernel
    exact this z h
theorem item_at {k x : V} {n : Nat} {size : Int} (hs : size < 10 ^ 400) (hk : isKd k) (h : itemOk k x (regs n) size = true) : AtOk x := by
  rcases hk with rfl | rfl | rfl
  · rw [item_R] at h
    cases x with
    | str z => exact .inl ⟨z, regs_in (of_decide_eq_true h), rfl⟩
    | _ => exact absurd (show false = true from h) (by decide)
  · rw [item_C] at h
    cases x with
    | str z => exact .inl ⟨z, List.mem_append_right _ (of_decide_eq_true h), rfl⟩
    | _ => exact absurd (show false = true from h) (by decide)
  · rw [item_T] at h
    cases x with
    | int i =>
      obtain ⟨a, b⟩ := Bool.and_eq_true_iff.mp h
      exact .inr ⟨i, rfl, of_decide_eq_true a, Int.lt_of_le_of_lt (of_decide_eq_true b) hs⟩
    | _ => exact absurd (show false = true from h) (by decide)
theorem row_atoms {n : Nat} {size : Int} {r : List V} (hs : size < 10 ^ 400) (h : rowOk (regs n) size r = true) : r ≠ [] ∧ r.length ≤ 4 ∧ ∀ x ∈ r, AtOk x := by
  obtain ⟨w, xs, f, rfl, fl⟩ := rowOk_shape h
  have rs := rowOk_some (xs := xs) (ns := regs n) (size := size) fl
  rw [h] at rs
  obtain ⟨c, al⟩ := Bool.and_eq_true_iff.mp rs.symm
  have c := of_decide_eq_true c
  obtain ⟨fk, f3, _⟩ := fm_all _ (lookup_mem fl)
  have f3 : f.cps.size ≤ 3 := f3
  refine ⟨List.cons_ne_nil _ _, by rw [List.length_cons]; omega, fun x hx => ?_⟩
  rcases List.mem_cons.mp hx with rfl | hx
  · exact .inl ⟨w, fm_in _ (lookup_mem fl), rfl⟩
  · obtain ⟨k, hk, hz⟩ := zip_all (ks := sgn f) (by rw [sgn_len]; exact c) x hx
    exact item_at hs (fk k hk) (List.all_eq_true.mp al _ hz)
theorem regs_p {m : Int} (h : 1 ≤ m) : ("p" : Str) ∈ regs m.toNat := by
  obtain ⟨j, rfl⟩ : ∃ j : Nat, m = ((j + 1 : Nat) : Int) := ⟨m.toNat - 1, by omega⟩
  exact List.mem_append_left _ List.mem_cons_self
theorem regs_q {m : Int} (h : 1 < m) : ("q" : Str) ∈ regs m.toNat := by
  obtain ⟨j, rfl⟩ : ∃ j : Nat, m = ((j + 2 : Nat) : Int) := ⟨m.toNat - 2, by omega⟩
  exact List.mem_append_left _ (List.mem_cons_of_mem _ List.mem_cons_self)
theorem regs_x {n : Nat} : ("x" : Str) ∈ regs n := List.mem_append_right _ List.mem_cons_self
theorem ixN_0 {n : Nat} (h : 1 ≤ n) : ixN n 0 = some 0 := by
  unfold ixN
  simp
  omega
theorem ixN_l {n m : Nat} (e : n = m) (h : 1 ≤ m) : ixN n (-1) = some (m - 1) := by
  subst e
  unfold ixN
  simp
  omega
/-! data -/
def atD : V → PyData
  | .str z => .str z
  | .int i => .int i
  | _ => .none
def rowD (r : List V) : PyData := .tuple (r.map atD)
theorem w_data : ∀ z ∈ allW, PyData.strOk z = true ∧ (reprText z).length ≤ 8 := by decide +kernel
theorem at_dp {K : PySem.W.Frag} {H : Hp} {x : V} (h : AtOk x) : Dp K H x (atD x) := by
  rcases h with ⟨z, _, rfl⟩ | ⟨i, rfl, _⟩
  · exact .str z
  · exact .int i
theorem ats_dp {K : PySem.W.Frag} {H : Hp} : ∀ {r : List V}, (∀ x ∈ r, AtOk x) → DpAll K H r (r.map atD)
  | [], _ => .nil
  | x :: r, h => .cons (at_dp (h x List.mem_cons_self)) (ats_dp fun y m => h y (List.mem_cons_of_mem _ m))
theorem row_dp {K : PySem.W.Frag} {H : Hp} {a : Addr} {r : List V} (e : H a = some (.tup r)) (h : ∀ x ∈ r, AtOk x) : Dp K H (.ref a) (rowD r) := .tup (SqT.of e) (ats_dp h)
/-- every row is made of a program's items -/
def RsOk (rs : List (List V)) : Prop := ∀ r ∈ rs, r ≠ [] ∧ r.length ≤ 4 ∧ ∀ x ∈ r, AtOk x
theorem rsOk_of {n : Nat} {size : Int} {rs : List (List V)} (hs : size < 10 ^ 400) (h : ∀ r ∈ rs, rowOk (regs n) size r = true) : RsOk rs := fun r m => row_atoms hs (h r m)
theorem rows_dp {K : PySem.W.Frag} {H : Hp} : ∀ {as : List Addr} {rs : List (List V)}, RowsAt H as rs → RsOk rs → DpAll K H (as.map V.ref) (rs.map rowD)
  | [], [], _, _ => .nil
  | a :: as, r :: rs, .cons e p, h => .cons (row_dp e (h r List.mem_cons_self).2.2) (rows_dp p fun y m => h y (List.mem_cons_of_mem _ m))
theorem ats_lay : ∀ {r : List V}, (∀ x ∈ r, AtOk x) → PyData.canLayAll0 (r.map atD) = true ∧ PyData.depthAll (r.map atD) = 0 ∧ PyData.showableAll (r.map atD) = true ∧ PyData.hasDictAll (r.map atD) = false ∧ ((PyData.shownAll (r.map atD)).map (·.length)).sum ≤ 402 * r.length ∧ (PyData.shownAll (r.map atD)).length = r.length
  | [], _ => ⟨rfl, rfl, rfl, rfl, Nat.zero_le _, rfl⟩
  | x :: r, h => by
    obtain ⟨h1, h2, h3, h4, h5, h6⟩ := ats_lay (r := r) fun y m => h y (List.mem_cons_of_mem _ m)
    have e : PyData.shownAll ((x :: r).map atD) = (atD x).shown :: PyData.shownAll (r.map atD) := by
      rw [List.map_cons]
      simp only [PyData.shownAll]
    rw [e]
    simp only [List.map_cons, List.sum_cons, List.length_cons, h6]
    rcases h x List.mem_cons_self with ⟨z, m, rfl⟩ | ⟨i, rfl, i0, i1⟩
    · obtain ⟨o1, o2⟩ := w_data z m
      refine ⟨?_, ?_, h3, h4, ?_, trivial⟩
      · show (PyData.strOk z && PyData.canLayAll0 (r.map atD)) = true
        rw [o1, h1]
        rfl
      · show max 0 (PyData.depthAll (r.map atD)) = 0
        rw [h2]
        rfl
      · have : (atD (.str z)).shown.length ≤ 8 := by
          show (PyData.str z).shown.length ≤ 8
          rw [show (PyData.str z).shown = reprText z by simp only [PyData.shown]]
          exact o2
        omega
    · refine ⟨h1, ?_, ?_, h4, ?_, trivial⟩
      · show max 0 (PyData.depthAll (r.map atD)) = 0
        rw [h2]
        rfl
      · show (decide (i.natAbs.log2 < 1920) && PyData.showableAll (r.map atD)) = true
        rw [h3, decide_eq_true (log10 i0 i1)]
        rfl
      · have : (atD (.int i)).shown.length ≤ 400 := by
          show (PyData.int i).shown.length ≤ 400
          rw [PyData.shown_int]
          exact numS_len i0 i1
        omega
theorem row_shown {r : List V} (h : r.length ≤ 4 ∧ ∀ x ∈ r, AtOk x) : (rowD r).shown.length ≤ 2000 := by
  obtain ⟨_, _, _, _, h5, h6⟩ := ats_lay h.2
  unfold rowD
  rw [PyData.shown_tuple, Str.length_append, Str.length_append]
  have j := StrLaws.join_length_le ", " (PyData.shownAll (r.map atD))
  rw [h6] at j
  have c1 : ((", " : Str)).length = 2 := by decide +kernel
  have c2 : (("(" : Str)).length = 1 := by decide +kernel
  have c3 : (((if (r.map atD).length == 1 then ",)" else ")" : String) : Str)).length ≤ 2 := by split <;> decide +kernel
  rw [c1] at j
  rw [c2]
  have := h.1
  omega
theorem rs_lay : ∀ {rs : List (List V)}, RsOk rs → PyData.canLayAll0 (rs.map rowD) = true ∧ PyData.depthAll (rs.map rowD) ≤ 1 ∧ PyData.showableAll (rs.map rowD) = true ∧ PyData.hasDictAll (rs.map rowD) = false ∧ ((PyData.shownAll (rs.map rowD)).map (·.length)).sum ≤ 2000 * rs.length ∧ (PyData.shownAll (rs.map rowD)).length = rs.length
  | [], _ => ⟨rfl, Nat.zero_le _, rfl, rfl, Nat.zero_le _, rfl⟩
  | r :: rs, h => by
    obtain ⟨h1, h2, h3, h4, h5, h6⟩ := rs_lay (rs := rs) fun y m => h y (List.mem_cons_of_mem _ m)
    obtain ⟨_, r1, r2⟩ := h r List.mem_cons_self
    obtain ⟨g1, g2, g3, g4, _, _⟩ := ats_lay r2
    have s := row_shown ⟨r1, r2⟩
    have e : PyData.shownAll ((r :: rs).map rowD) = (rowD r).shown :: PyData.shownAll (rs.map rowD) := by
      rw [List.map_cons]
      simp only [PyData.shownAll]
    rw [e]
    simp only [List.map_cons, List.sum_cons, List.length_cons, h6]
    refine ⟨?_, ?_, ?_, ?_, by omega, trivial⟩
    · show (PyData.canLayAll0 (r.map atD) && PyData.canLayAll0 (rs.map rowD)) = true
      rw [g1, h1]
      rfl
    · show max (PyData.depthAll (r.map atD) + 1) (PyData.depthAll (rs.map rowD)) ≤ 1
      omega
    · show (PyData.showableAll (r.map atD) && PyData.showableAll (rs.map rowD)) = true
      rw [g3, h3]
      rfl
    · show (PyData.hasDictAll (r.map atD) || PyData.hasDictAll (rs.map rowD)) = false
      rw [g4, h4]
      rfl
theorem rs_shaped {rs : List (List V)} (h : RsOk rs) : SeqAt.shaped (.list (rs.map rowD)) = true := by
  obtain ⟨h1, h2, _⟩ := rs_lay h
  unfold SeqAt.shaped
  show (PyData.canLayAll0 (rs.map rowD) && decide (PyData.depthAll (rs.map rowD) + 1 ≤ 64)) = true
  rw [h1, decide_eq_true (by omega)]
  rfl
theorem eqv_rs {rs : List (List V)} (h : RsOk rs) : PyData.eqv (.list (rs.map rowD)) (.list (rs.map rowD)) = true := SeqAt.eqv_refl _ (SeqAt.canLay_of_shaped (rs_shaped h))
theorem lst_shown {ds : List PyData} {m : Nat} (h : ((PyData.shownAll ds).map (·.length)).sum ≤ m) (hl : (PyData.shownAll ds).length ≤ 5000) : (PyData.list ds).shown.length ≤ m + 10002 := by
  rw [PyData.shown_list, Str.length_append, Str.length_append]
  have j := StrLaws.join_length_le ", " (PyData.shownAll ds)
  have c0 : ((", " : Str)).length = 2 := by decide +kernel
  have c1 : (("[" : Str)).length = 1 := by decide +kernel
  have c2 : (("]" : Str)).length = 1 := by decide +kernel
  rw [c0] at j
  rw [c1, c2]
  omega
theorem rs_shows {rs : List (List V)} (h : RsOk rs) (hl : rs.length ≤ 4000) : (PyData.list (rs.map rowD)).showable = true ∧ (PyData.list (rs.map rowD)).hasDict = false ∧ (PyData.list (rs.map rowD)).depth ≤ 60 ∧ (PyData.list (rs.map rowD)).shown.length ≤ sizeLine := by
  obtain ⟨h1, h2, h3, h4, h5, h6⟩ := rs_lay h
  refine ⟨h3, h4, ?_, ?_⟩
  · show PyData.depthAll (rs.map rowD) + 1 ≤ 60
    omega
  · have := lst_shown h5 (by omega)
    rw [sizeLine_eq]
    omega
/-- what a program told: its inputs and rows, in a tuple, in a list -/
def toldD (n : Int) (rs : List (List V)) : PyData := .list [.tuple [.int n, .list (rs.map rowD)]]
theorem told_shows {n : Int} {rs : List (List V)} (h : RsOk rs) (hl : rs.length ≤ 4000) (h1 : 1 ≤ n) (h4 : n ≤ 4) : (toldD n rs).showable = true ∧ (toldD n rs).hasDict = false ∧ (toldD n rs).depth ≤ 60 ∧ (toldD n rs).shown.length ≤ sizeLine := by
  obtain ⟨g1, g2, g3, g4, g5, g6⟩ := rs_lay h
  have ll := lst_shown g5 (by omega)
  have n4 : n = 1 ∨ n = 2 ∨ n = 3 ∨ n = 4 := by omega
  have l1 : (PyData.int n).shown.length ≤ 400 := by
    rw [PyData.shown_int]
    refine numS_len (by omega) (Int.lt_of_le_of_lt h4 (by decide +kernel))
  have tup : (PyData.tuple [.int n, .list (rs.map rowD)]).shown.length ≤ 2000 * rs.length + 10500 := by
    have e : PyData.shownAll [PyData.int n, .list (rs.map rowD)] = [(PyData.int n).shown, (PyData.list (rs.map rowD)).shown] := by simp only [PyData.shownAll]
    rw [PyData.shown_tuple, Str.length_append, Str.length_append, e]
    have j := StrLaws.join_length_le ", " [(PyData.int n).shown, (PyData.list (rs.map rowD)).shown]
    have c0 : ((", " : Str)).length = 2 := by decide +kernel
    have c1 : (("(" : Str)).length = 1 := by decide +kernel
    have c3 : (((if [PyData.int n, .list (rs.map rowD)].length == 1 then ",)" else ")" : String) : Str)).length ≤ 2 := by
      split <;> decide +kernel
    rw [c0] at j
    rw [c1]
    simp only [List.map_cons, List.map_nil, List.sum_cons, List.sum_nil, List.length_cons, List.length_nil] at j
    omega
  refine ⟨?_, ?_, ?_, ?_⟩
  · show ((decide (n.natAbs.log2 < 1920) && (PyData.showableAll (rs.map rowD) && true)) && true) = true
    rw [g3]
    rcases n4 with rfl | rfl | rfl | rfl <;> decide +kernel
  · show ((false || (PyData.hasDictAll (rs.map rowD) || false)) || false) = false
    rw [g4]
    rfl
  · show max (max 0 (max (PyData.depthAll (rs.map rowD) + 1) 0) + 1) 0 + 1 ≤ 60
    omega
  · unfold toldD
    have e : PyData.shownAll [PyData.tuple [.int n, .list (rs.map rowD)]] = [(PyData.tuple [.int n, .list (rs.map rowD)]).shown] := by simp only [PyData.shownAll]
    have := lst_shown (ds := [PyData.tuple [.int n, .list (rs.map rowD)]]) (m := 2000 * rs.length + 10500) (by rw [e]; simpa using tup) (by rw [e]; simp)
    rw [sizeLine_eq]
    omega
/-! texts -/
def atS : V → Str
  | .str z => z
  | .int i => numS i
  | _ => ""
def showRow (r : List V) : Str := Txt.join " " (r.map atS)
def progT (n : Int) (rs : List (List V)) : Str := Txt.join "; " (("inputs " ++ numS n) :: rs.map showRow)
theorem w_text : ∀ z ∈ allW, isNum z = false ∧ z.length ≤ 5 ∧ (32 : Nat) ∉ _root_.TL.tl z ∧ (59 : Nat) ∉ _root_.TL.tl z ∧ ∀ c ∈ _root_.TL.tl z, c < 128 := by decide +kernel
theorem at_text {x : V} (h : AtOk x) : itemV (atS x) = x ∧ (atS x).length ≤ 400 ∧ (32 : Nat) ∉ _root_.TL.tl (atS x) ∧ (59 : Nat) ∉ _root_.TL.tl (atS x) ∧ Asc (atS x) := by
  rcases h with ⟨z, m, rfl⟩ | ⟨i, rfl, i0, i1⟩
  · obtain ⟨a, b, c, d, e⟩ := w_text z m
    refine ⟨?_, ?_, c, d, e⟩
    · show itemV z = .str z
      unfold itemV
      rw [if_neg (by rw [a]; decide)]
    · show z.length ≤ 400
      omega
  · obtain ⟨n1, n2⟩ := isNum_numS i0 i1
    have fr : ∀ s : Nat, (s < 48 ∨ 57 < s) → s ∉ _root_.TL.tl (numS i) := fun s hs => by
      rw [tl_numS i0]
      exact _root_.TL.numL_free hs
    refine ⟨?_, numS_len i0 i1, fr 32 (.inl (by decide)), fr 59 (.inr (by decide)), fun c m => ?_⟩
    · show itemV (numS i) = .int i
      unfold itemV
      rw [if_pos n1, n2]
    · refine Decidable.byContradiction fun hc => ?_
      exact fr c (.inr (by omega)) m
theorem join_len {s : Str} {k m : Nat} (hs : s.length ≤ k) : ∀ {ps : List Str}, (∀ p ∈ ps, p.length ≤ m) → ((ps.map (·.length)).sum ≤ m * ps.length)
  | [], _ => Nat.zero_le _
  | p :: ps, h => by
    have := join_len (s := s) hs (ps := ps) fun q x => h q (List.mem_cons_of_mem _ x)
    have := h p List.mem_cons_self
    rw [List.map_cons, List.sum_cons, List.length_cons, Nat.mul_succ]
    omega
theorem join_free {s : Str} {c : Nat} {ps : List Str} (hs : c ∉ _root_.TL.tl s) (h : ∀ p ∈ ps, c ∉ _root_.TL.tl p) : c ∉ _root_.TL.tl (Txt.join s ps) := fun m => by
  have m2 : c ∈ _root_.TL.joinL (_root_.TL.tl s) (ps.map _root_.TL.tl) := by
    rw [← _root_.TL.tl_join]
    rw [← _root_.TL.join_eq]
    exact m
  rcases joinL_mem _ m2 with z | ⟨p, hp, z⟩
  · exact hs z
  · obtain ⟨q, hq, rfl⟩ := List.mem_map.mp hp
    exact h q hq z
theorem asc_join {s : Str} {ps : List Str} (hs : Asc s) (h : ∀ p ∈ ps, Asc p) : Asc (Txt.join s ps) := fun c m => by
  refine Decidable.byContradiction fun hc => ?_
  exact join_free (c := c) (fun z => hc (hs c z)) (fun p hp z => hc (h p hp c z)) m
theorem show_len {r : List V} (h : r.length ≤ 4 ∧ ∀ x ∈ r, AtOk x) : (showRow r).length ≤ 1604 ∧ ((r.map atS).map (·.length)).sum ≤ 1600 := by
  have s := join_len (s := " ") (k := 1) (m := 400) (ps := r.map atS) (by decide +kernel) fun p hp => by
    obtain ⟨x, hx, rfl⟩ := List.mem_map.mp hp
    exact (at_text (h.2 x hx)).2.1
  rw [List.length_map] at s
  have j := StrLaws.join_length_le " " (r.map atS)
  have l1 : ((" " : Str)).length = 1 := by decide +kernel
  rw [l1, List.length_map] at j
  have := h.1
  refine ⟨?_, by omega⟩
  unfold showRow
  rw [_root_.TL.join_eq]
  omega
theorem row_back {r : List V} (ne : r ≠ []) (h : ∀ x ∈ r, AtOk x) : (Txt.split (showRow r) " ").map itemV = r := by
  have e : Txt.split (showRow r) " " = r.map atS := by
    refine _root_.TL.split_join (s := 32) (S := []) (by decide +kernel) (by decide +kernel) (fun z => ne (List.map_eq_nil_iff.mp z)) fun p m => ?_
    obtain ⟨x, hx, rfl⟩ := List.mem_map.mp m
    exact (at_text (h x hx)).2.2.1
  rw [e, List.map_map]
  refine (List.map_congr_left fun x hx => ?_).trans (List.map_id r)
  exact (at_text (h x hx)).1
theorem show_free {r : List V} (h : ∀ x ∈ r, AtOk x) : (59 : Nat) ∉ _root_.TL.tl (showRow r) := join_free (by decide +kernel) fun p hp => by
  obtain ⟨x, hx, rfl⟩ := List.mem_map.mp hp
  exact (at_text (h x hx)).2.2.2.1
theorem show_asc {r : List V} (h : ∀ x ∈ r, AtOk x) : Asc (showRow r) := asc_join (by unfold Asc; decide +kernel) fun p hp => by
  obtain ⟨x, hx, rfl⟩ := List.mem_map.mp hp
  exact (at_text (h x hx)).2.2.2.2
/-- what the items of a program's parts tell -/
def itemsV (p : Str) : List V := (Txt.split p " ").map itemV
def dueHR (hs : List V) (rs : List (List V)) : Option (Int × List (List V)) :=
  match hs with
  | [.str w, .int n] => if w = "inputs" ∧ 1 ≤ n ∧ n ≤ 4 ∧ rs.all (rowOk (regs n.toNat) rs.length) = true then some (n, rs) else none
  | _ => none
/-- what the text of a program tells -/
def dueP (t : Str) : Option (Int × List (List V)) :=
  match (Txt.split t "; ").map itemsV with
  | hs :: rs => dueHR hs rs
  | [] => none
theorem dueP_cons {t : Str} {hs : List V} {rs : List (List V)} (e : (Txt.split t "; ").map itemsV = hs :: rs) : dueP t = dueHR hs rs := by
  unfold dueP
  rw [e]
theorem dueHR_len {hs : List V} {rs : List (List V)} (h : hs.length ≠ 2) : dueHR hs rs = none := by
  unfold dueHR
  split
  · exact absurd rfl h
  · rfl
theorem dueHR_wd {x y : V} {rs : List (List V)} (h : x ≠ .str "inputs") : dueHR [x, y] rs = none := by
  unfold dueHR
  split
  · rename_i e
    injection e with e1 e2
    subst e1
    exact if_neg fun z => h (by rw [z.1])
  · rfl
theorem dueHR_str {x : V} {z : Str} {rs : List (List V)} : dueHR [x, .str z] rs = none := by
  unfold dueHR
  split
  · rename_i e
    injection e with e1 e2
    injection e2 with e2 e3
    cases e2
  · rfl
theorem dueHR_int {n : Int} {rs : List (List V)} : dueHR [.str "inputs", .int n] rs = if 1 ≤ n ∧ n ≤ 4 ∧ rs.all (rowOk (regs n.toNat) rs.length) = true then some (n, rs) else none := by
  unfold dueHR
  dsimp only
  by_cases c : 1 ≤ n ∧ n ≤ 4 ∧ rs.all (rowOk (regs n.toNat) rs.length) = true
  · rw [if_pos c, if_pos ⟨rfl, c⟩]
  · rw [if_neg c, if_neg fun z => c z.2]
theorem head_all : ∀ n ∈ ([1, 2, 3, 4] : List Int), (Txt.split ("inputs " ++ numS n) " ").map itemV = [.str "inputs", .int n] ∧ (59 : Nat) ∉ _root_.TL.tl ("inputs " ++ numS n) ∧ (∀ c ∈ _root_.TL.tl ("inputs " ++ numS n), c < 128) ∧ ("inputs " ++ numS n).length = 8 := by decide +kernel
theorem head_ok {n : Int} (h1 : 1 ≤ n) (h4 : n ≤ 4) : (Txt.split ("inputs " ++ numS n) " ").map itemV = [.str "inputs", .int n] ∧ (59 : Nat) ∉ _root_.TL.tl ("inputs " ++ numS n) ∧ Asc ("inputs " ++ numS n) ∧ ("inputs " ++ numS n).length = 8 := by
  have c : n = 1 ∨ n = 2 ∨ n = 3 ∨ n = 4 := by omega
  exact head_all n (by rcases c with rfl | rfl | rfl | rfl <;> decide)
theorem prog_split {n : Int} {rs : List (List V)} (h1 : 1 ≤ n) (h4 : n ≤ 4) (h : RsOk rs) : Txt.split (progT n rs) "; " = ("inputs " ++ numS n) :: rs.map showRow := by
  refine _root_.TL.split_join (s := 59) (S := [32]) (by decide +kernel) (by decide +kernel) (List.cons_ne_nil _ _) fun p m => ?_
  rcases List.mem_cons.mp m with rfl | m
  · exact (head_ok h1 h4).2.1
  · obtain ⟨r, hr, rfl⟩ := List.mem_map.mp m
    exact show_free (h r hr).2.2
theorem due_prog {n : Int} {rs : List (List V)} (h1 : 1 ≤ n) (h4 : n ≤ 4) (h : RsOk rs) (ok : ∀ r ∈ rs, rowOk (regs n.toNat) rs.length r = true) : dueP (progT n rs) = some (n, rs) := by
  have e : rs.map (itemsV ∘ showRow) = rs := (List.map_congr_left fun r hr => row_back (h r hr).1 (h r hr).2.2).trans (List.map_id rs)
  have w : (Txt.split (progT n rs) "; ").map itemsV = [.str "inputs", .int n] :: rs := by
    rw [prog_split h1 h4 h, List.map_cons, List.map_map, e]
    congr 1
    exact (head_ok h1 h4).1
  rw [dueP_cons w, dueHR_int, if_pos ⟨h1, h4, List.all_eq_true.mpr ok⟩]
theorem prog_asc {n : Int} {rs : List (List V)} (h1 : 1 ≤ n) (h4 : n ≤ 4) (h : RsOk rs) : Asc (progT n rs) := asc_join (by unfold Asc; decide +kernel) fun p m => by
  rcases List.mem_cons.mp m with rfl | m
  · exact (head_ok h1 h4).2.2.1
  · obtain ⟨r, hr, rfl⟩ := List.mem_map.mp m
    exact show_asc (h r hr).2.2
theorem prog_len {n : Int} {rs : List (List V)} (h1 : 1 ≤ n) (h4 : n ≤ 4) (h : RsOk rs) : (progT n rs).length ≤ 1606 * rs.length + 10 ∧ (((("inputs " ++ numS n) :: rs.map showRow).map (·.length)).sum ≤ 1604 * rs.length + 8) := by
  have s := join_len (s := " ") (k := 1) (m := 1604) (ps := rs.map showRow) (by decide +kernel) fun p hp => by
    obtain ⟨r, hr, rfl⟩ := List.mem_map.mp hp
    exact (show_len ⟨(h r hr).2.1, (h r hr).2.2⟩).1
  rw [List.length_map] at s
  have hh := (head_ok h1 h4).2.2.2
  have s2 : ((("inputs " ++ numS n) :: rs.map showRow).map (·.length)).sum ≤ 1604 * rs.length + 8 := by
    rw [List.map_cons, List.sum_cons]
    omega
  refine ⟨?_, s2⟩
  have j := StrLaws.join_length_le "; " (("inputs " ++ numS n) :: rs.map showRow)
  have l1 : (("; " : Str)).length = 2 := by decide +kernel
  rw [l1, List.length_cons, List.length_map] at j
  unfold progT
  rw [_root_.TL.join_eq]
  omega
/-! bounds on what a text tells -/
theorem partY_le {t y p : Str} (h : p ∈ Txt.split t y) : p.length ≤ t.length := by
  have e := congrArg _root_.TL.tl (StrLaws.join_split t y)
  rw [_root_.TL.tl_join] at e
  rw [_root_.TL.len_tl, _root_.TL.len_tl t, ← e]
  exact joinL_le _ (List.mem_map.mpr ⟨p, h, rfl⟩)
theorem partY_asc {t y p : Str} (h : Asc t) (m : p ∈ Txt.split t y) : Asc p := fun c hc => by
  have e := congrArg _root_.TL.tl (StrLaws.join_split t y)
  rw [_root_.TL.tl_join] at e
  refine h c ?_
  rw [← e]
  exact mem_joinL _ (List.mem_map.mpr ⟨p, m, rfl⟩) hc
theorem itemV_atom (p : Str) : Atom (itemV p) := by
  unfold itemV
  split
  · exact .i _
  · exact .s _
theorem splitY_ne (t y : Str) : Txt.split t y ≠ [] := fun z => by
  have := split_pos t y
  rw [z] at this
  exact absurd this (by decide)
theorem itemsV_row {t : Str} (h : t.length ≤ 3000) : RowIs (itemsV t) := by
  unfold itemsV
  have sl := split_le t " "
  refine ⟨?_, fun x m => ?_, by rw [List.length_map]; omega⟩
  · cases e : (Txt.split t " ").map itemV with
    | nil => exact .inl rfl
    | cons x xs =>
      have m : x ∈ (Txt.split t " ").map itemV := by rw [e]; exact List.mem_cons_self
      obtain ⟨p, _, rfl⟩ := List.mem_map.mp m
      have at1 := itemV_atom p
      clear e m
      generalize itemV p = x at at1 ⊢
      cases at1 with
      | s z => exact .inr (.inl ⟨_, _, rfl⟩)
      | i n => exact .inr (.inr ⟨_, _, rfl⟩)
  · obtain ⟨p, _, rfl⟩ := List.mem_map.mp m
    exact itemV_atom p
end BR

/-! ### what rows there are; the items of a text -/
namespace BR
open PySem PySem.Spec PyProof.Rows L2
theorem fm_cases : ∀ q ∈ fmT, (q.1 ∈ (["cmp", "mov", "swap"] : List Str) ∧ q.2 = "RR") ∨ (q.1 = "cmov" ∧ q.2 = "CRR") ∨ (q.1 = "jump" ∧ q.2 = "T") ∨ (q.1 = "jif" ∧ q.2 = "CT") ∨ (q.1 = "out" ∧ q.2 = "R") ∨ (q.1 = "stop" ∧ q.2 = "") := by decide +kernel
theorem sgn_RR : sgn "RR" = [.str "R", .str "R"] := by decide +kernel
theorem sgn_CRR : sgn "CRR" = [.str "C", .str "R", .str "R"] := by decide +kernel
theorem sgn_T : sgn "T" = [.str "T"] := by decide +kernel
theorem sgn_CT : sgn "CT" = [.str "C", .str "T"] := by decide +kernel
theorem sgn_R : sgn "R" = [.str "R"] := by decide +kernel
inductive RowC (ns : List Str) (size : Int) : List V → Prop
  | stop : RowC ns size [.str "stop"]
  | out {a : Str} : a ∈ ns → RowC ns size [.str "out", .str a]
  | two {w a b : Str} : w ∈ (["cmp", "mov", "swap"] : List Str) → a ∈ ns → b ∈ ns → RowC ns size [.str w, .str a, .str b]
  | cmov {c a b : Str} : c ∈ conds → a ∈ ns → b ∈ ns → RowC ns size [.str "cmov", .str c, .str a, .str b]
  | jump {g : Int} : 0 ≤ g → g ≤ size → RowC ns size [.str "jump", .int g]
  | jif {c : Str} {g : Int} : c ∈ conds → 0 ≤ g → g ≤ size → RowC ns size [.str "jif", .str c, .int g]
theorem isR {x : V} {ns : List Str} {size : Int} (h : itemOk (.str "R") x ns size = true) : ∃ a ∈ ns, x = .str a := by
  rw [item_R] at h
  cases x with
  | str z => exact ⟨z, of_decide_eq_true h, rfl⟩
  | _ => exact absurd (show false = true from h) (by decide)
theorem isC {x : V} {ns : List Str} {size : Int} (h : itemOk (.str "C") x ns size = true) : ∃ a ∈ conds, x = .str a := by
  rw [item_C] at h
  cases x with
  | str z => exact ⟨z, of_decide_eq_true h, rfl⟩
  | _ => exact absurd (show false = true from h) (by decide)
theorem isT {x : V} {ns : List Str} {size : Int} (h : itemOk (.str "T") x ns size = true) : ∃ g, 0 ≤ g ∧ g ≤ size ∧ x = .int g := by
  rw [item_T] at h
  cases x with
  | int i =>
    obtain ⟨a, b⟩ := Bool.and_eq_true_iff.mp h
    exact ⟨i, of_decide_eq_true a, of_decide_eq_true b, rfl⟩
  | _ => exact absurd (show false = true from h) (by decide)
theorem rowC_of {ns : List Str} {size : Int} {r : List V} (h : rowOk ns size r = true) : RowC ns size r := by
  obtain ⟨w, xs, f, rfl, fl⟩ := rowOk_shape h
  rw [rowOk_some fl] at h
  obtain ⟨c, al⟩ := Bool.and_eq_true_iff.mp h
  have c := of_decide_eq_true c
  rcases fm_cases _ (lookup_mem fl) with ⟨w3, rfl⟩ | ⟨e, rfl⟩ | ⟨e, rfl⟩ | ⟨e, rfl⟩ | ⟨e, rfl⟩ | ⟨e, rfl⟩
  · rw [sgn_RR] at al
    have c : xs.length = 2 := c
    match xs, c, al with
    | [x, y], _, al =>
      simp only [List.zip_cons_cons, List.zip_nil_right, List.all_cons, List.all_nil, Bool.and_true, Bool.and_eq_true] at al
      obtain ⟨a, ha, rfl⟩ := isR al.1
      obtain ⟨b, hb, rfl⟩ := isR al.2
      exact .two w3 ha hb
  · have e : w = "cmov" := e
    subst e
    rw [sgn_CRR] at al
    have c : xs.length = 3 := c
    match xs, c, al with
    | [x, y, z], _, al =>
      simp only [List.zip_cons_cons, List.zip_nil_right, List.all_cons, List.all_nil, Bool.and_true, Bool.and_eq_true] at al
      obtain ⟨d, hd, rfl⟩ := isC al.1
      obtain ⟨a, ha, rfl⟩ := isR al.2.1
      obtain ⟨b, hb, rfl⟩ := isR al.2.2
      exact .cmov hd ha hb
  · have e : w = "jump" := e
    subst e
    rw [sgn_T] at al
    have c : xs.length = 1 := c
    match xs, c, al with
    | [x], _, al =>
      simp only [List.zip_cons_cons, List.zip_nil_right, List.all_cons, List.all_nil, Bool.and_true, Bool.and_eq_true] at al
      obtain ⟨g, g0, g1, rfl⟩ := isT al
      exact .jump g0 g1
  · have e : w = "jif" := e
    subst e
    rw [sgn_CT] at al
    have c : xs.length = 2 := c
    match xs, c, al with
    | [x, y], _, al =>
      simp only [List.zip_cons_cons, List.zip_nil_right, List.all_cons, List.all_nil, Bool.and_true, Bool.and_eq_true] at al
      obtain ⟨d, hd, rfl⟩ := isC al.1
      obtain ⟨g, g0, g1, rfl⟩ := isT al.2
      exact .jif hd g0 g1
  · have e : w = "out" := e
    subst e
    rw [sgn_R] at al
    have c : xs.length = 1 := c
    match xs, c, al with
    | [x], _, al =>
      simp only [List.zip_cons_cons, List.zip_nil_right, List.all_cons, List.all_nil, Bool.and_true, Bool.and_eq_true] at al
      obtain ⟨a, ha, rfl⟩ := isR al
      exact .out ha
  · have e : w = "stop" := e
    subst e
    have c : xs.length = 0 := c
    match xs, c with
    | [], _ => exact .stop
theorem row_two {w a b : Str} {ns : List Str} {size : Int} (hw : w ∈ (["cmp", "mov", "swap"] : List Str)) (ha : a ∈ ns) (hb : b ∈ ns) : rowOk ns size [.str w, .str a, .str b] = true := by
  have : ∀ w ∈ (["cmp", "mov", "swap"] : List Str), fmT.lookup w = some ("RR" : Str) := by decide +kernel
  exact ok_RR (this w hw) ha hb
theorem rowC_ok {ns : List Str} {size : Int} {r : List V} (h : RowC ns size r) : rowOk ns size r = true := by
  cases h with
  | stop => exact ok_0
  | out a => exact ok_R a
  | two w a b => exact row_two w a b
  | cmov c a b => exact ok_CRR c a b
  | jump a b => exact ok_T ⟨a, b⟩
  | jif c a b => exact ok_CT c ⟨a, b⟩
/-! items of a text and back -/
theorem itemV_str {p z : Str} (h : itemV p = .str z) : p = z ∧ isNum p = false := by
  unfold itemV at h
  cases c : isNum p with
  | true => rw [c, if_pos rfl] at h; cases h
  | false => rw [c, if_neg (by decide)] at h; exact ⟨V.str.inj h, rfl⟩
theorem itemV_int {p : Str} {g : Int} (h : itemV p = .int g) : isNum p = true ∧ numOf p = g := by
  unfold itemV at h
  cases c : isNum p with
  | true => rw [c, if_pos rfl] at h; exact ⟨rfl, V.int.inj h⟩
  | false => rw [c, if_neg (by decide)] at h; cases h
theorem itemV_w {z : Str} (h : isNum z = false) : itemV z = .str z := by
  unfold itemV
  rw [if_neg (by rw [h]; decide)]
theorem itemV_n {p : Str} (h : isNum p = true) : itemV p = .int (numOf p) := by
  unfold itemV
  rw [if_pos h]
theorem w_item {z : Str} (h : z ∈ allW) : itemV z = .str z := itemV_w (w_text z h).1
theorem cond_in {c : Str} (h : c ∈ conds) : c ∈ allW := List.mem_append_right _ h
/-- what the law's own test of a row's items says -/
inductive ItemC (ns : List Str) (size : Int) : List Str → Prop
  | stop : ItemC ns size ["stop"]
  | out {a : Str} : a ∈ ns → ItemC ns size ["out", a]
  | two {w a b : Str} : w ∈ (["cmp", "mov", "swap"] : List Str) → a ∈ ns → b ∈ ns → ItemC ns size [w, a, b]
  | cmov {c a b : Str} : c ∈ conds → a ∈ ns → b ∈ ns → ItemC ns size ["cmov", c, a, b]
  | jump {g : Str} : isNum g = true → numOf g ≤ size → ItemC ns size ["jump", g]
  | jif {c g : Str} : c ∈ conds → isNum g = true → numOf g ≤ size → ItemC ns size ["jif", c, g]
theorem numOf_0 {p : Str} (h : isNum p = true) : 0 ≤ numOf p := by
  obtain ⟨_, h2, h3⟩ := isNum_digits h
  exact (numOf_lt h2 h3).1
theorem item_row {n : Nat} {size : Int} {xs : List Str} (h : ItemC (regs n) size xs) : rowOk (regs n) size (xs.map itemV) = true := by
  cases h with
  | stop => exact ok_0
  | out a =>
    rw [List.map_cons, List.map_cons, List.map_nil, w_item (z := "out") (by decide +kernel), w_item (regs_in a)]
    exact ok_R a
  | two w a b =>
    have w2 : ∀ w ∈ (["cmp", "mov", "swap"] : List Str), w ∈ allW := by decide +kernel
    rw [List.map_cons, List.map_cons, List.map_cons, List.map_nil, w_item (w2 _ w), w_item (regs_in a), w_item (regs_in b)]
    exact row_two w a b
  | cmov c a b =>
    rw [List.map_cons, List.map_cons, List.map_cons, List.map_cons, List.map_nil, w_item (z := "cmov") (by decide +kernel), w_item (cond_in c), w_item (regs_in a), w_item (regs_in b)]
    exact ok_CRR c a b
  | jump i g =>
    rw [List.map_cons, List.map_cons, List.map_nil, w_item (z := "jump") (by decide +kernel), itemV_n i]
    exact ok_T ⟨numOf_0 i, g⟩
  | jif c i g =>
    rw [List.map_cons, List.map_cons, List.map_cons, List.map_nil, w_item (z := "jif") (by decide +kernel), w_item (cond_in c), itemV_n i]
    exact ok_CT c ⟨numOf_0 i, g⟩
theorem row_item {n : Nat} {size : Int} {xs : List Str} (h : rowOk (regs n) size (xs.map itemV) = true) : ItemC (regs n) size xs := by
  have rc := rowC_of h
  generalize er : xs.map itemV = r at rc
  have un : ∀ {xs : List Str} {v : V} {l : List V}, xs.map itemV = v :: l → ∃ x r, xs = x :: r ∧ itemV x = v ∧ r.map itemV = l := fun {xs v l} e => by
    cases xs with
    | nil => cases e
    | cons x r =>
      injection e with e1 e2
      exact ⟨x, r, rfl, e1, e2⟩
  have nil : ∀ {xs : List Str}, xs.map itemV = [] → xs = [] := fun e => List.map_eq_nil_iff.mp e
  cases rc with
  | stop =>
    obtain ⟨x, r, rfl, e1, e2⟩ := un er
    obtain rfl := nil e2
    obtain ⟨rfl, _⟩ := itemV_str e1
    exact .stop
  | out a =>
    obtain ⟨x, r, rfl, e1, e2⟩ := un er
    obtain ⟨y, r, rfl, e3, e4⟩ := un e2
    obtain rfl := nil e4
    obtain ⟨rfl, _⟩ := itemV_str e1
    obtain ⟨rfl, _⟩ := itemV_str e3
    exact .out a
  | two w a b =>
    obtain ⟨x, r, rfl, e1, e2⟩ := un er
    obtain ⟨y, r, rfl, e3, e4⟩ := un e2
    obtain ⟨z, r, rfl, e5, e6⟩ := un e4
    obtain rfl := nil e6
    obtain ⟨rfl, _⟩ := itemV_str e1
    obtain ⟨rfl, _⟩ := itemV_str e3
    obtain ⟨rfl, _⟩ := itemV_str e5
    exact .two w a b
  | cmov c a b =>
    obtain ⟨x, r, rfl, e1, e2⟩ := un er
    obtain ⟨y, r, rfl, e3, e4⟩ := un e2
    obtain ⟨z, r, rfl, e5, e6⟩ := un e4
    obtain ⟨u, r, rfl, e7, e8⟩ := un e6
    obtain rfl := nil e8
    obtain ⟨rfl, _⟩ := itemV_str e1
    obtain ⟨rfl, _⟩ := itemV_str e3
    obtain ⟨rfl, _⟩ := itemV_str e5
    obtain ⟨rfl, _⟩ := itemV_str e7
    exact .cmov c a b
  | jump a b =>
    obtain ⟨x, r, rfl, e1, e2⟩ := un er
    obtain ⟨y, r, rfl, e3, e4⟩ := un e2
    obtain rfl := nil e4
    obtain ⟨rfl, _⟩ := itemV_str e1
    obtain ⟨i, e⟩ := itemV_int e3
    exact .jump i (by rw [e]; exact b)
  | jif c a b =>
    obtain ⟨x, r, rfl, e1, e2⟩ := un er
    obtain ⟨y, r, rfl, e3, e4⟩ := un e2
    obtain ⟨z, r, rfl, e5, e6⟩ := un e4
    obtain rfl := nil e6
    obtain ⟨rfl, _⟩ := itemV_str e1
    obtain ⟨rfl, _⟩ := itemV_str e3
    obtain ⟨i, e⟩ := itemV_int e5
    exact .jif c i (by rw [e]; exact b)
/-! the head of a program's text -/
theorem val_ge : ∀ (cs : List Nat) (a : Nat), a * 10 ^ cs.length ≤ cs.foldl (fun acc c => acc * 10 + (c - 48)) a
  | [], a => by simp
  | c :: cs, a => by
    have h := val_ge cs (a * 10 + (c - 48))
    rw [List.foldl_cons, List.length_cons, Nat.pow_succ]
    refine Nat.le_trans ?_ h
    rw [Nat.mul_comm (10 ^ cs.length) 10, ← Nat.mul_assoc]
    exact Nat.mul_le_mul_right _ (Nat.le_add_right _ _)
theorem num_one {p : Str} (h : isNum p = true) (h9 : numOf p ≤ 9) : ∃ c, _root_.TL.tl p = [c] ∧ numOf p = ((c - 48 : Nat) : Int) := by
  obtain ⟨ne, dig, _⟩ := isNum_digits h
  unfold isNum at h
  have h0 := (Bool.and_eq_true_iff.mp (Bool.and_eq_true_iff.mp (Bool.and_eq_true_iff.mp h).2).2).2
  unfold numOf at h9 ⊢
  unfold NumText.digitsVal at h9 ⊢
  cases e : _root_.TL.tl p with
  | nil => exact absurd e ne
  | cons c r =>
    rw [e] at h9 dig h0
    have dc := dig c List.mem_cons_self
    cases r with
    | nil => exact ⟨c, rfl, by simp⟩
    | cons d r =>
      refine absurd h9 ?_
      have c49 : 49 ≤ c := by
        rcases Bool.or_eq_true_iff.mp h0 with z | z
        · have z := of_decide_eq_true z
          rw [z] at e
          have : _root_.TL.tl "0" = [48] := by decide +kernel
          rw [this] at e
          cases e
        · have : ¬ (c :: d :: r).head? = some 48 := of_decide_eq_true (by simpa using z)
          have : c ≠ 48 := fun q => this (by rw [q]; rfl)
          have := dc.1
          omega
      have g := val_ge (d :: r) (0 * 10 + (c - 48))
      rw [List.foldl_cons]
      rw [List.length_cons, Nat.pow_succ] at g
      have p1 : 1 ≤ 10 ^ r.length := Nat.one_le_iff_ne_zero.mpr (Nat.pos_iff_ne_zero.mp (Nat.pow_pos (by decide)))
      have : 1 * (1 * 10) ≤ (0 * 10 + (c - 48)) * (10 ^ r.length * 10) := Nat.mul_le_mul (by omega) (Nat.mul_le_mul_right _ p1)
      omega
theorem head_num {p : Str} (h : isNum p = true) (h1 : 1 ≤ numOf p) (h4 : numOf p ≤ 4) : p ∈ (["1", "2", "3", "4"] : List Str) := by
  obtain ⟨c, e, v⟩ := num_one h (by omega)
  have : c = 49 ∨ c = 50 ∨ c = 51 ∨ c = 52 := by omega
  have ex : ∀ q : Str, _root_.TL.tl q = [c] → p = q := fun q hq => _root_.TL.ext_tl (by rw [e, hq])
  rcases this with rfl | rfl | rfl | rfl
  · rw [ex "1" (by decide +kernel)]; decide
  · rw [ex "2" (by decide +kernel)]; decide
  · rw [ex "3" (by decide +kernel)]; decide
  · rw [ex "4" (by decide +kernel)]; decide
theorem head_is : ∀ p ∈ (["1", "2", "3", "4"] : List Str), isNum p = true ∧ 1 ≤ numOf p ∧ numOf p ≤ 4 := by decide +kernel
theorem asc_ok {x : Str} (h : Asc x) : PyData.strOk x = true := by
  unfold PyData.strOk
  rw [← Array.all_toList, List.all_eq_true]
  intro c m
  have := h c m
  exact decide_eq_true (by omega)
theorem at_last {xs : List Str} (ne : xs ≠ []) : atI (xs.map V.str) (-1) = some (.str (xs.getLast ne)) := by
  unfold atI
  have l : 1 ≤ xs.length := Nat.one_le_iff_ne_zero.mpr fun z => ne (List.length_eq_zero_iff.mp z)
  rw [ixN_l (m := xs.length) (by rw [List.length_map]) l]
  show (xs.map V.str)[xs.length - 1]? = _
  rw [List.getElem?_map, ← List.getLast?_eq_getElem?, List.getLast?_eq_some_getLast ne]
  rfl
/-! short rows -/
theorem num_short : ∀ n ∈ List.range 100, (numS (n : Nat)).length ≤ 2 := by decide +kernel
theorem row_short {n : Nat} {size : Int} {r : List V} (hs : size ≤ 99) (h : rowOk (regs n) size r = true) : (showRow r).length ≤ 24 := by
  have at5 : ∀ x ∈ r, (atS x).length ≤ 5 := by
    have wl : ∀ z ∈ allW, z.length ≤ 5 := fun z m => (w_text z m).2.1
    have tl : ∀ g : Int, 0 ≤ g → g ≤ size → (atS (.int g)).length ≤ 5 := fun g g0 g1 => by
      have := num_short g.toNat (List.mem_range.mpr (by omega))
      rw [Int.toNat_of_nonneg g0] at this
      show (numS g).length ≤ 5
      omega
    have w3 : ∀ w ∈ (["cmp", "mov", "swap"] : List Str), w ∈ allW := by decide +kernel
    have fx : ∀ w ∈ (["stop", "out", "cmov", "jump", "jif"] : List Str), w.length ≤ 5 := by decide +kernel
    intro x hx
    cases rowC_of h with
    | stop =>
      rw [List.mem_singleton.mp hx]
      exact fx "stop" (by decide)
    | out a =>
      simp only [List.mem_cons, List.not_mem_nil, or_false] at hx
      rcases hx with rfl | rfl
      · exact fx "out" (by decide)
      · exact wl _ (regs_in a)
    | two w a b =>
      simp only [List.mem_cons, List.not_mem_nil, or_false] at hx
      rcases hx with rfl | rfl | rfl
      · exact wl _ (w3 _ w)
      · exact wl _ (regs_in a)
      · exact wl _ (regs_in b)
    | cmov c a b =>
      simp only [List.mem_cons, List.not_mem_nil, or_false] at hx
      rcases hx with rfl | rfl | rfl | rfl
      · exact fx "cmov" (by decide)
      · exact wl _ (cond_in c)
      · exact wl _ (regs_in a)
      · exact wl _ (regs_in b)
    | jump a b =>
      simp only [List.mem_cons, List.not_mem_nil, or_false] at hx
      rcases hx with rfl | rfl
      · exact fx "jump" (by decide)
      · exact tl _ a b
    | jif c a b =>
      simp only [List.mem_cons, List.not_mem_nil, or_false] at hx
      rcases hx with rfl | rfl | rfl
      · exact fx "jif" (by decide)
      · exact wl _ (cond_in c)
      · exact tl _ a b
  have s := join_len (s := " ") (k := 1) (m := 5) (ps := r.map atS) (by decide +kernel) fun p hp => by
    obtain ⟨x, hx, rfl⟩ := List.mem_map.mp hp
    exact at5 x hx
  rw [List.length_map] at s
  have j := StrLaws.join_length_le " " (r.map atS)
  have l1 : ((" " : Str)).length = 1 := by decide +kernel
  rw [l1, List.length_map] at j
  have := (row_atoms (Int.lt_of_le_of_lt hs (by decide +kernel)) h).2.1
  unfold showRow
  rw [_root_.TL.join_eq]
  omega
theorem prog_short {n : Int} {k : Nat} {size : Int} {rs : List (List V)} (h1 : 1 ≤ n) (h4 : n ≤ 4) (hs : size ≤ 99) (h : ∀ r ∈ rs, rowOk (regs k) size r = true) : (progT n rs).length ≤ 26 * rs.length + 10 := by
  have s := join_len (s := " ") (k := 1) (m := 24) (ps := rs.map showRow) (by decide +kernel) fun p hp => by
    obtain ⟨r, hr, rfl⟩ := List.mem_map.mp hp
    exact row_short hs (h r hr)
  rw [List.length_map] at s
  have hh := (head_ok h1 h4).2.2.2
  have j := StrLaws.join_length_le "; " (("inputs " ++ numS n) :: rs.map showRow)
  have l1 : (("; " : Str)).length = 2 := by decide +kernel
  rw [l1, List.length_cons, List.length_map, List.map_cons, List.sum_cons] at j
  unfold progT
  rw [_root_.TL.join_eq]
  omega
theorem due_facts {t : Str} {n : Int} {rs : List (List V)} (h : dueP t = some (n, rs)) : 1 ≤ n ∧ n ≤ 4 ∧ (∀ r ∈ rs, rowOk (regs n.toNat) rs.length r = true) ∧ rs.length ≤ t.length + 2 := by
  have sl := split_le t "; "
  cases e : (Txt.split t "; ").map itemsV with
  | nil =>
    unfold dueP at h
    rw [e] at h
    cases h
  | cons hs qs =>
    rw [dueP_cons e] at h
    have l := congrArg List.length e
    rw [List.length_map, List.length_cons] at l
    unfold dueHR at h
    split at h
    · split at h
      · rename_i c
        cases h
        exact ⟨c.2.1, c.2.2.1, List.all_eq_true.mp c.2.2.2, by omega⟩
      · cases h
    · cases h
theorem prog_nil (n : Int) : progT n [] = "inputs " ++ numS n := rfl
/-! words exchanged -/
theorem sum_joinL (S : List Nat) : ∀ ps : List (List Nat), (ps.map (·.length)).sum ≤ (_root_.TL.joinL S ps).length
  | [] => Nat.zero_le _
  | [p] => by simp [_root_.TL.joinL]
  | p :: q :: ps => by
    have := sum_joinL S (q :: ps)
    rw [show _root_.TL.joinL S (p :: q :: ps) = p ++ (S ++ _root_.TL.joinL S (q :: ps)) by simp [_root_.TL.joinL], List.map_cons, List.sum_cons, List.length_append, List.length_append]
    omega
theorem sum_parts (t y : Str) : ((Txt.split t y).map (·.length)).sum ≤ t.length := by
  have e := congrArg _root_.TL.tl (StrLaws.join_split t y)
  rw [_root_.TL.tl_join] at e
  have s := sum_joinL (_root_.TL.tl y) ((Txt.split t y).map _root_.TL.tl)
  rw [e, List.map_map, ← _root_.TL.len_tl t] at s
  refine Nat.le_trans (Nat.le_of_eq ?_) s
  exact congrArg List.sum (List.map_congr_left fun p _ => _root_.TL.len_tl p)
theorem swapped {xs : List Str} {i j : Nat} {a b : Str} (ha : xs[i]? = some a) (hb : xs[j]? = some b) : ((xs.set i b).set j a).length = xs.length ∧ ((((xs.set i b).set j a).map (·.length)).sum = (xs.map (·.length)).sum) ∧ ∀ p ∈ (xs.set i b).set j a, p ∈ xs := by
  obtain ⟨hi, rfl⟩ := List.getElem?_eq_some_iff.mp ha
  obtain ⟨hj, rfl⟩ := List.getElem?_eq_some_iff.mp hb
  have pm := List.set_set_perm (as := xs) hi hj
  exact ⟨pm.length_eq, (pm.map _).sum_nat, fun p m => pm.mem_iff.mp m⟩
theorem strs_eqv2 (xs ys : List Str) : PyData.eqv (.list (xs.map PyData.str)) (.list (ys.map PyData.str)) = decide (xs = ys) := strs_eqvA xs ys
end BR

/-! ### runs: the machine over a program's rows -/
namespace BR
open PySem PySem.Spec PyProof.Rows L2
/-- the place of a register -/
def pl (ns : List Str) (a : Str) : Nat := ns.idxOf a
def getR (ns : List Str) (v : List Int) (a : Str) : Int := v.getD (pl ns a) 0
def setR (ns : List Str) (v : List Int) (a : Str) (x : Int) : List Int := v.set (pl ns a) x
structure MS where
  row : Option Nat
  vals : List Int
  flag : Option Str
deriving DecidableEq
def isTrue' (f : Option Str) (c : Str) : Bool := match f with | some z => decide (z ∈ outsOf c) | none => false
/-- one step, done at the row number i -/
def stepRow (ns : List Str) (cut : Int) (i : Nat) (v : List Int) (f : Option Str) : List V → MS
  | [.str _] => ⟨none, v, f⟩
  | [.str _, .str _] => ⟨some (i + 1), v, f⟩
  | [.str _, .int g] => ⟨some g.toNat, v, f⟩
  | [.str _, .str c, .int g] => if isTrue' f c = true then ⟨some g.toNat, v, f⟩ else ⟨some (i + 1), v, f⟩
  | [.str w, .str a, .str b] => if w = "cmp" then ⟨some (i + 1), v, some (ocut cut (getR ns v a) (getR ns v b))⟩ else if w = "mov" then ⟨some (i + 1), setR ns v a (getR ns v b), f⟩ else ⟨some (i + 1), setR ns (setR ns v a (getR ns v b)) b (getR ns v a), f⟩
  | [.str _, .str c, .str a, .str b] => if isTrue' f c = true then ⟨some (i + 1), setR ns v a (getR ns v b), f⟩ else ⟨some (i + 1), v, f⟩
  | _ => ⟨none, v, f⟩
def needsF : List V → Bool
  | [.str _, .str _, .int _] => true
  | [.str _, .str _, .str _, .str _] => true
  | _ => false
def stepM (ns : List Str) (rs : List (List V)) (cut : Int) (s : MS) : MS := match s.row with | none => s | some i => stepRow ns cut i s.vals s.flag (rs.getD i [])
def endM (rs : List (List V)) (s : MS) : Option Str := match s.row with
  | none => some "stop"
  | some i => if i = rs.length then some "stop" else if needsF (rs.getD i []) = true ∧ s.flag = none then some "fault" else none
def itM (ns : List Str) (rs : List (List V)) (cut : Int) (s : MS) : Nat → MS
  | 0 => s
  | n + 1 => stepM ns rs cut (itM ns rs cut s n)
/-! where a state stands -/
def rowV (r : Option Nat) : V := match r with | none => .non | some i => .int (i : Nat)
def flagV (f : Option Str) : V := match f with | none => .non | some z => .str z
def StAt (H : Hp) (a : Addr) (s : MS) : Prop := ∃ v, H a = some (.tup [rowV s.row, .ref v, flagV s.flag]) ∧ H v = some (.tup (s.vals.map V.int))
theorem StAt.same {H H' : Hp} {a : Addr} {s : MS} (h : StAt H a s) (x : Same H H') : StAt H' a s := by
  obtain ⟨v, h1, h2⟩ := h
  exact ⟨v, x _ _ h1, x _ _ h2⟩
def keyM (s : MS) : NestedKey := .tup [(match s.row with | none => .none | some i => .num (i : Nat)), .tup (s.vals.map NestedKey.num), (match s.flag with | none => .none | some z => .text z)]
theorem key_inj {s t : MS} (h : keyM s = keyM t) : s = t := by
  obtain ⟨r, v, f⟩ := s
  obtain ⟨r', v', f'⟩ := t
  unfold keyM at h
  injection h with h
  injection h with h1 h
  injection h with h2 h
  injection h with h3 h
  injection h2 with h2
  have e1 : r = r' := by
    cases r <;> cases r' <;> first | rfl | (injection h1 with e; rw [Int.natCast_inj.mp e]) | exact nomatch h1
  have e2 : v = v' := by
    refine (List.map_inj_right fun a b e => ?_).mp h2
    injection e
  have e3 : f = f' := by
    cases f <;> cases f' <;> first | rfl | (injection h3 with e; rw [e]) | exact nomatch h3
  rw [e1, e2, e3]
theorem nk_ints {K : PySem.W.Frag} {H : Hp} : ∀ vs : List Int, NkAll K H (vs.map NestedKey.num) (vs.map V.int)
  | [] => .nil
  | i :: vs => .cons (.int i) (nk_ints vs)
theorem key_at {K : PySem.W.Frag} {H : Hp} {a : Addr} {s : MS} (h : StAt H a s) : NkAt K H (keyM s) (.ref a) := by
  obtain ⟨v, h1, h2⟩ := h
  refine .tup (SqT.of h1) (.cons ?_ (.cons (.tup (SqT.of h2) (nk_ints _)) (.cons ?_ .nil)))
  · unfold rowV
    cases s.row with
    | none => exact .non
    | some i => exact .int _
  · unfold flagV
    cases s.flag with
    | none => exact .non
    | some z => exact .str z
theorem key_depth_ints : ∀ vs : List Int, NestedKey.depthAll (vs.map NestedKey.num) = 0
  | [] => rfl
  | i :: vs => by
    show max 0 (NestedKey.depthAll (vs.map NestedKey.num)) = 0
    rw [key_depth_ints vs]
    rfl
theorem key_depth (s : MS) : (keyM s).depth ≤ 8 := by
  obtain ⟨r, v, f⟩ := s
  show NestedKey.depthAll [_, .tup (v.map NestedKey.num), _] + 1 ≤ 8
  have d0 : NestedKey.depth (match r with | none => NestedKey.none | some i => .num (i : Nat)) = 0 := by cases r <;> rfl
  have d2 : NestedKey.depth (match f with | none => NestedKey.none | some z => .text z) = 0 := by cases f <;> rfl
  have d1 : NestedKey.depth (.tup (v.map NestedKey.num)) = 1 := by
    show NestedKey.depthAll (v.map NestedKey.num) + 1 = 1
    rw [key_depth_ints]
  simp only [NestedKey.depthAll]
  rw [d0, d1, d2]
  decide
/-! placed rows, by their kind -/
inductive PlC (K : PySem.W.Frag) (H : Hp) (ns : List Str) (p : Addr) : List V → Prop
  | stop : H p = some (.tup [.str "stop"]) → PlC K H ns p [.str "stop"]
  | out {a : Str} : a ∈ ns → H p = some (.tup [.str "out", .int (pl ns a : Nat)]) → PlC K H ns p [.str "out", .str a]
  | two {w a b : Str} : w ∈ (["cmp", "mov", "swap"] : List Str) → a ∈ ns → b ∈ ns → H p = some (.tup [.str w, .int (pl ns a : Nat), .int (pl ns b : Nat)]) → PlC K H ns p [.str w, .str a, .str b]
  | cmov {c a b : Str} {q : Addr} : c ∈ conds → TupK K q (outsOf c) → a ∈ ns → b ∈ ns → H p = some (.tup [.str "cmov", .ref q, .int (pl ns a : Nat), .int (pl ns b : Nat)]) → PlC K H ns p [.str "cmov", .str c, .str a, .str b]
  | jump {g : Int} : H p = some (.tup [.str "jump", .int g]) → PlC K H ns p [.str "jump", .int g]
  | jif {c : Str} {g : Int} {q : Addr} : c ∈ conds → TupK K q (outsOf c) → H p = some (.tup [.str "jif", .ref q, .int g]) → PlC K H ns p [.str "jif", .str c, .int g]
theorem PlC.same {K : PySem.W.Frag} {H H' : Hp} {ns : List Str} {p : Addr} {r : List V} (h : PlC K H ns p r) (s : Same H H') : PlC K H' ns p r := by
  cases h with
  | stop e => exact .stop (s _ _ e)
  | out a e => exact .out a (s _ _ e)
  | two w a b e => exact .two w a b (s _ _ e)
  | cmov c q a b e => exact .cmov c q a b (s _ _ e)
  | jump e => exact .jump (s _ _ e)
  | jif c q e => exact .jif c q (s _ _ e)
theorem pl_of {ns : List Str} {z : Str} {j : Nat} (h1 : ns[j]? = some z) (h2 : ∀ m, m < j → ns[m]? ≠ some z) : pl ns z = j ∧ z ∈ ns := by
  have m := List.mem_of_getElem? h1
  refine ⟨?_, m⟩
  have lt := List.idxOf_lt_length_of_mem m
  have at1 : ns[ns.idxOf z]? = some z := by rw [List.getElem?_eq_getElem lt, List.getElem_idxOf lt]
  unfold pl
  rcases Nat.lt_trichotomy (ns.idxOf z) j with c | c | c
  · exact absurd at1 (h2 _ c)
  · exact c
  · obtain ⟨jl, e⟩ := List.getElem?_eq_some_iff.mp h1
    have := List.not_of_lt_findIdx (p := fun x => x == z) (xs := ns) (i := j) (show j < List.findIdx _ ns from c)
    rw [e] at this
    simp at this
theorem pl_lt {ns : List Str} {z : Str} (h : z ∈ ns) : pl ns z < ns.length := List.idxOf_lt_length_of_mem h
theorem kR {K : PySem.W.Frag} {ns : List Str} {x p : V} (h : PlRel K ns (.str "R") x p) : ∃ a, x = .str a ∧ a ∈ ns ∧ p = .int (pl ns a : Nat) := by
  rcases h with ⟨_, z, j, rfl, h1, h2, rfl⟩ | ⟨e, _⟩ | ⟨e, _⟩
  · obtain ⟨e, m⟩ := pl_of h1 h2
    exact ⟨z, rfl, m, by rw [e]⟩
  · exact absurd e (by decide)
  · exact absurd e (by decide)
theorem kC {K : PySem.W.Frag} {ns : List Str} {x p : V} (h : PlRel K ns (.str "C") x p) : ∃ c q, x = .str c ∧ c ∈ conds ∧ p = .ref q ∧ TupK K q (outsOf c) := by
  rcases h with ⟨e, _⟩ | ⟨_, z, b, rfl, m, rfl, t⟩ | ⟨e, _⟩
  · exact absurd e (by decide)
  · exact ⟨z, b, rfl, m, rfl, t⟩
  · exact absurd e (by decide)
theorem kT {K : PySem.W.Frag} {ns : List Str} {x p : V} (h : PlRel K ns (.str "T") x p) : p = x := by
  rcases h with ⟨e, _⟩ | ⟨e, _⟩ | ⟨_, e⟩
  · exact absurd e (by decide)
  · exact absurd e (by decide)
  · exact e
theorem fm_two : ∀ w ∈ (["cmp", "mov", "swap"] : List Str), fmT.lookup w = some ("RR" : Str) := by decide +kernel
theorem plC_of {K : PySem.W.Frag} {H : Hp} {ns : List Str} {p : Addr} {r : List V} {size : Int} (h : PlAt K H ns p r) (rc : RowC ns size r) : PlC K H ns p r := by
  obtain ⟨w, xs, f, ps, e, fl, ep, pr⟩ := h
  have two : ∀ {α β : Type} {R : α → β → Prop} {x y : α} {l : List β}, Paired R [x, y] l → ∃ u v, l = [u, v] ∧ R x u ∧ R y v := fun q => by
    cases q with | cons a q => cases q with | cons b q => cases q with | nil => exact ⟨_, _, rfl, a, b⟩
  have one : ∀ {α β : Type} {R : α → β → Prop} {x : α} {l : List β}, Paired R [x] l → ∃ u, l = [u] ∧ R x u := fun q => by
    cases q with | cons a q => cases q with | nil => exact ⟨_, rfl, a⟩
  cases rc with
  | stop =>
    injection e with e1 e2
    injection e1 with e1
    subst e1
    subst e2
    have : (sgn f).zip ([] : List V) = [] := List.zip_nil_right
    rw [this] at pr
    cases pr
    exact .stop ep
  | out a =>
    injection e with e1 e2
    injection e1 with e1
    subst e1
    subst e2
    obtain rfl : f = "R" := Option.some.inj (fl.symm.trans (show fmT.lookup ("out" : Str) = some ("R" : Str) by decide +kernel))
    rw [sgn_R] at pr
    obtain ⟨u, rfl, k⟩ := one pr
    obtain ⟨z, ez, m, rfl⟩ := kR k
    cases ez
    exact .out m ep
  | two hw a b =>
    injection e with e1 e2
    injection e1 with e1
    subst e1
    subst e2
    obtain rfl : f = "RR" := Option.some.inj (fl.symm.trans (fm_two _ hw))
    rw [sgn_RR] at pr
    obtain ⟨u, v, rfl, k1, k2⟩ := two pr
    obtain ⟨z, ez, m1, rfl⟩ := kR k1
    obtain ⟨y, ey, m2, rfl⟩ := kR k2
    cases ez
    cases ey
    exact .two hw m1 m2 ep
  | cmov c a b =>
    injection e with e1 e2
    injection e1 with e1
    subst e1
    subst e2
    obtain rfl : f = "CRR" := Option.some.inj (fl.symm.trans (show fmT.lookup ("cmov" : Str) = some ("CRR" : Str) by decide +kernel))
    rw [sgn_CRR] at pr
    cases pr with
    | cons k0 pr =>
      obtain ⟨u, v, rfl, k1, k2⟩ := two pr
      obtain ⟨d, q, ed, md, rfl, t⟩ := kC k0
      obtain ⟨z, ez, m1, rfl⟩ := kR k1
      obtain ⟨y, ey, m2, rfl⟩ := kR k2
      cases ed
      cases ez
      cases ey
      exact .cmov md t m1 m2 ep
  | jump a b =>
    injection e with e1 e2
    injection e1 with e1
    subst e1
    subst e2
    obtain rfl : f = "T" := Option.some.inj (fl.symm.trans (show fmT.lookup ("jump" : Str) = some ("T" : Str) by decide +kernel))
    rw [sgn_T] at pr
    obtain ⟨u, rfl, k⟩ := one pr
    rw [kT k] at ep
    exact .jump ep
  | jif c a b =>
    injection e with e1 e2
    injection e1 with e1
    subst e1
    subst e2
    obtain rfl : f = "CT" := Option.some.inj (fl.symm.trans (show fmT.lookup ("jif" : Str) = some ("CT" : Str) by decide +kernel))
    rw [sgn_CT] at pr
    obtain ⟨u, v, rfl, k1, k2⟩ := two pr
    obtain ⟨d, q, ed, md, rfl, t⟩ := kC k1
    cases ed
    rw [kT k2] at ep
    exact .jif md t ep
/-! all states that a run can come to -/
def allL (vs : List Int) : Nat → List (List Int)
  | 0 => [[]]
  | k + 1 => (allL vs k).flatMap fun l => vs.map fun x => x :: l
theorem allL_mem {vs : List Int} : ∀ {k : Nat} {l : List Int}, l.length = k → (∀ x ∈ l, x ∈ vs) → l ∈ allL vs k
  | 0, [], _, _ => List.mem_singleton.mpr rfl
  | k + 1, x :: l, h, a => by
    refine List.mem_flatMap.mpr ⟨l, allL_mem (by simpa using h) (fun y m => a y (List.mem_cons_of_mem _ m)), ?_⟩
    exact List.mem_map.mpr ⟨x, a x List.mem_cons_self, rfl⟩
theorem allL_len (vs : List Int) : ∀ k : Nat, (allL vs k).length = vs.length ^ k
  | 0 => rfl
  | k + 1 => by
    have h : ∀ L : List (List Int), (L.flatMap fun l => vs.map fun x => x :: l).length = L.length * vs.length := fun L => by
      induction L with
      | nil => simp
      | cons a L ih => rw [List.flatMap_cons, List.length_append, ih, List.length_map, List.length_cons, Nat.succ_mul, Nat.add_comm]
    show ((allL vs k).flatMap _).length = _
    rw [h, allL_len vs k, Nat.pow_succ]
/-- the flags -/
def flagsL : List (Option Str) := none :: outs.map some
def allM (n k : Nat) (vs : List Int) : List MS := (none :: (List.range (n + 1)).map some).flatMap fun r => (allL vs k).flatMap fun v => flagsL.map fun f => ⟨r, v, f⟩
theorem allM_mem {n k : Nat} {vs : List Int} {s : MS} (h1 : ∀ i, s.row = some i → i ≤ n) (h2 : s.vals.length = k) (h3 : ∀ x ∈ s.vals, x ∈ vs) (h4 : ∀ z, s.flag = some z → z ∈ outs) : s ∈ allM n k vs := by
  obtain ⟨r, v, f⟩ := s
  refine List.mem_flatMap.mpr ⟨r, ?_, List.mem_flatMap.mpr ⟨v, allL_mem h2 h3, List.mem_map.mpr ⟨f, ?_, rfl⟩⟩⟩
  · cases r with
    | none => exact List.mem_cons_self
    | some i => exact List.mem_cons_of_mem _ (List.mem_map.mpr ⟨i, List.mem_range.mpr (Nat.lt_succ_of_le (h1 i rfl)), rfl⟩)
  · cases f with
    | none => exact List.mem_cons_self
    | some z => exact List.mem_cons_of_mem _ (List.mem_map.mpr ⟨z, h4 z rfl, rfl⟩)
theorem allM_len (n k : Nat) (vs : List Int) : (allM n k vs).length = (n + 2) * (vs.length ^ k * 6) := by
  have h : ∀ {α β : Type} (f : α → List β) (m : Nat) (L : List α), (∀ x ∈ L, (f x).length = m) → (L.flatMap f).length = L.length * m := fun f m L => by
    induction L with
    | nil => intro _; simp
    | cons a L ih =>
      intro q
      rw [List.flatMap_cons, List.length_append, q a List.mem_cons_self, ih fun x m => q x (List.mem_cons_of_mem _ m), List.length_cons, Nat.succ_mul, Nat.add_comm]
  unfold allM
  rw [h _ (vs.length ^ k * 6) _ fun r _ => ?_]
  · rw [List.length_cons, List.length_map, List.length_range]
  · rw [h _ 6 _ fun v _ => ?_, allL_len]
    rw [List.length_map]
    decide
theorem ocut_out (c x y : Int) : ocut c x y ∈ outs := by
  unfold ocut
  split
  · decide
  · split <;> split <;> decide
/-- a state of a run -/
structure MOk (ns : List Str) (n : Nat) (vs : List Int) (s : MS) : Prop where
  row : ∀ i, s.row = some i → i ≤ n
  len : s.vals.length = ns.length
  val : ∀ x ∈ s.vals, x ∈ vs
  fl : ∀ z, s.flag = some z → z ∈ outs
theorem getR_mem {ns : List Str} {v vs : List Int} {a : Str} (hl : v.length = ns.length) (ha : a ∈ ns) (h : ∀ x ∈ v, x ∈ vs) : getR ns v a ∈ vs := by
  have lt : pl ns a < v.length := by rw [hl]; exact pl_lt ha
  unfold getR
  rw [List.getD_eq_getElem?_getD, List.getElem?_eq_getElem lt]
  exact h _ (List.getElem_mem lt)
theorem setR_ok {ns : List Str} {v vs : List Int} {a : Str} {x : Int} (h : ∀ y ∈ v, y ∈ vs) (hx : x ∈ vs) : (setR ns v a x).length = v.length ∧ ∀ y ∈ setR ns v a x, y ∈ vs := by
  refine ⟨List.length_set, fun y m => ?_⟩
  rcases List.mem_or_eq_of_mem_set m with m | rfl
  · exact h y m
  · exact hx
theorem step_ok {ns : List Str} {rs : List (List V)} {vs : List Int} {cut : Int} {s : MS} (rok : ∀ r ∈ rs, RowC ns rs.length r) (h : MOk ns rs.length vs s) (e : endM rs s = none) : MOk ns rs.length vs (stepM ns rs cut s) := by
  obtain ⟨r, v, f⟩ := s
  obtain ⟨h1, h2, h3, h4⟩ := h
  cases r with
  | none => exact absurd e (by simp [endM])
  | some i =>
    have il : i ≤ rs.length := h1 i rfl
    have ne : i ≠ rs.length := fun z => by
      unfold endM at e
      simp [z] at e
    have lt : i < rs.length := by omega
    have ge : rs.getD i [] = rs[i] := by rw [List.getD_eq_getElem?_getD, List.getElem?_eq_getElem lt]; rfl
    have rc := rok _ (List.getElem_mem lt)
    show MOk ns rs.length vs (stepRow ns cut i v f (rs.getD i []))
    rw [ge]
    have up : ∀ j, some (i + 1) = some j → j ≤ rs.length := fun j z => by
      cases z
      omega
    generalize rs[i] = row at rc
    cases rc with
    | stop => exact ⟨fun j z => (by cases z), h2, h3, h4⟩
    | out a => exact ⟨up, h2, h3, h4⟩
    | two w a b =>
      show MOk ns rs.length vs (if _ then _ else if _ then _ else _)
      split
      · exact ⟨up, h2, h3, fun z q => by cases q; exact ocut_out _ _ _⟩
      · split
        · obtain ⟨s1, s2⟩ := setR_ok (ns := ns) (a := _) h3 (getR_mem h2 b h3)
          exact ⟨up, s1.trans h2, s2, h4⟩
        · obtain ⟨s1, s2⟩ := setR_ok (ns := ns) (a := _) h3 (getR_mem h2 b h3)
          obtain ⟨s3, s4⟩ := setR_ok (ns := ns) (a := _) s2 (getR_mem h2 a h3)
          exact ⟨up, s3.trans (s1.trans h2), s4, h4⟩
    | cmov c a b =>
      show MOk ns rs.length vs (if _ then _ else _)
      split
      · obtain ⟨s1, s2⟩ := setR_ok (ns := ns) (a := _) h3 (getR_mem h2 b h3)
        exact ⟨up, s1.trans h2, s2, h4⟩
      · exact ⟨up, h2, h3, h4⟩
    | jump a b => exact ⟨fun j z => (by cases z; omega), h2, h3, h4⟩
    | jif c a b =>
      show MOk ns rs.length vs (if _ then _ else _)
      split
      · exact ⟨fun j z => (by cases z; omega), h2, h3, h4⟩
      · exact ⟨up, h2, h3, h4⟩
/-- how a walk from s0 ends behind n steps -/
structure WalkIs (ns : List Str) (rs : List (List V)) (cut : Int) (s0 : MS) (n : Nat) (ending : Str) : Prop where
  on : ∀ i, i < n → endM rs (itM ns rs cut s0 i) = none
  new : ∀ i j, i < j → j < n → itM ns rs cut s0 i ≠ itM ns rs cut s0 j
  ends : (ending = "endless" ∧ ∃ i, i < n ∧ itM ns rs cut s0 i = itM ns rs cut s0 n) ∨ ((∀ i, i < n → itM ns rs cut s0 i ≠ itM ns rs cut s0 n) ∧ endM rs (itM ns rs cut s0 n) = some ending)
theorem it_ok {ns : List Str} {rs : List (List V)} {vs : List Int} {cut : Int} {s0 : MS} (rok : ∀ r ∈ rs, RowC ns rs.length r) (h : MOk ns rs.length vs s0) : ∀ n, (∀ i, i < n → endM rs (itM ns rs cut s0 i) = none) → MOk ns rs.length vs (itM ns rs cut s0 n)
  | 0, _ => h
  | n + 1, on => step_ok rok (it_ok rok h n fun i hi => on i (by omega)) (on n (by omega))
/-- a walk that goes on with new states can't be longer than there are states -/
theorem walk_le {ns : List Str} {rs : List (List V)} {vs : List Int} {cut : Int} {s0 : MS} {n : Nat} (rok : ∀ r ∈ rs, RowC ns rs.length r) (h : MOk ns rs.length vs s0) (on : ∀ i, i < n → endM rs (itM ns rs cut s0 i) = none) (new : ∀ i j, i < j → j < n → itM ns rs cut s0 i ≠ itM ns rs cut s0 j) :
    n ≤ (rs.length + 2) * (vs.length ^ ns.length * 6) := by
  rw [← allM_len]
  have nd : ((List.range n).map (itM ns rs cut s0)).Nodup := by
    refine List.pairwise_iff_getElem.mpr fun i j hi hj lt => ?_
    rw [List.length_map, List.length_range] at hi hj
    rw [List.getElem_map, List.getElem_map, List.getElem_range, List.getElem_range]
    exact new i j lt hj
  have sub : (List.range n).map (itM ns rs cut s0) ⊆ allM rs.length ns.length vs := fun s m => by
    obtain ⟨i, hi, rfl⟩ := List.mem_map.mp m
    have il := List.mem_range.mp hi
    obtain ⟨a, b, c, d⟩ := it_ok rok h i fun j hj => on j (by omega)
    exact allM_mem a b c d
  have := nd.length_le_of_subset sub
  rw [List.length_map, List.length_range] at this
  exact this
end BR

/-! ### list(d) of a dict whose keys are tuples, nested too -/
namespace BR
open PySem PySem.Spec PyProof.Rows L2
def rListN (K : PySem.W.Frag) (P : Program) (w : World) : List V → Hp → VK → Prop := fun xs H Q => ∃ (d : Addr) (kvs : NEs), xs = [.ref d] ∧ NDict K P w H d kvs ∧ ∀ l, H l = none → Q (.ref l) (L2.upd H l (.lst (kvs.map fun e => V.ref e.2.1)))
theorem vals_adr : ∀ as : List Addr, Vals (as.map V.ref) (as.map Value.ref)
  | [] => .nil
  | a :: as => .cons rfl (vals_adr as)
theorem NR.adr {kvs : NEs} {xs : List (NestedKey × Addr × Value)} (r : NR kvs xs) : kvs.map (fun e => e.2.1) = xs.map (fun x => x.2.1) := by
  induction r with
  | nil => rfl
  | cons q t ih => rw [List.map_cons, List.map_cons, ih, q.2.1]
theorem call_listN {X : Cx} (hc : X.calm = true) : CallR X (.type "list") (rListN X.K X.prog X.w) := by
  rintro pins s σ H xs us Q I r ⟨d, kvs, rfl, D, q⟩
  obtain ⟨u, rfl, rx⟩ := r.one
  obtain rfl : u = Value.ref d := rx
  obtain ⟨z, lo, ys, rel, o, es, ep, ho, ex, dt, en, _, _⟩ := D.of I.hok I.kIn
  have n1 : es.size = ys.length := size_of_entries en
  have n2 : kvs.length = ys.length := Paired.length rel
  refine PySem.W.kdl_call (kdl_raw lo ex dt) (I.ok.hd hc) ho (by omega) fun h' tk got c kp at1 items => ?_
  have adr : got.toList = (kvs.map fun e => e.2.1).map Value.ref := by
    rw [rel.adr, List.map_map]
    refine List.ext_getElem? fun j => ?_
    rw [List.getElem?_map]
    have gl : got.toList.length = ys.length := by rw [Array.length_toList, items.1]; exact n1
    by_cases hj : j < ys.length
    · obtain ⟨v, hv⟩ : ∃ v, got.toList[j]? = some v := ⟨got.toList[j]'(by omega), List.getElem?_eq_getElem (by omega)⟩
      obtain ⟨y, hy⟩ : ∃ y, ys[j]? = some y := ⟨ys[j], List.getElem?_eq_getElem hj⟩
      obtain ⟨e0, he, hk⟩ := items.2 j v (by rw [← Array.getElem?_toList]; exact hv)
      have en2 := entry_at en j
      rw [he, hy, Option.map_some] at en2
      rw [hv, hy, hk, Option.some.inj en2]
      rfl
    · rw [List.getElem?_eq_none (by omega), List.getElem?_eq_none (by omega)]
      rfl
  have rv : Vals (kvs.map fun e => V.ref e.2.1) got.toList := by
    rw [adr]
    have := vals_adr (kvs.map fun e => e.2.1)
    rwa [List.map_map] at this
  refine ⟨.ref s.heap.objs.size, _, I.laid (t' := tk) (o := .lst (kvs.map fun e => V.ref e.2.1)) kp (Nat.le_refl _) ?_, rfl, q _ (I.hok.fresh (Nat.le_refl _))⟩
  exact ⟨by rw [List.length_map]; exact z, got.toList, c, rv, by rw [Array.toArray_toList]; exact at1⟩
theorem slA_any {K : PySem.W.Frag} {a : Addr} {xs : List V} {lo hi : Option Int} {H : Hp} {Q : VK} (h : SqT K H a xs) (k : ∀ p H', Same H H' → SqT K H' p (cutV xs lo hi) → Q (.ref p) H') : rSlA K (.ref a) lo hi H Q := by
  refine ⟨a, xs, rfl, h, fun c => k a H (Same.refl H) ?_, fun c p hp => k p _ (sameNew hp) (SqT.of upd_same)⟩
  have e : cutV xs lo hi = xs := by
    unfold cutV
    rw [c.1, c.2, List.drop_zero, Nat.sub_zero, List.take_length]
  rw [e]
  exact h
theorem at_nat {xs : List V} {i : Nat} {v : V} (h : xs[i]? = some v) : atI xs (i : Int) = some v := by
  have il := (List.getElem?_eq_some_iff.mp h).1
  unfold atI ixN
  rw [if_pos (by omega), if_pos (by omega)]
  show xs[(i : Int).toNat]? = _
  rw [Int.toNat_natCast, h]
theorem noP {σ : L2.St} {H : Hp} {Q : Option Int → Hp → Prop} (h : Q none H) : tNoPart σ H Q := h
theorem getR_at {ns : List Str} {vals : List Int} {a : Str} (ha : a ∈ ns) (hl : vals.length = ns.length) : (vals.map V.int)[pl ns a]? = some (.int (getR ns vals a)) := by
  have lt : pl ns a < vals.length := by rw [hl]; exact pl_lt ha
  unfold getR
  rw [List.getElem?_map, List.getD_eq_getElem?_getD, List.getElem?_eq_getElem lt]
  rfl
theorem set_cut {ws : List Int} {j : Nat} {x : Int} (h : j < ws.length) : cutV (ws.map V.int) none (some (j : Int)) ++ (V.int x :: (cutV (ws.map V.int) (some ((j : Int) + 1)) none ++ [])) = (ws.set j x).map V.int := by
  have hm : (ws.map V.int).length = ws.length := List.length_map _
  rw [cut_pre (by omega), show ((j : Int) + 1) = ((j + 1 : Nat) : Int) by omega, cut_post (by omega), List.append_nil, List.set_eq_take_append_cons_drop, if_pos h, List.map_append, List.map_cons, List.map_take, List.map_drop]
end BR

/-! ### runs: states as data, a tuple many times, outputs and what repeats -/
namespace BR
open PySem PySem.Spec PyProof.Rows L2
def roD : Option Nat → PyData
  | none => .none
  | some i => .int (i : Nat)
def fgD : Option Str → PyData
  | none => .none
  | some z => .str z
def stD (s : MS) : PyData := .tuple [roD s.row, .tuple (s.vals.map PyData.int), fgD s.flag]
theorem st_dp {K : PySem.W.Frag} {H : Hp} {a : Addr} {s : MS} (h : StAt H a s) : Dp K H (.ref a) (stD s) := by
  obtain ⟨v, h1, h2⟩ := h
  refine .tup (SqT.of h1) (.cons ?_ (.cons (.tup (SqT.of h2) (ints_all _)) (.cons ?_ .nil)))
  · unfold rowV roD
    cases s.row with
    | none => exact .non
    | some i => exact .int _
  · unfold flagV fgD
    cases s.flag with
    | none => exact .non
    | some z => exact .str z
theorem sts_dp {K : PySem.W.Frag} {H : Hp} : ∀ {as : List Addr} {ss : List MS}, Paired (StAt H) as ss → DpAll K H (as.map V.ref) (ss.map stD)
  | [], [], _ => .nil
  | a :: as, s :: ss, .cons r p => .cons (st_dp r) (sts_dp p)
theorem st_eqv (s t : MS) : PyData.eqv (stD s) (stD t) = decide (s = t) := by
  obtain ⟨r, v, f⟩ := s
  obtain ⟨r', v', f'⟩ := t
  show (PyData.eqv (roD r) (roD r') && (PyData.eqv (.tuple (v.map PyData.int)) (.tuple (v'.map PyData.int)) && (PyData.eqv (fgD f) (fgD f') && true))) = _
  rw [ints_eqvT]
  have e1 : PyData.eqv (roD r) (roD r') = decide (r = r') := by
    cases r <;> cases r' <;> first | rfl | skip
    rename_i a b
    show ((a : Int) == (b : Int)) = _
    by_cases c : a = b
    · rw [c]; simp
    · rw [decide_eq_false (by simpa using c)]
      exact beq_eq_false_iff_ne.mpr (by omega)
  have e2 : PyData.eqv (fgD f) (fgD f') = decide (f = f') := by
    cases f <;> cases f' <;> first | rfl | skip
    rename_i a b
    show (a == b) = _
    by_cases c : a = b
    · rw [c]; simp
    · rw [decide_eq_false (by simpa using c)]
      exact beq_eq_false_iff_ne.mpr c
  rw [e1, e2]
  by_cases c1 : r = r' <;> by_cases c2 : v = v' <;> by_cases c3 : f = f' <;> simp [c1, c2, c3]
theorem out_ok : ∀ z ∈ outs, PyData.strOk z = true := by decide +kernel
theorem st_lay {s : MS} (h : ∀ z, s.flag = some z → z ∈ outs) : (stD s).canLay0 = true ∧ (stD s).depth ≤ 2 := by
  obtain ⟨r, v, f⟩ := s
  obtain ⟨i1, i2⟩ := ints_lay v
  have a1 : (roD r).canLay0 = true ∧ (roD r).depth = 0 := by cases r <;> exact ⟨rfl, rfl⟩
  have a3 : (fgD f).canLay0 = true ∧ (fgD f).depth = 0 := by
    cases f with
    | none => exact ⟨rfl, rfl⟩
    | some z => exact ⟨out_ok z (h z rfl), rfl⟩
  refine ⟨?_, ?_⟩
  · show ((roD r).canLay0 && (PyData.canLayAll0 (v.map PyData.int) && ((fgD f).canLay0 && true))) = true
    rw [a1.1, i1, a3.1]
    rfl
  · show max (roD r).depth (max (PyData.depthAll (v.map PyData.int) + 1) (max (fgD f).depth 0)) + 1 ≤ 2
    rw [a1.2, i2, a3.2]
    decide
theorem sts_lay : ∀ {ss : List MS}, (∀ s ∈ ss, ∀ z, s.flag = some z → z ∈ outs) → PyData.canLayAll0 (ss.map stD) = true ∧ PyData.depthAll (ss.map stD) ≤ 2
  | [], _ => ⟨rfl, by decide⟩
  | s :: ss, h => by
    obtain ⟨a, b⟩ := st_lay (h s List.mem_cons_self)
    obtain ⟨c, d⟩ := sts_lay (ss := ss) fun t m => h t (List.mem_cons_of_mem _ m)
    refine ⟨?_, ?_⟩
    · show ((stD s).canLay0 && PyData.canLayAll0 (ss.map stD)) = true
      rw [a, c]
      rfl
    · show max (stD s).depth (PyData.depthAll (ss.map stD)) ≤ 2
      omega
theorem sts_shaped {ss : List MS} (h : ∀ s ∈ ss, ∀ z, s.flag = some z → z ∈ outs) : SeqAt.shaped (.list (ss.map stD)) = true := by
  obtain ⟨h1, h2⟩ := sts_lay h
  unfold SeqAt.shaped
  show (PyData.canLayAll0 (ss.map stD) && decide (PyData.depthAll (ss.map stD) + 1 ≤ 64)) = true
  rw [h1, decide_eq_true (by omega)]
  rfl
theorem st_shaped {s : MS} (h : ∀ z, s.flag = some z → z ∈ outs) : SeqAt.shaped (stD s) = true := by
  obtain ⟨h1, h2⟩ := st_lay h
  unfold SeqAt.shaped
  rw [h1, decide_eq_true (by omega)]
  rfl
/-! a tuple many times, of any length -/
def rRepW (K : PySem.W.Frag) : R2 := fun x y H Q => ∃ l k xs, x = .ref l ∧ y = .int k ∧ SqT K H l xs ∧ xs ≠ [] ∧ 2 ≤ k ∧ xs.length * k.toNat ≤ 3000000 ∧ ∀ p, H p = none → Q (.ref p) (upd H p (.tup (List.replicate k.toNat xs).flatten))
theorem op_repW {X : Cx} : OpR X (binaryOp .Mult) (rRepW X.K) := by
  rintro pins s σ H x y v u Q I rx ry ⟨l, k, xs, rfl, rfl, hT, hne, hk, hz, q⟩
  cases rx
  obtain ⟨t, rfl⟩ := ry
  obtain ⟨its, rel, ⟨⟨cls, dd, data, sl⟩, ho, hc, n, hd⟩, hs⟩ := I.tuple hT
  simp only at hc hd
  subst hc hd
  obtain ⟨m, rfl⟩ : ∃ m : Nat, k = (m : Int) := ⟨k.toNat, by omega⟩
  rw [Int.toNat_natCast] at hz q
  have hle : its.toArray.size = xs.length := by rw [List.size_toArray]; exact rel.length.symm
  have x1 : 1 ≤ xs.length := Nat.one_le_iff_ne_zero.mpr fun z => hne (List.eq_nil_of_length_eq_zero z)
  have emp : its.toArray.isEmpty = false := by
    rw [Array.isEmpty, decide_eq_false (by omega)]
  have mz : m ≤ 3000000 := Nat.le_trans (by rw [Nat.mul_comm]; exact Nat.le_mul_of_pos_right m x1) hz
  have pz : ((its.toArray.size : Nat) : Int) * (m : Int) ≤ 3000000 := by
    rw [hle, ← Int.natCast_mul]
    omega
  have len : (List.replicate m its).flatten.length ≤ sizeLine := by
    rw [PyProof.Rows.lm_len_rep_flat, sizeLine_eq, ← List.size_toArray, hle, Nat.mul_comm]
    omega
  have c4 : Builtin.Tuple.tupleTooMany (((its.toArray.size : Nat) : Int) * (m : Int)) = false := by
    unfold Builtin.Tuple.tupleTooMany
    rw [sizeLine_eq]
    exact decide_eq_false (by omega)
  have row := tuple_mulW l its.toArray n dd sl (m : Int) t (by rw [decide_eq_false (by omega), decide_eq_false (by omega)]; rfl) (by rw [emp, Bool.false_or]; exact beq_eq_false_iff_ne.mpr (by omega)) (by rw [emp, Bool.or_false]; exact decide_eq_false (by omega)) (by omega) c4 (by rw [Int.toNat_natCast, size_rep, List.size_toArray]; exact len)
  refine wpAny_binaryOp_repeat_ref (T := "tuple") (U := "int") (by decide) ⟨_, ho, rfl⟩ (fun s' => typeIs_int s' m t) noFill_tuple_mul F.fills_int_mul F.slot_int_rmul repeat_tuple F.slot_int_index.lookup
    (call_meets F.slot_int_rmul (typeIs_int s m t) F.entry_int_rmul (F.args_int_rmul_2 _ _) (int_rmul_tuple m t l its.toArray n dd sl)
      ⟨ho, rfl, ⟨_, ho, rfl⟩, call_meets F.slot_tuple_mul ⟨_, ho, rfl⟩ F.entry_tuple_mul (F.args_tuple_mul_2 _ _) row ⟨ho, ?_⟩⟩)
  rw [Int.toNat_natCast, size_rep]
  refine ⟨.ref s.heap.objs.size, _, I.laid (t' := s.toks) (o := .tup (List.replicate m xs).flatten) (fun b ob q => Heap.get?_push_of_some _ q) (Nat.le_refl _) ?_, rfl, q _ (I.hok.fresh (Nat.le_refl _))⟩
  exact ⟨by rw [PyProof.Rows.lm_len_rep_flat, sizeLine_eq, Nat.mul_comm]; omega, _, rel.rep m, IsTup.new _ _⟩
end BR

/-! ### behaviours in Lean, and behaviours of turned words -/
namespace BR
open PySem PySem.Spec PyProof.Rows L2
/-- the state in which a run begins -/
def begM (vs : List Int) : MS := ⟨some 0, vs ++ [vs.getD 0 0, vs.getD 0 0], none⟩
def outM (ns : List Str) (rs : List (List V)) (s : MS) : Option Int := match s.row with
  | none => none
  | some i => match rs.getD i [] with
    | [.str _, .str a] => some (getR ns s.vals a)
    | _ => none
def outsM (ns : List Str) (rs : List (List V)) (ss : List MS) : List Int := ss.filterMap (outM ns rs)
def Part (ring : List Int) (k : Nat) : Prop := ring.length % k = 0 ∧ ring = (List.replicate (ring.length / k) (ring.take k)).flatten
def PartIs (ring : List Int) (k : Nat) : Prop := 1 ≤ k ∧ k ≤ ring.length ∧ Part ring k ∧ ∀ j, 1 ≤ j → j < k → ¬ Part ring j
def Mt (xs r : List Int) (j : Nat) : Prop := xs[xs.length - 1 - j]? = r[r.length - 1 - j % r.length]?
def TurnIs (xs r : List Int) (t : Nat) : Prop := t ≤ xs.length ∧ (∀ j, j < t → Mt xs r j) ∧ (t < xs.length → ¬ Mt xs r t)
def rotS (r : List Int) (t : Nat) : Nat := ((-(t : Int)) % (r.length : Int)).toNat
def rotL (r : List Int) (t : Nat) : List Int := r.drop (rotS r t) ++ r.take (rotS r t)
def ShortIs (xs ring o r : List Int) : Prop := (ring = [] ∧ o = xs ∧ r = []) ∨ (ring ≠ [] ∧ ∃ k t, PartIs ring k ∧ TurnIs xs (ring.take k) t ∧ o = xs.take (xs.length - t) ∧ r = rotL (ring.take k) t)
theorem part_one {ring : List Int} {k m : Nat} (h : PartIs ring k) (g : PartIs ring m) : k = m := by
  rcases Nat.lt_trichotomy k m with c | c | c
  · exact absurd h.2.2.1 (g.2.2.2 k h.1 c)
  · exact c
  · exact absurd g.2.2.1 (h.2.2.2 m g.1 c)
theorem turn_one {xs r : List Int} {t u : Nat} (h : TurnIs xs r t) (g : TurnIs xs r u) : t = u := by
  rcases Nat.lt_trichotomy t u with c | c | c
  · exact absurd (g.2.1 t c) (h.2.2 (by have := g.1; omega))
  · exact c
  · exact absurd (h.2.1 u c) (g.2.2 (by have := h.1; omega))
theorem short_one {xs ring o r o' r' : List Int} (h : ShortIs xs ring o r) (g : ShortIs xs ring o' r') : o = o' ∧ r = r' := by
  rcases h with ⟨e, h1, h2⟩ | ⟨e, k, t, h1, h2, h3, h4⟩
  · rcases g with ⟨_, g1, g2⟩ | ⟨z, _⟩
    · exact ⟨h1.trans g1.symm, h2.trans g2.symm⟩
    · exact absurd e z
  · rcases g with ⟨z, _⟩ | ⟨_, m, u, g1, g2, g3, g4⟩
    · exact absurd z e
    · obtain rfl := part_one h1 g1
      obtain rfl := turn_one h2 g2
      exact ⟨h3.trans g3.symm, h4.trans g4.symm⟩
theorem walk_one {ns : List Str} {rs : List (List V)} {cut : Int} {s0 : MS} {n m : Nat} {e f : Str} (h : WalkIs ns rs cut s0 n e) (g : WalkIs ns rs cut s0 m f) : n = m ∧ e = f := by
  have no : ∀ {n m : Nat} {e f : Str}, WalkIs ns rs cut s0 n e → WalkIs ns rs cut s0 m f → ¬ n < m := fun {n m e f} h g c => by
    rcases h.ends with ⟨_, i, hi, he⟩ | ⟨_, he⟩
    · exact g.new i n hi c he
    · have := g.on n c
      rw [he] at this
      exact nomatch this
  have nm : n = m := by
    rcases Nat.lt_trichotomy n m with c | c | c
    · exact absurd c (no h g)
    · exact c
    · exact absurd c (no g h)
  subst nm
  refine ⟨rfl, ?_⟩
  rcases h.ends with ⟨e1, i, hi, he⟩ | ⟨a1, b1⟩
  · rcases g.ends with ⟨e2, _⟩ | ⟨a2, _⟩
    · exact e1.trans e2.symm
    · exact absurd he (a2 i hi)
  · rcases g.ends with ⟨_, i, hi, he⟩ | ⟨_, b2⟩
    · exact absurd he (a1 i hi)
    · rw [b1] at b2
      exact Option.some.inj b2
/-- the behaviour of a run -/
def BehIs (ns : List Str) (rs : List (List V)) (cut : Int) (ws : List Int) (ending : Str) (o r : List Int) : Prop := ∃ n, WalkIs ns rs cut (begM ws) n ending ∧
  ((ending ≠ "endless" ∧ o = outsM ns rs ((List.range n).map (itM ns rs cut (begM ws))) ∧ r = []) ∨
   (ending = "endless" ∧ ∃ i, i < n ∧ itM ns rs cut (begM ws) i = itM ns rs cut (begM ws) n ∧ ShortIs (outsM ns rs (((List.range n).map (itM ns rs cut (begM ws))).take i)) (outsM ns rs (((List.range n).map (itM ns rs cut (begM ws))).drop i)) o r))
theorem beh_one {ns : List Str} {rs : List (List V)} {cut : Int} {ws : List Int} {e e' : Str} {o r o' r' : List Int} (h : BehIs ns rs cut ws e o r) (g : BehIs ns rs cut ws e' o' r') : e = e' ∧ o = o' ∧ r = r' := by
  obtain ⟨n, h1, h2⟩ := h
  obtain ⟨m, g1, g2⟩ := g
  obtain ⟨rfl, rfl⟩ := walk_one h1 g1
  refine ⟨rfl, ?_⟩
  rcases h2 with ⟨a, h2, h3⟩ | ⟨a, i, hi, he, hs⟩
  · rcases g2 with ⟨b, g2, g3⟩ | ⟨b, _⟩
    · exact ⟨h2.trans g2.symm, h3.trans g3.symm⟩
    · exact absurd b a
  · rcases g2 with ⟨b, _⟩ | ⟨b, j, hj, je, gs⟩
    · exact absurd a b
    · have ij : i = j := by
        rcases Nat.lt_trichotomy i j with c | c | c
        · exact absurd (he.trans je.symm) (h1.new i j c hj)
        · exact c
        · exact absurd (je.trans he.symm) (h1.new j i c hi)
      subst ij
      exact short_one hs gs
/-! turned words -/
theorem map_inj {f : Int → Int} : ∀ {xs ys : List Int}, (∀ x ∈ xs, ∀ y ∈ ys, f x = f y → x = y) → xs.map f = ys.map f → xs = ys
  | [], [], _, _ => rfl
  | [], y :: ys, _, e => nomatch e
  | x :: xs, [], _, e => nomatch e
  | x :: xs, y :: ys, h, e => by
    rw [List.map_cons, List.map_cons] at e
    injection e with e1 e2
    rw [h x List.mem_cons_self y List.mem_cons_self e1, map_inj (fun a m b n => h a (List.mem_cons_of_mem _ m) b (List.mem_cons_of_mem _ n)) e2]
theorem part_map {f : Int → Int} {ring : List Int} {k : Nat} (h : ∀ x ∈ ring, ∀ y ∈ ring, f x = f y → x = y) : Part (ring.map f) k ↔ Part ring k := by
  have e : (List.replicate ((ring.map f).length / k) ((ring.map f).take k)).flatten = ((List.replicate (ring.length / k) (ring.take k)).flatten).map f := by
    rw [List.length_map, ← List.map_take, List.map_flatten, List.map_replicate]
  unfold Part
  rw [e, List.length_map]
  refine ⟨fun q => ⟨q.1, map_inj (fun x m y n => h x m y ?_) q.2⟩, fun q => ⟨q.1, congrArg _ q.2⟩⟩
  obtain ⟨l, ml, ny⟩ := List.mem_flatten.mp n
  rw [(List.mem_replicate.mp ml).2] at ny
  exact List.mem_of_mem_take ny
theorem mt_map {f : Int → Int} {xs r : List Int} {j : Nat} (h : ∀ x ∈ xs, ∀ y ∈ r, f x = f y → x = y) : Mt (xs.map f) (r.map f) j ↔ Mt xs r j := by
  unfold Mt
  rw [List.length_map, List.length_map, List.getElem?_map, List.getElem?_map]
  refine ⟨fun e => ?_, fun e => congrArg _ e⟩
  cases ha : xs[xs.length - 1 - j]? with
  | none =>
    cases hb : r[r.length - 1 - j % r.length]? with
    | none => rfl
    | some y => rw [ha, hb] at e; exact nomatch e
  | some x =>
    cases hb : r[r.length - 1 - j % r.length]? with
    | none => rw [ha, hb] at e; exact nomatch e
    | some y =>
      rw [ha, hb] at e
      rw [h x (List.mem_of_getElem? ha) y (List.mem_of_getElem? hb) (Option.some.inj e)]
theorem rot_map {f : Int → Int} (q : List Int) (t : Nat) : (rotL q t).map f = rotL (q.map f) t := by
  unfold rotL rotS
  rw [List.length_map, List.map_append, List.map_drop, List.map_take]
theorem short_map {f : Int → Int} {xs ring o r : List Int} (h : ∀ x ∈ xs ++ ring, ∀ y ∈ xs ++ ring, f x = f y → x = y) (s : ShortIs xs ring o r) : ShortIs (xs.map f) (ring.map f) (o.map f) (r.map f) := by
  rcases s with ⟨e, h1, h2⟩ | ⟨e, k, t, h1, h2, h3, h4⟩
  · exact .inl ⟨by rw [e]; rfl, by rw [h1], by rw [h2]; rfl⟩
  · have hr : ∀ x ∈ ring, ∀ y ∈ ring, f x = f y → x = y := fun x m y n => h x (List.mem_append_right _ m) y (List.mem_append_right _ n)
    have hm : ∀ x ∈ xs, ∀ y ∈ ring.take k, f x = f y → x = y := fun x m y n => h x (List.mem_append_left _ m) y (List.mem_append_right _ (List.mem_of_mem_take n))
    refine .inr ⟨fun z => e (List.map_eq_nil_iff.mp z), k, t, ⟨h1.1, by rw [List.length_map]; exact h1.2.1, (part_map hr).mpr h1.2.2.1, fun j a b z => h1.2.2.2 j a b ((part_map hr).mp z)⟩, ?_, ?_, ?_⟩
    · rw [← List.map_take]
      exact ⟨by rw [List.length_map]; exact h2.1, fun j c => (mt_map hm).mpr (h2.2.1 j c), fun c z => h2.2.2 (by rwa [List.length_map] at c) ((mt_map hm).mp z)⟩
    · rw [h3, List.map_take, List.length_map]
    · rw [h4, ← List.map_take, rot_map]
/-- a row with other conditions -/
def condR (hc : Str → Str) : List V → List V
  | [.str w, .str c, .int g] => [.str w, .str (hc c), .int g]
  | [.str w, .str c, .str a, .str b] => [.str w, .str (hc c), .str a, .str b]
  | r => r
def mapS (f : Int → Int) (g : Str → Str) (s : MS) : MS := ⟨s.row, s.vals.map f, s.flag.map g⟩
/-- what a turning of words does: the outcomes by g, the conditions by hc -/
structure TurnOk (f : Int → Int) (g hc : Str → Str) (cut cut' : Int) (ws : List Int) : Prop where
  inj : ∀ x ∈ ws, ∀ y ∈ ws, f x = f y → x = y
  cmp : ∀ x ∈ ws, ∀ y ∈ ws, ocut cut' (f x) (f y) = g (ocut cut x y)
  ginj : ∀ x ∈ outs, ∀ y ∈ outs, g x = g y → x = y
  holds : ∀ c ∈ conds, ∀ z ∈ outs, decide (g z ∈ outsOf (hc c)) = decide (z ∈ outsOf c)
  con : ∀ c ∈ conds, hc c ∈ conds
section
variable {ns : List Str} {rs : List (List V)} {f : Int → Int} {g hc : Str → Str} {cut cut' : Int} {ws : List Int} {s : MS}
theorem getR_map {v : List Int} {a : Str} (hl : v.length = ns.length) (ha : a ∈ ns) : getR ns (v.map f) a = f (getR ns v a) := by
  have lt : pl ns a < v.length := by rw [hl]; exact pl_lt ha
  unfold getR
  rw [List.getD_eq_getElem?_getD, List.getD_eq_getElem?_getD, List.getElem?_map, List.getElem?_eq_getElem lt]
  rfl
theorem setR_map {v : List Int} {a : Str} {x : Int} : setR ns (v.map f) a (f x) = (setR ns v a x).map f := by
  unfold setR
  rw [List.map_set]
theorem getD_map {i : Nat} : (rs.map (condR hc)).getD i [] = condR hc (rs.getD i []) := by
  rw [List.getD_eq_getElem?_getD, List.getD_eq_getElem?_getD, List.getElem?_map]
  cases rs[i]? <;> rfl
theorem needs_turn {r : List V} {size : Int} (h : RowC ns size r) : needsF (condR hc r) = needsF r := by
  cases h <;> rfl
theorem end_turn (rok : ∀ r ∈ rs, RowC ns rs.length r) (mo : MOk ns rs.length ws s) : endM (rs.map (condR hc)) (mapS f g s) = endM rs s := by
  obtain ⟨r, v, fl⟩ := s
  cases r with
  | none => rfl
  | some i =>
    unfold endM
    show (if i = (rs.map (condR hc)).length then _ else if needsF ((rs.map (condR hc)).getD i []) = true ∧ Option.map g fl = none then _ else _) = _
    rw [List.length_map, getD_map]
    by_cases c : i = rs.length
    · simp only [if_pos c]
    · have lt : i < rs.length := by have := mo.row i rfl; omega
      have ge : rs.getD i [] = rs[i] := by rw [List.getD_eq_getElem?_getD, List.getElem?_eq_getElem lt]; rfl
      simp only [if_neg c]
      rw [ge, needs_turn (rok _ (List.getElem_mem lt))]
      simp
theorem step_turn (T : TurnOk f g hc cut cut' ws) (rok : ∀ r ∈ rs, RowC ns rs.length r) (mo : MOk ns rs.length ws s) (e : endM rs s = none) : stepM ns (rs.map (condR hc)) cut' (mapS f g s) = mapS f g (stepM ns rs cut s) := by
  obtain ⟨r, v, fl⟩ := s
  cases r with
  | none => exact absurd e (by simp [endM])
  | some i =>
    have ne : i ≠ rs.length := fun z => by
      unfold endM at e
      simp [z] at e
    have lt : i < rs.length := by have := mo.row i rfl; omega
    have ge : rs.getD i [] = rs[i] := by rw [List.getD_eq_getElem?_getD, List.getElem?_eq_getElem lt]; rfl
    have rc := rok _ (List.getElem_mem lt)
    have ml : v.length = ns.length := mo.len
    have mv : ∀ {a : Str}, a ∈ ns → getR ns v a ∈ ws := fun ha => getR_mem ml ha mo.val
    have tr : ∀ {c : Str}, c ∈ conds → fl ≠ none → isTrue' (fl.map g) (hc c) = isTrue' fl c := fun {c} m q => by
      cases fl with
      | none => exact absurd rfl q
      | some z => exact T.holds c m z (mo.fl z rfl)
    have nf : needsF rs[i] = true → fl ≠ none := fun q z => by
      unfold endM at e
      simp only [if_neg ne, ge, q, z] at e
      simp at e
    show stepRow ns cut' i (v.map f) (fl.map g) ((rs.map (condR hc)).getD i []) = mapS f g (stepRow ns cut i v fl (rs.getD i []))
    rw [getD_map, ge]
    generalize rs[i] = row at rc nf
    cases rc with
    | stop => rfl
    | out a => rfl
    | two w a b =>
      show (if _ then _ else if _ then _ else _) = mapS f g (if _ then _ else if _ then _ else _)
      split
      · show MS.mk _ _ _ = MS.mk _ _ _
        rw [getR_map ml a, getR_map ml b, T.cmp _ (mv a) _ (mv b)]
        rfl
      · split
        · show MS.mk _ _ _ = MS.mk _ _ _
          rw [getR_map ml b, setR_map]
        · show MS.mk _ _ _ = MS.mk _ _ _
          rw [getR_map ml a, getR_map ml b, setR_map, setR_map]
    | cmov c a b =>
      show (if isTrue' (fl.map g) (hc _) = true then _ else _) = mapS f g (if isTrue' fl _ = true then _ else _)
      rw [tr c (nf rfl)]
      split
      · show MS.mk _ _ _ = MS.mk _ _ _
        rw [getR_map ml b, setR_map]
      · rfl
    | jump a b => rfl
    | jif c a b =>
      show (if isTrue' (fl.map g) (hc _) = true then _ else _) = mapS f g (if isTrue' fl _ = true then _ else _)
      rw [tr c (nf rfl)]
      split <;> rfl
theorem it_turn (T : TurnOk f g hc cut cut' ws) (rok : ∀ r ∈ rs, RowC ns rs.length r) {s0 : MS} (mo : MOk ns rs.length ws s0) : ∀ n, (∀ i, i < n → endM rs (itM ns rs cut s0 i) = none) → itM ns (rs.map (condR hc)) cut' (mapS f g s0) n = mapS f g (itM ns rs cut s0 n)
  | 0, _ => rfl
  | n + 1, on => by
    show stepM _ _ _ (itM _ _ _ _ n) = _
    rw [it_turn T rok mo n fun i hi => on i (by omega)]
    exact step_turn T rok (it_ok rok mo n fun i hi => on i (by omega)) (on n (by omega))
theorem mapS_inj (T : TurnOk f g hc cut cut' ws) {n : Nat} {a b : MS} (ha : MOk ns n ws a) (hb : MOk ns n ws b) (e : mapS f g a = mapS f g b) : a = b := by
  obtain ⟨r, v, fl⟩ := a
  obtain ⟨r', v', fl'⟩ := b
  unfold mapS at e
  injection e with e1 e2 e3
  have e1 : r = r' := e1
  have e2 : v = v' := map_inj (fun x m y n => T.inj x (ha.val x m) y (hb.val y n)) e2
  have e3 : fl = fl' := by
    cases fl with
    | none =>
      cases fl' with
      | none => rfl
      | some z => exact nomatch e3
    | some z =>
      cases fl' with
      | none => exact nomatch e3
      | some y => rw [T.ginj z (ha.fl z rfl) y (hb.fl y rfl) (Option.some.inj e3)]
  rw [e1, e2, e3]
theorem out_turn (rok : ∀ r ∈ rs, RowC ns rs.length r) (mo : MOk ns rs.length ws s) : outM ns (rs.map (condR hc)) (mapS f g s) = (outM ns rs s).map f := by
  obtain ⟨r, v, fl⟩ := s
  cases r with
  | none => rfl
  | some i =>
    unfold outM
    show (match (rs.map (condR hc)).getD i [] with | [.str _, .str a] => some (getR ns (v.map f) a) | _ => none) = _
    rw [getD_map]
    by_cases lt : i < rs.length
    · have ge : rs.getD i [] = rs[i] := by rw [List.getD_eq_getElem?_getD, List.getElem?_eq_getElem lt]; rfl
      have rc := rok _ (List.getElem_mem lt)
      have ml : v.length = ns.length := mo.len
      simp only [ge]
      generalize rs[i] = row at rc
      cases rc with
      | out a => exact congrArg some (getR_map ml a)
      | _ => rfl
    · have ge : rs.getD i [] = [] := by rw [List.getD_eq_getElem?_getD, List.getElem?_eq_none (by omega)]; rfl
      simp only [ge]
      rfl
theorem outs_turn (rok : ∀ r ∈ rs, RowC ns rs.length r) : ∀ {ss : List MS}, (∀ s ∈ ss, MOk ns rs.length ws s) → outsM ns (rs.map (condR hc)) (ss.map (mapS f g)) = (outsM ns rs ss).map f
  | [], _ => rfl
  | s :: ss, h => by
    have ih := outs_turn rok (ss := ss) fun t m => h t (List.mem_cons_of_mem _ m)
    have o := out_turn (f := f) (g := g) (hc := hc) rok (h s List.mem_cons_self)
    unfold outsM at ih ⊢
    rw [List.map_cons, List.filterMap_cons, List.filterMap_cons, o]
    cases outM ns rs s with
    | none => exact ih
    | some x => exact congrArg (f x :: ·) ih
theorem outs_mem (rok : ∀ r ∈ rs, RowC ns rs.length r) {ss : List MS} (h : ∀ s ∈ ss, MOk ns rs.length ws s) : ∀ x ∈ outsM ns rs ss, x ∈ ws := fun x m => by
  obtain ⟨s, ms, e⟩ := List.mem_filterMap.mp m
  have mo := h s ms
  obtain ⟨r, v, fl⟩ := s
  cases r with
  | none => exact nomatch e
  | some i =>
    unfold outM at e
    have il := mo.row i rfl
    by_cases lt : i < rs.length
    · have ge : rs.getD i [] = rs[i] := by rw [List.getD_eq_getElem?_getD, List.getElem?_eq_getElem lt]; rfl
      have rc := rok _ (List.getElem_mem lt)
      simp only [ge] at e
      generalize rs[i] = row at rc e
      cases rc with
      | out a =>
        cases e
        exact getR_mem mo.len a mo.val
      | _ => exact nomatch e
    · have ge : rs.getD i [] = [] := by rw [List.getD_eq_getElem?_getD, List.getElem?_eq_none (by omega)]; rfl
      simp only [ge] at e
      exact nomatch e
theorem beg_ok {n : Nat} (h0 : ws ≠ []) (hl : ws.length + 2 = ns.length) : MOk ns n ws (begM ws) := by
  have m0 : ws.getD 0 0 ∈ ws := by
    cases ws with
    | nil => exact absurd rfl h0
    | cons a l => exact List.mem_cons_self
  refine ⟨fun i e => (by cases e; exact Nat.zero_le _), by show (ws ++ _).length = _; rw [List.length_append]; exact hl, fun x m => ?_, fun z e => (by cases e)⟩
  rcases List.mem_append.mp m with m | m
  · exact m
  · simp only [List.mem_cons, List.not_mem_nil, or_false, or_self] at m
    rw [m]
    exact m0
theorem beg_turn (h0 : ws ≠ []) : begM (ws.map f) = mapS f g (begM ws) := by
  cases ws with
  | nil => exact absurd rfl h0
  | cons a l =>
    show MS.mk _ _ _ = MS.mk _ (((a :: l) ++ [a, a]).map f) _
    rw [List.map_append]
    rfl
/-- a program with turned conditions does with turned words what it does with the words, turned -/
theorem beh_turn {e : Str} {o r : List Int} (T : TurnOk f g hc cut cut' ws) (h0 : ws ≠ []) (hl : ws.length + 2 = ns.length) (rok : ∀ r ∈ rs, RowC ns rs.length r) (h : BehIs ns rs cut ws e o r) : BehIs ns (rs.map (condR hc)) cut' (ws.map f) e (o.map f) (r.map f) := by
  obtain ⟨n, wk, h⟩ := h
  have mo := beg_ok (n := rs.length) h0 hl
  have it : ∀ i, i ≤ n → itM ns (rs.map (condR hc)) cut' (begM (ws.map f)) i = mapS f g (itM ns rs cut (begM ws) i) := fun i hi => by
    rw [beg_turn (g := g) h0]
    exact it_turn T rok mo i fun j hj => wk.on j (by omega)
  have ok : ∀ i, i ≤ n → MOk ns rs.length ws (itM ns rs cut (begM ws) i) := fun i hi => it_ok rok mo i fun j hj => wk.on j (by omega)
  have same : ∀ i j, i ≤ n → j ≤ n → (itM ns (rs.map (condR hc)) cut' (begM (ws.map f)) i = itM ns (rs.map (condR hc)) cut' (begM (ws.map f)) j ↔ itM ns rs cut (begM ws) i = itM ns rs cut (begM ws) j) := fun i j hi hj => by
    rw [it i hi, it j hj]
    exact ⟨fun q => mapS_inj T (ok i hi) (ok j hj) q, fun q => congrArg _ q⟩
  have en : ∀ i, i ≤ n → endM (rs.map (condR hc)) (itM ns (rs.map (condR hc)) cut' (begM (ws.map f)) i) = endM rs (itM ns rs cut (begM ws) i) := fun i hi => by
    rw [it i hi]
    exact end_turn rok (ok i hi)
  have sts : (List.range n).map (itM ns (rs.map (condR hc)) cut' (begM (ws.map f))) = ((List.range n).map (itM ns rs cut (begM ws))).map (mapS f g) := by
    rw [List.map_map]
    exact List.map_congr_left fun i m => it i (Nat.le_of_lt (List.mem_range.mp m))
  have all : ∀ s ∈ (List.range n).map (itM ns rs cut (begM ws)), MOk ns rs.length ws s := fun s m => by
    obtain ⟨i, mi, rfl⟩ := List.mem_map.mp m
    exact ok i (Nat.le_of_lt (List.mem_range.mp mi))
  refine ⟨n, ⟨fun i hi => by rw [en i (by omega)]; exact wk.on i hi, fun i j hij hj => fun z => wk.new i j hij hj ((same i j (by omega) (by omega)).mp z), ?_⟩, ?_⟩
  · rcases wk.ends with ⟨a, i, hi, q⟩ | ⟨a, b⟩
    · exact .inl ⟨a, i, hi, (same i n (by omega) (Nat.le_refl n)).mpr q⟩
    · exact .inr ⟨fun i hi z => a i hi ((same i n (by omega) (Nat.le_refl n)).mp z), by rw [en n (Nat.le_refl n)]; exact b⟩
  · rw [sts]
    rcases h with ⟨a, h1, h2⟩ | ⟨a, i, hi, q, hs⟩
    · exact .inl ⟨a, by rw [h1]; exact (outs_turn rok all).symm, by rw [h2]; rfl⟩
    · refine .inr ⟨a, i, hi, (same i n (by omega) (Nat.le_refl n)).mpr q, ?_⟩
      rw [← List.map_take, ← List.map_drop, outs_turn rok fun s m => all s (List.mem_of_mem_take m), outs_turn rok fun s m => all s (List.mem_of_mem_drop m)]
      refine short_map (fun x m y n => ?_) hs
      have mem : ∀ z ∈ outsM ns rs (((List.range _).map (itM ns rs cut (begM ws))).take i) ++ outsM ns rs (((List.range _).map (itM ns rs cut (begM ws))).drop i), z ∈ ws := fun z m => by
        rcases List.mem_append.mp m with m | m
        · exact outs_mem rok (fun s q => all s (List.mem_of_mem_take q)) z m
        · exact outs_mem rok (fun s q => all s (List.mem_of_mem_drop q)) z m
      exact T.inj x (mem x m) y (mem y n)
end
end BR

/-! ### dict(TABLE): a copy of a module's dict of texts -/
namespace BR
open PySem PySem.Spec PyProof.Rows L2
theorem mix_of {P : Program} {w : World} {h : Heap} {a : Addr} {us : List (Str × Value)} (x : h.DictOf (strKind P w) a us) : h.DictOf (mixKind P w) a (us.map fun p => ((Sum.inr p.1 : Key), p.2)) := by
  obtain ⟨o, es, ep, ho, ex, dt, keys, ps, nd⟩ := x
  refine ⟨o, es, ep, ho, ex, dt, fun e he => ?_, ?_, ?_⟩
  · obtain ⟨k, h1, h2⟩ := keys e he
    obtain ⟨t, e1⟩ := Value.isStrOf_shape h1
    exact ⟨.inr k, by rw [e1]; exact mixKind_str P w k t, h2⟩
  · clear keys nd dt
    generalize es.toList = l at ps
    induction ps with
    | nil => exact .nil
    | @cons e kv es us h1 h2 p ih =>
      obtain ⟨t, e1⟩ := Value.isStrOf_shape h1
      exact .cons (by rw [e1]; exact mixKind_str P w kv.1 t) h2 ih
  · rw [List.map_map]
    have : ((fun p : Key × Value => p.1) ∘ fun p : Str × Value => ((Sum.inr p.1 : Key), p.2)) = Sum.inr ∘ fun p => p.1 := rfl
    rw [this, ← List.map_map]
    exact List.Pairwise.map _ (fun x y h z => h (Sum.inr.inj z)) nd
theorem kv_mix {kvs : List (Str × V)} {us : List (Str × Value)} (r : KV kvs us) : KV (kvs.map fun p => ((Sum.inr p.1 : Key), p.2)) (us.map fun p => ((Sum.inr p.1 : Key), p.2)) := by
  induction r with
  | nil => exact .nil
  | cons q p ih => exact .cons ⟨congrArg Sum.inr q.1, q.2⟩ ih
def rDictT (K : PySem.W.Frag) (P : Program) (w : World) : List V → Hp → VK → Prop := fun xs H Q => ∃ (d : Addr) (kvs : List (Str × V)), xs = [.ref d] ∧ KTab K P w d kvs ∧ kvs.length ≤ 1000 ∧ ∀ p, H p = none → Q (.ref p) (upd H p (.dK (kvs.map fun q => ((Sum.inr q.1 : Key), q.2))))
theorem call_dictT {X : Cx} : CallR X (.type "dict") (rDictT X.K X.prog X.w) := by
  rintro pins s σ H xs vs Q I r ⟨d, kvs, rfl, T, z, q⟩
  obtain ⟨u, rfl, rx⟩ := r.one
  obtain rfl : u = Value.ref d := rx
  obtain ⟨us, n, hm, rel⟩ := T.at I.kIn
  have dd := mix_of hm.dictOf
  have rel2 := kv_mix rel
  have z2 : kvs.length ≤ sizeLine := by rw [sizeLine_eq]; omega
  refine kt_call_dict T.low dd (by rw [List.length_map, ← rel.length]; exact z2) fun h' d' hs => ?_
  have hi : (s.heap.objs.size == sysModules) = false := beq_eq_false_iff_ne.mpr (Nat.ne_of_gt I.big)
  refine ⟨.ref s.heap.objs.size, _, I.laid (t' := s.toks) (o := .dK (kvs.map fun q => ((Sum.inr q.1 : Key), q.2))) (fun b u e => (hs.2 b (Nat.ne_of_lt (Heap.lt_size e))).trans (Heap.get?_push_of_some _ e)) (Nat.le_refl _) ?_, rfl, q _ (I.hok.fresh (Nat.le_refl _))⟩
  exact ⟨by rw [List.length_map]; exact z2, hi, _, rel2, d'⟩
end BR

/-! ### rows with other conditions -/
namespace BR
open PySem PySem.Spec PyProof.Rows L2
def hcOf (tb : List (Str × Str)) (c : Str) : Str := (tb.lookup c).getD c
def cdI (hc : Str → Str) (q : V × V) : V := if q.1 = .str "C" then (match q.2 with | .str c => .str (hc c) | v => v) else q.2
section
variable {hc : Str → Str} {ns : List Str} {size : Int}
theorem cdI_R {x : V} : cdI hc (.str "R", x) = x := by
  unfold cdI
  exact if_neg (show ¬ (V.str "R" = V.str "C") by decide +kernel)
theorem cdI_T {x : V} : cdI hc (.str "T", x) = x := by
  unfold cdI
  exact if_neg (show ¬ (V.str "T" = V.str "C") by decide +kernel)
theorem cdI_C {c : Str} : cdI hc (.str "C", .str c) = .str (hc c) := by
  unfold cdI
  exact if_pos rfl
theorem condR_is {w f : Str} {xs : List V} (rc : RowC ns size (.str w :: xs)) (fl : fmT.lookup w = some f) : .str w :: ((sgn f).zip xs).map (cdI hc) = condR hc (.str w :: xs) := by
  cases rc with
  | stop =>
    rw [List.zip_nil_right]
    rfl
  | out a =>
    obtain rfl : f = "R" := Option.some.inj (fl.symm.trans (show fmT.lookup ("out" : Str) = some ("R" : Str) by decide +kernel))
    rw [sgn_R]
    show [V.str "out", cdI hc (.str "R", _)] = _
    rw [cdI_R]
    rfl
  | two hw a b =>
    obtain rfl : f = "RR" := Option.some.inj (fl.symm.trans (fm_two _ hw))
    rw [sgn_RR]
    show [V.str w, cdI hc (.str "R", _), cdI hc (.str "R", _)] = _
    rw [cdI_R, cdI_R]
    rfl
  | cmov c a b =>
    obtain rfl : f = "CRR" := Option.some.inj (fl.symm.trans (show fmT.lookup ("cmov" : Str) = some ("CRR" : Str) by decide +kernel))
    rw [sgn_CRR]
    show [V.str "cmov", cdI hc (.str "C", _), cdI hc (.str "R", _), cdI hc (.str "R", _)] = _
    rw [cdI_C, cdI_R, cdI_R]
    rfl
  | jump a b =>
    obtain rfl : f = "T" := Option.some.inj (fl.symm.trans (show fmT.lookup ("jump" : Str) = some ("T" : Str) by decide +kernel))
    rw [sgn_T]
    show [V.str "jump", cdI hc (.str "T", _)] = _
    rw [cdI_T]
    rfl
  | jif c a b =>
    obtain rfl : f = "CT" := Option.some.inj (fl.symm.trans (show fmT.lookup ("jif" : Str) = some ("CT" : Str) by decide +kernel))
    rw [sgn_CT]
    show [V.str "jif", cdI hc (.str "C", _), cdI hc (.str "T", _)] = _
    rw [cdI_C, cdI_T]
    rfl
theorem condR_ok {r : List V} (con : ∀ c ∈ conds, hc c ∈ conds) (rc : RowC ns size r) : RowC ns size (condR hc r) := by
  cases rc with
  | stop => exact .stop
  | out a => exact .out a
  | two hw a b => exact .two hw a b
  | cmov c a b => exact .cmov (con _ c) a b
  | jump a b => exact .jump a b
  | jif c a b => exact .jif (con _ c) a b
theorem condR_twice {r : List V} (back : ∀ c ∈ conds, hc (hc c) = c) (rc : RowC ns size r) : condR hc (condR hc r) = r := by
  cases rc with
  | cmov c a b =>
    show [V.str "cmov", .str (hc (hc _)), _, _] = _
    rw [back _ c]
  | jif c a b =>
    show [V.str "jif", .str (hc (hc _)), _] = _
    rw [back _ c]
  | _ => rfl
theorem conds_twice {rs : List (List V)} (back : ∀ c ∈ conds, hc (hc c) = c) (rok : ∀ r ∈ rs, RowC ns size r) : (rs.map (condR hc)).map (condR hc) = rs := by
  rw [List.map_map]
  refine (List.map_congr_left fun r m => ?_).trans (List.map_id _)
  exact condR_twice back (rok r m)
end
/-! turned words -/
theorem out_turns : (∀ x ∈ outs, ∀ y ∈ outs, swapO x = swapO y → x = y) ∧ (∀ x ∈ outs, ∀ y ∈ outs, revO x = revO y → x = y) ∧ (∀ c ∈ conds, ∀ z ∈ outs, decide (swapO z ∈ outsOf (exC c)) = decide (z ∈ outsOf c)) ∧ (∀ c ∈ conds, ∀ z ∈ outs, decide (revO z ∈ outsOf (rvC c)) = decide (z ∈ outsOf c)) := by decide +kernel
end BR

/-! ### comprehensions over long tuples of ints -/
namespace BR
open PySem PySem.Spec PyProof.Rows L2
theorem len3m {n : Nat} (h : n ≤ 3000000) : n < sizeLine := by rw [sizeLine_eq]; omega
theorem lc_intsW {K : PySem.W.Frag} {a : Addr} {xs : List Int} {j : Nat} {te : TE} {vs : List Nat} {σ : L2.St} {H1 : Hp} {D : Addr} {Qd : Hp → Prop} (f : Int → Int) (hT : SqT K H1 a (xs.map V.int)) (hz : xs.length ≤ 3000000) (hD : H1 D = none)
    (hw : ∀ x : V, wipe ((wipe σ vs).set j (some x)) vs = wipe σ vs)
    (he : ∀ (x : Int) (H2 : Hp) (Q : VK), x ∈ xs → Same H1 H2 → (∀ H3, Same H2 H3 → Q (.int (f x)) H3) → te ((wipe σ vs).set j (some (.int x))) H2 Q)
    (hd : ∀ H, Same H1 H → H D = some (.lst ((xs.map f).map V.int)) → Qd H) :
    ∃ W : Nat → Nat → Hp → Prop, (∃ m, W 0 m (L2.upd H1 D (.lst []))) ∧ ∀ i m H, W i m H →
      ((Itt K a).stop i H ∧ Qd H) ∨ ((Itt K a).go i H ∧ ∃ Nx : Hp → Prop, (∀ H', Nx H' → ∃ m', m' < m ∧ W (i + 1) m' H') ∧ ∀ x H', (Itt K a).yld i H x H' → gName j x (wipe σ vs) H' fun σ2 H2 => wipe σ2 vs = wipe σ vs ∧ tYes σ2 H2 fun b H3 =>
        if b = true then te σ2 H3 fun y H4 => ∃ acc, H4 D = some (.lst acc) ∧ acc.length < sizeLine ∧ Nx (L2.upd H4 D (.lst (acc ++ [y]))) else Nx H3) :=
  lc_tup (xs := xs.map V.int) (fun i H => Same H1 H ∧ H D = some (.lst (((xs.take i).map f).map V.int))) ⟨sameNew hD, upd_same⟩ (fun i H _ p => sameT p.1 hT)
    (fun i x H hx ⟨s, hH⟩ => by
      obtain ⟨z, hz1, rfl⟩ := map_at hx
      refine ⟨hw _, ?_⟩
      show te ((wipe σ vs).set j (some (V.int z))) H _
      refine he z H _ (List.mem_of_getElem? hz1) s fun H3 s3 => ⟨_, s3 _ _ hH, len3m (by rw [List.length_map, List.length_map, List.length_take]; omega), fun b o e => ?_, ?_⟩
      · exact (upd_ne (ne_of_none e hD)).trans (s3 _ _ (s _ _ e))
      · rw [upd_same, map_take_succ hz1])
    (fun H ⟨s, hH⟩ => hd H s (by rwa [List.length_map, List.take_length] at hH))
end BR

/-! ### words flipped, inverted, extended: what becomes of their outcomes -/
namespace BR
open PySem PySem.Spec PyProof.Rows L2
theorem ocut_E {c x y : Int} (h : x = y) : ocut c x y = "E" := if_pos h
theorem ocut_lt {c x y : Int} (h : x < y) (k : x < c ↔ y < c) : ocut c x y = "LB" := by
  unfold ocut
  rw [if_neg (by omega), if_pos h, if_neg (by rw [show decide (x < c) = decide (y < c) from decide_eq_decide.mpr k]; simp)]
theorem ocut_ltm {c x y : Int} (h : x < y) (a : x < c) (b : ¬ y < c) : ocut c x y = "GB" := by
  unfold ocut
  rw [if_neg (by omega), if_pos h, if_pos (by rw [decide_eq_true a, decide_eq_false b]; rfl)]
theorem ocut_gt {c x y : Int} (h : y < x) (k : x < c ↔ y < c) : ocut c x y = "GA" := by
  unfold ocut
  rw [if_neg (by omega), if_neg (by omega), if_neg (by rw [show decide (x < c) = decide (y < c) from decide_eq_decide.mpr k]; simp)]
theorem ocut_gtm {c x y : Int} (h : y < x) (a : ¬ x < c) (b : y < c) : ocut c x y = "LA" := by
  unfold ocut
  rw [if_neg (by omega), if_neg (by omega), if_pos (by rw [decide_eq_false a, decide_eq_true b]; rfl)]
theorem ocut_cases (c x y : Int) : x = y ∨ (x < y ∧ (x < c ↔ y < c)) ∨ (x < y ∧ x < c ∧ ¬ y < c) ∨ (y < x ∧ (x < c ↔ y < c)) ∨ (y < x ∧ ¬ x < c ∧ y < c) := by omega
theorem ocut_fl {wd x y : Int} (w : 1 ≤ wd) (hx : 0 ≤ x ∧ x < 2 ^ wd.toNat) (hy : 0 ≤ y ∧ y < 2 ^ wd.toNat) : ocut (2 ^ (wd - 1).toNat) (fl wd x) (fl wd y) = swapO (ocut (2 ^ (wd - 1).toNat) x y) := by
  have t := two_half w
  have d : swapO "E" = "E" ∧ swapO "LB" = "LB" ∧ swapO "GA" = "GA" ∧ swapO "GB" = "LA" ∧ swapO "LA" = "GB" := by decide +kernel
  unfold fl
  rw [t] at hx hy
  generalize (2 : Int) ^ (wd - 1).toNat = h at *
  rcases ocut_cases h x y with c | ⟨c, k⟩ | ⟨c, a, b⟩ | ⟨c, k⟩ | ⟨c, a, b⟩
  · rw [ocut_E c, d.1, ocut_E (by rw [c])]
  · rw [ocut_lt c k, d.2.1, ocut_lt] <;> (split <;> split <;> omega)
  · rw [ocut_ltm c a b, d.2.2.2.1, if_pos a, if_neg b, ocut_gtm] <;> omega
  · rw [ocut_gt c k, d.2.2.1, ocut_gt] <;> (split <;> split <;> omega)
  · rw [ocut_gtm c a b, d.2.2.2.2, if_neg a, if_pos b, ocut_ltm] <;> omega
theorem ocut_iv {wd x y : Int} (w : 1 ≤ wd) (hx : 0 ≤ x ∧ x < 2 ^ wd.toNat) (hy : 0 ≤ y ∧ y < 2 ^ wd.toNat) : ocut (2 ^ (wd - 1).toNat) (iv wd x) (iv wd y) = revO (ocut (2 ^ (wd - 1).toNat) x y) := by
  have t := two_half w
  have d : revO "E" = "E" ∧ revO "LB" = "GA" ∧ revO "GA" = "LB" ∧ revO "GB" = "LA" ∧ revO "LA" = "GB" := by decide +kernel
  unfold iv
  rw [t] at hx hy ⊢
  generalize (2 : Int) ^ (wd - 1).toNat = h at *
  rcases ocut_cases h x y with c | ⟨c, k⟩ | ⟨c, a, b⟩ | ⟨c, k⟩ | ⟨c, a, b⟩
  · rw [ocut_E c, d.1, ocut_E (by rw [c])]
  · rw [ocut_lt c k, d.2.1, ocut_gt] <;> omega
  · rw [ocut_ltm c a b, d.2.2.2.1, ocut_gtm] <;> omega
  · rw [ocut_gt c k, d.2.2.1, ocut_lt] <;> omega
  · rw [ocut_gtm c a b, d.2.2.2.2, ocut_ltm] <;> omega
theorem ocut_ex {wd wi x y : Int} (w : 1 ≤ wd) (wl : wd ≤ wi) (hx : 0 ≤ x ∧ x < 2 ^ wd.toNat) (hy : 0 ≤ y ∧ y < 2 ^ wd.toNat) : ocut (2 ^ (wi - 1).toNat) (ex wd wi x) (ex wd wi y) = ocut (2 ^ (wd - 1).toNat) x y := by
  have t := two_half w
  have t2 := two_half (Int.le_trans w wl)
  have mono : (2 : Int) ^ (wd - 1).toNat ≤ 2 ^ (wi - 1).toNat := by exact_mod_cast Nat.pow_le_pow_right (by decide) (by omega)
  unfold ex
  rw [t] at hx hy ⊢
  rw [t2]
  generalize (2 : Int) ^ (wd - 1).toNat = h at *
  generalize (2 : Int) ^ (wi - 1).toNat = g at *
  rcases ocut_cases h x y with c | ⟨c, k⟩ | ⟨c, a, b⟩ | ⟨c, k⟩ | ⟨c, a, b⟩
  · rw [ocut_E c, ocut_E (by rw [c])]
  · rw [ocut_lt c k, ocut_lt] <;> (split <;> split <;> omega)
  · rw [ocut_ltm c a b, ocut_ltm] <;> (try split) <;> (try split) <;> omega
  · rw [ocut_gt c k, ocut_gt] <;> (split <;> split <;> omega)
  · rw [ocut_gtm c a b, ocut_gtm] <;> (try split) <;> (try split) <;> omega
theorem fl_inj {wd x y : Int} (w : 1 ≤ wd) (hx : 0 ≤ x ∧ x < 2 ^ wd.toNat) (hy : 0 ≤ y ∧ y < 2 ^ wd.toNat) (e : fl wd x = fl wd y) : x = y := by
  have t := two_half w
  unfold fl at e
  rw [t] at hx hy
  split at e <;> split at e <;> omega
theorem iv_inj {wd x y : Int} (e : iv wd x = iv wd y) : x = y := by
  unfold iv at e
  omega
theorem ex_inj {wd wi x y : Int} (w : 1 ≤ wd) (wl : wd ≤ wi) (hx : 0 ≤ x ∧ x < 2 ^ wd.toNat) (hy : 0 ≤ y ∧ y < 2 ^ wd.toNat) (e : ex wd wi x = ex wd wi y) : x = y := by
  have t := two_half w
  have t2 := two_half (Int.le_trans w wl)
  have mono : (2 : Int) ^ (wd - 1).toNat ≤ 2 ^ (wi - 1).toNat := by exact_mod_cast Nat.pow_le_pow_right (by decide) (by omega)
  unfold ex at e
  rw [t] at hx hy
  rw [t, t2] at e
  split at e <;> split at e <;> omega
section
variable {wd : Int} {ws : List Int}
theorem turn_fl (w : 1 ≤ wd) (hw : ∀ x ∈ ws, 0 ≤ x ∧ x < 2 ^ wd.toNat) : TurnOk (fl wd) swapO exC (2 ^ (wd - 1).toNat) (2 ^ (wd - 1).toNat) ws where
  inj := fun x m y n e => fl_inj w (hw x m) (hw y n) e
  cmp := fun x m y n => ocut_fl w (hw x m) (hw y n)
  ginj := out_turns.1
  holds := out_turns.2.2.1
  con := fun c m => (ex_ok c m).1
theorem turn_iv (w : 1 ≤ wd) (hw : ∀ x ∈ ws, 0 ≤ x ∧ x < 2 ^ wd.toNat) : TurnOk (iv wd) revO rvC (2 ^ (wd - 1).toNat) (2 ^ (wd - 1).toNat) ws where
  inj := fun x m y n e => iv_inj e
  cmp := fun x m y n => ocut_iv w (hw x m) (hw y n)
  ginj := out_turns.2.1
  holds := out_turns.2.2.2
  con := fun c m => (ex_ok c m).2.1
theorem turn_ex {wi : Int} (w : 1 ≤ wd) (wl : wd ≤ wi) (hw : ∀ x ∈ ws, 0 ≤ x ∧ x < 2 ^ wd.toNat) : TurnOk (ex wd wi) id id (2 ^ (wd - 1).toNat) (2 ^ (wi - 1).toNat) ws where
  inj := fun x m y n e => ex_inj w wl (hw x m) (hw y n) e
  cmp := fun x m y n => ocut_ex w wl (hw x m) (hw y n)
  ginj := fun _ _ _ _ e => e
  holds := fun _ _ _ _ => rfl
  con := fun _ m => m
end
theorem condR_id {ns : List Str} {size : Int} {rs : List (List V)} (rok : ∀ r ∈ rs, RowC ns size r) : rs.map (condR id) = rs := by
  refine (List.map_congr_left fun r m => ?_).trans (List.map_id _)
  have := rok r m
  cases this <;> rfl
end BR

/-! ### behaviours: their words, their lengths, as data -/
namespace BR
open PySem PySem.Spec PyProof.Rows L2
theorem rotL_mem {q : List Int} {t : Nat} {x : Int} (h : x ∈ rotL q t) : x ∈ q := by
  unfold rotL at h
  rcases List.mem_append.mp h with m | m
  · exact List.mem_of_mem_drop m
  · exact List.mem_of_mem_take m
theorem rotL_len {q : List Int} {t : Nat} : (rotL q t).length ≤ q.length := by
  unfold rotL
  rw [List.length_append, List.length_drop, List.length_take]
  omega
theorem short_mem {xs ring o r : List Int} (s : ShortIs xs ring o r) : (∀ x ∈ o, x ∈ xs) ∧ (∀ x ∈ r, x ∈ ring) ∧ o.length ≤ xs.length ∧ r.length ≤ ring.length := by
  rcases s with ⟨e, h1, h2⟩ | ⟨e, k, t, h1, h2, h3, h4⟩
  · rw [h1, h2]
    exact ⟨fun x m => m, fun x m => (nomatch m), Nat.le_refl _, Nat.zero_le _⟩
  · rw [h3, h4]
    refine ⟨fun x m => List.mem_of_mem_take m, fun x m => List.mem_of_mem_take (rotL_mem m), by rw [List.length_take]; omega, Nat.le_trans rotL_len (by rw [List.length_take]; omega)⟩
theorem outs_len {ns : List Str} {rs : List (List V)} {ss : List MS} : (outsM ns rs ss).length ≤ ss.length := List.length_filterMap_le _ _
theorem end_word {rs : List (List V)} {s : MS} {e : Str} (h : endM rs s = some e) : e = "stop" ∨ e = "fault" := by
  unfold endM at h
  split at h
  · exact .inl (Option.some.inj h).symm
  · split at h
    · exact .inl (Option.some.inj h).symm
    · split at h
      · exact .inr (Option.some.inj h).symm
      · exact nomatch h
theorem end_strs : ∀ e ∈ (["stop", "fault", "endless"] : List Str), PyData.strOk e = true := by decide +kernel
theorem beh_facts {ns : List Str} {rs : List (List V)} {cut : Int} {ws : List Int} {e : Str} {o r : List Int} (h0 : ws ≠ []) (hl : ws.length + 2 = ns.length) (rok : ∀ r ∈ rs, RowC ns rs.length r) (h : BehIs ns rs cut ws e o r) :
    PyData.strOk e = true ∧ (∀ x ∈ o, x ∈ ws) ∧ (∀ x ∈ r, x ∈ ws) ∧ o.length ≤ (rs.length + 2) * (ws.length ^ ns.length * 6) ∧ r.length ≤ (rs.length + 2) * (ws.length ^ ns.length * 6) := by
  obtain ⟨n, wk, h⟩ := h
  have mo := beg_ok (n := rs.length) h0 hl
  have nl := walk_le rok mo wk.on wk.new
  have all : ∀ s ∈ (List.range n).map (itM ns rs cut (begM ws)), MOk ns rs.length ws s := fun s m => by
    obtain ⟨i, mi, rfl⟩ := List.mem_map.mp m
    have := List.mem_range.mp mi
    exact it_ok rok mo i fun j hj => wk.on j (by omega)
  have lr : ((List.range n).map (itM ns rs cut (begM ws))).length = n := by rw [List.length_map, List.length_range]
  have we : PyData.strOk e = true := by
    rcases wk.ends with ⟨c, _⟩ | ⟨_, c⟩
    · rw [c]; exact end_strs _ (by simp)
    · rcases end_word c with c | c <;> (rw [c]; exact end_strs _ (by simp))
  refine ⟨we, ?_⟩
  rcases h with ⟨a, h1, h2⟩ | ⟨a, i, hi, q, hs⟩
  · rw [h1, h2]
    have := outs_len (ns := ns) (rs := rs) (ss := (List.range n).map (itM ns rs cut (begM ws)))
    exact ⟨outs_mem rok all, fun x m => (nomatch m), by omega, Nat.zero_le _⟩
  · obtain ⟨m1, m2, l1, l2⟩ := short_mem hs
    have q1 := outs_len (ns := ns) (rs := rs) (ss := ((List.range n).map (itM ns rs cut (begM ws))).take i)
    have q2 := outs_len (ns := ns) (rs := rs) (ss := ((List.range n).map (itM ns rs cut (begM ws))).drop i)
    rw [List.length_take, lr] at q1
    rw [List.length_drop, lr] at q2
    exact ⟨fun x m => outs_mem rok (fun s q => all s (List.mem_of_mem_take q)) x (m1 x m), fun x m => outs_mem rok (fun s q => all s (List.mem_of_mem_drop q)) x (m2 x m), by omega, by omega⟩
def behD (e : Str) (o r : List Int) : PyData := .tuple [.str e, .tuple (o.map PyData.int), .tuple (r.map PyData.int)]
theorem beh_dp {K : PySem.W.Frag} {H : Hp} {p b c : Addr} {e : Str} {o r : List Int} (h : H p = some (.tup [.str e, .ref b, .ref c])) (ho : SqT K H b (o.map V.int)) (hr : SqT K H c (r.map V.int)) : Dp K H (.ref p) (behD e o r) :=
  .tup (SqT.of h) (.cons (.str _) (.cons (.tup ho (ints_all _)) (.cons (.tup hr (ints_all _)) .nil)))
theorem beh_sh {e : Str} {o r : List Int} (h : PyData.strOk e = true) : SeqAt.shaped (behD e o r) = true := by
  obtain ⟨i1, i2⟩ := ints_lay o
  obtain ⟨j1, j2⟩ := ints_lay r
  unfold SeqAt.shaped
  show ((PyData.strOk e && (PyData.canLayAll0 (o.map PyData.int) && (PyData.canLayAll0 (r.map PyData.int) && true))) && decide (max 0 (max (PyData.depthAll (o.map PyData.int) + 1) (max (PyData.depthAll (r.map PyData.int) + 1) 0)) + 1 ≤ 64)) = true
  rw [h, i1, j1, i2, j2]
  rfl
theorem beh_eqv {e : Str} {o r : List Int} (h : PyData.strOk e = true) : PyData.eqv (behD e o r) (behD e o r) = true := SeqAt.eqv_refl _ (SeqAt.canLay_of_shaped (beh_sh h))
theorem most_le {n m k : Nat} (h1 : n ≤ 40) (h2 : m ≤ 4) (h3 : k ≤ 6) : (n + 2) * (m ^ k * 6) ≤ 2000000 := by
  have a1 : m ^ k ≤ 4 ^ k := Nat.pow_le_pow_left h2 k
  have a2 : (4 : Nat) ^ k ≤ 4 ^ 6 := Nat.pow_le_pow_right (by decide) h3
  have a3 : (n + 2) * (m ^ k * 6) ≤ 42 * (4096 * 6) := Nat.mul_le_mul (by omega) (by omega)
  omega
end BR

/-! ### far outputs: the shortened ones are the same ones -/
namespace BR
open PySem PySem.Spec PyProof.Rows L2
/-- the output with a number -/
def nthL (xs ring : List Int) (k : Nat) : Option Int := if k < xs.length then xs[k]? else if ring = [] then none else ring[(k - xs.length) % ring.length]?
/-- an item of a ring, by any integer -/
def atR (p : List Int) (j : Int) : Option Int := p[(j % (p.length : Int)).toNat]?
theorem rep_at {p : List Int} (h0 : 1 ≤ p.length) : ∀ (q i : Nat), i < q * p.length → (List.replicate q p).flatten[i]? = p[i % p.length]?
  | 0, i, h => by rw [Nat.zero_mul] at h; omega
  | q + 1, i, h => by
    rw [List.replicate_succ, List.flatten_cons]
    by_cases c : i < p.length
    · rw [List.getElem?_append_left c, Nat.mod_eq_of_lt c]
    · rw [List.getElem?_append_right (by omega), rep_at h0 q (i - p.length) (by rw [Nat.succ_mul] at h; omega)]
      congr 1
      rw [← Nat.mod_eq_sub_mod (by omega)]
theorem part_at {ring : List Int} {m : Nat} (h : PartIs ring m) (j : Nat) : ring[j % ring.length]? = (ring.take m)[j % m]? := by
  obtain ⟨m1, ml, ⟨d, e⟩, _⟩ := h
  have lt : (ring.take m).length = m := by rw [List.length_take]; omega
  have dv : ring.length = ring.length / m * m := by
    have := Nat.div_add_mod ring.length m
    rw [d, Nat.add_zero, Nat.mul_comm] at this
    exact this.symm
  have jl : j % ring.length < ring.length := Nat.mod_lt _ (by omega)
  have r := rep_at (p := ring.take m) (by omega) (ring.length / m) (j % ring.length) (by rw [lt, ← dv]; exact jl)
  rw [← e, lt] at r
  rw [r]
  congr 1
  rw [Nat.mod_mod_of_dvd]
  exact Nat.dvd_of_mod_eq_zero d
theorem rot_len {p : List Int} {t : Nat} (h0 : 1 ≤ p.length) : (rotL p t).length = p.length := by
  have s0 : 0 ≤ (-(t : Int)) % (p.length : Int) := Int.emod_nonneg _ (by omega)
  have s1 : (-(t : Int)) % (p.length : Int) < (p.length : Int) := Int.emod_lt_of_pos _ (by omega)
  unfold rotL
  rw [List.length_append, List.length_drop, List.length_take]
  unfold rotS
  omega
theorem rot_at {p : List Int} {t : Nat} (h0 : 1 ≤ p.length) (j : Int) : atR (rotL p t) j = atR p (j - t) := by
  have s0 : 0 ≤ (-(t : Int)) % (p.length : Int) := Int.emod_nonneg _ (by omega)
  have s1 : (-(t : Int)) % (p.length : Int) < (p.length : Int) := Int.emod_lt_of_pos _ (by omega)
  have ll : (rotL p t).length = p.length := by
    unfold rotL
    rw [List.length_append, List.length_drop, List.length_take]
    unfold rotS
    omega
  unfold atR
  rw [ll]
  have j0 : 0 ≤ j % (p.length : Int) := Int.emod_nonneg _ (by omega)
  have j1 : j % (p.length : Int) < (p.length : Int) := Int.emod_lt_of_pos _ (by omega)
  have key : (j - (t : Int)) % (p.length : Int) = (j % (p.length : Int) + (-(t : Int)) % (p.length : Int)) % (p.length : Int) := by
    rw [← Int.add_emod, Int.sub_eq_add_neg]
  rw [key]
  unfold rotL rotS
  generalize (-(t : Int)) % (p.length : Int) = s at *
  generalize j % (p.length : Int) = i at *
  by_cases c : i + s < p.length
  · rw [Int.emod_eq_of_lt (by omega) c, List.getElem?_append_left (by rw [List.length_drop]; omega), List.getElem?_drop]
    congr 1
    omega
  · rw [List.getElem?_append_right (by rw [List.length_drop]; omega), List.length_drop, List.getElem?_take_of_lt (by omega)]
    congr 1
    have : (i + s) % (p.length : Int) = i + s - p.length := by
      rw [← Int.sub_emod_right, Int.emod_eq_of_lt (by omega) (by omega)]
    rw [this]
    omega
theorem at_nat_mod {p : List Int} (j : Nat) : atR p (j : Int) = p[j % p.length]? := by
  unfold atR
  rw [← Int.natCast_emod, Int.toNat_natCast]
theorem short_nth {xs ring o r : List Int} (h : ShortIs xs ring o r) (k : Nat) : nthL o r k = nthL xs ring k := by
  rcases h with ⟨e, h1, h2⟩ | ⟨e, m, t, hp, ht, h3, h4⟩
  · rw [h1, h2, e]
  have lp : (ring.take m).length = m := by rw [List.length_take]; have := hp.2.1; omega
  have m1 := hp.1
  have lo : o.length = xs.length - t := by rw [h3, List.length_take]; omega
  have lr : r.length = m := by rw [h4, rot_len (by omega), lp]
  have rn : r ≠ [] := fun z => by rw [z] at lr; exact absurd lr (by show 0 ≠ m; omega)
  unfold nthL
  rw [if_neg rn, if_neg e, lo]
  have ta := ht.1
  by_cases c : k < xs.length - t
  · rw [if_pos c, if_pos (by omega), h3, List.getElem?_take_of_lt c]
  rw [if_neg c]
  have hr : r[(k - (xs.length - t)) % r.length]? = atR (ring.take m) ((k : Int) - (xs.length : Int)) := by
    rw [← at_nat_mod, h4, rot_at (by omega)]
    congr 1
    omega
  rw [hr]
  by_cases c2 : k < xs.length
  · rw [if_pos c2]
    have q := ht.2.1 (xs.length - 1 - k) (by omega)
    unfold Mt at q
    rw [show xs.length - 1 - (xs.length - 1 - k) = k by omega, lp] at q
    rw [q]
    unfold atR
    rw [lp]
    congr 1
    have a : ((xs.length - 1 - k) % m : Nat) < m := Nat.mod_lt _ (by omega)
    have b := Nat.div_add_mod (xs.length - 1 - k) m
    generalize (xs.length - 1 - k) % m = u at a b ⊢
    generalize (xs.length - 1 - k) / m = v at b
    have : (k : Int) - (xs.length : Int) = ((m - 1 - u : Nat) : Int) + (m : Int) * (-(v : Int) - 1) := by
      have : (xs.length : Int) - 1 - k = (m : Int) * v + u := by
        have : ((xs.length - 1 - k : Nat) : Int) = ((m * v + u : Nat) : Int) := by rw [b]
        rw [Int.natCast_add, Int.natCast_mul] at this
        omega
      rw [Int.mul_sub, Int.mul_neg, Int.mul_one]
      omega
    rw [this, Int.add_mul_emod_self_left, ← Int.natCast_emod, Int.toNat_natCast, Nat.mod_eq_of_lt (by omega)]
  · have am := at_nat_mod (p := ring.take m) (k - xs.length)
    rw [lp] at am
    rw [if_neg c2, part_at hp, ← am]
    congr 1
    omega
end BR

/-! ### a machine whose registers stand in a dict of names; a run's outputs, not shortened -/
namespace BR
open PySem PySem.Spec PyProof.Rows L2
def boxL (ns : List Str) (vals : List Int) : List (Key × V) := (ns.zip vals).map fun q => ((Sum.inr q.1 : Key), V.int q.2)
theorem box_len {ns : List Str} {vals : List Int} (h : vals.length = ns.length) : (boxL ns vals).length = ns.length := by
  unfold boxL
  rw [List.length_map, List.length_zip, h, Nat.min_self]
theorem pl_cons {n a : Str} {ns : List Str} : pl (n :: ns) a = if a = n then 0 else pl ns a + 1 := by
  unfold pl
  rw [List.idxOf_cons]
  by_cases c : a = n
  · subst c
    simp
  · have : (n == a) = false := beq_eq_false_iff_ne.mpr fun z => c z.symm
    rw [this, if_neg c]
    rfl
theorem getR_cons {n a : Str} {ns : List Str} {v : Int} {vs : List Int} : getR (n :: ns) (v :: vs) a = if a = n then v else getR ns vs a := by
  unfold getR
  rw [pl_cons]
  split <;> rfl
theorem setR_cons {n a : Str} {ns : List Str} {v x : Int} {vs : List Int} : setR (n :: ns) (v :: vs) a x = if a = n then x :: vs else v :: setR ns vs a x := by
  unfold setR
  rw [pl_cons]
  split <;> rfl
theorem zip_lookup : ∀ {ns : List Str} {vals : List Int} {a : Str}, vals.length = ns.length → a ∈ ns → (ns.zip vals).lookup a = some (getR ns vals a)
  | n :: ns, [], a, hl, _ => nomatch hl
  | n :: ns, v :: vs, a, hl, ha => by
    rw [List.zip_cons_cons, List.lookup_cons, getR_cons]
    by_cases c : a = n
    · rw [if_pos c, beq_iff_eq.mpr c]
    · rw [if_neg c, beq_eq_false_iff_ne.mpr c]
      exact zip_lookup (Nat.succ.inj hl) ((List.mem_cons.mp ha).resolve_left c)
theorem box_val {ns : List Str} {vals : List Int} {a : Str} (hl : vals.length = ns.length) (ha : a ∈ ns) : valV (boxL ns vals) (.inr a : Key) = some (.int (getR ns vals a)) := by
  unfold boxL
  rw [valV_mapS (f := V.int), zip_lookup hl ha]
  rfl
theorem box_id {a : Str} {x : Int} : ∀ {ns : List Str} {vals : List Int}, a ∉ ns → (boxL ns vals).map (fun kv => if kv.1 = (.inr a : Key) then (kv.1, V.int x) else kv) = boxL ns vals
  | [], _, _ => rfl
  | _ :: _, [], _ => rfl
  | n :: ns, v :: vs, h => by
    have ih := box_id (ns := ns) (vals := vs) (x := x) fun z => h (List.mem_cons_of_mem _ z)
    unfold boxL at ih ⊢
    rw [List.zip_cons_cons, List.map_cons, List.map_cons, ih]
    rw [if_neg fun z => h (by rw [← Sum.inr.inj z]; exact List.mem_cons_self)]
theorem box_map {a : Str} {x : Int} : ∀ {ns : List Str} {vals : List Int}, vals.length = ns.length → ns.Nodup → a ∈ ns → (boxL ns vals).map (fun kv => if kv.1 = (.inr a : Key) then (kv.1, V.int x) else kv) = boxL ns (setR ns vals a x)
  | n :: ns, [], hl, _, _ => nomatch hl
  | n :: ns, v :: vs, hl, nd, ha => by
    obtain ⟨n1, n2⟩ := List.nodup_cons.mp nd
    rw [setR_cons]
    by_cases c : a = n
    · subst c
      rw [if_pos rfl]
      have ih := box_id (ns := ns) (vals := vs) (x := x) n1
      unfold boxL at ih ⊢
      rw [List.zip_cons_cons, List.zip_cons_cons, List.map_cons, List.map_cons, List.map_cons, ih, if_pos rfl]
    · rw [if_neg c]
      have ih := box_map (vals := vs) (x := x) (Nat.succ.inj hl) n2 ((List.mem_cons.mp ha).resolve_left c)
      unfold boxL at ih ⊢
      rw [List.zip_cons_cons, List.zip_cons_cons, List.map_cons, List.map_cons, List.map_cons, ih, if_neg fun z => c (Sum.inr.inj z).symm]
theorem box_has {a : Str} : ∀ {ns : List Str} {vals : List Int}, vals.length = ns.length → a ∈ ns → ((boxL ns vals).any fun kv => decide (kv.1 = (.inr a : Key))) = true
  | n :: ns, [], hl, _ => nomatch hl
  | n :: ns, v :: vs, hl, ha => by
    unfold boxL
    rw [List.zip_cons_cons, List.map_cons, List.any_cons]
    by_cases c : a = n
    · rw [c, decide_eq_true rfl]
      rfl
    · have ih := box_has (vals := vs) (Nat.succ.inj hl) ((List.mem_cons.mp ha).resolve_left c)
      unfold boxL at ih
      rw [ih, Bool.or_true]
theorem box_put {ns : List Str} {vals : List Int} {a : Str} {x : Int} (hl : vals.length = ns.length) (nd : ns.Nodup) (ha : a ∈ ns) : putK (boxL ns vals) (.inr a : Key) (.int x) = boxL ns (setR ns vals a x) := by
  unfold putK
  rw [if_pos (box_has hl ha), box_map hl nd ha]
theorem dbox_get {H : Hp} {d : Addr} {ns : List Str} {vals : List Int} {a : Str} (e : Rd H d (.dK (boxL ns vals))) (hl : vals.length = ns.length) (ha : a ∈ ns) : DGet H d (.str a) (some (.int (getR ns vals a))) := .inl ⟨boxL ns vals, .inr a, e, rfl, (box_val hl ha).symm⟩
theorem dbox_put {H : Hp} {d : Addr} {ns : List Str} {vals : List Int} {a : Str} {x : Int} (e : H d = some (.dK (boxL ns vals))) (hl : vals.length = ns.length) (hn : ns.length ≤ 100) (nd : ns.Nodup) (ha : a ∈ ns) : DPut H d (.str a) (.int x) (L2.upd H d (.dK (boxL ns (setR ns vals a x)))) := by
  have g := DPut.k (k := (.inr a : Key)) (v := .int x) e (by rw [box_len hl, sizeLine_eq]; omega)
  rw [box_put hl nd ha] at g
  exact g
theorem setR_len {ns : List Str} {vals : List Int} {a : Str} {x : Int} : (setR ns vals a x).length = vals.length := List.length_set
theorem box_at {ns : List Str} {vals : List Int} {i : Nat} (hl : vals.length = ns.length) (hi : i < ns.length) : ∃ a v, ns[i]? = some a ∧ vals[i]? = some v ∧ (boxL ns vals)[i]? = some (.inr a, .int v) := by
  refine ⟨ns[i], vals[i], List.getElem?_eq_getElem hi, List.getElem?_eq_getElem (by omega), ?_⟩
  unfold boxL
  rw [List.getElem?_map, List.getElem?_eq_getElem (by rw [List.length_zip]; omega), List.getElem_zip]
  rfl
theorem getR_nth : ∀ {ns : List Str} {vals : List Int} {i : Nat} {a : Str} {v : Int}, ns.Nodup → ns[i]? = some a → vals[i]? = some v → getR ns vals a = v
  | n :: ns, w :: vs, 0, a, v, nd, h1, h2 => by
    cases h1
    cases h2
    rw [getR_cons, if_pos rfl]
  | n :: ns, w :: vs, i + 1, a, v, nd, h1, h2 => by
    obtain ⟨n1, n2⟩ := List.nodup_cons.mp nd
    have h1 : ns[i]? = some a := h1
    have h2 : vs[i]? = some v := h2
    rw [getR_cons, if_neg fun z => n1 (by rw [← z]; exact List.mem_of_getElem? h1)]
    exact getR_nth n2 h1 h2
theorem regs_nd (n : Nat) : (regs n).Nodup := by
  match n with
  | 0 => decide +kernel
  | 1 => decide +kernel
  | 2 => decide +kernel
  | 3 => decide +kernel
  | n + 4 =>
    have e : regs (n + 4) = regs 4 := by
      unfold regs
      rw [List.take_of_length_le (by show 4 ≤ n + 4; omega)]
      rfl
    rw [e]
    decide +kernel
theorem upd_lock {H : Hp} {d D : Addr} {f u x : HO} (h : H d = some u) (ne : D ≠ d) : L2.upd (L2.upd (L2.upd H d f) D x) d u = L2.upd H D x := by
  funext b
  unfold L2.upd
  by_cases c : b = d
  · subst c
    rw [if_pos rfl, if_neg (Ne.symm ne), h]
  · rw [if_neg c, if_neg c]
theorem sgn_pqrs : sgn "pqrs" = [V.str "p", V.str "q", V.str "r", V.str "s"] := by decide +kernel
theorem es_go {ws : List Int} (h1 : 1 ≤ ws.length) (h4 : ws.length ≤ 4) : (sgn "pqrs").zip (ws.map V.int) ++ [(V.str "x", V.int (ws.getD 0 0)), (V.str "y", V.int (ws.getD 0 0))] = ((regs ws.length).zip (begM ws).vals).map fun q => (V.str q.1, V.int q.2) := by
  rw [sgn_pqrs]
  match ws, h1, h4 with
  | [a], _, _ => rfl
  | [a, b], _, _ => rfl
  | [a, b, c], _, _ => rfl
  | [a, b, c, d], _, _ => rfl
/-- a run's outputs and its ring, as they come -/
def LongIs (ns : List Str) (rs : List (List V)) (cut : Int) (ws : List Int) (ending : Str) (o r : List Int) : Prop := ∃ n, WalkIs ns rs cut (begM ws) n ending ∧
  ((ending ≠ "endless" ∧ o = outsM ns rs ((List.range n).map (itM ns rs cut (begM ws))) ∧ r = []) ∨
   (ending = "endless" ∧ ∃ i, i < n ∧ itM ns rs cut (begM ws) i = itM ns rs cut (begM ws) n ∧ o = outsM ns rs (((List.range n).map (itM ns rs cut (begM ws))).take i) ∧ r = outsM ns rs (((List.range n).map (itM ns rs cut (begM ws))).drop i)))
theorem long_nth {ns : List Str} {rs : List (List V)} {cut : Int} {ws : List Int} {e e' : Str} {o r o' r' : List Int} (h : BehIs ns rs cut ws e o r) (g : LongIs ns rs cut ws e' o' r') (k : Nat) : nthL o r k = nthL o' r' k := by
  obtain ⟨n, h1, h2⟩ := h
  obtain ⟨m, g1, g2⟩ := g
  obtain ⟨rfl, rfl⟩ := walk_one h1 g1
  rcases h2 with ⟨a, h2, h3⟩ | ⟨a, i, hi, he, hs⟩
  · rcases g2 with ⟨b, g2, g3⟩ | ⟨b, _⟩
    · rw [h2, h3, g2, g3]
    · exact absurd b a
  · rcases g2 with ⟨b, _⟩ | ⟨b, j, hj, je, g2, g3⟩
    · exact absurd a b
    · have ij : i = j := by
        rcases Nat.lt_trichotomy i j with c | c | c
        · exact absurd (he.trans je.symm) (h1.new i j c hj)
        · exact c
        · exact absurd (je.trans he.symm) (h1.new j i c hi)
      subst ij
      rw [g2, g3]
      exact short_nth hs k
theorem outs_succ {ns : List Str} {rs : List (List V)} {f : Nat → MS} {n : Nat} : outsM ns rs ((List.range (n + 1)).map f) = outsM ns rs ((List.range n).map f) ++ (outM ns rs (f n)).toList := by
  unfold outsM
  rw [List.range_succ, List.map_append, List.filterMap_append]
  refine congrArg (_ ++ ·) ?_
  show List.filterMap (outM ns rs) [f n] = _
  rw [List.filterMap_cons, List.filterMap_nil]
  cases outM ns rs (f n) <;> rfl
theorem outs_take {ns : List Str} {rs : List (List V)} {f : Nat → MS} {n i : Nat} (h : i ≤ n) : outsM ns rs (((List.range n).map f).take i) = outsM ns rs ((List.range i).map f) := by
  rw [← List.map_take, List.take_range, Nat.min_eq_left h]
theorem outs_cut {ns : List Str} {rs : List (List V)} {f : Nat → MS} {n i : Nat} (h : i ≤ n) : (outsM ns rs ((List.range n).map f)).take (outsM ns rs ((List.range i).map f)).length = outsM ns rs (((List.range n).map f).take i) ∧ (outsM ns rs ((List.range n).map f)).drop (outsM ns rs ((List.range i).map f)).length = outsM ns rs (((List.range n).map f).drop i) := by
  have e : outsM ns rs ((List.range n).map f) = outsM ns rs (((List.range n).map f).take i) ++ outsM ns rs (((List.range n).map f).drop i) := by
    unfold outsM
    rw [← List.filterMap_append, List.take_append_drop]
  rw [e, ← outs_take h]
  exact ⟨List.take_left' rfl, List.drop_left' rfl⟩
theorem log_ok2 {m : Int} (h0 : 0 < m) (h1 : m < 2 ^ 1400) : m.natAbs.log2 < 9000 := by
  have h : m.natAbs < 2 ^ 1400 := by
    have e : ((2 : Int) ^ 1400) = ((2 ^ 1400 : Nat) : Int) := by norm_cast
    rw [e] at h1
    omega
  exact Nat.lt_of_lt_of_le (PySem.Flt.log2_lt_of (by decide) h) (by decide)
/-- an int or None, as data and as a value -/
def oD : Option Int → PyData
  | none => .none
  | some x => .int x
def oV : Option Int → V
  | none => .non
  | some x => .int x
theorem oV_match {o : Option Int} : (match o with | some x => V.int x | none => V.non) = oV o := by cases o <;> rfl
theorem oV_dp {K : PySem.W.Frag} {H : Hp} (o : Option Int) : Dp K H (oV o) (oD o) := by
  cases o with
  | none => exact .non
  | some x => exact .int x
theorem opt_ok {o : Option Int} (h : ∀ x, o = some x → 0 ≤ x ∧ x < 2 ^ 300) : (PyData.list [oD o, oD o]).showable = true ∧ (PyData.list [oD o, oD o]).hasDict = false ∧ (PyData.list [oD o, oD o]).depth ≤ 60 ∧ (PyData.list [oD o, oD o]).shown.length ≤ sizeLine := by
  cases o with
  | none => exact ⟨rfl, rfl, by decide, by show (PyData.list [PyData.none, PyData.none]).shown.length ≤ _; rw [sizeLine_eq]; decide +kernel⟩
  | some x =>
    obtain ⟨h1, h2, h3, h4⟩ := ints_show (ys := [x, x]) fun y hy => by
      have e : y = x := by simpa using hy
      rw [e]
      exact h x rfl
    refine ⟨h1, h2, ?_, ?_⟩
    · show max 0 (max 0 0) + 1 ≤ 60
      decide
    · have e := PyData.shown_le 301 (by decide) (.list ([x, x].map PyData.int)) h3
      have w : (PyData.list ([x, x].map PyData.int)).weight ≤ 8000 := by
        have q : (PyData.list ([x, x].map PyData.int)).weight ≤ PyData.weightAll ([x, x].map PyData.int) + 100 := by
          unfold PyData.weight
          omega
        have : 301 * ([x, x] : List Int).length = 602 := rfl
        omega
      have : (301 + 2) * (PyData.list ([x, x].map PyData.int)).weight ≤ (301 + 2) * 8000 := Nat.mul_le_mul_left _ w
      exact Nat.le_trans e (Nat.le_trans (Nat.add_le_add_right this _) (by decide))
theorem nthL_mem {o r : List Int} {k : Nat} {x : Int} (h : nthL o r k = some x) : x ∈ o ∨ x ∈ r := by
  unfold nthL at h
  split at h
  · exact .inl (List.mem_of_getElem? h)
  · split at h
    · exact nomatch h
    · exact .inr (List.mem_of_getElem? h)
end BR

/-! ### sorted(d.items()), d's keys texts that rise, d's values ints -/
namespace BR
open PySem PySem.Spec PyProof.Rows L2
def posV (as : List Addr) (v : Value) : Nat := (as.map Value.ref).findIdx (fun u => match u, v with | .ref a, .ref b => decide (a = b) | _, _ => false)
theorem posV_swo (as : List Addr) : SrtO.Swo (fun v u : Value => decide (posV as v < posV as u)) := by
  refine ⟨fun x y h => ?_, fun x y z h1 h2 => ?_⟩
  · have a := of_decide_eq_true h
    exact decide_eq_false (by omega)
  · have a := of_decide_eq_false h1
    have b := of_decide_eq_false h2
    exact decide_eq_false (by omega)
theorem posV_at : ∀ {as : List Addr} {j : Nat} {a : Addr}, as.Nodup → as[j]? = some a → posV as (.ref a) = j
  | b :: as, 0, a, _, h => by
    cases h
    unfold posV
    rw [List.map_cons, List.findIdx_cons]
    simp
  | b :: as, j + 1, a, nd, h => by
    obtain ⟨n1, n2⟩ := List.nodup_cons.mp nd
    have h : as[j]? = some a := h
    have ih := posV_at n2 h
    have ne : b ≠ a := fun z => n1 (by rw [z]; exact List.mem_of_getElem? h)
    unfold posV at ih ⊢
    rw [List.map_cons, List.findIdx_cons]
    simp only [decide_eq_false ne, cond_false]
    rw [ih]
section
variable {prog : Program} {w : World} {A : Around} {E : Value → Shared → Prop} {s : Shared}
/-- sorted of a view of items -/
theorem its_sorted {κ : Type} [DecidableEq κ] {knd : PySem.KeyKind prog w κ} {r d : Addr} {kvs : List (κ × Value)} {ep : Nat} {Q : Value → Shared → Prop} (hh : A.in1.handled = none) (hv : s.heap.IsItemsView r d) (hm : s.heap.DictAt knd d kvs ep) (hn : kvs.length ≤ sizeLine) (h0 : 0 < kvs.length)
    (hS : ∀ (h' : Heap) (tk : Nat) (as : List Addr), (∀ b o, s.heap.get? b = some o → h'.get? b = some o) → as.length = kvs.length → PySem.W.KdxG knd kvs s.heap.objs.size h' as → 2 ≤ as.length → ∀ (h₁ : Heap) (a : Addr), h₁.get? a = some (seqObj "list" (as.map Value.ref).toArray 0) → (∀ b o, h'.get? b = some o → b ≠ a ∧ h₁.get? b = some o) → SrtO.SortableO prog w A.in1.in1 { s with heap := h₁, toks := tk } a (as.map Value.ref) (fun v u => decide (posV as v < posV as u)))
    (h : ∀ (h' : Heap) (tk : Nat) (as : List Addr) (D n : Nat), (∀ b o, s.heap.get? b = some o → h'.get? b = some o) → as.length = kvs.length → PySem.W.KdxG knd kvs s.heap.objs.size h' as → s.heap.objs.size ≤ D → D ∉ as → h'.get? D = some (seqObj "list" (as.map Value.ref).toArray n) → Q (.ref D) { s with heap := h', toks := tk }) :
    wpAny (model prog w) A (call (.builtin "sorted") [.ref r]) Q E s := by
  refine Calls.call_function_entry kind_sorted plain_sorted entry_sorted (args_sorted1 _) ?_
  unfold Builtin.«sorted»
  refine wpAny_bind (m := checkCount "sorted" 1 1 _) (wpAny_pure ?_)
  refine wpAny_bind (PySem.W.kdx_collect (A := A.in1) (knd := knd) (kvs := kvs) (ep := ep) hh hv hm hn fun h' tk as hk hl hG => ?_)
  have nd : as.Nodup := List.Pairwise.imp (fun {a b} (h : a < b) => Nat.ne_of_lt h) hG.rise
  refine wpAny_bind (wpAny_newList ?_ (by rw [List.length_map, hl]; exact hn))
  have hoL : (h'.push (seqObj "list" (as.map Value.ref).toArray 0)).get? h'.objs.size = some (seqObj "list" (as.map Value.ref).toArray 0) := Heap.get?_push_size _ rfl
  have keep : ∀ b o, h'.get? b = some o → b ≠ h'.objs.size ∧ (h'.push (seqObj "list" (as.map Value.ref).toArray 0)).get? b = some o := fun b o q => ⟨Nat.ne_of_lt (Heap.lt_size q), Heap.get?_push_of_some _ q⟩
  refine wpAny_bind (wpAny_holding (wpAny_call_entry slot_list_sort ⟨_, hoL, rfl⟩ entry_list_sort (SrtO.list_sort_ord (posV_swo as) hoL (by rw [List.length_map, hl]; exact hn) (fun h2 => hS h' tk as hk hl hG (by rw [List.length_map] at h2; exact h2) _ _ hoL keep) fun out hs hb => ⟨_, rfl, ?_⟩) (args_list_sort _)))
  refine wpAny_pure ⟨_, rfl, ?_⟩
  have so : SrtO.Srtd (fun v u : Value => decide (posV as v < posV as u)) (as.map Value.ref) := by
    refine List.pairwise_map.mpr (List.pairwise_iff_getElem.mpr fun i j hi hj hij => decide_eq_false ?_)
    rw [posV_at nd (List.getElem?_eq_getElem hi), posV_at nd (List.getElem?_eq_getElem hj)]
    omega
  obtain rfl := SrtO.stb_uniq (posV_swo as) hs so hb
  have lz : h'.objs.size < (h'.push (seqObj "list" (as.map Value.ref).toArray 0)).objs.size := Heap.lt_size hoL
  obtain ⟨n, hat⟩ := sortedHeap_at (vs := as.map Value.ref) (out := (as.map Value.ref).toArray) hoL
  have old : ∀ b o, h'.get? b = some o → (sortedHeap (h'.push (seqObj "list" (as.map Value.ref).toArray 0)) h'.objs.size (as.map Value.ref) (as.map Value.ref).toArray).get? b = some o := fun b o q => by
    rw [sortedHeap_old (keep b o q).1 (Heap.lt_size (keep b o q).2)]
    exact (keep b o q).2
  refine h _ _ as h'.objs.size n (fun b o q => old b o (hk b o q)) hl ⟨hG.rise, hG.above, fun j a ha => ?_⟩ ?_ (fun z => ?_) hat
  · obtain ⟨key, k, x, e1, e2, e3⟩ := hG.pairs j a ha
    exact ⟨key, k, x, e1, e2, old _ _ e3⟩
  · obtain ⟨a, m⟩ : ∃ a, a ∈ as := by
      cases as with
      | nil => rw [← hl] at h0; exact absurd h0 (Nat.lt_irrefl 0)
      | cons a as => exact ⟨a, List.mem_cons_self⟩
    exact Nat.le_of_lt (Nat.lt_trans (hG.above a m) (hG.there m))
  · have := hG.there z
    exact Nat.lt_irrefl _ this
end
/-- the names rise -/
def NsUp (ns : List Str) : Prop := ∀ (i j : Nat) (a b : Str), ns[i]? = some a → ns[j]? = some b → decide (a.cps.toList < b.cps.toList) = decide (i < j) ∧ (a = b → i = j)
def PairV (h : Heap) (a : Addr) (z : Str) (i : Int) : Prop := ∃ t t', h.get? a = some { cls := .type "tuple", data := .seq #[.str z t, .int i t'] }
theorem pairs_firsts {h : Heap} : ∀ {as : List Addr}, (∀ a ∈ as, ∃ z i, PairV h a z i) → ∃ fs : List Value, PySem.W.KatTups h (as.map Value.ref) fs ∧ fs.length = as.length ∧ ∀ f ∈ fs, ∃ z t, f = Value.str z t
  | [], _ => ⟨[], True.intro, rfl, fun f m => by cases m⟩
  | a :: as, hv => by
    obtain ⟨fs, h1, h2, h3⟩ := pairs_firsts (as := as) fun u m => hv u (List.mem_cons_of_mem _ m)
    obtain ⟨z, i, t, t', e⟩ := hv a List.mem_cons_self
    refine ⟨.str z t :: fs, PySem.W.KatTups.cons e rfl rfl rfl h1, by rw [List.length_cons, List.length_cons, h2], fun f m => ?_⟩
    rcases List.mem_cons.mp m with rfl | m
    · exact ⟨z, t, rfl⟩
    · exact h3 f m
section
variable {prog : Program} {w : World} {A : Around} {E : Value → Shared → Prop} {s : Shared}
theorem pairs_cmp {as : List Addr} {ns : List Str} {vals : List Int} {h : Heap} (up : NsUp ns) (nd : as.Nodup) (hp : ∀ (j : Nat) (a : Addr), as[j]? = some a → ∃ z i, ns[j]? = some z ∧ vals[j]? = some i ∧ PairV h a z i) :
    SrtO.Cmp prog w A { s with heap := h } (tuples' true) (fun p => p.1 ∈ as.map Value.ref) (SrtO.lt2 fun v u => decide (posV as v < posV as u)) := by
  intro p r hm hm'
  obtain ⟨a, ma, ea⟩ := List.mem_map.mp hm
  obtain ⟨b, mb, eb⟩ := List.mem_map.mp hm'
  obtain ⟨i, hi⟩ := List.mem_iff_getElem?.mp ma
  obtain ⟨j, hj⟩ := List.mem_iff_getElem?.mp mb
  obtain ⟨zi, xi, e1, e2, ti, ti', e3⟩ := hp i a hi
  obtain ⟨zj, xj, f1, f2, tj, tj', f3⟩ := hp j b hj
  obtain ⟨u1, u2⟩ := up i j zi zj e1 f1
  have el : SrtO.lt2 (fun v u => decide (posV as v < posV as u)) p r = decide (i < j) := by
    show decide (posV as p.1 < posV as r.1) = _
    rw [← ea, ← eb, posV_at nd hi, posV_at nd hj]
  rw [el, ← ea, ← eb]
  refine PySem.W.kat_lt e3 rfl f3 rfl ?_
  show PySem.W.KatLex prog w A true (decide (2 < 2)) _ [(.str zi ti, .str zj tj), (.int xi ti', .int xj tj')] 0 { s with heap := h }
  refine PySem.W.kat_cons (SeqAt.EqAt.str_str zi ti zj tj prog w _ _ ?_)
  refine PySem.W.kat_go (fun c1 => ?_) (fun c1 => ?_)
  · have ij := u2 (by simpa using c1)
    subst ij
    rw [e2] at f2
    obtain rfl := Option.some.inj f2
    refine PySem.W.kat_yes (PySem.W.kat_cons (SeqAt.EqAt.int_int xi ti' xi tj' prog w _ _ ?_))
    refine PySem.W.kat_go (fun c2 => ?_) (fun c2 => ?_)
    · exact PySem.W.kat_yes (PySem.W.kat_nil ⟨rfl, (decide_eq_false (Nat.lt_irrefl i)).symm⟩)
    · simp at c2
  · refine PySem.W.kat_no ?_
    exact oneLt_str ⟨rfl, u1⟩
end
def rSortBox : V → Hp → VK → Prop := fun x H Q => ∃ (d : Addr) (ns : List Str) (vals : List Int), x = .ref d ∧ H d = some (.dK (boxL ns vals)) ∧ vals.length = ns.length ∧ 0 < ns.length ∧ ns.length ≤ 100 ∧ NsUp ns ∧
  ∀ (H' : Hp) (p : Addr) (ts : List Addr), Same H H' → H p = none → H' p = some (.lst (ts.map V.ref)) → Paired (fun (t : Addr) (q : Str × Int) => H' t = some (.tup [.str q.1, .int q.2])) ts (ns.zip vals) → Q (.ref p) H'
def tSortBox (te : TE) : TE := fun σ H Q => te σ H fun x H1 => rSortBox x H1 Q
section
variable {X : Cx} {e : Expr} {te : TE} {p apos cpos pos : Pos}
theorem pairs_laidD {pins : List (Addr × Obj)} {σ : L2.St} {H : Hp} {s : Shared} {h' : Heap} {tk n D : Nat} {kvs : List (Key × V)} {vs : List (Key × Value)} {as : List Addr} (I : Inv X pins σ H s) (hz : kvs.length ≤ sizeLine) (kv : KV kvs vs)
    (hk : ∀ b o, s.heap.get? b = some o → h'.get? b = some o) (lD : s.heap.objs.size ≤ D) (hSn : D ∉ as) (hS : h'.get? D = some (seqObj "list" (as.map Value.ref).toArray n)) (hl : as.length = vs.length) (hG : PySem.W.KdxG (mixKind X.prog X.w) vs s.heap.objs.size h' as) :
    ∃ H' : Hp, Same H H' ∧ H D = none ∧ H' D = some (.lst (as.map V.ref)) ∧ Paired (fun (t : Addr) (q : Key × V) => H' t = some (.tup [kV q.1, q.2])) as kvs ∧ Inv X pins σ H' { s with heap := h', toks := tk } := by
  have lk : kvs.length = vs.length := Paired.length kv
  have nd : as.Nodup := List.Pairwise.imp (fun {a b} (h : a < b) => Nat.ne_of_lt h) hG.rise
  have new : ∀ t ∈ as, H t = none := fun t ht => I.hok.fresh (Nat.le_of_lt (hG.above t ht))
  have newS : H D = none := I.hok.fresh lD
  have atP := LiI.putT_at as kvs (upd H D (.lst (as.map V.ref))) (by omega) nd
  have off : ∀ b, b ∉ as → b ≠ D → LiI.putT (upd H D (.lst (as.map V.ref))) as kvs b = H b := fun b h1 h2 => by rw [LiI.putT_off as kvs _ h1, upd_ne h2]
  have low : ∀ b o, s.heap.get? b = some o → b ∉ as ∧ b ≠ D := fun b o e => ⟨fun z => absurd (Heap.lt_size e) (Nat.not_lt.mpr (Nat.le_of_lt (hG.above b z))), Nat.ne_of_lt (Nat.lt_of_lt_of_le (Heap.lt_size e) lD)⟩
  have kp : ∀ b u, H b = some u → (LiI.putT (upd H D (.lst (as.map V.ref))) as kvs) b = some u := fun b u e => by
    rw [off b (fun z => by rw [new b z] at e; cases e) (fun z => by rw [z, newS] at e; cases e)]
    exact e
  have eS : LiI.putT (upd H D (.lst (as.map V.ref))) as kvs D = some (.lst (as.map V.ref)) := by rw [LiI.putT_off as kvs _ hSn, upd_same]
  refine ⟨LiI.putT (upd H D (.lst (as.map V.ref))) as kvs, kp, newS, eS, atP, ?_⟩
  refine I.call' (ch := []) rfl ⟨fun b o q _ _ _ => hk b o q, fun b o q _ _ _ => ⟨o.slots, hk b o q⟩, fun b o q n _ => ?_, fun b o q _ => ⟨o, hk b o q⟩, fun b xs q => kp b _ q, fun b o u q => kp b _ q, fun b ps q => ⟨#[], by rw [kp b _ q]; simp⟩⟩ (fun b u q => ?_) I.bare fun b z => by simp at z
  · obtain ⟨z1, z2⟩ := low b o q
    rw [off b z1 z2]
    exact n
  · by_cases hb : b ∈ as
    · obtain ⟨j, pk, e1, e2, e3⟩ := LiI.paired_ix atP hb
      rw [e3] at q
      cases q
      obtain ⟨key, k, x, f1, f2, f3⟩ := hG.pairs j b e1
      obtain ⟨qv, g1, g2, g3⟩ := LiI.paired_get kv e2
      rw [f1] at g1
      cases g1
      have rk : RelV (kV pk.1) key := by
        rw [g2]
        exact relV_key (show keyIs k key = true from f2)
      exact ⟨by show 2 ≤ sizeLine; decide, [key, x], .cons rk (.cons g3 .nil), ⟨_, f3, rfl, _, rfl⟩⟩
    · by_cases hb2 : b = D
      · rw [hb2] at q ⊢
        rw [eS] at q
        cases q
        exact ⟨by rw [List.length_map]; omega, as.map Value.ref, n, LiI.vals_refs as, hS⟩
      · rw [off b hb hb2] at q
        exact (I.hok b u q).stay (fun d v _ y => hk d v y) (fun d y => kp d _ y) fun d xs y => kp d _ y
/-- sorted(e.items()) -/
theorem pe_sortBox (hc : X.calm = true) (hu : X.A.units + 64 < cLine) (he : PE X e te) (hg : Gl X "sorted") (hm : X.mg "sorted" = none) (hbase : attributeBase e "items" X.env (eval e X.env) = eval e X.env := by rfl) (hline : (apos.endLine == cpos.line) = true := by rfl)
    (hs : starEach [.Call (.Attribute e "items" apos) [] [] cpos] X.env = (false, eval (.Call (.Attribute e "items" apos) [] [] cpos) X.env) :: starEach [] X.env := by rfl) :
    PE X (.Call (.Name "sorted" p) [.Call (.Attribute e "items" apos) [] [] cpos] [] pos) (tSortBox te) := by
  refine ⟨fun pins s σ H Q I hq => ?_⟩
  refine wpAny_Call_Name_kw (ld_blt I hg hm (show bootBuiltins "sorted" = some (.builtin "sorted") by decide +kernel) ?_)
  refine PyProof.Rows.callWith_builtin1 ?_ hs rfl
  rw [hs]
  show wpAny _ _ (spliced ((false, eval (.Call (.Attribute e "items" apos) [] [] cpos) X.env) :: backTo pos (starEach [] X.env))) _ _ s
  refine Calls.spliced_cons ?_
  refine wpAny_Call_method (T := "dict") (id := "dict.items") hbase rfl hline F.plainAttrs_dict F.slot_dict_items F.type_dict_items (thn (he.run pins s σ H _ I hq) fun u s1 ⟨x, H1, I1, rx, d, ns, vals, ex, hd, vl, n0, n1, up, q⟩ => ?_)
  subst ex
  obtain rfl : u = Value.ref d := rx
  obtain ⟨hz, hs0, vs, kv, hdo⟩ := I1.hok d _ hd
  obtain ⟨ep, hat⟩ := hdo.dictAt
  have lk : (boxL ns vals).length = vs.length := Paired.length kv
  have lb := box_len vl
  have I2 : Inv X pins σ H1 { s1 with heap := s1.heap.push { cls := .type "dict_items", data := .fields #[.ref d] } } := I1.kept (t' := s1.toks) fun b ob q => Heap.get?_push_of_some _ q
  refine ⟨hdo.typeIs, hdo.mapOf.noDict, ?_⟩
  show wpAny _ _ (callWith cpos (.builtin "dict.items") [.ref d] [] []) _ X.xe s1
  refine method_meetsIn F.slot_dict_items F.entry_dict_items rfl (PySem.evalArgs_none ⟨rfl, hdo.typeIs, F.args_dict_items_1 _, _, meets_dict_items (mixKind X.prog X.w) d hs0, ⟨vs, hdo⟩, ?_⟩)
  refine Calls.spliced_nil ?_
  refine its_sorted (knd := mixKind X.prog X.w) (kvs := vs) (ep := ep) (I1.ok.hd hc) ⟨_, Heap.get?_push_size _ rfl, rfl, rfl⟩ (hat.push _) (by omega) (by omega) (fun h' tk as hk hl hG h2 h₁ a ha kk => ?_) fun h' tk as D n hk hl hG lD nD eD => ?_
  · have nd : as.Nodup := List.Pairwise.imp (fun {a b} (h : a < b) => Nat.ne_of_lt h) hG.rise
    have tp : ∀ (j : Nat) (t : Addr), as[j]? = some t → ∃ z i, ns[j]? = some z ∧ vals[j]? = some i ∧ PairV h' t z i := fun j t ht => by
      obtain ⟨key, k, x, f1, f2, f3⟩ := hG.pairs j t ht
      have jl : j < ns.length := by
        have := (List.getElem?_eq_some_iff.mp ht).1
        omega
      obtain ⟨z, i, g1, g2, g3⟩ := box_at vl jl
      obtain ⟨qv, k1, k2, k3⟩ := LiI.paired_get kv g3
      rw [f1] at k1
      cases k1
      have rk : RelV (kV (.inr z : Key)) key := by
        have := relV_key (show keyIs k key = true from f2)
        rw [show k = (Sum.inr z : Key) from k2.symm] at this
        exact this
      obtain ⟨t1, rfl⟩ := (show ∃ t1, key = Value.str z t1 from rk)
      obtain ⟨t2, rfl⟩ := (show ∃ t2, x = Value.int i t2 from k3)
      exact ⟨z, i, g1, g2, t1, t2, f3⟩
    intro h3 keep3
    have tp3 : ∀ (j : Nat) (t : Addr), as[j]? = some t → ∃ z i, ns[j]? = some z ∧ vals[j]? = some i ∧ PairV h3 t z i := fun j t ht => by
      obtain ⟨z, i, g1, g2, t1, t2, e⟩ := tp j t ht
      obtain ⟨ne, e1⟩ := kk _ _ e
      exact ⟨z, i, g1, g2, t1, t2, keep3 _ _ ne e1⟩
    refine ⟨tuples' true, fun Q E hq => ?_, pairs_cmp up nd tp3⟩
    obtain ⟨fs, g1, g2, g3⟩ := pairs_firsts (h := h3) (as := as) fun t m => by
      obtain ⟨j, hj⟩ := List.mem_iff_getElem?.mp m
      obtain ⟨z, i, _, _, pv⟩ := tp3 j t hj
      exact ⟨z, i, pv⟩
    refine PySem.W.kat_kind (T := .type "str") g1 (by omega) (fun f hm => ?_) (by rfl) ?_
    · obtain ⟨z, t, rfl⟩ := g3 f hm
      exact .now
    · have e : (Value.type "str" != Value.type "tuple") = true := by first | decide +kernel | rfl | decide
      rw [e]
      exact hq
  · obtain ⟨H', k1, k2, k3, k4, J⟩ := pairs_laidD (tk := tk) I2 hz kv hk lD nD eD hl hG
    refine ⟨.ref _, H', J, rfl, q H' _ as k1 k2 k3 ?_⟩
    have : ∀ {ts : List Addr} {es : List (Str × Int)}, Paired (fun (t : Addr) (q : Key × V) => H' t = some (.tup [kV q.1, q.2])) ts (es.map fun q => ((Sum.inr q.1 : Key), V.int q.2)) → Paired (fun (t : Addr) (q : Str × Int) => H' t = some (.tup [.str q.1, .int q.2])) ts es := by
      intro ts es h
      induction es generalizing ts with
      | nil => cases h; exact .nil
      | cons e es ih =>
        rw [List.map_cons] at h
        cases h with
        | cons a b => exact .cons a (ih b)
    exact this k4
end
end BR

/-! ### xs[i] += e; d.get(k, x) of a dict whose keys are tuples -/
namespace BR
open PySem PySem.Spec PyProof.Rows L2
/-- o[i] of a list, i not negative -/
def rGetL (K : PySem.W.Frag) : V → V → Hp → VK → Prop := fun x y H Q => ∃ (a : Addr) (xs : List V) (j : Nat) (z : V), x = .ref a ∧ y = .int (j : Nat) ∧ SqL K H a xs ∧ xs[j]? = some z ∧ Q z H
theorem get_list {X : Cx} : PGet X (rGetL X.K) := by
  intro pins s σ H o i ov iv Q I ro ri h
  obtain ⟨a, xs, j, z, rfl, rfl, hs, hz, q⟩ := h
  cases ro
  obtain ⟨t, rfl⟩ := ri
  obtain ⟨its, rv, hl, hz2⟩ := I.list hs
  obtain ⟨u, hu, ru⟩ := rv.get hz
  exact wpAny_getItem_list (x := u) hl.isList (by omega) (by
    have := (List.getElem?_eq_some_iff.mp hu).1
    have l := rv.length
    rw [sizeLine_eq] at hz2
    omega) (by rw [Int.toNat_natCast]; simpa using hu) ⟨z, H, I, ru, q⟩
def rGetN (K : PySem.W.Frag) (P : Program) (w : World) : V → List V → Hp → VK → Prop := fun x xs H Q => ∃ d b kvs k y, x = .ref d ∧ xs = [.ref b, y] ∧ NDict K P w H d kvs ∧ NkAt K H k (.ref b) ∧ k.depth ≤ 8 ∧ Q ((valN kvs k).getD y) H
theorem mt_getN {X : Cx} (hu : X.A.units + 64 < cLine) : MtR X "dict.get" (rGetN X.K X.prog X.w) := by
  intro pins s σ H x xs v us Q I rx rxs h
  obtain ⟨d, b, kvs, k, y, rfl, rfl, D, hk, hz, q⟩ := h
  obtain rfl : v = Value.ref d := rx
  obtain ⟨u1, u2, rfl, r1, r2⟩ := vals2 rxs
  obtain rfl : u1 = Value.ref b := r1
  obtain ⟨z, hd, ys, rel, dd⟩ := D.of I.hok I.kIn
  refine call_meetsIn F.slot_dict_get dd.typeIs F.entry_dict_get (F.args_dict_get_3 _ _ _) (meetsH_dict_get_default (nestedKind X.prog X.w) d b hd u2) ⟨by show X.A.units + 1 + 8 < cLine; omega, k, ys, ⟨hk.is I.hok I.kIn rfl, hz⟩, dd, ?_⟩
  have e := rel.val k
  cases ha : (atKey ys k).map (·.2) with
  | none =>
    rw [ha] at e
    cases hb : valN kvs k with
    | none =>
      rw [hb] at q
      exact ⟨y, H, I.tok _, r2, q⟩
    | some v2 => rw [hb] at e; exact e.elim
  | some w2 =>
    rw [ha] at e
    cases hb : valN kvs k with
    | none => rw [hb] at e; exact e.elim
    | some v2 =>
      rw [hb] at q e
      exact ⟨v2, H, I.tok _, e, q⟩
end BR

/-! ### a machine watched by its sorted items; outputs shortened by steps; the words of a width -/
namespace BR
open PySem PySem.Spec PyProof.Rows L2
def flagK (f : Option Str) : NestedKey := match f with | none => .none | some z => .text z
def keyB (ns : List Str) (s : MS) : NestedKey := .tup [(match s.row with | none => .none | some i => .num (i : Nat)), .tup ((ns.zip s.vals).map fun q => .tup [.text q.1, .num q.2]), flagK s.flag]
theorem keyB_inj {ns : List Str} {s t : MS} (hs : s.vals.length = ns.length) (ht : t.vals.length = ns.length) (h : keyB ns s = keyB ns t) : s = t := by
  obtain ⟨r, v, f⟩ := s
  obtain ⟨r', v', f'⟩ := t
  have hs : v.length = ns.length := hs
  have ht : v'.length = ns.length := ht
  unfold keyB at h
  injection h with h
  injection h with h1 h
  injection h with h2 h
  injection h with h3 h
  injection h2 with h2
  have e1 : r = r' := by
    cases r <;> cases r' <;> first | rfl | (injection h1 with e; rw [Int.natCast_inj.mp e]) | exact nomatch h1
  have e2 : ns.zip v = ns.zip v' := by
    refine (List.map_inj_right fun a b e => ?_).mp h2
    injection e with e
    injection e with e1 e
    injection e with e2 e
    injection e1 with e1
    injection e2 with e2
    exact Prod.ext e1 e2
  have e2 : v = v' := by
    have := congrArg (List.map Prod.snd) e2
    rwa [List.map_snd_zip (by omega), List.map_snd_zip (by omega)] at this
  have e3 : f = f' := by
    unfold flagK at h3
    cases f <;> cases f' <;> first | rfl | (injection h3 with e; rw [e]) | exact nomatch h3
  rw [e1, e2, e3]
theorem pairs_depth : ∀ es : List (Str × Int), NestedKey.depthAll (es.map fun q => NestedKey.tup [.text q.1, .num q.2]) ≤ 1
  | [] => Nat.zero_le _
  | e :: es => by
    show max 1 (NestedKey.depthAll (es.map fun q => NestedKey.tup [.text q.1, .num q.2])) ≤ 1
    have := pairs_depth es
    omega
theorem keyB_depth {ns : List Str} (s : MS) : (keyB ns s).depth ≤ 8 := by
  obtain ⟨r, v, f⟩ := s
  show NestedKey.depthAll [_, .tup ((ns.zip v).map fun q => NestedKey.tup [.text q.1, .num q.2]), _] + 1 ≤ 8
  have d0 : NestedKey.depth (match r with | none => NestedKey.none | some i => .num (i : Nat)) = 0 := by cases r <;> rfl
  have d2 : NestedKey.depth (flagK f) = 0 := by cases f <;> rfl
  have d1 : NestedKey.depth (.tup ((ns.zip v).map fun q => NestedKey.tup [.text q.1, .num q.2])) ≤ 2 := by
    show NestedKey.depthAll ((ns.zip v).map fun q => NestedKey.tup [.text q.1, .num q.2]) + 1 ≤ 2
    have := pairs_depth (ns.zip v)
    omega
  simp only [NestedKey.depthAll]
  rw [d0, d2]
  omega
theorem nk_pairs {K : PySem.W.Frag} {H : Hp} : ∀ {ts : List Addr} {es : List (Str × Int)}, Paired (fun (t : Addr) (q : Str × Int) => H t = some (.tup [.str q.1, .int q.2])) ts es → NkAll K H (es.map fun q => .tup [.text q.1, .num q.2]) (ts.map V.ref)
  | [], [], _ => .nil
  | t :: ts, e :: es, .cons a p => .cons (.tup (SqT.of a) (.cons (.str _) (.cons (.int _) .nil))) (nk_pairs p)
theorem keyB_at {K : PySem.W.Frag} {H : Hp} {q t : Addr} {ts : List Addr} {ns : List Str} {a : Nat} {vals : List Int} {fl : Option Str} (h1 : H q = some (.tup [.int (a : Nat), .ref t, flagV fl])) (h2 : H t = some (.tup (ts.map V.ref))) (h3 : Paired (fun (t : Addr) (q : Str × Int) => H t = some (.tup [.str q.1, .int q.2])) ts (ns.zip vals)) : NkAt K H (keyB ns ⟨some a, vals, fl⟩) (.ref q) := by
  refine .tup (SqT.of h1) (.cons (.int _) (.cons (.tup (SqT.of h2) (nk_pairs h3)) (.cons ?_ .nil)))
  unfold flagV flagK
  cases fl with
  | none => exact .non
  | some z => exact .str z
theorem regs_up {n : Nat} (h : n ≤ 4) : NsUp (regs n) := by
  have all : ∀ n, n ≤ 4 → ∀ i, i < (regs n).length → ∀ j, j < (regs n).length → decide (((regs n).getD i "").cps.toList < ((regs n).getD j "").cps.toList) = decide (i < j) ∧ ((regs n).getD i "" = (regs n).getD j "" → i = j) := by decide +kernel
  intro i j a b ha hb
  have li := (List.getElem?_eq_some_iff.mp ha).1
  have lj := (List.getElem?_eq_some_iff.mp hb).1
  have := all n h i li j lj
  rw [List.getD_eq_getElem?_getD, List.getD_eq_getElem?_getD, ha, hb] at this
  exact this
/-! outputs, shortened step by step -/
def ShIs (e : Str) (xs ys o r : List Int) : Prop := (e ≠ "endless" ∧ o = xs ∧ r = ys) ∨ (e = "endless" ∧ ShortIs xs ys o r)
/-- the same run, its outputs by another name -/
theorem beh_sh2 {ns : List Str} {rs : List (List V)} {cut : Int} {ws : List Int} {e e' : Str} {o r xs ys o' r' : List Int} {f : Int → Int} (h : BehIs ns rs cut ws e o r) (g : LongIs ns rs cut ws e' xs ys) (s : ShIs e' (xs.map f) (ys.map f) o' r')
    (inj : ∀ x ∈ xs ++ ys, ∀ y ∈ xs ++ ys, f x = f y → x = y) : e' = e ∧ o' = o.map f ∧ r' = r.map f := by
  obtain ⟨n, h1, h2⟩ := h
  obtain ⟨m, g1, g2⟩ := g
  obtain ⟨rfl, rfl⟩ := walk_one h1 g1
  refine ⟨rfl, ?_⟩
  rcases h2 with ⟨a, h2, h3⟩ | ⟨a, i, hi, he, hs⟩
  · rcases g2 with ⟨b, g2, g3⟩ | ⟨b, _⟩
    · rcases s with ⟨_, s1, s2⟩ | ⟨c, _⟩
      · rw [s1, s2, h2, h3, g2, g3]
        exact ⟨rfl, rfl⟩
      · exact absurd c a
    · exact absurd b a
  · rcases g2 with ⟨b, _⟩ | ⟨b, j, hj, je, g2, g3⟩
    · exact absurd a b
    · have ij : i = j := by
        rcases Nat.lt_trichotomy i j with c | c | c
        · exact absurd (he.trans je.symm) (h1.new i j c hj)
        · exact c
        · exact absurd (je.trans he.symm) (h1.new j i c hi)
      subst ij
      rcases s with ⟨c, _⟩ | ⟨_, s⟩
      · exact absurd a c
      · rw [← g2, ← g3] at hs
        exact short_one s (short_map inj hs)
theorem getQ_ext {l m : List Int} (hl : l.length = m.length) (h : ∀ i, i < l.length → l[i]? = m[i]?) : l = m := by
  refine List.ext_getElem? fun i => ?_
  by_cases c : i < l.length
  · exact h i c
  · rw [List.getElem?_eq_none (by omega), List.getElem?_eq_none (by omega)]
/-- one more turn -/
theorem rot_step {p : List Int} {t : Nat} (h0 : 1 ≤ p.length) : (rotL p t).drop (p.length - 1) ++ (rotL p t).take (p.length - 1) = rotL p (t + 1) := by
  have l1 := rot_len (p := p) (t := t) h0
  have l2 := rot_len (p := p) (t := t + 1) h0
  refine getQ_ext ?_ fun i hi => ?_
  · rw [List.length_append, List.length_drop, List.length_take, l1, l2]
    omega
  have hi : i < p.length := by
    rw [List.length_append, List.length_drop, List.length_take, l1] at hi
    omega
  have r1 : (rotL p (t + 1))[i]? = atR (rotL p (t + 1)) (i : Int) := by rw [at_nat_mod, l2, Nat.mod_eq_of_lt hi]
  rw [r1, rot_at h0]
  by_cases c : i = 0
  · subst c
    rw [List.getElem?_append_left (by rw [List.length_drop, l1]; omega), List.getElem?_drop]
    have r2 : (rotL p t)[p.length - 1 + 0]? = atR (rotL p t) ((p.length - 1 : Nat) : Int) := by rw [at_nat_mod, l1, Nat.mod_eq_of_lt (by omega), Nat.add_zero]
    rw [r2, rot_at h0]
    unfold atR
    congr 2
    have : (((p.length - 1 : Nat) : Int) - (t : Int)) = (((0 : Nat) : Int) - ((t + 1 : Nat) : Int)) + (p.length : Int) := by omega
    rw [this, Int.add_emod_right]
  · rw [List.getElem?_append_right (by rw [List.length_drop, l1]; omega), List.length_drop, l1, List.getElem?_take_of_lt (by omega)]
    have r2 : (rotL p t)[i - (p.length - (p.length - 1))]? = atR (rotL p t) ((i - 1 : Nat) : Int) := by
      rw [at_nat_mod, l1, Nat.mod_eq_of_lt (by omega)]
      congr 1
      omega
    rw [r2, rot_at h0]
    unfold atR
    congr 2
    have : (((i - 1 : Nat) : Int) - (t : Int)) = ((i : Int) - ((t + 1 : Nat) : Int)) := by omega
    rw [this]
theorem rot_zero {p : List Int} (h0 : 1 ≤ p.length) : rotL p 0 = p := by
  unfold rotL rotS
  show p.drop ((-((0 : Nat) : Int)) % (p.length : Int)).toNat ++ p.take ((-((0 : Nat) : Int)) % (p.length : Int)).toNat = p
  rw [show (-((0 : Nat) : Int)) % (p.length : Int) = 0 by simp]
  simp
/-- the last one of a turned ring -/
theorem rot_last {p : List Int} {t : Nat} (h0 : 1 ≤ p.length) : (rotL p t)[p.length - 1]? = p[p.length - 1 - t % p.length]? := by
  have l1 := rot_len (p := p) (t := t) h0
  have tm : t % p.length < p.length := Nat.mod_lt _ (by omega)
  have r2 : (rotL p t)[p.length - 1]? = atR (rotL p t) ((p.length - 1 : Nat) : Int) := by rw [at_nat_mod, l1, Nat.mod_eq_of_lt (by omega)]
  rw [r2, rot_at h0]
  unfold atR
  congr 1
  have d := Nat.div_add_mod t p.length
  generalize t % p.length = u at tm d ⊢
  generalize t / p.length = v at d
  have : (((p.length - 1 : Nat) : Int) - (t : Int)) = ((p.length - 1 - u : Nat) : Int) + (p.length : Int) * (-(v : Int)) := by
    have : (t : Int) = (p.length : Int) * v + u := by rw [← d]; push_cast; rfl
    rw [Int.mul_neg]
    omega
  rw [this, Int.add_mul_emod_self_left, ← Int.natCast_emod, Int.toNat_natCast, Nat.mod_eq_of_lt (by omega)]
/-- the place of a word among the words -/
def ixI (ws : List Int) (x : Int) : Int := ((ws.idxOf x : Nat) : Int)
theorem ix_inj {ws : List Int} {x y : Int} (hx : x ∈ ws) (hy : y ∈ ws) (h : ixI ws x = ixI ws y) : x = y := by
  have e : ws.idxOf x = ws.idxOf y := Int.natCast_inj.mp h
  have a := List.getElem_idxOf (List.idxOf_lt_length_of_mem hx)
  have b := List.getElem_idxOf (List.idxOf_lt_length_of_mem hy)
  rw [← a, ← b]
  congr 1
theorem ix_map {f : Int → Int} : ∀ {ws : List Int} {x : Int}, (∀ a ∈ ws, ∀ b ∈ ws, f a = f b → a = b) → x ∈ ws → ixI (ws.map f) (f x) = ixI ws x
  | w :: ws, x, inj, hx => by
    unfold ixI
    rw [List.map_cons, List.idxOf_cons, List.idxOf_cons]
    by_cases c : w = x
    · rw [c]
      simp
    · have h1 : (w == x) = false := beq_eq_false_iff_ne.mpr c
      have h2 : (f w == f x) = false := beq_eq_false_iff_ne.mpr fun z => c (inj w List.mem_cons_self x hx z)
      rw [h1, h2]
      have ih := ix_map (f := f) (ws := ws) (x := x) (fun a ha b hb => inj a (List.mem_cons_of_mem _ ha) b (List.mem_cons_of_mem _ hb)) ((List.mem_cons.mp hx).resolve_left fun z => c z.symm)
      unfold ixI at ih
      show (((ws.map f).idxOf (f x) + 1 : Nat) : Int) = ((ws.idxOf x + 1 : Nat) : Int)
      omega
theorem take_new {ns : List Str} {vals : List Int} {i : Nat} {a : Str} (nd : ns.Nodup) (h : ns[i]? = some a) : valV (((ns.zip vals).take i).map fun q : Str × Int => ((Sum.inr q.1 : Key), V.int q.2)) (.inr a : Key) = none := by
  rw [valV_mapS (f := V.int)]
  cases hk : ((ns.zip vals).take i).lookup a with
  | none => rfl
  | some v9 =>
    exfalso
    obtain ⟨j, hj⟩ := List.mem_iff_getElem?.mp (lookup_mem hk)
    have jl : j < i := by
      have := (List.getElem?_eq_some_iff.mp hj).1
      rw [List.length_take] at this
      omega
    rw [List.getElem?_take_of_lt jl] at hj
    have q1 := (List.getElem?_zip_eq_some.mp hj).1
    have := (List.getElem?_inj (List.getElem?_eq_some_iff.mp q1).1 nd).mp (q1.trans h.symm)
    omega
abbrev inpN : List Str := ["p", "q", "r", "s"]
theorem box_begin {ws : List Int} (h1 : 1 ≤ ws.length) (h4 : ws.length ≤ 4) : (((inpN.zip ws).take ws.length).map fun q : Str × Int => ((Sum.inr q.1 : Key), V.int q.2)) ++ [((Sum.inr "x" : Key), V.int (ws.getD 0 0))] ++ [((Sum.inr "y" : Key), V.int (ws.getD 0 0))] = boxL (regs ws.length) (begM ws).vals ∧
    valV (((inpN.zip ws).take ws.length).map fun q : Str × Int => ((Sum.inr q.1 : Key), V.int q.2)) (.inr "x" : Key) = none ∧ valV ((((inpN.zip ws).take ws.length).map fun q : Str × Int => ((Sum.inr q.1 : Key), V.int q.2)) ++ [((Sum.inr "x" : Key), V.int (ws.getD 0 0))]) (.inr "y" : Key) = none := by
  match ws, h1, h4 with
  | [a], _, _ => exact ⟨rfl, rfl, rfl⟩
  | [a, b], _, _ => exact ⟨rfl, rfl, rfl⟩
  | [a, b, c], _, _ => exact ⟨rfl, rfl, rfl⟩
  | [a, b, c, d], _, _ => exact ⟨rfl, rfl, rfl⟩
theorem at_natG {α : Type} {xs : List α} {i : Nat} {v : α} (h : xs[i]? = some v) : atI xs (i : Int) = some v := by
  have il := (List.getElem?_eq_some_iff.mp h).1
  unfold atI ixN
  rw [if_pos (by omega), if_pos (by omega)]
  show xs[(i : Int).toNat]? = _
  rw [Int.toNat_natCast, h]
theorem at_lastV {xs : List V} {v : V} : atI (xs ++ [v]) (-1) = some v := by
  unfold atI ixN
  rw [if_neg (by decide), List.length_append, List.length_singleton, if_pos (by omega)]
  show (xs ++ [v])[((-1 : Int) + ((xs.length + 1 : Nat) : Int)).toNat]? = _
  rw [show ((-1 : Int) + ((xs.length + 1 : Nat) : Int)).toNat = xs.length by omega, List.getElem?_append_right (Nat.le_refl _), Nat.sub_self]
  rfl
def outR (ns : List Str) (vals : List Int) : List V → Option Int
  | [.str _, .str a] => some (getR ns vals a)
  | _ => none
theorem outM_at {ns : List Str} {rs : List (List V)} {a : Nat} {vals : List Int} {fl : Option Str} {r : List V} {size : Int} (ge : rs.getD a [] = r) (rc : RowC ns size r) : outM ns rs ⟨some a, vals, fl⟩ = outR ns vals r := by
  unfold outM
  simp only [ge]
  cases rc <;> rfl
theorem part_self {ys : List Int} (h : 1 ≤ ys.length) : Part ys ys.length := by
  refine ⟨Nat.mod_self _, ?_⟩
  rw [Nat.div_self (by omega), List.take_length, List.replicate_one, List.flatten_singleton]
theorem cut_last {xs : List V} (h : 1 ≤ xs.length) : cutV xs none (some (-1)) = xs.take (xs.length - 1) ∧ cutV xs (some (-1)) none = xs.drop (xs.length - 1) := by
  have e : HT.sIx xs.length xs.length (some (-1)) = xs.length - 1 ∧ HT.sIx xs.length 0 (some (-1)) = xs.length - 1 := by
    have : ((-1 : Int) + (xs.length : Int)).toNat = xs.length - 1 := by omega
    refine ⟨?_, ?_⟩
    · show (if (-1 : Int) < 0 then ((-1 : Int) + (xs.length : Int)).toNat else min ((-1 : Int).toNat) xs.length) = _
      rw [if_pos (by decide), this]
    · show (if (-1 : Int) < 0 then ((-1 : Int) + (xs.length : Int)).toNat else min ((-1 : Int).toNat) xs.length) = _
      rw [if_pos (by decide), this]
  unfold cutV
  rw [e.1, e.2]
  refine ⟨?_, ?_⟩
  · show (xs.drop 0).take (xs.length - 1 - 0) = _
    rw [List.drop_zero, Nat.sub_zero]
  · show (xs.drop (xs.length - 1)).take (xs.length - (xs.length - 1)) = _
    exact List.take_of_length_le (by rw [List.length_drop]; omega)
theorem at_lastI {xs : List V} {v : V} (h : xs[xs.length - 1]? = some v) : atI xs (-1) = some v := by
  have l := (List.getElem?_eq_some_iff.mp h).1
  unfold atI ixN
  rw [if_neg (by decide), if_pos (by omega)]
  show xs[((-1 : Int) + (xs.length : Int)).toNat]? = _
  rw [show ((-1 : Int) + (xs.length : Int)).toNat = xs.length - 1 by omega, h]
theorem long_mem {ns : List Str} {rs : List (List V)} {cut : Int} {ws : List Int} {e : Str} {xs ys : List Int} (h0 : ws ≠ []) (hl : ws.length + 2 = ns.length) (rok : ∀ r ∈ rs, RowC ns rs.length r) (h : LongIs ns rs cut ws e xs ys) : ∀ x ∈ xs ++ ys, x ∈ ws := by
  obtain ⟨n, wk, h⟩ := h
  have mo := beg_ok (n := rs.length) h0 hl
  have all : ∀ s ∈ (List.range n).map (itM ns rs cut (begM ws)), MOk ns rs.length ws s := fun s m => by
    obtain ⟨i, mi, rfl⟩ := List.mem_map.mp m
    have il := List.mem_range.mp mi
    exact it_ok rok mo i fun j hj => wk.on j (by omega)
  intro x m
  rcases h with ⟨_, rfl, rfl⟩ | ⟨_, i, _, _, rfl, rfl⟩
  · rw [List.append_nil] at m
    exact outs_mem rok all x m
  · rcases List.mem_append.mp m with m | m
    · exact outs_mem rok (fun s q => all s (List.mem_of_mem_take q)) x m
    · exact outs_mem rok (fun s q => all s (List.mem_of_mem_drop q)) x m
end BR

/-! ### new tuples whose very object is known; the index of a flat thing in one -/
namespace BR
open PySem PySem.Spec PyProof.Rows L2
def TupZ (H : Hp) (t : Addr) (xs : List V) : Prop := ∃ o : Obj, H t = some (.frz o (.tup xs)) ∧ o.cls = .type "tuple" ∧ o.dict = none
theorem TupZ.same {H H' : Hp} {t : Addr} {xs : List V} (h : TupZ H t xs) (s : Same H H') : TupZ H' t xs := let ⟨o, e, r⟩ := h; ⟨o, s _ _ e, r⟩
theorem TupZ.sq {K : PySem.W.Frag} {H : Hp} {t : Addr} {xs : List V} (h : TupZ H t xs) : SqT K H t xs := let ⟨o, e, _⟩ := h; .inl (.inr ⟨o, e⟩)
theorem TupZ.up {H : Hp} {t d : Addr} {xs : List V} {u o : HO} (h : TupZ H t xs) (e : H d = some u) (n : ∀ o v, u ≠ .frz o v) : TupZ (L2.upd H d o) t xs := by
  obtain ⟨ob, e1, r⟩ := h
  exact ⟨ob, (upd_ne fun z => n _ _ (by rw [z, e] at e1; exact Option.some.inj e1)).trans e1, r⟩
section
variable {X : Cx}
/-- tuple(a list) -/
def rTupZ (K : PySem.W.Frag) : List V → Hp → VK → Prop := fun xs H Q => ∃ p ys, xs = [.ref p] ∧ SqL K H p ys ∧ ∀ l o, H l = none → o.cls = .type "tuple" → o.dict = none → Q (.ref l) (L2.upd H l (.frz o (.tup ys)))
theorem call_tupleZ : CallR X (.type "tuple") (rTupZ X.K) := by
  intro pins s σ H xs us Q I r h
  obtain ⟨p, ys, rfl, hq, q⟩ := h
  obtain ⟨u, rfl, rx⟩ := vals1 r
  cases rx
  obtain ⟨its, r', pl, hz⟩ := I.list hq
  have hlen := r'.length
  refine call_tuple_list pl.isList (fun h' kp => ?_) (by simp only [List.size_toArray] <;> omega)
  have I1 : Inv X pins σ H { s with heap := h' } := I.kept (t' := s.toks) kp
  refine ⟨.ref h'.objs.size, _, I1.laid (t' := s.toks) (o := .frz _ (.tup ys)) (fun b o e => Heap.get?_push_of_some _ e) (Nat.le_refl _) ⟨Heap.get?_push_size _ rfl, ?_⟩, rfl, q _ _ (I1.hok.fresh (Nat.le_refl _)) rfl rfl⟩
  exact ⟨hz, its, r', IsTup.new _ _⟩
/-- t + u, u not empty -/
def rCatAZ (K : PySem.W.Frag) : R2 := fun x y H Q => ∃ a b xs ys, x = .ref a ∧ y = .ref b ∧ SqT K H a xs ∧ SqT K H b ys ∧ ys ≠ [] ∧ xs.length + ys.length ≤ sizeLine ∧
  (xs = [] → Q (.ref b) H) ∧ (xs ≠ [] → ∀ (p : Addr) (o : Obj), H p = none → o.cls = .type "tuple" → o.dict = none → Q (.ref p) (L2.upd H p (.frz o (.tup (xs ++ ys)))))
theorem op_catAZ : OpR X (binaryOp .Add) (rCatAZ X.K) := by
  intro pins s σ H x y v u Q I rx ry h
  obtain ⟨a, b, xs, ys, rfl, rfl, ha, hb, hy, hz, q0, q1⟩ := h
  by_cases hx : xs = []
  · subst hx
    exact op_catA pins s σ H _ _ v u Q I rx ry ⟨a, b, [], ys, rfl, rfl, ha, hb, hz, fun _ => q0 rfl, fun z => absurd rfl z, fun z => absurd rfl z⟩
  · exact op_catZ pins s σ H _ _ v u Q I rx ry ⟨a, b, xs, ys, rfl, rfl, ha, hb, hx, hy, hz, q1 hx⟩
/-- (e, ..) -/
def tTupZ (t : TA) : TE := fun σ H Q => t σ H fun xs H1 => xs.length ≤ sizeLine ∧ ∀ (p : Addr) (o : Obj), H1 p = none → o.cls = .type "tuple" → o.dict = none → Q (.ref p) (L2.upd H1 p (.frz o (.tup xs)))
theorem pe_tupZ {es : List Expr} {t : TA} {x1 : Nat} {pos : Pos} (h : PA X es t) : PE X (.Tuple es x1 pos) (tTupZ t) := by
  refine ⟨fun pins s σ H Q I hq => ?_⟩
  refine wpAny_Tuple_spliced (thn (h.run pos pins s σ H _ I hq) fun us s1 ⟨xs, H1, I1, r, z, q⟩ => ⟨by rw [← r.length]; exact z, ?_⟩)
  have hf : H1 s1.heap.objs.size = none := I1.hok.fresh (Nat.le_refl _)
  refine ⟨.ref s1.heap.objs.size, _, I1.laid (t' := s1.toks) (o := .frz _ (.tup xs)) (fun b u e => Heap.get?_push_of_some _ e) (Nat.le_refl _) ⟨Heap.get?_push_size _ rfl, ?_⟩, rfl, q _ _ hf rfl rfl⟩
  exact ⟨z, us, r, ⟨_, Heap.get?_push_size _ rfl, rfl, _, rfl⟩⟩
/-- t.index(x), ints -/
def tTIxI (K : PySem.W.Frag) (to : TE) (ta : TA) : TE := fun σ H Q => to σ H fun x H1 => ∃ (p : Addr) (ns : List Int), x = .ref p ∧ TupZ H1 p (ns.map V.int) ∧ ta σ H1 fun vs H2 => ∃ (z : Int), vs = [.int z] ∧ TupZ H2 p (ns.map V.int) ∧ z ∈ ns ∧ Q (.int ((ns.idxOf z : Nat) : Int)) H2
theorem idx_first {ns : List Int} {z : Int} {m : Nat} (h : m < ns.idxOf z) : ns[m]? ≠ some z := fun e => by
  obtain ⟨hl, e⟩ := List.getElem?_eq_some_iff.mp e
  have := List.not_of_lt_findIdx (p := fun x => x == z) (xs := ns) (i := m) h
  rw [e] at this
  simp at this
theorem mt_tup_indexI : MtR X "tuple.index" (fun x xs H Q => ∃ p, ∃ ys : List Int, ∃ z, x = .ref p ∧ xs = [.int z] ∧ SqT X.K H p (ys.map V.int) ∧ z ∈ ys ∧ Q (.int ((ys.idxOf z : Nat) : Int)) H) := by
  intro pins s σ H x xs v us Q I rx rs h
  obtain ⟨p, ys, z, rfl, rfl, hq, hy, q⟩ := h
  cases rx
  obtain ⟨u, rfl, t, rfl⟩ := vals1 rs
  obtain ⟨its, r, pl, hz⟩ := I.tuple hq
  obtain ⟨⟨cls, dd, dt, sl⟩, ho, hc, n, hd⟩ := pl
  simp only at hc hd
  subst hc
  subst hd
  have hl : its.toArray.size = ys.length := by rw [List.size_toArray, ← r.length, List.length_map]
  have hj : ys.idxOf z < its.toArray.size := by rw [hl]; exact List.idxOf_lt_length_of_mem hy
  have at' : ∀ (m : Nat) (hm : m < its.toArray.size), ∃ y t', ys[m]? = some y ∧ its.toArray[m] = Value.int y t' := fun m hm => by
    have hm' : m < ys.length := by rw [← hl]; exact hm
    obtain ⟨w, hw, t', hw'⟩ := r.get (i := m) (x := .int ys[m]) (by simp [hm'])
    refine ⟨ys[m], t', List.getElem?_eq_getElem hm', ?_⟩
    have e := (List.getElem?_eq_some_iff.mp hw).2
    rw [← hw', ← e]
    simp
  have fi : (ys.map V.int).all flatV = true := List.all_eq_true.mpr fun x hx => by
    obtain ⟨y, _, rfl⟩ := List.mem_map.mp hx
    rfl
  refine call_meets PySem.F.slot_tuple_index ⟨_, ho, rfl⟩ PySem.F.entry_tuple_index (PySem.F.args_tuple_index_2 _ _) (TI.tuple_indexAt p its.toArray n dd sl (.int z t) (eqU (.int z)) (ys.idxOf z) hj ?_ ?_)
    ⟨ho, fun w hw => mem_eqAt (x := .int z) ⟨t, rfl⟩ rfl r fi w (by simpa using hw), ⟨.int ((ys.idxOf z : Nat) : Int), H, I.tok _, ⟨_, rfl⟩, q⟩⟩
  · obtain ⟨y, t', h1, h2⟩ := at' (ys.idxOf z) hj
    rw [List.getElem?_eq_getElem (List.idxOf_lt_length_of_mem hy), List.getElem_idxOf] at h1
    cases h1
    rw [h2]
    show (z == z) = true
    simp
  · intro m hm hmj
    obtain ⟨y, t', h1, h2⟩ := at' m hm
    rw [h2]
    show (y == z) = false
    exact beq_eq_false_iff_ne.mpr fun e => idx_first hmj (by rw [h1, e])
theorem pe_tupIxI {o e : Expr} {to : TE} {ta : TA} {apos cpos : Pos} (ho : PE X o to) (ha : PA X [e] ta)
    (c1 : attributeBase o "index" X.env (eval o X.env) = eval o X.env := by rfl)
    (c2 : ((backTo cpos (starEach [e] X.env)).all (fun x => !x.1) && (backToKw cpos (keywordEach [] X.env)).all (fun x => x.1.isSome) && decide ([e].length + ([] : List Keyword).length + (if ([] : List Keyword).isEmpty then 0 else 1) < 30)) = true := by rfl)
    (c3 : (apos.endLine == cpos.line) = true := by rfl) (c4 : starEach [e] X.env = (false, eval e X.env) :: starEach [] X.env := by rfl) (c5 : (backTo cpos (starEach [] X.env)).any (·.1) = false := by rfl) :
    PE X (.Call (.Attribute o "index" apos) [e] [] cpos) (tTIxI X.K to ta) := by
  refine ⟨fun pins s σ H Q I h => ?_⟩
  refine wpAny_Call_method_late c1 c2 c3 rfl (thn (ho.run pins s σ H _ I h) fun v s1 ⟨x, H1, I1, r1, p, ns, ex, hn, q1⟩ => ?_)
  subst ex
  obtain rfl : v = Value.ref p := r1
  obtain ⟨ob, e1, e2, e3⟩ := id hn
  have there : s1.heap.get? p = some ob := (show s1.heap.get? p = some ob ∧ _ from I1.hok p _ e1).1
  refine ⟨"tuple", "tuple.index", PySem.F.plainAttrs_tuple, PySem.F.slot_tuple_index, PySem.F.type_tuple_index, ⟨ob, there, e2⟩, fun a ea => by cases ea; exact ⟨ob, there, e3⟩, ?_⟩
  have hA := ha.run cpos pins s1 σ H1 _ I1 q1
  rw [c4] at hA ⊢
  refine Calls.callWith_builtin (by show (false || (backTo cpos (starEach [] X.env)).any (·.1)) = false; rw [c5] <;> rfl) (Calls.evalArgs_plain ?_)
  refine thn hA fun us s2 ⟨vs, H2, I2, r2, z, ev, hn2, h1, q2⟩ => ?_
  subst ev
  exact mt_tup_indexI pins s2 σ H2 (.ref p) [.int z] (.ref p) us Q I2 rfl r2 ⟨p, ns, z, rfl, rfl, hn2.sq, h1, q2⟩
end
/-- a ranking, its ranks known as a tuple only -/
def RkS (K : PySem.W.Frag) (H : Hp) (q rt : Addr) (rs : List Int) (c : Int) : Prop := H q = some (.tup [.ref rt, .int c]) ∧ SqT K H rt (rs.map V.int)
theorem RkS.same {K : PySem.W.Frag} {H H' : Hp} {q rt : Addr} {rs : List Int} {c : Int} (h : RkS K H q rt rs c) (s : Same H H') : RkS K H' q rt rs c := ⟨s _ _ h.1, sameT s h.2⟩
theorem RkAt.toS {K : PySem.W.Frag} {H : Hp} {q rt : Addr} {rs : List Int} {c : Int} (h : RkAt H q rt rs c) : RkS K H q rt rs c := ⟨h.1, SqT.of h.2⟩
/-- a ranking, the object of its ranks known -/
def RkZ (H : Hp) (q rt : Addr) (rs : List Int) (c : Int) : Prop := H q = some (.tup [.ref rt, .int c]) ∧ TupZ H rt (rs.map V.int)
theorem RkZ.same {H H' : Hp} {q rt : Addr} {rs : List Int} {c : Int} (h : RkZ H q rt rs c) (s : Same H H') : RkZ H' q rt rs c := ⟨s _ _ h.1, h.2.same s⟩
theorem RkZ.toS {K : PySem.W.Frag} {H : Hp} {q rt : Addr} {rs : List Int} {c : Int} (h : RkZ H q rt rs c) : RkS K H q rt rs c := ⟨h.1, h.2.sq⟩
end BR

/-! ### d.get(k, x), d a dict whose keys are tuples -/
namespace BR
open PySem PySem.Spec PyProof.Rows L2
def tGetN (K : PySem.W.Frag) (P : Program) (w : World) (to : TE) (ta : TA) : TE := fun σ H Q => to σ H fun x H1 => ∃ d kvs, x = .ref d ∧ NDict K P w H1 d kvs ∧ ta σ H1 fun vs H2 => rGetN K P w x vs H2 Q
theorem pe_getN {X : Cx} {o e1 e2 : Expr} {to : TE} {ta : TA} {apos cpos : Pos} (hu : X.A.units + 64 < cLine) (ho : PE X o to) (ha : PA X [e1, e2] ta)
    (c1 : attributeBase o "get" X.env (eval o X.env) = eval o X.env := by rfl)
    (c2 : ((backTo cpos (starEach [e1, e2] X.env)).all (fun x => !x.1) && (backToKw cpos (keywordEach [] X.env)).all (fun x => x.1.isSome) && decide ([e1, e2].length + ([] : List Keyword).length + (if ([] : List Keyword).isEmpty then 0 else 1) < 30)) = true := by rfl)
    (c3 : (apos.endLine == cpos.line) = true := by rfl) (c4 : starEach [e1, e2] X.env = (false, eval e1 X.env) :: starEach [e2] X.env := by rfl) (c5 : (backTo cpos (starEach [e2] X.env)).any (·.1) = false := by rfl) :
    PE X (.Call (.Attribute o "get" apos) [e1, e2] [] cpos) (tGetN X.K X.prog X.w to ta) := by
  refine ⟨fun pins s σ H Q I h => ?_⟩
  refine wpAny_Call_method_late c1 c2 c3 rfl (thn (ho.run pins s σ H _ I h) fun v s1 ⟨x, H1, I1, r1, d, kvs, ex, hn, q1⟩ => ?_)
  subst ex
  obtain rfl : v = Value.ref d := r1
  obtain ⟨z, y, xs, rel, ob, es, ep, there, exd, _⟩ := hn.of I1.hok I1.kIn
  refine ⟨"dict", "dict.get", PySem.F.plainAttrs_dict, PySem.F.slot_dict_get, PySem.F.type_dict_get, ⟨ob, there, exd.1⟩, fun a ea => by cases ea; exact ⟨ob, there, exd.2.1⟩, ?_⟩
  have hA := ha.run cpos pins s1 σ H1 _ I1 q1
  rw [c4] at hA ⊢
  refine Calls.callWith_builtin (by show (false || (backTo cpos (starEach [e2] X.env)).any (·.1)) = false; rw [c5] <;> rfl) (Calls.evalArgs_plain ?_)
  exact thn hA fun us s2 ⟨vs, H2, I2, r2, q2⟩ => mt_getN hu pins s2 σ H2 (.ref d) vs (.ref d) us Q I2 rfl r2 q2
end BR

/-! ### all words of a width, by their rankings -/
namespace BR
open PySem PySem.Spec PyProof.Rows L2
def addW (top : Nat) (c : List Int) : List (List Int) := (List.range top).map fun w => c ++ [((w : Nat) : Int)]
def cellsL (top : Nat) : Nat → List (List Int)
  | 0 => [[]]
  | k + 1 => (cellsL top k).flatMap (addW top)
theorem cellsL_len {top : Nat} : ∀ k : Nat, (cellsL top k).length = top ^ k
  | 0 => rfl
  | k + 1 => by
    have h : ∀ L : List (List Int), (L.flatMap (addW top)).length = L.length * top := fun L => by
      induction L with
      | nil => simp
      | cons a L ih => rw [List.flatMap_cons, List.length_append, ih, addW, List.length_map, List.length_range, List.length_cons, Nat.succ_mul, Nat.add_comm]
    show ((cellsL top k).flatMap (addW top)).length = _
    rw [h, cellsL_len k, Nat.pow_succ]
theorem cellsL_ok {top : Nat} : ∀ {k : Nat} {c : List Int}, c ∈ cellsL top k → c.length = k ∧ ∀ x ∈ c, 0 ≤ x ∧ x < (top : Int)
  | 0, c, h => by
    obtain rfl := List.mem_singleton.mp h
    exact ⟨rfl, fun x m => nomatch m⟩
  | k + 1, c, h => by
    obtain ⟨d, hd, hc⟩ := List.mem_flatMap.mp h
    obtain ⟨w, hw, rfl⟩ := List.mem_map.mp hc
    obtain ⟨l, a⟩ := cellsL_ok hd
    refine ⟨by rw [List.length_append, l]; rfl, fun x m => ?_⟩
    rcases List.mem_append.mp m with m | m
    · exact a x m
    · rw [List.mem_singleton.mp m]
      have := List.mem_range.mp hw
      omega
def rkOf (wd : Nat) (c : List Int) : List Int × Int := (rks c, ct c (2 ^ (wd - 1)))
def ofRk (wd n : Nat) (p : List Int × Int) : List (List Int) := (cellsL (2 ^ wd) n).filter fun c => decide (rkOf wd c = p)
def fitB (wd : Nat) (p : List Int × Int) : Bool := decide (p.2 ≤ 2 ^ (wd - 1)) && decide (((srt p.1).length : Int) - p.2 ≤ 2 ^ (wd - 1))
def wideI (p : List Int × Int) : Int := 1 + (Builtin.Int.intBits ((if p.2 < ((srt p.1).length : Int) - p.2 then ((srt p.1).length : Int) - p.2 else p.2) - 1) : Nat)
def chkP (wd : Nat) (p : List Int × Int) (F : List (List Int)) : Bool :=
  decide (cmb (2 ^ (wd - 1)) p.2 * cmb (2 ^ (wd - 1)) (((srt p.1).length : Int) - p.2) = (F.length : Int)) && (if fitB wd p = true then decide (F.head? = some (p.1.map (lw (2 ^ (wd - 1)) p.2))) else decide (F = [])) && decide (decide (wideI p ≤ (wd : Int)) = decide ((F.length : Int) > 0))
def chkW (n wd : Nat) : Bool := (allRk n).all (fun p => chkP wd p (ofRk wd n p)) && decide (((allRk n).map fun p => (ofRk wd n p).length).sum = (cellsL (2 ^ wd) n).length) && decide ((allRk n).length = ([2, 8, 44] : List Nat).getD (n - 1) 0)
set_option maxHeartbeats 0 in
theorem chk_all : ∀ n ∈ [1, 2, 3], ∀ wd ∈ [1, 2, 3], chkW n wd = true := by decide +kernel
/-- a ranking as a key -/
def keyR (p : List Int × Int) : NestedKey := .tup [.tup (p.1.map NestedKey.num), .num p.2]
theorem keyR_inj {p q : List Int × Int} (h : keyR p = keyR q) : p = q := by
  unfold keyR at h
  injection h with h
  injection h with h1 h
  injection h with h2 h
  injection h1 with h1
  injection h2 with h2
  exact Prod.ext ((List.map_inj_right fun a b e => by injection e).mp h1) h2
theorem keyR_depth (p : List Int × Int) : (keyR p).depth ≤ 8 := by
  show NestedKey.depthAll [.tup (p.1.map NestedKey.num), .num p.2] + 1 ≤ 8
  have d1 : NestedKey.depth (.tup (p.1.map NestedKey.num)) = 1 := by
    show NestedKey.depthAll (p.1.map NestedKey.num) + 1 = 1
    rw [key_depth_ints]
  simp only [NestedKey.depthAll]
  rw [d1]
  show max 1 (max 0 0) + 1 ≤ 8
  decide
theorem keyR_at {K : PySem.W.Frag} {H : Hp} {q rt : Addr} {p : List Int × Int} (h : RkS K H q rt p.1 p.2) : NkAt K H (keyR p) (.ref q) := .tup (SqT.of h.1) (.cons (.tup h.2 (nk_ints _)) (.cons (.int _) .nil))
theorem valN_put {kvs : NEs} {k k2 : NestedKey} {b : Addr} {v : V} : valN (putN kvs k b v) k2 = if k = k2 then some v else valN kvs k2 := by
  have rep : ∀ kvs : NEs, valN (kvs.map fun e => if e.1 = k then (e.1, e.2.1, v) else e) k2 = if k = k2 then (valN kvs k2).map fun _ => v else valN kvs k2 := by
    intro kvs
    induction kvs with
    | nil => simp [valN]
    | cons e es ih =>
      unfold valN at ih ⊢
      rw [List.map_cons, List.find?_cons, List.find?_cons]
      by_cases c : e.1 = k
      · rw [if_pos c]
        by_cases d : k = k2
        · rw [if_pos d]
          have : decide (e.1 = k2) = true := decide_eq_true (c.trans d)
          simp only [this]
          rfl
        · rw [if_neg d]
          have : decide (e.1 = k2) = false := decide_eq_false fun z => d (c.symm.trans z)
          simp only [this]
          rw [ih, if_neg d]
      · rw [if_neg c]
        by_cases d : e.1 = k2
        · have h1 : decide (e.1 = k2) = true := decide_eq_true d
          have h2 : ¬ k = k2 := fun z => c (d.trans z.symm)
          simp only [h1]
          rw [if_neg h2]
        · have h1 : decide (e.1 = k2) = false := decide_eq_false d
          simp only [h1]
          exact ih
  unfold putN
  by_cases c : (valN kvs k).isSome = true
  · rw [if_pos c, rep]
    by_cases d : k = k2
    · rw [if_pos d, if_pos d, ← d]
      cases hv : valN kvs k with
      | none => rw [hv] at c; exact nomatch c
      | some x => rfl
    · rw [if_neg d, if_neg d]
  · rw [if_neg c]
    unfold valN
    rw [List.find?_append]
    by_cases d : k = k2
    · rw [if_pos d]
      have hn : kvs.find? (fun e => decide (e.1 = k2)) = none := by
        cases hv : kvs.find? (fun e => decide (e.1 = k2)) with
        | none => rfl
        | some x =>
          exfalso
          apply c
          unfold valN
          rw [d, hv]
          rfl
      rw [hn]
      simp [d]
    · rw [if_neg d]
      have : List.find? (fun e : NestedKey × Addr × V => decide (e.1 = k2)) [(k, b, v)] = none := by simp [d]
      rw [this, Option.or_none]
theorem flat_addW {top : Nat} : ∀ L : List (List Int), (L.flatMap (addW top)).length = L.length * top := fun L => by
  induction L with
  | nil => simp
  | cons a L ih => rw [List.flatMap_cons, List.length_append, ih, addW, List.length_map, List.length_range, List.length_cons, Nat.succ_mul, Nat.add_comm]
/-- words for their ranks -/
theorem rk_injW {ws : List Int} : ∀ x ∈ ws, ∀ y ∈ ws, ((rk (srt ws) x : Nat) : Int) = ((rk (srt ws) y : Nat) : Int) → x = y := fun x hx y hy e => by
  have e : rk (srt ws) x = rk (srt ws) y := Int.natCast_inj.mp e
  rcases Int.lt_trichotomy x y with c | c | c
  · have := rk_lt c (srt_mem.mpr hx)
    omega
  · exact c
  · have := rk_lt c (srt_mem.mpr hy)
    omega
theorem turn_rk {ws : List Int} {h : Int} : TurnOk (fun x => ((rk (srt ws) x : Nat) : Int)) id id h (ct ws h) ws where
  inj := rk_injW
  cmp := fun x m y n => ocut_rk m n
  ginj := fun _ _ _ _ e => e
  holds := fun _ _ _ _ => rfl
  con := fun _ m => m
theorem ix_ranks {ws o : List Int} (h : ∀ x ∈ o, x ∈ ws) : (o.map fun x => ((rk (srt ws) x : Nat) : Int)).map (ixI (rks ws)) = o.map (ixI ws) := by
  rw [List.map_map]
  refine List.map_congr_left fun x m => ?_
  exact ix_map (f := fun x => ((rk (srt ws) x : Nat) : Int)) rk_injW (h x m)
end BR

/-! ### a module's tuple of any values; gcd; x not in a tuple of data; what is never run -/
namespace BR
open PySem PySem.Spec PyProof.Rows L2
theorem rel_abs {u : Value} {x : V} (h : absV u = some x) : RelV x u := by
  unfold absV at h
  split at h
  all_goals first
    | (cases h; exact rfl)
    | (cases h; exact ⟨_, rfl⟩)
    | cases h
theorem vals_abs : ∀ {us : List Value} {xs : List V}, us.map absV = xs.map some → Vals xs us
  | [], [], _ => .nil
  | [], _ :: _, h => by cases h
  | _ :: _, [], h => by cases h
  | u :: us, x :: xs, h => by
    have h1 : absV u :: us.map absV = some x :: xs.map some := h
    injection h1 with h2 h3
    exact .cons (rel_abs h2) (vals_abs h3)
structure TupV (K : PySem.W.Frag) (p : Addr) (xs : List V) : Prop where
  ex : ∃ (o : Obj) (its : Array Value) (n : Nat), K.lookup p = some o ∧ o.cls = .type "tuple" ∧ o.data = .seq its n ∧ its.size ≤ sizeLine ∧ Vals xs its.toList
theorem TupV.sq {K : PySem.W.Frag} {p : Addr} {xs : List V} (T : TupV K p xs) {H : Hp} : SqT K H p xs := .inr T.ex
theorem tupV_of {K : PySem.W.Frag} {p : Addr} {o : Obj} {its : Array Value} {n : Nat} {xs : List V} (l : K.lookup p = some o) (c : o.cls = .type "tuple") (d : o.data = .seq its n) (e : its.toList.map absV = xs.map some) (z : xs.length ≤ 1000 := by decide) : TupV K p xs := by
  refine ⟨o, its, n, l, c, d, ?_, vals_abs e⟩
  have y := congrArg List.length e
  rw [List.length_map, List.length_map, Array.length_toList] at y
  rw [sizeLine_eq]
  omega
theorem tupV_refs {K : PySem.W.Frag} {p : Addr} {o : Obj} {its : Array Value} {n : Nat} {as : List Addr} (l : K.lookup p = some o) (c : o.cls = .type "tuple") (d : o.data = .seq its n) (e : its.toList = as.map Value.ref) (z : as.length ≤ 1000 := by decide) : TupV K p (as.map V.ref) := by
  refine tupV_of l c d ?_ (by rw [List.length_map]; exact z)
  rw [e, List.map_map, List.map_map]
  rfl
section
variable {X : Cx}
theorem pe_dead {e : Expr} : PE X e (fun _ _ _ => False) := ⟨fun _ _ _ _ _ _ h => h.elim⟩
def rNotInTD (K : PySem.W.Frag) : R2 := fun x y H Q => ∃ d ds, Dp K H x d ∧ Dp K H y (.tuple ds) ∧ SeqAt.shaped d = true ∧ SeqAt.shaped (.tuple ds) = true ∧ Q (.bl (!ds.any fun z => PyData.eqv z d)) H
theorem op_notInTD (hu : X.A.units + 65 < cLine) : OpR X (compareOp .NotIn) (rNotInTD X.K) := by
  intro pins s σ H x y v u Q I rx ry h
  obtain ⟨d, ds, hd, he, sd, se, q⟩ := h
  obtain ⟨as, r1⟩ := Dp.reads I d x v hd rx
  obtain ⟨bs, r2⟩ := Dp.reads I (.tuple ds) y u he ry
  exact SeqAt.notIn_tuple_reads r2 r1 (SeqAt.canLay_of_shaped se) (SeqAt.canLay_of_shaped sd) (room_in_shaped sd hu) ⟨.bl _, H, I, rfl, q⟩
theorem cr_gcd : CallR X (.builtin "math.gcd") (fun xs H Q => ∃ a b : Int, xs = [.int a, .int b] ∧ Q (.int ((a.natAbs.gcd b.natAbs : Nat) : Int)) H) := by
  intro pins s σ H xs us Q I r h
  obtain ⟨a, b, rfl, q⟩ := h
  obtain ⟨t, u, rfl⟩ := Vals.int2 r
  have g := PySem.W.mg_run_gcd a t b u
  rw [Nat.gcd_zero_left] at g
  exact call_function_meets PySem.W.MGF.kind_gcd PySem.W.MGF.plain_gcd PySem.W.MGF.entry_gcd (PySem.W.MGF.args_gcd _ _) g.meets ⟨.int _, H, I.tok _, ⟨_, rfl⟩, q⟩
end
section
variable {prog : Program} {w : World} {A : Around} {E : Value → Shared → Prop}
theorem tup_draw {it l : Addr} {items : Array Value} (hne : l ≠ it) : ∀ (n i : Nat) (s : Shared) (Q : List Value → Shared → Prop), s.heap.IsTupleIter it l i → s.heap.IsTuple l items → i + n ≤ items.size →
    (∀ h', h'.IsTupleIter it l (i + n) → Heap.SameBut it s.heap h' → Q ((items.toList.drop i).take n) { s with heap := h' }) → wpAny (model prog w) A (draw (.ref it) n) Q E s
  | 0, i, s, Q, hit, _, _, hQ => by
    show wpAny _ _ (pure []) Q E s
    exact wpAny_pure (by simpa using hQ s.heap hit (Heap.SameBut.refl ..))
  | n + 1, i, s, Q, hit, hl, hle, hQ => by
    have hlt : i < items.size := by omega
    show wpAny _ _ (pyNext (.ref it) >>= _) Q E s
    refine wpAny_bind (wpAny_pyNext_tuple_item hit hl (x := items[i]) (by simp [hlt]) fun h₁ hit₁ hs₁ => ?_)
    refine wpAny_bind (wpAny_holding (tup_draw hne n (i + 1) _ _ hit₁ (hl.extBut hs₁.extBut hne) (by omega) fun h₂ hit₂ hs₂ => wpAny_pure ?_))
    have hd : items.toList.drop i = items[i] :: items.toList.drop (i + 1) := by simp [List.drop_eq_getElem_cons, hlt]
    have := hQ h₂ (by rw [show i + (n + 1) = i + 1 + n by omega]; exact hit₂) (hs₁.trans hs₂)
    rw [hd, List.take_succ_cons] at this
    exact this
end
/-- head, *rest = a tuple of one item or more -/
def gStarT (K : PySem.W.Frag) (g h : TG) : TG := fun v σ H Q => ∃ a x xs, v = .ref a ∧ SqT K H a (x :: xs) ∧ ∀ l, H l = none → g x σ (L2.upd H l (.lst xs)) fun σ1 H1 => h (.ref l) σ1 H1 Q
section
variable {X : Cx} {p pos : Pos}
theorem pg_starT {e1 e2 : Expr} {k : Nat} {g h : TG} (hc : X.calm = true) (h1 : PG X e1 g) (h2 : PG X e2 h) (ea : assignEach [e1, .Starred e2 p] X.env = [(false, assign e1 X.env), (true, assign e2 X.env)] := by rfl) : PG X (.Tuple [e1, .Starred e2 p] k pos) (gStarT X.K g h) := by
  refine ⟨fun pins s σ H v u Q I r w => ?_⟩
  obtain ⟨a, x, xs, rfl, hq, q⟩ := w
  obtain rfl : u = Value.ref a := r
  obtain ⟨its, rv, pl, hz⟩ := I.tuple hq
  cases rv with
  | @cons _ y _ ys ry rys =>
  rw [PyProof.Rows.assign_Tuple]
  refine wpAny_bind (wpAny_standAt ?_)
  unfold unpack
  rw [ea]
  have hl : s.heap.IsTuple a (y :: ys).toArray := pl
  refine wpAny_bind (wpAny_holding ?_)
  have hlt : a ≠ s.heap.objs.size := by
    obtain ⟨o, ho, _⟩ := hl
    exact Nat.ne_of_lt (Heap.lt_size ho)
  show wpAny _ _ (unpackItems (.ref a) 2 (some 1)) _ _ _
  unfold unpackItems notIterableAtAll
  refine wpAny_bind (wpAny_bind (wpAny_specialOf hl.typeIs F.slot_tuple_iter.lookup (wpAny_pure ?_)))
  simp only [Bool.false_eq_true, if_false]
  refine wpAny_bind (wpAny_holding (wpAny_pyIter_tuple hl ?_))
  refine wpAny_bind (wpAny_holding (tup_draw hlt 1 0 _ _ ⟨_, Heap.get?_push_size _ rfl, rfl, rfl⟩ (hl.push _) (by simp) fun hp1 it1 sb1 => ?_))
  have hl1 := (hl.push _).extBut sb1.extBut hlt
  have t1 : List.take 1 (List.drop 0 (y :: ys).toArray.toList) = [y] := rfl
  rw [t1]
  rw [if_neg (show ¬ [y].length < 1 from Nat.lt_irrefl 1)]
  obtain ⟨oi, hoi, _⟩ := id it1
  obtain ⟨ol, hol, _⟩ := id hl1
  have rl : ys.length ≤ sizeLine := by
    have := rys.length
    rw [List.length_cons] at hz
    omega
  refine wpAny_bind (wpAny_holding (PySem.W.kun_collect (s := { s with heap := hp1 }) (T := "tuple_iterator") (.inr (.inr (.inr rfl))) (Walks.tuple (A := X.A.in1) (I.ok.hd hc) s.heap.objs.size a hlt (y :: ys).toArray) (fun j u st => st.1.typeIs) (k := 1) (by simp) ⟨it1, hl1⟩ (Heap.lt_size hoi) (Heap.lt_size hol) (fun hp2 tk kp => ?_) ?_))
  · show wpAny _ _ (if ys.length < 0 then _ else _) _ _ _
    rw [if_neg (Nat.not_lt_zero _)]
    show wpAny _ _ (newList (ys.take (ys.length - 0)) >>= fun d => pure ([y] ++ [d] ++ ys.drop (ys.length - 0))) _ _ _
    rw [Nat.sub_zero, List.take_length, List.drop_length]
    have I2 : Inv X pins σ H { s with heap := hp2, toks := tk } := I.kept (t' := tk) fun b o e => kp b o (Nat.ne_of_lt (Heap.lt_size e)) (sb1.extBut b o (Nat.ne_of_lt (Heap.lt_size e)) (Heap.get?_push_of_some _ e))
    refine wpAny_bind (newL_ok I2 rys (by rw [rys.length]; exact rl) fun l s3 hn I3 => wpAny_pure ?_)
    show wpAny _ _ (assignInOrder [assign e1 X.env, assign e2 X.env] [y, .ref l]) _ _ _
    refine assignInOrder_cons (thn (h1.run pins s3 σ _ _ _ _ I3 ry (q l hn)) fun _ s4 ⟨σ4, H4, I4, q4⟩ => ?_)
    exact assignInOrder_cons (thn (h2.run pins s4 σ4 H4 (.ref l) (.ref l) _ I4 rfl q4) fun _ s5 ⟨σ5, H5, I5, q5⟩ => assignInOrder_nil ⟨σ5, H5, I5, q5⟩)
  · show ys.length + 1 ≤ sizeLine
    have := rys.length
    rw [List.length_cons] at hz
    omega
end
end BR

/-! ### averages of steps over rankings -/
namespace BR
open PySem PySem.Spec PyProof.Rows L2
theorem walk_turn {ns : List Str} {rs : List (List V)} {f : Int → Int} {g hc : Str → Str} {cut cut' : Int} {ws : List Int} {n : Nat} {e : Str} (T : TurnOk f g hc cut cut' ws) (h0 : ws ≠ []) (hl : ws.length + 2 = ns.length) (rok : ∀ r ∈ rs, RowC ns rs.length r) (wk : WalkIs ns rs cut (begM ws) n e) : WalkIs ns (rs.map (condR hc)) cut' (begM (ws.map f)) n e := by
  have mo := beg_ok (n := rs.length) h0 hl
  have it : ∀ i, i ≤ n → itM ns (rs.map (condR hc)) cut' (begM (ws.map f)) i = mapS f g (itM ns rs cut (begM ws) i) := fun i hi => by
    rw [beg_turn (g := g) h0]
    exact it_turn T rok mo i fun j hj => wk.on j (by omega)
  have ok : ∀ i, i ≤ n → MOk ns rs.length ws (itM ns rs cut (begM ws) i) := fun i hi => it_ok rok mo i fun j hj => wk.on j (by omega)
  have same : ∀ i j, i ≤ n → j ≤ n → (itM ns (rs.map (condR hc)) cut' (begM (ws.map f)) i = itM ns (rs.map (condR hc)) cut' (begM (ws.map f)) j ↔ itM ns rs cut (begM ws) i = itM ns rs cut (begM ws) j) := fun i j hi hj => by
    rw [it i hi, it j hj]
    exact ⟨fun q => mapS_inj T (ok i hi) (ok j hj) q, fun q => congrArg _ q⟩
  have en : ∀ i, i ≤ n → endM (rs.map (condR hc)) (itM ns (rs.map (condR hc)) cut' (begM (ws.map f)) i) = endM rs (itM ns rs cut (begM ws) i) := fun i hi => by
    rw [it i hi]
    exact end_turn rok (ok i hi)
  refine ⟨fun i hi => by rw [en i (by omega)]; exact wk.on i hi, fun i j hij hj => fun z => wk.new i j hij hj ((same i j (by omega) (by omega)).mp z), ?_⟩
  rcases wk.ends with ⟨a, i, hi, q⟩ | ⟨a, b⟩
  · exact .inl ⟨a, i, hi, (same i n (by omega) (Nat.le_refl n)).mpr q⟩
  · exact .inr ⟨fun i hi z => a i hi ((same i n (by omega) (Nat.le_refl n)).mp z), by rw [en n (Nat.le_refl n)]; exact b⟩
open Classical in
/-- the number of steps, none if the run is endless -/
noncomputable def stO (ns : List Str) (rs : List (List V)) (cut : Int) (ws : List Int) : Option Int := if h : ∃ (n : Nat) (e : Str), WalkIs ns rs cut (begM ws) n e ∧ e ≠ "endless" then some ((h.choose : Nat) : Int) else none
theorem stO_of {ns : List Str} {rs : List (List V)} {cut : Int} {ws : List Int} {n : Nat} {e : Str} (wk : WalkIs ns rs cut (begM ws) n e) : stO ns rs cut ws = if e = "endless" then none else some (n : Int) := by
  unfold stO
  by_cases c : e = "endless"
  · rw [if_pos c, dif_neg]
    rintro ⟨m, e', wk', ne⟩
    exact ne ((walk_one wk' wk).2.trans c)
  · have h : ∃ (n : Nat) (e : Str), WalkIs ns rs cut (begM ws) n e ∧ e ≠ "endless" := ⟨n, e, wk, c⟩
    rw [if_neg c, dif_pos h]
    obtain ⟨e', wk', _⟩ := h.choose_spec
    rw [(walk_one wk' wk).1]
def intO : Option Int → V
  | none => .non
  | some i => .int i
theorem intO_if {e : Str} {n : Nat} : intO (if e = "endless" then none else some (n : Int)) = if e = "endless" then V.non else V.int (n : Nat) := by
  split <;> rfl
/-! ### fractions -/
theorem gcd_cut {a b : Int} (hb : 0 < b) : ∃ g : Int, ((a.natAbs.gcd b.natAbs : Nat) : Int) = g ∧ 0 < g ∧ g ≤ b ∧ a / g * g = a ∧ b / g * g = b ∧ 0 < b / g ∧ ∀ f : Int, 2 ≤ f → ¬ (a / g % f = 0 ∧ b / g % f = 0) := by
  have d1 : ((a.natAbs.gcd b.natAbs : Nat) : Int) ∣ a := Int.natAbs_dvd_natAbs.mp (show a.natAbs.gcd b.natAbs ∣ a.natAbs from Nat.gcd_dvd_left _ _)
  have d2 : ((a.natAbs.gcd b.natAbs : Nat) : Int) ∣ b := Int.natAbs_dvd_natAbs.mp (show a.natAbs.gcd b.natAbs ∣ b.natAbs from Nat.gcd_dvd_right _ _)
  have gp : 0 < a.natAbs.gcd b.natAbs := Nat.gcd_pos_of_pos_right _ (by omega)
  refine ⟨((a.natAbs.gcd b.natAbs : Nat) : Int), rfl, by omega, Int.le_of_dvd hb d2, Int.ediv_mul_cancel d1, Int.ediv_mul_cancel d2, ?_, ?_⟩
  · exact Int.ediv_pos_of_pos_of_dvd hb (by omega) d2
  · rintro f hf ⟨q1, q2⟩
    have e1 := Int.ediv_mul_cancel d1
    have e2 := Int.ediv_mul_cancel d2
    obtain ⟨u, hu⟩ := Int.dvd_of_emod_eq_zero q1
    obtain ⟨v, hv⟩ := Int.dvd_of_emod_eq_zero q2
    obtain ⟨fn, rfl⟩ : ∃ fn : Nat, f = (fn : Int) := ⟨f.toNat, by omega⟩
    have c1 : a.natAbs.gcd b.natAbs * fn ∣ a.natAbs := by
      have : ((a.natAbs.gcd b.natAbs * fn : Nat) : Int) ∣ a := ⟨u, e1.symm.trans (by rw [hu]; push_cast; rw [Int.mul_comm (_ * _) _, ← Int.mul_assoc])⟩
      exact Int.ofNat_dvd_left.mp this
    have c2 : a.natAbs.gcd b.natAbs * fn ∣ b.natAbs := by
      have : ((a.natAbs.gcd b.natAbs * fn : Nat) : Int) ∣ b := ⟨v, e2.symm.trans (by rw [hv]; push_cast; rw [Int.mul_comm (_ * _) _, ← Int.mul_assoc])⟩
      exact Int.ofNat_dvd_left.mp this
    have := Nat.le_of_dvd gp (Nat.dvd_gcd c1 c2)
    have : a.natAbs.gcd b.natAbs * 2 ≤ a.natAbs.gcd b.natAbs * fn := Nat.mul_le_mul_left _ (by omega)
    omega
/-! ### sums -/
theorem sum_add {α : Type} {f g : α → Int} : ∀ L : List α, (L.map fun x => f x + g x).sum = (L.map f).sum + (L.map g).sum
  | [] => rfl
  | x :: L => by
    rw [List.map_cons, List.sum_cons, List.map_cons, List.sum_cons, List.map_cons, List.sum_cons, sum_add L]
    omega
theorem sum_mul {α : Type} {f : α → Int} {c : Int} : ∀ L : List α, (L.map fun x => f x * c).sum = (L.map f).sum * c
  | [] => by simp
  | x :: L => by rw [List.map_cons, List.sum_cons, List.map_cons, List.sum_cons, sum_mul L, Int.add_mul]
theorem sum_le {α : Type} {f g : α → Int} : ∀ L : List α, (∀ x ∈ L, f x ≤ g x) → (L.map f).sum ≤ (L.map g).sum
  | [], _ => Int.le_refl _
  | x :: L, h => by
    rw [List.map_cons, List.sum_cons, List.map_cons, List.sum_cons]
    have h1 := h x (List.mem_cons_self ..)
    have h2 := sum_le L fun y m => h y (List.mem_cons_of_mem _ m)
    omega
def ps0 (x : Int) : Int := if 0 ≤ x then x else 0
/-- a sum of differences that are nothing in all, by how far the factors are apart -/
theorem sum_apart {α : Type} {d s : α → Int} {m M : Int} {L : List α} (z : (L.map d).sum = 0) (h : ∀ x ∈ L, m ≤ s x ∧ s x ≤ M) : (L.map fun x => d x * s x).sum ≤ (M - m) * (L.map fun x => ps0 (d x)).sum ∧ -((L.map fun x => d x * s x).sum) ≤ (M - m) * (L.map fun x => ps0 (d x)).sum := by
  have key : ∀ t : α → Int, (∀ x ∈ L, 0 ≤ t x ∧ t x ≤ M - m) → (L.map fun x => d x * t x).sum ≤ (M - m) * (L.map fun x => ps0 (d x)).sum := fun t ht => by
    rw [Int.mul_comm, ← sum_mul]
    refine sum_le L fun x mx => ?_
    obtain ⟨t0, t1⟩ := ht x mx
    unfold ps0
    by_cases c : 0 ≤ d x
    · rw [if_pos c]
      exact Int.mul_le_mul_of_nonneg_left t1 c
    · rw [if_neg c, Int.zero_mul]
      exact Int.mul_nonpos_of_nonpos_of_nonneg (by omega) t0
  have shift : ∀ c : Int, (L.map fun x => d x * (s x + c)).sum = (L.map fun x => d x * s x).sum := fun c => by
    have : (L.map fun x => d x * (s x + c)) = L.map fun x => d x * s x + d x * c := List.map_congr_left fun x _ => Int.mul_add _ _ _
    rw [this, sum_add, sum_mul, z, Int.zero_mul, Int.add_zero]
  refine ⟨?_, ?_⟩
  · have := key (fun x => s x + -m) fun x mx => by
      have := h x mx
      omega
    rw [shift] at this
    exact this
  · have := key (fun x => -(s x + -M)) fun x mx => by
      have := h x mx
      omega
    have e : (L.map fun x => d x * -(s x + -M)) = L.map fun x => (d x * (s x + -M)) * (-1) := List.map_congr_left fun x _ => by rw [Int.mul_neg, Int.mul_neg_one]
    rw [e, sum_mul, shift, Int.mul_neg_one] at this
    exact this
/-! ### the weights of rankings -/
def wdW (wd : Nat) (p : List Int × Int) : Int := cmb (2 ^ (wd - 1)) p.2 * cmb (2 ^ (wd - 1)) (((srt p.1).length : Int) - p.2)
def liW (p : List Int × Int) : Int := if (srt p.1).length = p.1.length then cmb (p.1.length : Nat) p.2 else 0
def shW (n wd : Nat) : Int := 2 ^ (wd * n) - (((allRk n).filter fun p => decide (mx p.1 + 1 = (n : Int))).map (wdW wd)).sum
def chkF (n wd : Nat) : Bool :=
  let W : Int := 2 ^ (wd * n)
  let L : Int := ((allRk n).map liW).sum
  decide (((allRk n).map (wdW wd)).sum = W) && decide (0 < L) && decide (L < 2 ^ 100)
  && (allRk n).all (fun p => decide (1 ≤ wdW wd p) && decide (wdW wd p < 2 ^ 1000) && decide (0 ≤ liW p) && decide (liW p < 2 ^ 100) && fitB wd p)
  && decide (((allRk n).map fun p => ps0 (wdW wd p * L - W * liW p)).sum ≤ 2 * shW n wd * L) && decide (0 ≤ shW n wd)
  && (decide (n ≠ 1) || (allRk n).all fun p => decide (wdW wd p * L = W * liW p))
structure ChkF (n wd : Nat) : Prop where
  all : ((allRk n).map (wdW wd)).sum = 2 ^ (wd * n)
  pos : 0 < ((allRk n).map liW).sum
  big : ((allRk n).map liW).sum < 2 ^ 100
  each : ∀ p ∈ allRk n, 1 ≤ wdW wd p ∧ wdW wd p < 2 ^ 1000 ∧ 0 ≤ liW p ∧ liW p < 2 ^ 100 ∧ fitB wd p = true
  apart : ((allRk n).map fun p => ps0 (wdW wd p * ((allRk n).map liW).sum - 2 ^ (wd * n) * liW p)).sum ≤ 2 * shW n wd * ((allRk n).map liW).sum
  share : 0 ≤ shW n wd
  one : n = 1 → ∀ p ∈ allRk n, wdW wd p * ((allRk n).map liW).sum = 2 ^ (wd * n) * liW p
theorem chkF_of {n wd : Nat} (h : chkF n wd = true) : ChkF n wd := by
  unfold chkF at h
  simp only [Bool.and_eq_true, decide_eq_true_eq, List.all_eq_true, Bool.or_eq_true] at h
  obtain ⟨⟨⟨⟨⟨⟨h1, h2⟩, h3⟩, h4⟩, h5⟩, h6⟩, h7⟩ := h
  exact ⟨h1, h2, h3, fun p m => by
    obtain ⟨⟨⟨⟨a, b⟩, c⟩, d⟩, e⟩ := h4 p m
    exact ⟨a, b, c, d, e⟩, h5, h6, fun e => h7.resolve_left fun z => z e⟩
theorem chkF_all : ∀ n ∈ [1, 2, 3], ∀ wd ∈ [3, 8, 64, 300], chkF n wd = true := by decide +kernel
def chkB (n : Nat) : Bool := (allRk n).all fun p => decide (rkOf 3 (p.1.map (lw 4 p.2)) = p) && (p.1.map (lw 4 p.2)).all (fun x => decide (0 ≤ x) && decide (x < 8))
theorem chkF_is {n wd : Nat} (hn : n ∈ [1, 2, 3]) (hw : wd ∈ [3, 8, 64, 300]) : ChkF n wd := chkF_of (chkF_all n hn wd hw)
theorem len44 : ∀ n ∈ [1, 2, 3], (allRk n).length ≤ 44 := by decide +kernel
theorem chkB_all : ∀ n ∈ [1, 2, 3], chkB n = true := by decide +kernel
end BR

/-! ### averages: what the law of averages asks -/
namespace BR
open PySem PySem.Spec PyProof.Rows L2
def intD : Option Int → PyData
  | none => .none
  | some i => .int i
theorem into_all {K : PySem.W.Frag} {H : Hp} : ∀ L : List (Option Int), DpAll K H (L.map intO) (L.map intD)
  | [] => .nil
  | none :: L => .cons .non (into_all L)
  | some i :: L => .cons (.int i) (into_all L)
theorem into_any : ∀ L : List (Option Int), (L.map intD).any (fun z => PyData.eqv z .none) = L.any Option.isNone
  | [] => rfl
  | none :: L => rfl
  | some i :: L => by
    rw [List.map_cons, List.any_cons, List.any_cons, into_any L]
    rfl
theorem into_lay : ∀ L : List (Option Int), PyData.canLayAll0 (L.map intD) = true ∧ PyData.depthAll (L.map intD) = 0
  | [] => ⟨rfl, rfl⟩
  | none :: L => by
    obtain ⟨a, b⟩ := into_lay L
    exact ⟨by show (PyData.canLay0 .none && _) = true; rw [a]; rfl, by show max _ _ = 0; rw [b]; rfl⟩
  | some i :: L => by
    obtain ⟨a, b⟩ := into_lay L
    exact ⟨by show (PyData.canLay0 (.int i) && _) = true; rw [a]; rfl, by show max _ _ = 0; rw [b]; rfl⟩
theorem sum_one {α : Type} {f : α → Int} : ∀ L : List α, (∀ x ∈ L, 1 ≤ f x) → 0 ≤ (L.map f).sum ∧ (L ≠ [] → 1 ≤ (L.map f).sum)
  | [], _ => ⟨Int.le_refl _, fun z => absurd rfl z⟩
  | x :: L, h => by
    have h1 := h x (List.mem_cons_self ..)
    have h2 := (sum_one L fun y m => h y (List.mem_cons_of_mem _ m)).1
    rw [List.map_cons, List.sum_cons]
    exact ⟨by omega, fun _ => by omega⟩
theorem nab_mul {x y : Int} {a b : Nat} (h1 : x.natAbs < 2 ^ a) (h2 : y.natAbs < 2 ^ b) : (x * y).natAbs < 2 ^ (a + b) := by
  rw [Int.natAbs_mul, Nat.pow_add]
  exact Nat.mul_lt_mul'' h1 h2
theorem avg_math {n wd : Nat} (chk : ChkF n wd) {S : List Int × Int → Int} {m M g1 g2 over under top bottom : Int} (bd : ∀ p ∈ allRk n, m ≤ S p ∧ S p ≤ M) (mM : m ≤ M) (h1 : 0 < g1) (h2 : 0 < g2)
    (e1 : over * g1 = ((allRk n).map fun p => S p * wdW wd p).sum) (e2 : under * g1 = ((allRk n).map fun p => wdW wd p).sum) (e3 : top * g2 = ((allRk n).map fun p => S p * liW p).sum) (e4 : bottom * g2 = ((allRk n).map fun p => liW p).sum) :
    (m * bottom ≤ top ∧ top ≤ M * bottom) ∧ (∀ X, X = over * bottom - top * under ∨ X = -(over * bottom - top * under) → X * 2 ^ (wd * n) ≤ 2 * (M - m) * shW n wd * bottom * under) ∧ (n = 1 → over * bottom = top * under) := by
  obtain ⟨W, hW⟩ : ∃ W : Int, W = 2 ^ (wd * n) := ⟨_, rfl⟩
  obtain ⟨L, hL⟩ : ∃ L : Int, L = ((allRk n).map liW).sum := ⟨_, rfl⟩
  obtain ⟨A1, hA1⟩ : ∃ A : Int, A = ((allRk n).map fun p => S p * wdW wd p).sum := ⟨_, rfl⟩
  obtain ⟨A2, hA2⟩ : ∃ A : Int, A = ((allRk n).map fun p => S p * liW p).sum := ⟨_, rfl⟩
  obtain ⟨P, hP⟩ : ∃ P : Int, P = ((allRk n).map fun p => ps0 (wdW wd p * L - W * liW p)).sum := ⟨_, rfl⟩
  have e2 : under * g1 = W := by rw [e2, hW]; exact chk.all
  have e4 : bottom * g2 = L := by rw [e4, hL]
  rw [← hA1] at e1
  rw [← hA2] at e3
  have ap := chk.apart
  rw [← hL, ← hW, ← hP] at ap
  have Lp : 0 < L := by rw [hL]; exact chk.pos
  have Wp : 0 < W := by rw [hW]; exact Int.pow_pos (by decide)
  rw [← hW]
  have lin : ((allRk n).map fun p => (wdW wd p * L - W * liW p) * S p).sum = A1 * L - A2 * W := by
    have : ((allRk n).map fun p => (wdW wd p * L - W * liW p) * S p) = (allRk n).map fun p => (S p * wdW wd p) * L + (S p * liW p) * (-W) := List.map_congr_left fun p _ => by grind
    rw [this, sum_add, sum_mul, sum_mul, ← hA1, ← hA2]
    grind
  have zer : ((allRk n).map fun p => wdW wd p * L - W * liW p).sum = 0 := by
    have : ((allRk n).map fun p => wdW wd p * L - W * liW p) = (allRk n).map fun p => wdW wd p * L + liW p * (-W) := List.map_congr_left fun p _ => by grind
    have ca : ((allRk n).map fun p => wdW wd p).sum = W := by rw [hW]; exact chk.all
    have cl : ((allRk n).map fun p => liW p).sum = L := by rw [hL]
    rw [this, sum_add, sum_mul, sum_mul, ca, cl]
    grind
  obtain ⟨u1, u2⟩ := sum_apart zer bd
  rw [lin, ← hP] at u1 u2
  refine ⟨⟨?_, ?_⟩, fun X hX => ?_, fun one => ?_⟩
  · have : ((allRk n).map fun p => liW p * m).sum ≤ ((allRk n).map fun p => S p * liW p).sum := sum_le _ fun p mp => by
      rw [Int.mul_comm]
      exact Int.mul_le_mul_of_nonneg_right (bd p mp).1 (chk.each p mp).2.2.1
    rw [sum_mul, ← hA2, show ((allRk n).map fun p => liW p).sum = L by rw [hL], ← e3, ← e4] at this
    refine Int.le_of_mul_le_mul_right (a := g2) ?_ h2
    grind
  · have : ((allRk n).map fun p => S p * liW p).sum ≤ ((allRk n).map fun p => liW p * M).sum := sum_le _ fun p mp => by
      rw [Int.mul_comm (liW p)]
      exact Int.mul_le_mul_of_nonneg_right (bd p mp).2 (chk.each p mp).2.2.1
    rw [sum_mul, ← hA2, show ((allRk n).map fun p => liW p).sum = L by rw [hL], ← e3, ← e4] at this
    refine Int.le_of_mul_le_mul_right (a := g2) ?_ h2
    grind
  · have b1 : X * (g1 * g2) ≤ (M - m) * P := by
      have : (over * bottom - top * under) * (g1 * g2) = A1 * L - A2 * W := by rw [← e1, ← e2, ← e3, ← e4]; grind
      rcases hX with rfl | rfl
      · rw [this]
        exact u1
      · rw [Int.neg_mul, this]
        exact u2
    have b2 : (M - m) * P ≤ (M - m) * (2 * shW n wd * L) := Int.mul_le_mul_of_nonneg_left ap (by omega)
    have b3 : X * (g1 * g2) * W ≤ (M - m) * (2 * shW n wd * L) * W := Int.mul_le_mul_of_nonneg_right (Int.le_trans b1 b2) (Int.le_of_lt Wp)
    have gp : 0 < g1 * g2 := Int.mul_pos h1 h2
    refine Int.le_of_mul_le_mul_right (a := g1 * g2) ?_ gp
    have c1 : X * W * (g1 * g2) = X * (g1 * g2) * W := by grind
    have c2 : 2 * (M - m) * shW n wd * bottom * under * (g1 * g2) = (M - m) * (2 * shW n wd * L) * W := by rw [← e2, ← e4]; grind
    rw [c1, c2]
    exact b3
  · have z : ((allRk n).map fun p => (wdW wd p * L - W * liW p) * S p) = (allRk n).map fun _ => 0 * (0 : Int) := List.map_congr_left fun p mp => by
      have := chk.one one p mp
      rw [← hL, ← hW] at this
      rw [this, Int.sub_self, Int.zero_mul]
      rfl
    have y : A1 * L = A2 * W := by
      rw [z, sum_mul, Int.mul_zero] at lin
      omega
    have gp : g1 * g2 ≠ 0 := Int.ne_of_gt (Int.mul_pos h1 h2)
    refine Int.eq_of_mul_eq_mul_right gp ?_
    have c1 : over * bottom * (g1 * g2) = A1 * L := by rw [← e1, ← e4]; grind
    have c2 : top * under * (g1 * g2) = A2 * W := by rw [← e3, ← e2]; grind
    rw [c1, c2, y]
end BR

namespace BR
open PySem PySem.Spec PyProof.Rows L2
/-! ### the text by places -/
def top (i : Nat) : Stmt := PySem.Challenge.pw_branchorders_k69_whole_averages_and_limi.main.body.getD i (.Pass ⟨0, 0, 0, 0⟩)
abbrev s_check_width : Stmt := top 12
abbrev s_check_words : Stmt := top 13
abbrev s_is_word : Stmt := top 14
abbrev s_sign_bit : Stmt := top 15
abbrev s_outcome_by_cut : Stmt := top 16
abbrev s_check_ranking : Stmt := top 19
abbrev s_check_items : Stmt := top 20
abbrev s_least_words : Stmt := top 21
abbrev s_count_words : Stmt := top 22
abbrev s_count_rankings : Stmt := top 23
abbrev s_nth_ranking : Stmt := top 24
abbrev s_all_rankings : Stmt := top 25
abbrev s_rankings_at : Stmt := top 26
abbrev s_is_ranking : Stmt := top 27
abbrev s_ranks_by_sign : Stmt := top 28
abbrev s_fits : Stmt := top 29
abbrev s_gaps : Stmt := top 30
abbrev s_register_names : Stmt := top 37
abbrev s_parts_of : Stmt := top 38
abbrev s_Program___init : Stmt := inClass (top 39) 0
abbrev s_Program_inputs : Stmt := inClass (top 39) 1
abbrev s_Program_placed : Stmt := inClass (top 39) 3
abbrev s_is_row : Stmt := top 40
abbrev s_is_item : Stmt := top 41
abbrev s_placed_row : Stmt := top 42
abbrev s_placed_item : Stmt := top 43
abbrev s_first_state : Stmt := top 46
abbrev s_ending_at : Stmt := top 47
abbrev s_state_behind : Stmt := top 48
abbrev s_with_value : Stmt := top 49
abbrev s_walk : Stmt := top 50
abbrev s_ranked_walk : Stmt := top 51
abbrev s_check_input : Stmt := top 54
abbrev s_count_steps : Stmt := top 55
abbrev s_check_query : Stmt := top 67
abbrev s_count_inputs : Stmt := top 68
abbrev s_average_steps : Stmt := top 69
abbrev s_average_limit : Stmt := top 70
abbrev s_is_query : Stmt := top 71
abbrev s_rankings_with : Stmt := top 72
abbrev s_is_true : Stmt := top 73
abbrev s_steps_of : Stmt := top 74
abbrev s_average : Stmt := top 76
abbrev s_weight_in_limit : Stmt := top 77
abbrev s_count_all : Stmt := top 78
abbrev s_law_bag : Stmt := top 80
abbrev s_law_draw : Stmt := top 81
abbrev s_law_half : Stmt := top 82
abbrev s_law_tests : Stmt := top 83
abbrev s_law_names : Stmt := top 84
abbrev s_law_line : Stmt := top 85
abbrev s_law_lines : Stmt := top 86
abbrev s_law_numbers : Stmt := top 87
abbrev s_law_all_words : Stmt := top 88
abbrev s_law_equal_share : Stmt := top 89
abbrev s_law : Stmt := top 90
abbrev s_InvalidProgram : Stmt := inClass (top 7) 0
structure Ad where
  v_CONDITIONS : Addr
  p_CONDITIONS_0 : Addr
  p_CONDITIONS_1 : Addr
  p_CONDITIONS_2 : Addr
  p_CONDITIONS_3 : Addr
  p_CONDITIONS_4 : Addr
  p_CONDITIONS_5 : Addr
  p_CONDITIONS_6 : Addr
  p_CONDITIONS_7 : Addr
  p_CONDITIONS_8 : Addr
  p_CONDITIONS_9 : Addr
  p_CONDITIONS_10 : Addr
  p_CONDITIONS_11 : Addr
  v_INPUT_NAMES : Addr
  v_OTHER_NAMES : Addr
  v_FORMS : Addr
  v_FLAG_WORDS : Addr
  v_ENDINGS : Addr
  v_QUERY_SHAPES : Addr
  p_QUERY_SHAPES_0 : Addr
  p_QUERY_SHAPES_1 : Addr
  p_QUERY_SHAPES_2 : Addr
  p_QUERY_SHAPES_3 : Addr
  p_QUERY_SHAPES_4 : Addr
  c_InvalidProgram : Addr
  c_BranchError : Addr
  i_InvalidProgram : Addr
  di_InvalidProgram : FuncData
  c_Program : Addr
  p_Program_inputs : Addr
  p_Program_placed : Addr
  a_check_width : Addr
  d_check_width : FuncData
  a_check_words : Addr
  d_check_words : FuncData
  a_is_word : Addr
  d_is_word : FuncData
  a_sign_bit : Addr
  d_sign_bit : FuncData
  a_outcome_by_cut : Addr
  d_outcome_by_cut : FuncData
  a_check_ranking : Addr
  d_check_ranking : FuncData
  a_check_items : Addr
  d_check_items : FuncData
  a_least_words : Addr
  d_least_words : FuncData
  a_count_words : Addr
  d_count_words : FuncData
  a_count_rankings : Addr
  d_count_rankings : FuncData
  a_nth_ranking : Addr
  d_nth_ranking : FuncData
  a_all_rankings : Addr
  d_all_rankings : FuncData
  a_rankings_at : Addr
  d_rankings_at : FuncData
  a_is_ranking : Addr
  d_is_ranking : FuncData
  a_ranks_by_sign : Addr
  d_ranks_by_sign : FuncData
  a_fits : Addr
  d_fits : FuncData
  a_gaps : Addr
  d_gaps : FuncData
  a_register_names : Addr
  d_register_names : FuncData
  a_parts_of : Addr
  d_parts_of : FuncData
  a_Program___init : Addr
  d_Program___init : FuncData
  a_Program_inputs : Addr
  d_Program_inputs : FuncData
  a_Program_placed : Addr
  d_Program_placed : FuncData
  a_is_row : Addr
  d_is_row : FuncData
  a_is_item : Addr
  d_is_item : FuncData
  a_placed_row : Addr
  d_placed_row : FuncData
  a_placed_item : Addr
  d_placed_item : FuncData
  a_first_state : Addr
  d_first_state : FuncData
  a_ending_at : Addr
  d_ending_at : FuncData
  a_state_behind : Addr
  d_state_behind : FuncData
  a_with_value : Addr
  d_with_value : FuncData
  a_walk : Addr
  d_walk : FuncData
  a_ranked_walk : Addr
  d_ranked_walk : FuncData
  a_check_input : Addr
  d_check_input : FuncData
  a_count_steps : Addr
  d_count_steps : FuncData
  a_check_query : Addr
  d_check_query : FuncData
  a_count_inputs : Addr
  d_count_inputs : FuncData
  a_average_steps : Addr
  d_average_steps : FuncData
  a_average_limit : Addr
  d_average_limit : FuncData
  a_is_query : Addr
  d_is_query : FuncData
  a_rankings_with : Addr
  d_rankings_with : FuncData
  a_is_true : Addr
  d_is_true : FuncData
  a_steps_of : Addr
  d_steps_of : FuncData
  a_average : Addr
  d_average : FuncData
  a_weight_in_limit : Addr
  d_weight_in_limit : FuncData
  a_count_all : Addr
  d_count_all : FuncData
  a_law_bag : Addr
  d_law_bag : FuncData
  a_law_draw : Addr
  d_law_draw : FuncData
  a_law_half : Addr
  d_law_half : FuncData
  a_law_tests : Addr
  d_law_tests : FuncData
  a_law_names : Addr
  d_law_names : FuncData
  a_law_line : Addr
  d_law_line : FuncData
  a_law_lines : Addr
  d_law_lines : FuncData
  a_law_numbers : Addr
  d_law_numbers : FuncData
  a_law_all_words : Addr
  d_law_all_words : FuncData
  a_law_equal_share : Addr
  d_law_equal_share : FuncData
  a_law : Addr
  d_law : FuncData
structure TyFacts (K : PySem.W.Frag) (C : Addr) : Prop where
  ha : PySem.W.findIn K (.ref C) "__class__" = some (some (.builtin "object.__class__"))
  hn : PySem.W.specialIn K (.builtin "object.__class__") "__get__" = some (some (.builtin "getset_descriptor.__get__"))
  ht : PySem.W.takesIn K (.builtin "object.__class__") = some true
  hm : PySem.W.mroIn K C (.type "object") = some true
  one : PySem.W.kitOne K (.ref C) (.ref C) = some true
structure Txt (w : World) (K : PySem.W.Frag) (mg : Str → Option Value) (A0 : Ad) : Prop where
  g_check_width : mg "check_width" = some (.ref A0.a_check_width)
  F_check_width : Fun K "check_width" "check_width" s_check_width A0.a_check_width A0.d_check_width
  g_check_words : mg "check_words" = some (.ref A0.a_check_words)
  F_check_words : Fun K "check_words" "check_words" s_check_words A0.a_check_words A0.d_check_words
  g_is_word : mg "is_word" = some (.ref A0.a_is_word)
  F_is_word : Fun K "is_word" "is_word" s_is_word A0.a_is_word A0.d_is_word
  g_sign_bit : mg "sign_bit" = some (.ref A0.a_sign_bit)
  F_sign_bit : Fun K "sign_bit" "sign_bit" s_sign_bit A0.a_sign_bit A0.d_sign_bit
  g_outcome_by_cut : mg "outcome_by_cut" = some (.ref A0.a_outcome_by_cut)
  F_outcome_by_cut : Fun K "outcome_by_cut" "outcome_by_cut" s_outcome_by_cut A0.a_outcome_by_cut A0.d_outcome_by_cut
  g_check_ranking : mg "check_ranking" = some (.ref A0.a_check_ranking)
  F_check_ranking : Fun K "check_ranking" "check_ranking" s_check_ranking A0.a_check_ranking A0.d_check_ranking
  g_check_items : mg "check_items" = some (.ref A0.a_check_items)
  F_check_items : Fun K "check_items" "check_items" s_check_items A0.a_check_items A0.d_check_items
  g_least_words : mg "least_words" = some (.ref A0.a_least_words)
  F_least_words : Fun K "least_words" "least_words" s_least_words A0.a_least_words A0.d_least_words
  g_count_words : mg "count_words" = some (.ref A0.a_count_words)
  F_count_words : Fun K "count_words" "count_words" s_count_words A0.a_count_words A0.d_count_words
  g_count_rankings : mg "count_rankings" = some (.ref A0.a_count_rankings)
  F_count_rankings : Fun K "count_rankings" "count_rankings" s_count_rankings A0.a_count_rankings A0.d_count_rankings
  g_nth_ranking : mg "nth_ranking" = some (.ref A0.a_nth_ranking)
  F_nth_ranking : Fun K "nth_ranking" "nth_ranking" s_nth_ranking A0.a_nth_ranking A0.d_nth_ranking
  g_all_rankings : mg "all_rankings" = some (.ref A0.a_all_rankings)
  F_all_rankings : Fun K "all_rankings" "all_rankings" s_all_rankings A0.a_all_rankings A0.d_all_rankings
  g_rankings_at : mg "rankings_at" = some (.ref A0.a_rankings_at)
  F_rankings_at : Fun K "rankings_at" "rankings_at" s_rankings_at A0.a_rankings_at A0.d_rankings_at
  g_is_ranking : mg "_is_ranking" = some (.ref A0.a_is_ranking)
  F_is_ranking : Fun K "_is_ranking" "_is_ranking" s_is_ranking A0.a_is_ranking A0.d_is_ranking
  g_ranks_by_sign : mg "_ranks_by_sign" = some (.ref A0.a_ranks_by_sign)
  F_ranks_by_sign : Fun K "_ranks_by_sign" "_ranks_by_sign" s_ranks_by_sign A0.a_ranks_by_sign A0.d_ranks_by_sign
  g_fits : mg "_fits" = some (.ref A0.a_fits)
  F_fits : Fun K "_fits" "_fits" s_fits A0.a_fits A0.d_fits
  g_gaps : mg "_gaps" = some (.ref A0.a_gaps)
  F_gaps : Fun K "_gaps" "_gaps" s_gaps A0.a_gaps A0.d_gaps
  g_register_names : mg "register_names" = some (.ref A0.a_register_names)
  F_register_names : Fun K "register_names" "register_names" s_register_names A0.a_register_names A0.d_register_names
  g_parts_of : mg "parts_of" = some (.ref A0.a_parts_of)
  F_parts_of : Fun K "parts_of" "parts_of" s_parts_of A0.a_parts_of A0.d_parts_of
  me_Program___init : Meth K A0.c_Program "__init__" A0.a_Program___init
  F_Program___init : Fun K "__init__" "Program.__init__" s_Program___init A0.a_Program___init A0.d_Program___init
  po_Program_inputs : PropOf K A0.c_Program "inputs" A0.p_Program_inputs A0.a_Program_inputs
  F_Program_inputs : Fun K "inputs" "Program.inputs" s_Program_inputs A0.a_Program_inputs A0.d_Program_inputs
  po_Program_placed : PropOf K A0.c_Program "placed" A0.p_Program_placed A0.a_Program_placed
  F_Program_placed : Fun K "placed" "Program.placed" s_Program_placed A0.a_Program_placed A0.d_Program_placed
  g_is_row : mg "_is_row" = some (.ref A0.a_is_row)
  F_is_row : Fun K "_is_row" "_is_row" s_is_row A0.a_is_row A0.d_is_row
  g_is_item : mg "_is_item" = some (.ref A0.a_is_item)
  F_is_item : Fun K "_is_item" "_is_item" s_is_item A0.a_is_item A0.d_is_item
  g_placed_row : mg "_placed_row" = some (.ref A0.a_placed_row)
  F_placed_row : Fun K "_placed_row" "_placed_row" s_placed_row A0.a_placed_row A0.d_placed_row
  g_placed_item : mg "_placed_item" = some (.ref A0.a_placed_item)
  F_placed_item : Fun K "_placed_item" "_placed_item" s_placed_item A0.a_placed_item A0.d_placed_item
  g_first_state : mg "first_state" = some (.ref A0.a_first_state)
  F_first_state : Fun K "first_state" "first_state" s_first_state A0.a_first_state A0.d_first_state
  g_ending_at : mg "ending_at" = some (.ref A0.a_ending_at)
  F_ending_at : Fun K "ending_at" "ending_at" s_ending_at A0.a_ending_at A0.d_ending_at
  g_state_behind : mg "state_behind" = some (.ref A0.a_state_behind)
  F_state_behind : Fun K "state_behind" "state_behind" s_state_behind A0.a_state_behind A0.d_state_behind
  g_with_value : mg "with_value" = some (.ref A0.a_with_value)
  F_with_value : Fun K "with_value" "with_value" s_with_value A0.a_with_value A0.d_with_value
  g_walk : mg "walk" = some (.ref A0.a_walk)
  F_walk : Fun K "walk" "walk" s_walk A0.a_walk A0.d_walk
  g_ranked_walk : mg "ranked_walk" = some (.ref A0.a_ranked_walk)
  F_ranked_walk : Fun K "ranked_walk" "ranked_walk" s_ranked_walk A0.a_ranked_walk A0.d_ranked_walk
  g_check_input : mg "check_input" = some (.ref A0.a_check_input)
  F_check_input : Fun K "check_input" "check_input" s_check_input A0.a_check_input A0.d_check_input
  g_count_steps : mg "count_steps" = some (.ref A0.a_count_steps)
  F_count_steps : Fun K "count_steps" "count_steps" s_count_steps A0.a_count_steps A0.d_count_steps
  g_check_query : mg "check_query" = some (.ref A0.a_check_query)
  F_check_query : Fun K "check_query" "check_query" s_check_query A0.a_check_query A0.d_check_query
  g_count_inputs : mg "count_inputs" = some (.ref A0.a_count_inputs)
  F_count_inputs : Fun K "count_inputs" "count_inputs" s_count_inputs A0.a_count_inputs A0.d_count_inputs
  g_average_steps : mg "average_steps" = some (.ref A0.a_average_steps)
  F_average_steps : Fun K "average_steps" "average_steps" s_average_steps A0.a_average_steps A0.d_average_steps
  g_average_limit : mg "average_limit" = some (.ref A0.a_average_limit)
  F_average_limit : Fun K "average_limit" "average_limit" s_average_limit A0.a_average_limit A0.d_average_limit
  g_is_query : mg "_is_query" = some (.ref A0.a_is_query)
  F_is_query : Fun K "_is_query" "_is_query" s_is_query A0.a_is_query A0.d_is_query
  g_rankings_with : mg "_rankings_with" = some (.ref A0.a_rankings_with)
  F_rankings_with : Fun K "_rankings_with" "_rankings_with" s_rankings_with A0.a_rankings_with A0.d_rankings_with
  g_is_true : mg "_is_true" = some (.ref A0.a_is_true)
  F_is_true : Fun K "_is_true" "_is_true" s_is_true A0.a_is_true A0.d_is_true
  g_steps_of : mg "_steps_of" = some (.ref A0.a_steps_of)
  F_steps_of : Fun K "_steps_of" "_steps_of" s_steps_of A0.a_steps_of A0.d_steps_of
  g_average : mg "_average" = some (.ref A0.a_average)
  F_average : Fun K "_average" "_average" s_average A0.a_average A0.d_average
  g_weight_in_limit : mg "_weight_in_limit" = some (.ref A0.a_weight_in_limit)
  F_weight_in_limit : Fun K "_weight_in_limit" "_weight_in_limit" s_weight_in_limit A0.a_weight_in_limit A0.d_weight_in_limit
  g_count_all : mg "_count_all" = some (.ref A0.a_count_all)
  F_count_all : Fun K "_count_all" "_count_all" s_count_all A0.a_count_all A0.d_count_all
  g_law_bag : mg "_law_bag" = some (.ref A0.a_law_bag)
  F_law_bag : Fun K "_law_bag" "_law_bag" s_law_bag A0.a_law_bag A0.d_law_bag
  g_law_draw : mg "_law_draw" = some (.ref A0.a_law_draw)
  F_law_draw : Fun K "_law_draw" "_law_draw" s_law_draw A0.a_law_draw A0.d_law_draw
  g_law_half : mg "_law_half" = some (.ref A0.a_law_half)
  F_law_half : Fun K "_law_half" "_law_half" s_law_half A0.a_law_half A0.d_law_half
  g_law_tests : mg "_law_tests" = some (.ref A0.a_law_tests)
  F_law_tests : Fun K "_law_tests" "_law_tests" s_law_tests A0.a_law_tests A0.d_law_tests
  g_law_names : mg "_law_names" = some (.ref A0.a_law_names)
  F_law_names : Fun K "_law_names" "_law_names" s_law_names A0.a_law_names A0.d_law_names
  g_law_line : mg "_law_line" = some (.ref A0.a_law_line)
  F_law_line : Fun K "_law_line" "_law_line" s_law_line A0.a_law_line A0.d_law_line
  g_law_lines : mg "_law_lines" = some (.ref A0.a_law_lines)
  F_law_lines : Fun K "_law_lines" "_law_lines" s_law_lines A0.a_law_lines A0.d_law_lines
  g_law_numbers : mg "_law_numbers" = some (.ref A0.a_law_numbers)
  F_law_numbers : Fun K "_law_numbers" "_law_numbers" s_law_numbers A0.a_law_numbers A0.d_law_numbers
  g_law_all_words : mg "_law_all_words" = some (.ref A0.a_law_all_words)
  F_law_all_words : Fun K "_law_all_words" "_law_all_words" s_law_all_words A0.a_law_all_words A0.d_law_all_words
  g_law_equal_share : mg "_law_equal_share" = some (.ref A0.a_law_equal_share)
  F_law_equal_share : Fun K "_law_equal_share" "_law_equal_share" s_law_equal_share A0.a_law_equal_share A0.d_law_equal_share
  g_law : mg "law" = some (.ref A0.a_law)
  F_law : Fun K "law" "law" s_law A0.a_law A0.d_law
  gc_Program : mg "Program" = some (.ref A0.c_Program)
  cl_Program : Cls K A0.c_Program
  mk_Program : Mk K A0.c_Program A0.a_Program___init
  nf_Program__inputs : NoAttr K A0.c_Program "_inputs"
  nf_Program__rows : NoAttr K A0.c_Program "_rows"
  nf_Program__placed : NoAttr K A0.c_Program "_placed"
  ty_Program : TyFacts K A0.c_Program
  sf_Program : PySem.W.selfFirst K A0.c_Program = true
  b_abs : mg "abs" = none
  b_all : mg "all" = none
  b_any : mg "any" = none
  b_enumerate : mg "enumerate" = none
  b_int : mg "int" = none
  b_len : mg "len" = none
  b_list : mg "list" = none
  b_max : mg "max" = none
  b_min : mg "min" = none
  b_range : mg "range" = none
  b_set : mg "set" = none
  b_sorted : mg "sorted" = none
  b_sum : mg "sum" = none
  b_tuple : mg "tuple" = none
  b_type : mg "type" = none
  b_zip : mg "zip" = none
  gi_MOST_ITEMS : ∃ t, mg "MOST_ITEMS" = some (.int 5 t)
  gf_comb : mg "comb" = some (.builtin "math.comb")
  gf_gcd : mg "gcd" = some (.builtin "math.gcd")
  gv_CONDITIONS : mg "CONDITIONS" = some (.ref A0.v_CONDITIONS)
  kt_CONDITIONS : ∀ P : Program, KTab K P w A0.v_CONDITIONS [("e", .ref A0.p_CONDITIONS_0), ("ne", .ref A0.p_CONDITIONS_1), ("l", .ref A0.p_CONDITIONS_2), ("le", .ref A0.p_CONDITIONS_3), ("g", .ref A0.p_CONDITIONS_4), ("ge", .ref A0.p_CONDITIONS_5), ("b", .ref A0.p_CONDITIONS_6), ("be", .ref A0.p_CONDITIONS_7), ("a", .ref A0.p_CONDITIONS_8), ("ae", .ref A0.p_CONDITIONS_9), ("same", .ref A0.p_CONDITIONS_10), ("mixed", .ref A0.p_CONDITIONS_11)]
  tv_CONDITIONS_0 : TupK K A0.p_CONDITIONS_0 ["E"]
  tv_CONDITIONS_1 : TupK K A0.p_CONDITIONS_1 ["LB", "GA", "GB", "LA"]
  tv_CONDITIONS_2 : TupK K A0.p_CONDITIONS_2 ["LB", "LA"]
  tv_CONDITIONS_3 : TupK K A0.p_CONDITIONS_3 ["E", "LB", "LA"]
  tv_CONDITIONS_4 : TupK K A0.p_CONDITIONS_4 ["GA", "GB"]
  tv_CONDITIONS_5 : TupK K A0.p_CONDITIONS_5 ["E", "GA", "GB"]
  tv_CONDITIONS_6 : TupK K A0.p_CONDITIONS_6 ["LB", "GB"]
  tv_CONDITIONS_7 : TupK K A0.p_CONDITIONS_7 ["E", "LB", "GB"]
  tv_CONDITIONS_8 : TupK K A0.p_CONDITIONS_8 ["GA", "LA"]
  tv_CONDITIONS_9 : TupK K A0.p_CONDITIONS_9 ["E", "GA", "LA"]
  tv_CONDITIONS_10 : TupK K A0.p_CONDITIONS_10 ["E", "LB", "GA"]
  tv_CONDITIONS_11 : TupK K A0.p_CONDITIONS_11 ["GB", "LA"]
  gv_INPUT_NAMES : mg "INPUT_NAMES" = some (.ref A0.v_INPUT_NAMES)
  tv_INPUT_NAMES : TupK K A0.v_INPUT_NAMES ["p", "q", "r", "s"]
  gv_OTHER_NAMES : mg "OTHER_NAMES" = some (.ref A0.v_OTHER_NAMES)
  tv_OTHER_NAMES : TupK K A0.v_OTHER_NAMES ["x", "y"]
  gv_FORMS : mg "FORMS" = some (.ref A0.v_FORMS)
  kt_FORMS : ∀ P : Program, KTab K P w A0.v_FORMS [("cmp", .str "RR"), ("mov", .str "RR"), ("swap", .str "RR"), ("cmov", .str "CRR"), ("jump", .str "T"), ("jif", .str "CT"), ("out", .str "R"), ("stop", .str "")]
  gv_FLAG_WORDS : mg "FLAG_WORDS" = some (.ref A0.v_FLAG_WORDS)
  tv_FLAG_WORDS : TupK K A0.v_FLAG_WORDS ["cmov", "jif"]
  gv_ENDINGS : mg "ENDINGS" = some (.ref A0.v_ENDINGS)
  tv_ENDINGS : TupK K A0.v_ENDINGS ["stop", "fault", "endless"]
  gv_QUERY_SHAPES : mg "QUERY_SHAPES" = some (.ref A0.v_QUERY_SHAPES)
  tv_QUERY_SHAPES : TupV K A0.v_QUERY_SHAPES [.ref A0.p_QUERY_SHAPES_0, .ref A0.p_QUERY_SHAPES_1, .ref A0.p_QUERY_SHAPES_2, .ref A0.p_QUERY_SHAPES_3, .ref A0.p_QUERY_SHAPES_4]
  tv_QUERY_SHAPES_0 : TupV K A0.p_QUERY_SHAPES_0 [.str "all", .int 1]
  tv_QUERY_SHAPES_1 : TupV K A0.p_QUERY_SHAPES_1 [.str "end", .int 2]
  tv_QUERY_SHAPES_2 : TupV K A0.p_QUERY_SHAPES_2 [.str "reach", .int 2]
  tv_QUERY_SHAPES_3 : TupV K A0.p_QUERY_SHAPES_3 [.str "steps", .int 3]
  tv_QUERY_SHAPES_4 : TupV K A0.p_QUERY_SHAPES_4 [.str "first", .int 2]
  gc_InvalidProgram : mg "InvalidProgram" = some (.ref A0.c_InvalidProgram)
  er_InvalidProgram : ErrTxt K A0.c_InvalidProgram A0.i_InvalidProgram
  FI_InvalidProgram : Fun K "__init__" "InvalidProgram.__init__" s_InvalidProgram A0.i_InvalidProgram A0.di_InvalidProgram
  gc_BranchError : mg "BranchError" = some (.ref A0.c_BranchError)
  xb : PySem.W.excIn K A0.c_BranchError [.type "ValueError", .type "Exception", .type "BaseException", .type "object"] "ValueError.__new__" = true
  kb : PySem.W.keepIn K (.ref A0.c_BranchError) = true
  eb : ExcC K A0.c_BranchError
  tab : kitTab K [A0.c_InvalidProgram] A0.c_BranchError = true
def Bag (H : Hp) (b l : Addr) (n : Nat) : Prop := ∃ (gs : List Int) (left turn blend : Int), H b = some (.dK (bagK l left turn blend)) ∧ H l = some (.lst (gs.map V.int)) ∧ (∀ g ∈ gs, 0 ≤ g) ∧ gs.length ≤ 63 ∧ 0 ≤ left ∧ 0 ≤ turn ∧ turn ≤ (n : Int) ∧ 0 ≤ blend ∧ blend < 2 ^ 61
theorem Bag.same {H H' : Hp} {b l : Addr} {n : Nat} (h : Bag H b l n) (s : Same H H') : Bag H' b l n := by
  obtain ⟨gs, x, y, z, h1, h2, r⟩ := h
  exact ⟨gs, x, y, z, s _ _ h1, s _ _ h2, r⟩
def But2 (b l : Addr) (H H' : Hp) : Prop := ∀ c o, c ≠ b → c ≠ l → H c = some o → H' c = some o
theorem But2.trans {b l : Addr} {H H1 H2 : Hp} (x : But2 b l H H1) (y : But2 b l H1 H2) : But2 b l H H2 := fun c o n1 n2 e => y c o n1 n2 (x c o n1 n2 e)
theorem But2.of {b l : Addr} {H H' : Hp} (s : Same H H') : But2 b l H H' := fun c o _ _ e => s c o e
theorem But2.same {b l : Addr} {H0 H H' : Hp} (nb : H0 b = none) (nl : H0 l = none) (s : Same H0 H) (x : But2 b l H H') : Same H0 H' := fun c o e => x c o (ne_of_none e nb) (ne_of_none e nl) (s c o e)
theorem isNum_eq (p : Str) : isNum p = ((Txt.isascii p && Txt.isdigit p) && (decide (p.length ≤ 400) && (decide (p = "0") || !decide ((_root_.TL.tl p).head? = some 48)))) := by
  unfold isNum
  rw [asc_digit, Bool.and_assoc]
theorem len24 {n : Nat} (h : n ≤ 16000000) : n ≤ sizeLine := by rw [sizeLine_eq]; omega
theorem str_dec (x y : Str) : decide (V.str x = V.str y) = decide (x = y) := decide_eq_decide.mpr ⟨V.str.inj, fun e => congrArg V.str e⟩
theorem Bag.ne {H : Hp} {b l p : Addr} {n : Nat} (h : Bag H b l n) (hp : H p = none) : p ≠ b ∧ p ≠ l := by
  obtain ⟨gs, x, y, z, h1, h2, _⟩ := h
  exact ⟨fun e => (by rw [e, h1] at hp; cases hp), fun e => (by rw [e, h2] at hp; cases hp)⟩
theorem Bag.put {H : Hp} {b l p : Addr} {n : Nat} {o : HO} (h : Bag H b l n) (n1 : p ≠ b) (n2 : p ≠ l) : Bag (L2.upd H p o) b l n := by
  obtain ⟨gs, x, y, z, h1, h2, r⟩ := h
  exact ⟨gs, x, y, z, by rw [upd_ne n1.symm]; exact h1, by rw [upd_ne n2.symm]; exact h2, r⟩
theorem Bag.mono {H : Hp} {b l : Addr} {n m : Nat} (h : Bag H b l n) (hm : n ≤ m) : Bag H b l m := by
  obtain ⟨gs, x, y, z, h1, h2, h3, h4, h5, h6, h7, r⟩ := h
  exact ⟨gs, x, y, z, h1, h2, h3, h4, h5, h6, by omega, r⟩

theorem Bag.nt {H : Hp} {b l t : Addr} {n : Nat} {r : List V} (h : Bag H b l n) (e : H t = some (.tup r)) : t ≠ b ∧ t ≠ l := by
  obtain ⟨gs, x, y, z, h1, h2, _⟩ := h
  exact ⟨fun q => (by rw [q, h1] at e; cases e), fun q => (by rw [q, h2] at e; cases e)⟩
theorem RowsAt.but2 {H H' : Hp} {b l : Addr} {n : Nat} {as : List Addr} {rs : List (List V)} (h : RowsAt H as rs) (x : But2 b l H H') (bag : Bag H b l n) : RowsAt H' as rs := prm h fun a r e => x a _ (bag.nt e).1 (bag.nt e).2 e

/-- the placed rows at t -/
def Placed (K : PySem.W.Frag) (H : Hp) (t : Addr) (ns : List Str) (rs : List (List V)) : Prop := ∃ ps : List Addr, H t = some (.tup (ps.map V.ref)) ∧ Paired (PlC K H ns) ps rs ∧ (∀ r ∈ rs, RowC ns rs.length r) ∧ rs.length ≤ 4000
theorem Placed.same {K : PySem.W.Frag} {H H' : Hp} {t : Addr} {ns : List Str} {rs : List (List V)} (h : Placed K H t ns rs) (s : Same H H') : Placed K H' t ns rs := by
  obtain ⟨ps, e, pr, r, l⟩ := h
  exact ⟨ps, s _ _ e, prm pr fun _ _ q => q.same s, r, l⟩
theorem prz {α β : Type} {R S : α → β → Prop} : ∀ {as : List α} {bs : List β}, Paired R as bs → (∀ a b, b ∈ bs → R a b → S a b) → Paired S as bs
  | [], [], _, _ => .nil
  | a :: as, b :: bs, .cons r p, h => .cons (h a b List.mem_cons_self r) (prz p fun x y m q => h x y (List.mem_cons_of_mem _ m) q)
theorem placed_of {K : PySem.W.Frag} {H : Hp} {C a : Addr} {n : Int} {as : List Addr} {rs : List (List V)} (h : ProgAt K H C a n as rs) : ∃ dx l t, H a = some (.ins C dx [("_inputs", .int n), ("_rows", .ref l), ("_placed", .ref t)]) ∧ Placed K H t (regs n.toNat) rs := by
  obtain ⟨dx, l, t, ps, e1, e2, e3, e4, e5, n1, n2, hz, hw, all⟩ := h
  exact ⟨dx, l, t, e1, ps, e4, prz e5 fun p r m q => plC_of q (rowC_of (all r m)), fun r m => rowC_of (all r m), hz⟩
theorem at_neg {xs : List V} {j : Nat} {v : V} (hj : j < xs.length) (h : xs[xs.length - 1 - j]? = some v) : atI xs (-1 - (j : Int)) = some v := by
  unfold atI ixN
  rw [if_neg (by omega), if_pos (by omega)]
  show xs[(-1 - (j : Int) + (xs.length : Int)).toNat]? = _
  rw [show (-1 - (j : Int) + (xs.length : Int)).toNat = xs.length - 1 - j by omega, h]
theorem pr_take {α β : Type} {R : α → β → Prop} : ∀ {as : List α} {bs : List β} (i : Nat), Paired R as bs → Paired R (as.take i) (bs.take i)
  | _, _, 0, _ => .nil
  | _, _, _ + 1, .nil => .nil
  | _, _, i + 1, .cons r p => .cons r (pr_take i p)
theorem pr_drop {α β : Type} {R : α → β → Prop} : ∀ {as : List α} {bs : List β} (i : Nat), Paired R as bs → Paired R (as.drop i) (bs.drop i)
  | _, _, 0, p => p
  | _, _, _ + 1, .nil => .nil
  | _, _, i + 1, .cons r p => pr_drop i p
theorem end_no {rs : List (List V)} (s : MS) : endM rs s ≠ some "endless" := by
  have h1 : ("stop" : Str) ≠ "endless" := by decide +kernel
  have h2 : ("fault" : Str) ≠ "endless" := by decide +kernel
  unfold endM
  split
  · exact fun z => h1 (Option.some.inj z)
  · split
    · exact fun z => h1 (Option.some.inj z)
    · split
      · exact fun z => h2 (Option.some.inj z)
      · exact fun z => nomatch z
theorem step_cmp {ns : List Str} {cut : Int} {i : Nat} {v : List Int} {f : Option Str} {a b : Str} : stepRow ns cut i v f [.str "cmp", .str a, .str b] = ⟨some (i + 1), v, some (ocut cut (getR ns v a) (getR ns v b))⟩ := by
  simp [stepRow]
theorem step_mov {ns : List Str} {cut : Int} {i : Nat} {v : List Int} {f : Option Str} {a b : Str} : stepRow ns cut i v f [.str "mov", .str a, .str b] = ⟨some (i + 1), setR ns v a (getR ns v b), f⟩ := by
  have h1 : ("mov" : Str) ≠ "cmp" := by decide +kernel
  have h2 : ("swap" : Str) ≠ "cmp" := by decide +kernel
  have h3 : ("swap" : Str) ≠ "mov" := by decide +kernel
  simp [stepRow, h1, h2, h3]
theorem step_swap {ns : List Str} {cut : Int} {i : Nat} {v : List Int} {f : Option Str} {a b : Str} : stepRow ns cut i v f [.str "swap", .str a, .str b] = ⟨some (i + 1), setR ns (setR ns v a (getR ns v b)) b (getR ns v a), f⟩ := by
  have h1 : ("mov" : Str) ≠ "cmp" := by decide +kernel
  have h2 : ("swap" : Str) ≠ "cmp" := by decide +kernel
  have h3 : ("swap" : Str) ≠ "mov" := by decide +kernel
  simp [stepRow, h1, h2, h3]
/-- n states have come, all of them new, and in each a step is done -/
structure Going (ns : List Str) (rs : List (List V)) (cut : Int) (s0 : MS) (n : Nat) : Prop where
  on : ∀ i, i < n → endM rs (itM ns rs cut s0 i) = none
  new : ∀ i j, i < j → j < n → itM ns rs cut s0 i ≠ itM ns rs cut s0 j
def EndIs (ns : List Str) (rs : List (List V)) (cut : Int) (s0 : MS) (n : Nat) : Option Str → Prop
  | some z => WalkIs ns rs cut s0 n z
  | none => Going ns rs cut s0 (n + 1)
/-- the number of states that a walk can't pass -/
def mostM (rs : List (List V)) (ns : List Str) (vs : List Int) : Nat := (rs.length + 2) * (vs.length ^ ns.length * 6)
theorem Going.le {ns : List Str} {rs : List (List V)} {vs : List Int} {cut : Int} {s0 : MS} {n : Nat} (g : Going ns rs cut s0 n) (rok : ∀ r ∈ rs, RowC ns rs.length r) (h : MOk ns rs.length vs s0) : n ≤ mostM rs ns vs := walk_le rok h g.on g.new
theorem EndIs.le {ns : List Str} {rs : List (List V)} {vs : List Int} {cut : Int} {s0 : MS} {n : Nat} {e : Option Str} (g : EndIs ns rs cut s0 n e) (rok : ∀ r ∈ rs, RowC ns rs.length r) (h : MOk ns rs.length vs s0) : n ≤ mostM rs ns vs := by
  cases e with
  | none => exact Nat.le_trans (Nat.le_succ n) (Going.le g rok h)
  | some z => exact walk_le rok h (WalkIs.on g) (WalkIs.new g)
theorem EndIs.first {ns : List Str} {rs : List (List V)} {cut : Int} {s0 : MS} : EndIs ns rs cut s0 0 (endM rs s0) := by
  cases h : endM rs s0 with
  | none => exact ⟨fun i hi => by obtain rfl : i = 0 := by omega
                                  exact h, fun i j _ _ => by omega⟩
  | some z => exact ⟨fun i hi => by omega, fun i j _ _ => by omega, .inr ⟨fun i hi => by omega, h⟩⟩
theorem Going.again {ns : List Str} {rs : List (List V)} {cut : Int} {s0 : MS} {n i : Nat} (g : Going ns rs cut s0 n) (hi : i < n) (e : itM ns rs cut s0 i = itM ns rs cut s0 n) : EndIs ns rs cut s0 n (some "endless") := ⟨g.on, g.new, .inl ⟨rfl, i, hi, e⟩⟩
theorem Going.next {ns : List Str} {rs : List (List V)} {cut : Int} {s0 : MS} {n : Nat} (g : Going ns rs cut s0 n) (ne : ∀ i, i < n → itM ns rs cut s0 i ≠ itM ns rs cut s0 n) : EndIs ns rs cut s0 n (endM rs (itM ns rs cut s0 n)) := by
  cases h : endM rs (itM ns rs cut s0 n) with
  | some z => exact ⟨g.on, g.new, .inr ⟨ne, h⟩⟩
  | none =>
    refine ⟨fun i hi => ?_, fun i j hij hj => ?_⟩
    · by_cases c : i = n
      · rw [c]; exact h
      · exact g.on i (by omega)
    · by_cases c : j = n
      · rw [c]; exact ne i (by omega)
      · exact g.new i j hij (by omega)
/-- the states that have come, as a dict's entries -/
def Come (H : Hp) (ns : List Str) (rs : List (List V)) (cut : Int) (s0 : MS) (n : Nat) (kvs : NEs) : Prop := Paired (fun (e : NestedKey × Addr × V) (s : MS) => e.1 = keyM s ∧ StAt H e.2.1 s) kvs ((List.range n).map (itM ns rs cut s0))
theorem Come.len {H : Hp} {ns : List Str} {rs : List (List V)} {cut : Int} {s0 : MS} {n : Nat} {kvs : NEs} (h : Come H ns rs cut s0 n kvs) : kvs.length = n := by
  have := Paired.length h
  rwa [List.length_map, List.length_range] at this
theorem Come.mono {H H' : Hp} {ns : List Str} {rs : List (List V)} {cut : Int} {s0 : MS} {n : Nat} {kvs : NEs} (h : Come H ns rs cut s0 n kvs) (m : ∀ a s, StAt H a s → StAt H' a s) : Come H' ns rs cut s0 n kvs := prm h fun _ _ q => ⟨q.1, m _ _ q.2⟩
theorem Come.val {H : Hp} {ns : List Str} {rs : List (List V)} {cut : Int} {s0 : MS} {n : Nat} {kvs : NEs} (h : Come H ns rs cut s0 n kvs) (s : MS) : (valN kvs (keyM s)).isSome = true ↔ ∃ i, i < n ∧ itM ns rs cut s0 i = s := by
  have key : ∀ {es : NEs} {l : List MS}, Paired (fun (e : NestedKey × Addr × V) (s : MS) => e.1 = keyM s ∧ StAt H e.2.1 s) es l → ((valN es (keyM s)).isSome = true ↔ s ∈ l) := by
    intro es l p
    induction p with
    | nil => simp [valN]
    | @cons e t es l q p ih =>
      unfold valN at ih ⊢
      rw [List.find?_cons]
      by_cases c : t = s
      · rw [q.1, c]
        simp
      · have : decide (e.1 = keyM s) = false := decide_eq_false fun z => c (key_inj (q.1.symm.trans z))
        rw [this, List.mem_cons]
        exact ih.trans ⟨.inr, fun z => z.resolve_left fun z => c z.symm⟩
  rw [key h, List.mem_map]
  exact ⟨fun ⟨i, a, b⟩ => ⟨i, List.mem_range.mp a, b⟩, fun ⟨i, a, b⟩ => ⟨i, List.mem_range.mpr a, b⟩⟩
theorem Come.add {H : Hp} {ns : List Str} {rs : List (List V)} {cut : Int} {s0 : MS} {n : Nat} {kvs : NEs} {b : Addr} {v : V} (h : Come H ns rs cut s0 n kvs) (k : StAt H b (itM ns rs cut s0 n)) : Come H ns rs cut s0 (n + 1) (kvs ++ [(keyM (itM ns rs cut s0 n), b, v)]) := by
  unfold Come
  rw [List.range_succ, List.map_append]
  exact pra h (.cons ⟨rfl, k⟩ .nil)
theorem Come.adr {H : Hp} {ns : List Str} {rs : List (List V)} {cut : Int} {s0 : MS} {n : Nat} {kvs : NEs} (h : Come H ns rs cut s0 n kvs) : Paired (StAt H) (kvs.map fun e => e.2.1) ((List.range n).map (itM ns rs cut s0)) := by
  have key : ∀ {es : NEs} {l : List MS}, Paired (fun (e : NestedKey × Addr × V) (s : MS) => e.1 = keyM s ∧ StAt H e.2.1 s) es l → Paired (StAt H) (es.map fun e => e.2.1) l := by
    intro es l p
    induction p with
    | nil => exact .nil
    | cons q p ih => exact .cons q.2 ih
  exact key h
theorem StAt.dict {H : Hp} {d a : Addr} {s : MS} {P : Program} {w : World} {kvs : NEs} {o : HO} (e : H d = some (dRaw P w d kvs)) (h : StAt H a s) : StAt (upd H d o) a s := by
  obtain ⟨v, h1, h2⟩ := h
  have rd : ∀ {b : Addr} {u : HO}, H b = some u → (∀ φ, u ≠ .ext φ) → (upd H d o) b = some u := fun {b u} eb ne => by
    rw [upd_ne (fun z => ?_)]
    · exact eb
    · rw [z, e] at eb
      exact ne _ (Option.some.inj eb).symm
  exact ⟨v, rd h1 (fun φ z => nomatch z), rd h2 (fun φ z => nomatch z)⟩

theorem Bag.nl {H : Hp} {b l L : Addr} {n : Nat} {as : List Addr} (h : Bag H b l n) (e : H L = some (.lst (as.map V.ref))) (h0 : 1 ≤ as.length) : L ≠ b ∧ L ≠ l := by
  obtain ⟨gs, x, y, z, h1, h2, _⟩ := h
  refine ⟨fun q => (by rw [q, h1] at e; cases e), fun q => ?_⟩
  rw [q, h2] at e
  have := HO.lst.inj (Option.some.inj e)
  cases as with
  | nil => exact absurd h0 (by decide)
  | cons a as =>
    cases gs with
    | nil => exact nomatch this
    | cons g gs => exact nomatch this
theorem SqT.but2 {K : PySem.W.Frag} {H H' : Hp} {b l a : Addr} {n : Nat} {xs : List V} (q : SqT K H a xs) (x : But2 b l H H') (bag : Bag H b l n) : SqT K H' a xs := by
  obtain ⟨gs, y, z, w, h1, h2, _⟩ := bag
  rcases q with (q | ⟨ob, q⟩) | q
  · exact .inl (.inl (x _ _ (fun e => by rw [e, h1] at q; cases q) (fun e => by rw [e, h2] at q; cases q) q))
  · exact .inl (.inr ⟨ob, x _ _ (fun e => by rw [e, h1] at q; cases q) (fun e => by rw [e, h2] at q; cases q) q⟩)
  · exact .inr q
theorem ProgAt.but2 {K : PySem.W.Frag} {H H' : Hp} {C a b l : Addr} {m : Int} {n : Nat} {as : List Addr} {rs : List (List V)} (h : ProgAt K H C a m as rs) (x : But2 b l H H') (bag : Bag H b l n) (h0 : 1 ≤ as.length) : ProgAt K H' C a m as rs := by
  obtain ⟨dx, q, t, ps, e1, e2, e3, e4, e5, rest⟩ := h
  obtain ⟨n1, n2⟩ := bag.nl e2 h0
  refine ⟨dx, q, t, ps, ?_, x _ _ n1 n2 e2, e3.but2 x bag, x _ _ (bag.nt e4).1 (bag.nt e4).2 e4, prm e5 fun p r ⟨w, xs, f, qs, a1, a2, a3, a4⟩ => ⟨w, xs, f, qs, a1, a2, x _ _ (bag.nt a3).1 (bag.nt a3).2 a3, a4⟩, rest⟩
  obtain ⟨gs, y, z, w, h1, h2, _⟩ := bag
  exact x _ _ (fun e => by rw [e, h1] at e1; cases e1) (fun e => by rw [e, h2] at e1; cases e1) e1
theorem ProgAt.rok {K : PySem.W.Frag} {H : Hp} {C a : Addr} {n : Int} {as : List Addr} {rs : List (List V)} (h : ProgAt K H C a n as rs) : ∀ r ∈ rs, RowC (regs n.toNat) rs.length r := by
  obtain ⟨dx, l, t, ps, e1, e2, e3, e4, e5, n1, n2, hz, hw, all⟩ := h
  exact fun r m => rowC_of (all r m)

/-- the numbers of steps by rankings, with weights -/
noncomputable abbrev sP (ns : List Str) (rs : List (List V)) (p : List Int × Int) : Option Int := stO ns rs p.2 p.1

abbrev tab_CONDITIONS : List (Str × List Str) := tabC
theorem tr_CONDITIONS {w : World} {K : PySem.W.Frag} {mg : Str → Option Value} {A0 : Ad} (T : Txt w K mg A0) : TabRel K [("e", .ref A0.p_CONDITIONS_0), ("ne", .ref A0.p_CONDITIONS_1), ("l", .ref A0.p_CONDITIONS_2), ("le", .ref A0.p_CONDITIONS_3), ("g", .ref A0.p_CONDITIONS_4), ("ge", .ref A0.p_CONDITIONS_5), ("b", .ref A0.p_CONDITIONS_6), ("be", .ref A0.p_CONDITIONS_7), ("a", .ref A0.p_CONDITIONS_8), ("ae", .ref A0.p_CONDITIONS_9), ("same", .ref A0.p_CONDITIONS_10), ("mixed", .ref A0.p_CONDITIONS_11)] tab_CONDITIONS := .cons ⟨rfl, _, rfl, T.tv_CONDITIONS_0⟩ (.cons ⟨rfl, _, rfl, T.tv_CONDITIONS_1⟩ (.cons ⟨rfl, _, rfl, T.tv_CONDITIONS_2⟩ (.cons ⟨rfl, _, rfl, T.tv_CONDITIONS_3⟩ (.cons ⟨rfl, _, rfl, T.tv_CONDITIONS_4⟩ (.cons ⟨rfl, _, rfl, T.tv_CONDITIONS_5⟩ (.cons ⟨rfl, _, rfl, T.tv_CONDITIONS_6⟩ (.cons ⟨rfl, _, rfl, T.tv_CONDITIONS_7⟩ (.cons ⟨rfl, _, rfl, T.tv_CONDITIONS_8⟩ (.cons ⟨rfl, _, rfl, T.tv_CONDITIONS_9⟩ (.cons ⟨rfl, _, rfl, T.tv_CONDITIONS_10⟩ (.cons ⟨rfl, _, rfl, T.tv_CONDITIONS_11⟩ (.nil))))))))))))
abbrev tab_FORMS : List (Str × Str) := fmT

section
variable {P : Program} {w : World} {K : PySem.W.Frag} {mg : Str → Option Value} {base : Heap} {A0 : Ad}
theorem scI_InvalidProgram : FnScope ["self", "value"] ["self", "value"] (defScope s_InvalidProgram) := ⟨rfl, rfl, rfl, by decide +kernel, rfl, by decide +kernel, by decide +kernel⟩
theorem bdI_InvalidProgram (T : Txt w K mg A0) : Binds K A0.di_InvalidProgram ["self", "value"] [] := T.FI_InvalidProgram.binds fun _ _ _ _ _ _ us hl => match us, hl with | [_, _], _ => rfl
theorem kbI_InvalidProgram (T : Txt w K mg A0) : ∀ (s : Shared) (u v : Value), BindsTo s A0.di_InvalidProgram ⟨[u], [("value", v)]⟩ (((["self", "value"] : List Str)).zip [u, v]) := fun s u v => by
  obtain ⟨oc, od, kV, doc, pm, an, cdv, ct, osl, e, lk, hcd⟩ := T.FI_InvalidProgram.ex
  rw [e]
  exact .of_eq rfl
theorem okI_InvalidProgram (T : Txt w K mg A0) : FnOk P w K mg base CX0 1 A0.i_InvalidProgram A0.di_InvalidProgram ["self", "value"] (sp_err A0.c_InvalidProgram) := by
  refine T.FI_InvalidProgram.ok scI_InvalidProgram (fun vs H Q E h => ?_) (fun cdv A outer s H vs Q E hr h => ?_)
  · obtain ⟨a, v, rfl, _⟩ := h
    rfl
  · obtain ⟨a, v, rfl, ha, k⟩ := h
    refine ⟨_, pss_one (ps_ost (pv 0) (pv 1)), ?_⟩
    exact ⟨v, rfl, _, rfl, a, A0.c_InvalidProgram, rfl, T.er_InvalidProgram.ox, T.er_InvalidProgram.no, .inl ⟨ha, fun d hd ne => k d hd ne⟩⟩
/-! check_width -/
def sp_check_width (K : PySem.W.Frag) : Sp := fun vs H Q E => ∃ wd : Int, vs = [.int wd] ∧ 1 ≤ wd ∧ Q .non H
theorem sc_check_width : FnScope ["width"] ["width"] (defScope s_check_width) := ⟨rfl, rfl, rfl, by decide +kernel, rfl, by decide +kernel, by decide +kernel⟩
theorem bd_check_width (T : Txt w K mg A0) : Binds K A0.d_check_width ["width"] [] := T.F_check_width.binds fun _ _ _ _ _ _ us hl => match us, hl with | [_], _ => rfl
theorem ok_check_width (T : Txt w K mg A0) : FnOk P w K mg base CX0 1 A0.a_check_width A0.d_check_width ["width"] (sp_check_width K) := by
  refine T.F_check_width.ok sc_check_width (fun vs H Q E h => ?_) (fun cdv A outer s H vs Q E hr h => ?_)
  · obtain ⟨wd, rfl, _⟩ := h
    rfl
  · obtain ⟨wd, rfl, h⟩ := h
    refine ⟨_, (pss_one (ps_if (pt_cmpR op_lt (pv 0) pe_int (nomark _)) (pss_one ps_never) pss_nil)), ?_⟩
    obtain ⟨h1, k⟩ := h
    refine ⟨_, rfl, _, _, rfl, rfl, _, rfl, ?_⟩
    refine tF (decide_eq_false (by omega)) ?_
    exact k
/-! is_word -/
def sp_is_word (K : PySem.W.Frag) : Sp := fun vs H Q E => ∃ wd x : Int, vs = [.int wd, .int x] ∧ 1 ≤ wd ∧ wd ≤ 1000 ∧ Q (.bl (decide (0 ≤ x) && decide (x < 2 ^ wd.toNat))) H
theorem sc_is_word : FnScope ["width", "word"] ["width", "word"] (defScope s_is_word) := ⟨rfl, rfl, rfl, by decide +kernel, rfl, by decide +kernel, by decide +kernel⟩
theorem bd_is_word (T : Txt w K mg A0) : Binds K A0.d_is_word ["width", "word"] [] := T.F_is_word.binds fun _ _ _ _ _ _ us hl => match us, hl with | [_, _], _ => rfl
theorem ok_is_word (T : Txt w K mg A0) : FnOk P w K mg base CX0 1 A0.a_is_word A0.d_is_word ["width", "word"] (sp_is_word K) := by
  refine T.F_is_word.ok sc_is_word (fun vs H Q E h => ?_) (fun cdv A outer s H vs Q E hr h => ?_)
  · obtain ⟨wd, x, rfl, _⟩ := h
    rfl
  · obtain ⟨wd, x, rfl, h⟩ := h
    refine ⟨_, (pss_one (ps_ret (pe_chain op_le op_lt pe_int (pv 1) (pe_op op_shl pe_int (pv 0))))), ?_⟩
    obtain ⟨h1, h2, k⟩ := h
    refine ⟨_, rfl, _, _, rfl, rfl, _, rfl, ?_⟩
    by_cases c : 0 ≤ x
    · rw [decide_eq_true c, Bool.true_and] at k
      refine tT (decide_eq_true c) ?_
      refine ⟨_, rfl, _, _, rfl, rfl, ⟨by omega, by omega, by decide⟩, _, _, rfl, rfl, ?_⟩
      show Q (.bl (decide (x < 1 * 2 ^ wd.toNat))) H
      rw [Int.one_mul]
      exact k
    · rw [decide_eq_false c, Bool.false_and] at k
      refine tF (decide_eq_false c) ?_
      exact k
/-! sign_bit -/
def sp_sign_bit (K : PySem.W.Frag) : Sp := fun vs H Q E => ∃ wd : Int, vs = [.int wd] ∧ 1 ≤ wd ∧ wd ≤ 1000 ∧ Q (.int (2 ^ (wd - 1).toNat)) H
theorem sc_sign_bit : FnScope ["width"] ["width"] (defScope s_sign_bit) := ⟨rfl, rfl, rfl, by decide +kernel, rfl, by decide +kernel, by decide +kernel⟩
theorem bd_sign_bit (T : Txt w K mg A0) : Binds K A0.d_sign_bit ["width"] [] := T.F_sign_bit.binds fun _ _ _ _ _ _ us hl => match us, hl with | [_], _ => rfl
theorem ok_sign_bit (T : Txt w K mg A0) : FnOk P w K mg base CX0 1 A0.a_sign_bit A0.d_sign_bit ["width"] (sp_sign_bit K) := by
  refine T.F_sign_bit.ok sc_sign_bit (fun vs H Q E h => ?_) (fun cdv A outer s H vs Q E hr h => ?_)
  · obtain ⟨wd, rfl, _⟩ := h
    rfl
  · obtain ⟨wd, rfl, h⟩ := h
    refine ⟨_, (pss_one (ps_ret (pe_op op_shl pe_int (pe_op op_sub (pv 0) pe_int)))), ?_⟩
    obtain ⟨h1, h2, k⟩ := h
    refine ⟨_, rfl, _, _, rfl, rfl, _, _, rfl, rfl, ⟨by omega, by omega, by decide⟩, ?_⟩
    show Q (.int (1 * 2 ^ (wd - 1).toNat)) H
    rw [Int.one_mul]
    exact k
/-! outcome_by_cut -/
def sp_outcome_by_cut (K : PySem.W.Frag) : Sp := fun vs H Q E => ∃ c x y : Int, vs = [.int c, .int x, .int y] ∧ Q (.str (ocut c x y)) H
theorem sc_outcome_by_cut : FnScope ["cut", "first", "second", "mixed"] ["cut", "first", "second"] (defScope s_outcome_by_cut) := ⟨rfl, rfl, rfl, by decide +kernel, rfl, by decide +kernel, by decide +kernel⟩
theorem bd_outcome_by_cut (T : Txt w K mg A0) : Binds K A0.d_outcome_by_cut ["cut", "first", "second"] [] := T.F_outcome_by_cut.binds fun _ _ _ _ _ _ us hl => match us, hl with | [_, _, _], _ => rfl
theorem ok_outcome_by_cut (T : Txt w K mg A0) : FnOk P w K mg base CX0 1 A0.a_outcome_by_cut A0.d_outcome_by_cut ["cut", "first", "second"] (sp_outcome_by_cut K) := by
  refine T.F_outcome_by_cut.ok sc_outcome_by_cut (fun vs H Q E h => ?_) (fun cdv A outer s H vs Q E hr h => ?_)
  · obtain ⟨c, x, y, rfl, _⟩ := h
    rfl
  · obtain ⟨c, x, y, rfl, h⟩ := h
    refine ⟨_, (pss_cons (ps_if (pt_cmpR op_eq (pv 1) (pv 2) (nomark _)) (pss_one (ps_ret pe_str)) pss_nil)
        (pss_cons (ps_set (i := 3) sc_outcome_by_cut.nd rfl (Or.inl rfl) (pe_cmpR op_ne (pe_cmpR op_lt (pv 1) (pv 0) (nomark _)) (pe_cmpR op_lt (pv 2) (pv 0) (nomark _)) (nomark _)))
        (pss_cons (ps_if (pt_cmpR op_lt (pv 1) (pv 2) (nomark _)) (pss_one (ps_ret (pe_ifExp (pt_val (pv 3)) pe_str pe_str))) pss_nil)
        (pss_one (ps_ret (pe_ifExp (pt_val (pv 3)) pe_str pe_str)))))), ?_⟩
    unfold ocut at h
    refine ⟨_, rfl, _, rfl, rfl, _, rfl, ?_⟩
    by_cases e : x = y
    · rw [if_pos e] at h
      exact tT (decide_eq_true (congrArg V.int e)) h
    rw [if_neg e] at h
    refine tF (decide_eq_false (fun z => e (V.int.inj z))) ?_
    refine ⟨_, rfl, _, rfl, _, _, rfl, rfl, _, rfl, _, rfl, _, _, rfl, rfl, rfl, ?_⟩
    rw [mixed_is]
    refine ⟨_, rfl, _, rfl, _, _, rfl, rfl, _, rfl, ?_⟩
    generalize (decide (x < c) != decide (y < c)) = m at h
    by_cases l : x < y
    · rw [if_pos l] at h
      refine tT (decide_eq_true l) ?_
      refine ⟨_, rfl, m, rfl, ?_⟩
      cases m
      · exact tF rfl h
      · exact tT rfl h
    · rw [if_neg l] at h
      refine tF (decide_eq_false l) ?_
      refine ⟨_, rfl, m, rfl, ?_⟩
      cases m
      · exact tF rfl h
      · exact tT rfl h
/-! check_items -/
def sp_check_items (K : PySem.W.Frag) : Sp := fun vs H Q E => ∃ n : Nat, vs = [.int (n : Int)] ∧ 1 ≤ n ∧ n ≤ 5 ∧ Q .non H
theorem sc_check_items : FnScope ["items"] ["items"] (defScope s_check_items) := ⟨rfl, rfl, rfl, by decide +kernel, rfl, by decide +kernel, by decide +kernel⟩
theorem bd_check_items (T : Txt w K mg A0) : Binds K A0.d_check_items ["items"] [] := T.F_check_items.binds fun _ _ _ _ _ _ us hl => match us, hl with | [_], _ => rfl
theorem ok_check_items (T : Txt w K mg A0) : FnOk P w K mg base CX0 1 A0.a_check_items A0.d_check_items ["items"] (sp_check_items K) := by
  refine T.F_check_items.ok sc_check_items (fun vs H Q E h => ?_) (fun cdv A outer s H vs Q E hr h => ?_)
  · obtain ⟨n, rfl, _⟩ := h
    rfl
  · obtain ⟨n, rfl, h⟩ := h
    refine ⟨_, (pss_one (ps_if (PW.pt (pw_or (pt_cmpR op_lt (pv 0) pe_int (nomark _)) (pw_or1 (pt_cmpR op_gt (pv 0) (pe_glob (v := .int 5) rfl (T.gi_MOST_ITEMS).choose_spec ⟨_, rfl⟩) (nomark _))))) (pss_one ps_never) pss_nil)), ?_⟩
    obtain ⟨n1, n5, k⟩ := h
    refine ⟨_, rfl, _, _, rfl, rfl, _, rfl, ?_⟩
    refine tF (decide_eq_false (by omega)) ?_
    refine ⟨_, rfl, _, _, rfl, rfl, _, rfl, ?_⟩
    refine tF (decide_eq_false (by omega)) ?_
    exact k
/-! _is_ranking -/
def sp_is_ranking (K : PySem.W.Frag) : Sp := fun vs H Q E => ∃ (q rt : Addr) (rs : List Int) (c : Int) (m : Nat), vs = [.ref q] ∧ RkAt H q rt rs c ∧ IsRk rs m ∧ 0 ≤ c ∧ c ≤ (m : Int) ∧ rs.length ≤ 60 ∧ ∀ H', Same H H' → Q (.bl true) H'
theorem sc_is_ranking : FnScope ["ranking", "ranks", "cut", "number", "many"] ["ranking"] (defScope s_is_ranking) := ⟨rfl, rfl, rfl, by decide +kernel, rfl, by decide +kernel, by decide +kernel⟩
theorem bd_is_ranking (T : Txt w K mg A0) : Binds K A0.d_is_ranking ["ranking"] [] := T.F_is_ranking.binds fun _ _ _ _ _ _ us hl => match us, hl with | [_], _ => rfl
set_option maxHeartbeats 0 in
theorem ok_is_ranking (T : Txt w K mg A0) : FnOk P w K mg base CX0 1 A0.a_is_ranking A0.d_is_ranking ["ranking"] (sp_is_ranking K) := by
  refine T.F_is_ranking.ok sc_is_ranking (fun vs H Q E h => ?_) (fun cdv A outer s H vs Q E hr h => ?_)
  · obtain ⟨q, rt, rs, c, m, rfl, _⟩ := h
    rfl
  · obtain ⟨q, rt, rs, c, m, rfl, h⟩ := h
    refine ⟨_, (pss_cons (ps_if (PW.pt (pw_or (pt_cmpR op_ne (pe_callB call_len_seq (by rfl) T.b_len (by decide +kernel) (pa_cons (pv 0) pa_nil)) pe_int (nomark _)) (pw_or1 (pt_cmpR op_isNotTy (pe_callTy call_type1 (by rfl) T.b_type (by decide +kernel) (pa_cons (pe_ix ix_tup (pv 0) pe_int (fun _ _ => rfl)) pa_nil)) (pe_bltn (v := .ty "tuple") (by rfl) T.b_tuple (by decide +kernel) rfl) (nomark _))))) (pss_one (ps_ret pe_bl)) pss_nil)
        (pss_cons (ps_asg (pv 0) (pg_tup rfl (pgs_cons (pg_name (i := 1) sc_is_ranking.nd rfl (Or.inl rfl)) (pgs_cons (pg_name (i := 2) sc_is_ranking.nd rfl (Or.inl rfl)) pgs_nil))))
        (pss_cons (ps_if (pt_val (pe_callB (cr_any rfl) (by rfl) T.b_any (by decide +kernel) (pa_cons (pe_lc (own := [("number", 3)]) (g := gName 3) rfl sc_is_ranking.nd (pi_tup (pe_tup (StX.pa_star (pv 1) (pa_cons (pv 2) pa_nil)))) (blkOk_by (own := [("number", 3)]) (N := ["ranking", "ranks", "cut", "number", "many"]) (sc := defScope s_is_ranking) (by decide +kernel)) (fun _ _ _ _ _ => pg_name (i := 3) sc_is_ranking.nd rfl (Or.inl rfl)) (fun _ _ _ _ _ => pts_nil) (fun _ _ _ _ _ => (pe_cmpR op_isNotTy (pe_callTy (show CallR _ _ (rTyp K) from call_type1) (by rfl) T.b_type (by decide +kernel) (pa_cons (pv 3) pa_nil)) (pe_bltn (v := .ty "int") (by rfl) T.b_int (by decide +kernel) rfl) (nomark _)))) pa_nil))) (pss_one (ps_ret pe_bl)) pss_nil)
        (pss_cons (ps_set (i := 4) sc_is_ranking.nd rfl (Or.inl rfl) (pe_callB call_len_setO (by rfl) T.b_len (by decide +kernel) (pa_cons (pe_callTy (cr_setOf rfl) (by rfl) T.b_set (by decide +kernel) (pa_cons (pv 1) pa_nil)) pa_nil)))
        (pss_one (ps_ret (pe_and (pe_cmpR (op_eqD hr.units) (pe_callB (cr_sortedSet rfl) (by rfl) T.b_sorted (by decide +kernel) (pa_cons (pe_callTy (cr_setOf rfl) (by rfl) T.b_set (by decide +kernel) (pa_cons (pv 1) pa_nil)) pa_nil)) (pe_listRg rfl (by rfl) T.b_list (prg_1 (by rfl) T.b_range (pv 4))) (nomark _)) (pe_one (pe_chain op_le op_le pe_int (pv 2) (pv 4)))))))))), ?_⟩
    obtain ⟨hr, is, c0, cm, hz, k⟩ := h
    refine ⟨_, rfl, q, _, rfl, .inr (SqT.of hr.1), rfl, _, rfl, ?_⟩
    refine tF rfl ?_
    refine ⟨_, rfl, q, _, 0, .ref rt, rfl, rfl, SqT.of hr.1, rfl, .ref rt, "tuple", rfl, .tup (SqT.of hr.2), _, _, rfl, rfl, _, rfl, ?_⟩
    refine tF rfl ?_
    refine ⟨_, rfl, q, _, rfl, SqT.of hr.1, rfl, _, _, rfl, _, _, rfl, rfl, ?_⟩
    refine ⟨_, rfl, rt, _, rfl, .inl (SqT.of hr.2), _, rfl, (by rw [List.length_append, List.length_map]; exact Nat.le_of_lt (small1000 (show rs.length + 1 ≤ 1000 by omega))), fun tt htt => ?_⟩
    have et : (upd H tt (.tup (rs.map V.int ++ [.int c]))) tt = some (.tup ((rs ++ [c]).map V.int)) := by
      rw [upd_same, List.map_append]
      rfl
    refine ⟨tt, rfl, ⟨_, SqT.of et⟩, fun D hD => lc_tup (xs := (rs ++ [c]).map V.int) (fun i H' => Same (upd H tt (.tup (rs.map V.int ++ [.int c]))) H' ∧ i ≤ 61 ∧ H' D = some (.lst ((List.replicate i false).map V.bl))) ⟨sameNew hD, by omega, upd_same⟩ (fun i H' _ hp => SqT.of (hp.1 _ _ et)) ?_ ?_⟩
    · rintro i x H1 hi ⟨s1, i1, e1⟩
      obtain ⟨z, hz1, rfl⟩ := map_at hi
      have lt := (List.getElem?_eq_some_iff.mp hz1).1
      rw [List.length_append] at lt
      have lt2 : i < rs.length + 1 := lt
      refine ⟨rfl, ?_⟩
      refine yesR ?_
      refine tT rfl ?_
      refine ⟨_, rfl, .int z, "int", rfl, .int z, _, _, rfl, rfl, _, e1, small1000 (by rw [List.length_map, List.length_replicate]; omega), sameUp s1 hD, by omega, ?_⟩
      rw [upd_same, List.replicate_succ', List.map_append]
      rfl
    rintro H1 ⟨s1, _, e1⟩
    refine ⟨D, _, rfl, SqL.of e1, _, rfl, ?_⟩
    refine tF (by simp) ?_
    have s01 : Same H H1 := (sameNew htt).trans s1
    have hr1 := hr.same s01
    refine ⟨_, rfl, rt, rs, rfl, SqT.of hr1.2, by omega, fun p n ks hp nd mem ln => ⟨p, _, n, rfl, upd_same, ?_⟩⟩
    obtain rfl : n = m := by rw [← ln, isRk_card is nd mem]
    have s2 : Same H1 (upd H1 p (SetO w p (fun j => decide (j ∈ rs)) n)) := sameNew hp
    have hr2 := hr1.same s2
    refine ⟨_, rfl, rt, rs, rfl, SqT.of hr2.2, by omega, fun p2 n2 ks2 hp2 nd2 mem2 l2 => ?_⟩
    have n2m : n2 = n := by rw [← l2, isRk_card is nd2 mem2]
    have nz : n ≤ 60 := by
      have e1 := card_one nd (up_nodup (srt_up rs)) (fun k => by rw [mem k, srt_mem])
      have e2 := srt_len rs
      omega
    refine ⟨p2, _, n2, rfl, upd_same, by omega, fun ns p3 up mem3 l3 hp3 => ?_⟩
    obtain rfl : ns = rg n := isRk_srt is up fun k => by rw [mem3 k, decide_eq_true_eq]
    have s4 := s2.trans ((sameNew hp2 (o := SetO w p2 (fun j => decide (j ∈ rs)) n2)).trans (sameNew hp3 (o := .lst ((rg n).map V.int))))
    refine ⟨_, rfl, (n : Int), rfl, RgOk.of_le (by omega) (by omega) (by omega) (by omega), fun p4 hp4 => ?_⟩
    rw [rgV_rg]
    refine ⟨.list ((rg n).map PyData.int), .list ((rg n).map PyData.int), .lst (SqL.of ((sameNew hp4) _ _ upd_same)) (ints_all _), .lst (SqL.of upd_same) (ints_all _), ints_shaped _, ints_shaped _, _, rfl, ?_⟩
    refine tT (eqv_lst _) ?_
    refine ⟨_, rfl, _, _, rfl, rfl, _, rfl, ?_⟩
    refine tT (decide_eq_true c0) ?_
    refine ⟨_, rfl, _, _, rfl, rfl, ?_⟩
    show Q (.bl (decide (c ≤ (n : Int)))) _
    rw [decide_eq_true cm]
    exact k _ (s01.trans (s4.trans (sameNew hp4)))
/-! _ranks_by_sign -/
def sp_ranks_by_sign (K : PySem.W.Frag) : Sp := fun vs H Q E => ∃ (q rt : Addr) (rs : List Int) (c : Int) (m : Nat), vs = [.ref q] ∧ RkAt H q rt rs c ∧ IsRk rs m ∧ rs.length ≤ 60 ∧ ∀ p H', Same H H' → H' p = some (.tup [.int c, .int ((m : Int) - c)]) → Q (.ref p) H'
theorem sc_ranks_by_sign : FnScope ["ranking", "ranks", "cut"] ["ranking"] (defScope s_ranks_by_sign) := ⟨rfl, rfl, rfl, by decide +kernel, rfl, by decide +kernel, by decide +kernel⟩
theorem bd_ranks_by_sign (T : Txt w K mg A0) : Binds K A0.d_ranks_by_sign ["ranking"] [] := T.F_ranks_by_sign.binds fun _ _ _ _ _ _ us hl => match us, hl with | [_], _ => rfl
theorem ok_ranks_by_sign (T : Txt w K mg A0) : FnOk P w K mg base CX0 1 A0.a_ranks_by_sign A0.d_ranks_by_sign ["ranking"] (sp_ranks_by_sign K) := by
  refine T.F_ranks_by_sign.ok sc_ranks_by_sign (fun vs H Q E h => ?_) (fun cdv A outer s H vs Q E hr h => ?_)
  · obtain ⟨q, rt, rs, c, m, rfl, _⟩ := h
    rfl
  · obtain ⟨q, rt, rs, c, m, rfl, h⟩ := h
    refine ⟨_, (pss_cons (ps_asg (pv 0) (pg_tup rfl (pgs_cons (pg_name (i := 1) sc_ranks_by_sign.nd rfl (Or.inl rfl)) (pgs_cons (pg_name (i := 2) sc_ranks_by_sign.nd rfl (Or.inl rfl)) pgs_nil))))
        (pss_one (ps_ret (pe_tup (pa_cons (pv 2) (pa_cons (pe_op op_sub (pe_callB call_len_setO (by rfl) T.b_len (by decide +kernel) (pa_cons (pe_callTy (cr_setOf rfl) (by rfl) T.b_set (by decide +kernel) (pa_cons (pv 1) pa_nil)) pa_nil)) (pv 2)) pa_nil)))))), ?_⟩
    obtain ⟨hr, is, hz, k⟩ := h
    refine ⟨_, rfl, q, _, rfl, SqT.of hr.1, rfl, _, _, rfl, _, _, rfl, rfl, ?_⟩
    refine ⟨_, rfl, _, rfl, rt, rs, rfl, SqT.of hr.2, by omega, fun p n ks hp nd mem ln => ⟨p, _, n, rfl, upd_same, ?_⟩⟩
    obtain rfl : n = m := by rw [← ln, isRk_card is nd mem]
    refine ⟨_, rfl, _, _, rfl, rfl, (by show 2 ≤ sizeLine; decide), fun r hr9 => ?_⟩
    exact k r _ ((sameNew hp).trans (sameNew hr9)) upd_same
/-! _gaps -/
def sp_gaps (K : PySem.W.Frag) : Sp := fun vs H Q E => ∃ (a : Addr) (r : List Int), vs = [.ref a] ∧ SqT K H a (r.map V.int) ∧ r ≠ [] ∧ r.length ≤ 60 ∧ ∀ H', Same H H' → Q (.int (gapsI r)) H'
theorem sc_gaps : FnScope ["ranks"] ["ranks"] (defScope s_gaps) := ⟨rfl, rfl, rfl, by decide +kernel, rfl, by decide +kernel, by decide +kernel⟩
theorem bd_gaps (T : Txt w K mg A0) : Binds K A0.d_gaps ["ranks"] [] := T.F_gaps.binds fun _ _ _ _ _ _ us hl => match us, hl with | [_], _ => rfl
theorem ok_gaps (T : Txt w K mg A0) : FnOk P w K mg base CX0 1 A0.a_gaps A0.d_gaps ["ranks"] (sp_gaps K) := by
  refine T.F_gaps.ok sc_gaps (fun vs H Q E h => ?_) (fun cdv A outer s H vs Q E hr h => ?_)
  · obtain ⟨a, r, rfl, _⟩ := h
    rfl
  · obtain ⟨a, r, rfl, h⟩ := h
    refine ⟨_, (pss_one (ps_ret (pe_op op_sub (pe_op op_add (pe_callB (cr_maxT rfl hr.units) (by rfl) T.b_max (by decide +kernel) (pa_cons (pv 0) pa_nil)) pe_int) (pe_callB call_len_setO (by rfl) T.b_len (by decide +kernel) (pa_cons (pe_callTy (cr_setOf rfl) (by rfl) T.b_set (by decide +kernel) (pa_cons (pv 0) pa_nil)) pa_nil))))), ?_⟩
    obtain ⟨ha, hne, hz, k⟩ := h
    refine ⟨_, rfl, a, r, rfl, ha, hne, _, _, rfl, rfl, _, rfl, a, r, rfl, ha, by omega, fun p n ks hp nd mem ln => ⟨p, _, n, rfl, upd_same, _, _, rfl, rfl, ?_⟩⟩
    have e : n = (srt r).length := by rw [← ln]; exact card_one nd (up_nodup (srt_up r)) fun k => by rw [mem k, srt_mem]
    rw [e]
    exact k _ (sameNew hp)
/-! register_names -/
def sp_register_names (K : PySem.W.Frag) (A0 : Ad) : Sp := fun vs H Q E => ∃ n : Int, vs = [.int n] ∧ 1 ≤ n ∧ n ≤ 4 ∧ ∀ t H', H t = none → Same H H' → NmAt H' t (regs n.toNat) → Q (.ref t) H'
theorem sc_register_names : FnScope ["inputs"] ["inputs"] (defScope s_register_names) := ⟨rfl, rfl, rfl, by decide +kernel, rfl, by decide +kernel, by decide +kernel⟩
theorem bd_register_names (T : Txt w K mg A0) : Binds K A0.d_register_names ["inputs"] [] := T.F_register_names.binds fun _ _ _ _ _ _ us hl => match us, hl with | [_], _ => rfl
theorem ok_register_names (T : Txt w K mg A0) : FnOk P w K mg base CX0 1 A0.a_register_names A0.d_register_names ["inputs"] (sp_register_names K A0) := by
  refine T.F_register_names.ok sc_register_names (fun vs H Q E h => ?_) (fun cdv A outer s H vs Q E hr h => ?_)
  · obtain ⟨n, rfl, _⟩ := h
    rfl
  · obtain ⟨n, rfl, h⟩ := h
    refine ⟨_, (pss_one (ps_ret (pe_op op_catZ (pe_slice sl_tupA (pe_glob (v := .ref A0.v_INPUT_NAMES) rfl T.gv_INPUT_NAMES rfl) po_none (po_some (pv 0))) (pe_glob (v := .ref A0.v_OTHER_NAMES) rfl T.gv_OTHER_NAMES rfl)))), ?_⟩
    obtain ⟨h1, h2, k⟩ := h
    have c : n = 1 ∨ n = 2 ∨ n = 3 ∨ n = 4 := by omega
    have fin : ∀ (p : Addr) (H' : Hp) (zs : List Str), Same H H' → SqT K H' p (zs.map V.str) → zs ≠ [] → zs.length ≤ 4 → zs ++ (["x", "y"] : List Str) = regs n.toNat → rCatZ K (.ref p) (.ref A0.v_OTHER_NAMES) H' Q := fun p H' zs s e ne l eq => by
      refine ⟨p, A0.v_OTHER_NAMES, _, _, rfl, rfl, e, T.tv_OTHER_NAMES.sq, fun z => ne (List.map_eq_nil_iff.mp z), fun z => absurd z (by decide), small9k' (by rw [List.length_map]; show _ + 2 ≤ 9000; omega), fun q o hq oc od => ?_⟩
      refine k q _ (s.free hq) (s.trans (sameNew hq)) ⟨o, ?_, oc, od⟩
      rw [upd_same, ← eq, List.map_append]
    rcases c with rfl | rfl | rfl | rfl
    · refine ⟨_, rfl, _, rfl, A0.v_INPUT_NAMES, _, rfl, T.tv_INPUT_NAMES.sq, fun c => absurd c (by decide), fun c p hp => ?_⟩
      exact fin p _ ["p"] (sameNew hp) (SqT.of upd_same) (by decide) (by decide) rfl
    · refine ⟨_, rfl, _, rfl, A0.v_INPUT_NAMES, _, rfl, T.tv_INPUT_NAMES.sq, fun c => absurd c (by decide), fun c p hp => ?_⟩
      exact fin p _ ["p", "q"] (sameNew hp) (SqT.of upd_same) (by decide) (by decide) rfl
    · refine ⟨_, rfl, _, rfl, A0.v_INPUT_NAMES, _, rfl, T.tv_INPUT_NAMES.sq, fun c => absurd c (by decide), fun c p hp => ?_⟩
      exact fin p _ ["p", "q", "r"] (sameNew hp) (SqT.of upd_same) (by decide) (by decide) rfl
    · refine ⟨_, rfl, _, rfl, A0.v_INPUT_NAMES, _, rfl, T.tv_INPUT_NAMES.sq, fun c => ?_, fun c p hp => absurd (by decide) c⟩
      exact fin A0.v_INPUT_NAMES _ ["p", "q", "r", "s"] (Same.refl H) T.tv_INPUT_NAMES.sq (by decide) (by decide) rfl
/-! parts_of -/
def sp_parts_of (K : PySem.W.Frag) (A0 : Ad) : Sp := fun vs H Q E => ∃ (a : Addr) (w : Str) (xs : List V) (f : Str), vs = [.ref a] ∧ H a = some (.tup (.str w :: xs)) ∧ fmT.lookup w = some f ∧ xs.length = f.cps.size ∧ ∀ (p : Addr) (ts : List Addr) (H' : Hp), H p = none → Same H H' → H' p = some (.lst (ts.map V.ref)) → Paired (fun (t : Addr) (q : V × V) => H' t = some (.tup [q.1, q.2])) ts ((sgn f).zip xs) → Q (.ref p) H'
theorem sc_parts_of : FnScope ["row"] ["row"] (defScope s_parts_of) := ⟨rfl, rfl, rfl, by decide +kernel, rfl, by decide +kernel, by decide +kernel⟩
theorem bd_parts_of (T : Txt w K mg A0) : Binds K A0.d_parts_of ["row"] [] := T.F_parts_of.binds fun _ _ _ _ _ _ us hl => match us, hl with | [_], _ => rfl
theorem ok_parts_of (T : Txt w K mg A0) : FnOk P w K mg base CX0 1 A0.a_parts_of A0.d_parts_of ["row"] (sp_parts_of K A0) := by
  refine T.F_parts_of.ok sc_parts_of (fun vs H Q E h => ?_) (fun cdv A outer s H vs Q E hr h => ?_)
  · obtain ⟨a, w, xs, f, rfl, _⟩ := h
    rfl
  · obtain ⟨a, w, xs, f, rfl, h⟩ := h
    refine ⟨_, (pss_one (ps_ret (pe_listZip rfl rfl T.b_list rfl T.b_zip (pa_cons (pe_ix ix_tab (pe_glob (v := .ref A0.v_FORMS) rfl T.gv_FORMS rfl) (pe_ix ix_tup (pv 0) pe_int (fun _ _ => rfl)) (fun _ _ => rfl)) (pa_cons (pe_slice sl_tupA (pv 0) (po_some pe_int) po_none) pa_nil))))), ?_⟩
    obtain ⟨ha, hf, hl, k⟩ := h
    have f3 : f.cps.size ≤ 3 := (fm_all _ (lookup_mem hf)).2.1
    have fv := txt_find (z := w) (l := tab_FORMS)
    rw [show tab_FORMS.lookup w = some f from hf] at fv
    refine ⟨_, rfl, a, _, 0, .str w, rfl, rfl, SqT.of ha, at0v, A0.v_FORMS, w, .str f, _, rfl, rfl, T.kt_FORMS P, fv, ?_⟩
    refine ⟨_, rfl, _, rfl, a, _, rfl, SqT.of ha, fun c => absurd c.1 (by rw [sIx1]; decide), fun c p hp => ?_⟩
    rw [cut_tail]
    exact ⟨f, p, xs, rfl, SqT.of upd_same, hl.symm, by omega, fun q ts H' s hq e pr => k q ts H' ((sameNew hp).free hq) ((sameNew hp).trans s) e pr⟩
/-! Program.inputs -/
def sp_Program_inputs (K : PySem.W.Frag) (A0 : Ad) : Sp := fun vs H Q E => ∃ (a : Addr) (n : Int) (as : List Addr) (rs : List (List V)), vs = [.ref a] ∧ ProgAt K H A0.c_Program a n as rs ∧ Q (.int n) H
theorem sc_Program_inputs : FnScope ["self"] ["self"] (defScope s_Program_inputs) := ⟨rfl, rfl, rfl, by decide +kernel, rfl, by decide +kernel, by decide +kernel⟩
theorem bd_Program_inputs (T : Txt w K mg A0) : Binds K A0.d_Program_inputs ["self"] [] := T.F_Program_inputs.binds fun _ _ _ _ _ _ us hl => match us, hl with | [_], _ => rfl
theorem ok_Program_inputs (T : Txt w K mg A0) : FnOk P w K mg base CX0 1 A0.a_Program_inputs A0.d_Program_inputs ["self"] (sp_Program_inputs K A0) := by
  refine T.F_Program_inputs.ok sc_Program_inputs (fun vs H Q E h => ?_) (fun cdv A outer s H vs Q E hr h => ?_)
  · obtain ⟨a, n, as, rs, rfl, _⟩ := h
    rfl
  · obtain ⟨a, n, as, rs, rfl, h⟩ := h
    refine ⟨_, (pss_one (ps_ret (pe_fld (pv 0) rfl))), ?_⟩
    obtain ⟨hp, k⟩ := h
    obtain ⟨dx, l, t, ps, e1, e2, e3, e4, e5, n1, n2, hz, hw, all⟩ := hp
    exact ⟨_, rfl, a, A0.c_Program, dx, _, _, rfl, e1, T.cl_Program, T.nf_Program__inputs, lk_in, k⟩
/-! Program.placed -/
def sp_Program_placed (K : PySem.W.Frag) (A0 : Ad) : Sp := fun vs H Q E => ∃ (a : Addr) (n : Int) (as : List Addr) (rs : List (List V)), vs = [.ref a] ∧ ProgAt K H A0.c_Program a n as rs ∧ ∀ t, Placed K H t (regs n.toNat) rs → Q (.ref t) H
theorem sc_Program_placed : FnScope ["self"] ["self"] (defScope s_Program_placed) := ⟨rfl, rfl, rfl, by decide +kernel, rfl, by decide +kernel, by decide +kernel⟩
theorem bd_Program_placed (T : Txt w K mg A0) : Binds K A0.d_Program_placed ["self"] [] := T.F_Program_placed.binds fun _ _ _ _ _ _ us hl => match us, hl with | [_], _ => rfl
theorem ok_Program_placed (T : Txt w K mg A0) : FnOk P w K mg base CX0 1 A0.a_Program_placed A0.d_Program_placed ["self"] (sp_Program_placed K A0) := by
  refine T.F_Program_placed.ok sc_Program_placed (fun vs H Q E h => ?_) (fun cdv A outer s H vs Q E hr h => ?_)
  · obtain ⟨a, n, as, rs, rfl, _⟩ := h
    rfl
  · obtain ⟨a, n, as, rs, rfl, h⟩ := h
    refine ⟨_, (pss_one (ps_ret (pe_fld (pv 0) rfl))), ?_⟩
    obtain ⟨hp, k⟩ := h
    obtain ⟨dx, l, t, e1, pl⟩ := placed_of hp
    exact ⟨_, rfl, a, A0.c_Program, dx, _, _, rfl, e1, T.cl_Program, T.nf_Program__placed, lk_placed, k t pl⟩
/-! _is_item -/
def sp_is_item (K : PySem.W.Frag) (A0 : Ad) : Sp := fun vs H Q E => ∃ (k x : V) (t : Addr) (ns : List Str) (size : Int), vs = [k, x, .ref t, .int size] ∧ isKd k ∧ SqT K H t (ns.map V.str) ∧ Atom x ∧ Q (.bl (itemOk k x ns size)) H
theorem sc_is_item : FnScope ["kind", "item", "names", "many_rows"] ["kind", "item", "names", "many_rows"] (defScope s_is_item) := ⟨rfl, rfl, rfl, by decide +kernel, rfl, by decide +kernel, by decide +kernel⟩
theorem bd_is_item (T : Txt w K mg A0) : Binds K A0.d_is_item ["kind", "item", "names", "many_rows"] [] := T.F_is_item.binds fun _ _ _ _ _ _ us hl => match us, hl with | [_, _, _, _], _ => rfl
theorem ok_is_item (T : Txt w K mg A0) : FnOk P w K mg base CX0 1 A0.a_is_item A0.d_is_item ["kind", "item", "names", "many_rows"] (sp_is_item K A0) := by
  refine T.F_is_item.ok sc_is_item (fun vs H Q E h => ?_) (fun cdv A outer s H vs Q E hr h => ?_)
  · obtain ⟨k, x, t, ns, size, rfl, _⟩ := h
    rfl
  · obtain ⟨k, x, t, ns, size, rfl, h⟩ := h
    refine ⟨_, (pss_cons (ps_if (pt_cmpR op_eq (pv 0) pe_str (nomark _)) (pss_one (ps_ret (pe_cmpR (op_in_seq) (pv 1) (pv 2) rfl))) pss_nil)
        (pss_cons (ps_if (pt_cmpR op_eq (pv 0) pe_str (nomark _)) (pss_one (ps_ret (pe_cmpR (OpR.or op_inT op_inTI) (pv 1) (pe_glob (v := .ref A0.v_CONDITIONS) rfl T.gv_CONDITIONS rfl) rfl))) pss_nil)
        (pss_one (ps_ret (pe_and (pe_cmpR op_isTyB (pe_callTy call_type1 (by rfl) T.b_type (by decide +kernel) (pa_cons (pv 1) pa_nil)) (pe_bltn (v := .ty "int") (by rfl) T.b_int (by decide +kernel) rfl) (nomark _)) (pe_one (pe_chain op_le op_le pe_int (pv 1) (pv 3)))))))), ?_⟩
    obtain ⟨hk, ht, hx, q⟩ := h
    rcases hk with rfl | rfl | rfl
    · refine ⟨_, rfl, rfl, _, rfl, ?_⟩
      refine tT (by decide +kernel) ?_
      refine ⟨_, rfl, _, rfl, t, _, rfl, .inr ht, hx.flat, flat_strs, ?_⟩
      cases hx with
      | s z =>
        rw [inV_str]
        exact q
      | i n =>
        rw [inV_int]
        exact q
    · refine ⟨_, rfl, rfl, _, rfl, ?_⟩
      refine tF (by decide +kernel) ?_
      refine ⟨_, rfl, rfl, _, rfl, ?_⟩
      refine tT (by decide +kernel) ?_
      rw [item_C] at q
      cases hx with
      | i n => exact ⟨_, rfl, .inr ⟨n, _, _, rfl, rfl, T.kt_CONDITIONS P, q⟩⟩
      | s z =>
        refine ⟨_, rfl, .inl ⟨z, _, _, rfl, rfl, T.kt_CONDITIONS P, ?_⟩⟩
        have ci := cond_is z
        rcases tab_find (z := z) (tr_CONDITIONS T) with ⟨h1, h2⟩ | ⟨os, a, h1, h2, h3⟩
        · rw [h1] at ci
          rw [h2]
          dsimp only at q
          rw [← ci] at q
          exact q
        · rw [h1] at ci
          rw [h2]
          dsimp only at q
          rw [← ci] at q
          exact q
    · refine ⟨_, rfl, rfl, _, rfl, ?_⟩
      refine tF (by decide +kernel) ?_
      refine ⟨_, rfl, rfl, _, rfl, ?_⟩
      refine tF (by decide +kernel) ?_
      rw [item_T] at q
      cases hx with
      | s z =>
        refine ⟨_, rfl, _, _, rfl, .str z, _, _, rfl, rfl, _, rfl, ?_⟩
        exact tF (by decide +kernel) q
      | i n =>
        refine ⟨_, rfl, _, _, rfl, .int n, _, _, rfl, rfl, _, rfl, ?_⟩
        refine tT (by decide +kernel) ?_
        refine ⟨_, rfl, _, _, rfl, rfl, _, rfl, ?_⟩
        by_cases c : 0 ≤ n
        · refine tT (decide_eq_true c) ?_
          dsimp only at q
          rw [decide_eq_true c, Bool.true_and] at q
          exact ⟨_, rfl, _, _, rfl, rfl, q⟩
        · refine tF (decide_eq_false c) ?_
          dsimp only at q
          rw [decide_eq_false c, Bool.false_and] at q
          exact q
/-! _placed_item -/
def sp_placed_item (K : PySem.W.Frag) (A0 : Ad) : Sp := fun vs H Q E => ∃ (k x : V) (t : Addr) (ns : List Str) (size : Int), vs = [k, x, .ref t] ∧ NmAt H t ns ∧ isKd k ∧ itemOk k x ns size = true ∧ ∀ p, PlRel K ns k x p → Q p H
theorem sc_placed_item : FnScope ["kind", "item", "names"] ["kind", "item", "names"] (defScope s_placed_item) := ⟨rfl, rfl, rfl, by decide +kernel, rfl, by decide +kernel, by decide +kernel⟩
theorem bd_placed_item (T : Txt w K mg A0) : Binds K A0.d_placed_item ["kind", "item", "names"] [] := T.F_placed_item.binds fun _ _ _ _ _ _ us hl => match us, hl with | [_, _, _], _ => rfl
theorem ok_placed_item (T : Txt w K mg A0) : FnOk P w K mg base CX0 1 A0.a_placed_item A0.d_placed_item ["kind", "item", "names"] (sp_placed_item K A0) := by
  refine T.F_placed_item.ok sc_placed_item (fun vs H Q E h => ?_) (fun cdv A outer s H vs Q E hr h => ?_)
  · obtain ⟨k, x, t, ns, size, rfl, _⟩ := h
    rfl
  · obtain ⟨k, x, t, ns, size, rfl, h⟩ := h
    refine ⟨_, (pss_cons (ps_if (pt_cmpR op_eq (pv 0) pe_str (nomark _)) (pss_one (ps_ret (pe_tupIx (pv 2) (pa_cons (pv 1) pa_nil)))) pss_nil)
        (pss_one (ps_ret (pe_ifExp (pt_cmpR op_eq (pv 0) pe_str (nomark _)) (pe_ix ix_tab (pe_glob (v := .ref A0.v_CONDITIONS) rfl T.gv_CONDITIONS rfl) (pv 1) (fun _ _ => rfl)) (pv 1))))), ?_⟩
    obtain ⟨ht, hk, ok, q⟩ := h
    rcases hk with rfl | rfl | rfl
    · rw [item_R] at ok
      obtain ⟨z, rfl, m⟩ : ∃ z, x = .str z ∧ z ∈ ns := by
        cases x with
        | str z => exact ⟨z, rfl, of_decide_eq_true ok⟩
        | _ => exact absurd (show false = true from ok) (by decide)
      obtain ⟨j, h1, h2⟩ := first_at m
      refine ⟨_, rfl, rfl, _, rfl, ?_⟩
      refine tT (by decide +kernel) ?_
      refine ⟨_, rfl, t, ns, rfl, ht, _, rfl, z, j, rfl, ht, h1, h2, ?_⟩
      exact q _ (.inl ⟨rfl, z, j, rfl, h1, h2, rfl⟩)
    · rw [item_C] at ok
      obtain ⟨z, rfl, m⟩ : ∃ z, x = .str z ∧ z ∈ conds := by
        cases x with
        | str z => exact ⟨z, rfl, of_decide_eq_true ok⟩
        | _ => exact absurd (show false = true from ok) (by decide)
      refine ⟨_, rfl, rfl, _, rfl, ?_⟩
      refine tF (by decide +kernel) ?_
      refine ⟨_, rfl, rfl, _, rfl, ?_⟩
      refine tT (by decide +kernel) ?_
      have lk : tab_CONDITIONS.lookup z = some (outsOf z) := (cond_back z m).2.1
      rcases tab_find (z := z) (tr_CONDITIONS T) with ⟨h1, _⟩ | ⟨os, a, h1, h2, h3⟩
      · rw [lk] at h1
        cases h1
      · rw [lk] at h1
        cases h1
        exact ⟨_, rfl, A0.v_CONDITIONS, z, .ref a, _, rfl, rfl, T.kt_CONDITIONS P, h2, q _ (.inr (.inl ⟨rfl, z, a, rfl, m, rfl, h3⟩))⟩
    · refine ⟨_, rfl, rfl, _, rfl, ?_⟩
      refine tF (by decide +kernel) ?_
      refine ⟨_, rfl, rfl, _, rfl, ?_⟩
      refine tF (by decide +kernel) ?_
      exact ⟨_, rfl, q _ (.inr (.inr ⟨rfl, rfl⟩))⟩
/-! first_state -/
def sp_first_state (K : PySem.W.Frag) : Sp := fun vs H Q E => ∃ (a : Addr) (ws : List Int), vs = [.ref a] ∧ SqT K H a (ws.map V.int) ∧ ws ≠ [] ∧ ws.length ≤ 100 ∧ ∀ p H', H p = none → Same H H' → StAt H' p (begM ws) → Q (.ref p) H'
theorem sc_first_state : FnScope ["values"] ["values"] (defScope s_first_state) := ⟨rfl, rfl, rfl, by decide +kernel, rfl, by decide +kernel, by decide +kernel⟩
theorem bd_first_state (T : Txt w K mg A0) : Binds K A0.d_first_state ["values"] [] := T.F_first_state.binds fun _ _ _ _ _ _ us hl => match us, hl with | [_], _ => rfl
theorem ok_first_state (T : Txt w K mg A0) : FnOk P w K mg base CX0 1 A0.a_first_state A0.d_first_state ["values"] (sp_first_state K) := by
  refine T.F_first_state.ok sc_first_state (fun vs H Q E h => ?_) (fun cdv A outer s H vs Q E hr h => ?_)
  · obtain ⟨a, ws, rfl, _⟩ := h
    rfl
  · obtain ⟨a, ws, rfl, h⟩ := h
    refine ⟨_, (pss_one (ps_ret (pe_tup (pa_cons pe_int (pa_cons (pe_tup (StX.pa_star (pv 0) (pa_cons (pe_ix ix_tup (pv 0) pe_int (fun _ _ => rfl)) (pa_cons (pe_ix ix_tup (pv 0) pe_int (fun _ _ => rfl)) pa_nil)))) (pa_cons pe_non pa_nil)))))), ?_⟩
    obtain ⟨ha, h0, hl, k⟩ := h
    obtain ⟨w0, wr, rfl⟩ : ∃ w0 wr, ws = w0 :: wr := by
      cases ws with
      | nil => exact absurd rfl h0
      | cons a l => exact ⟨a, l, rfl⟩
    refine ⟨_, rfl, a, _, rfl, .inl ha, ?_⟩
    refine ⟨_, rfl, a, _, 0, .int w0, rfl, rfl, ha, at0v, _, rfl, a, _, 0, .int w0, rfl, rfl, ha, at0v, ?_⟩
    refine ⟨small9k' (by rw [List.length_append, List.length_map]; show _ + 2 ≤ 9000; omega), fun p hp => ⟨(by show 3 ≤ sizeLine; decide), fun q hq => ?_⟩⟩
    have sp := sameNew hp (o := .tup ((w0 :: wr).map V.int ++ [.int w0, .int w0]))
    refine k q _ (sp.free hq) (sp.trans (sameNew hq)) ⟨p, upd_same, sameNew hq _ _ (upd_same.trans ?_)⟩
    show _ = some (HO.tup (((w0 :: wr) ++ [w0, w0]).map V.int))
    rw [List.map_append]
    rfl
/-! ending_at -/
def sp_ending_at (K : PySem.W.Frag) (A0 : Ad) : Sp := fun vs H Q E => ∃ (t st : Addr) (ns : List Str) (rs : List (List V)) (ws : List Int) (s : MS), vs = [.ref t, .ref st] ∧ Placed K H t ns rs ∧ StAt H st s ∧ MOk ns rs.length ws s ∧ Q (match endM rs s with | none => .non | some z => .str z) H
theorem sc_ending_at : FnScope ["rows", "state", "row", "_", "flag"] ["rows", "state"] (defScope s_ending_at) := ⟨rfl, rfl, rfl, by decide +kernel, rfl, by decide +kernel, by decide +kernel⟩
theorem bd_ending_at (T : Txt w K mg A0) : Binds K A0.d_ending_at ["rows", "state"] [] := T.F_ending_at.binds fun _ _ _ _ _ _ us hl => match us, hl with | [_, _], _ => rfl
set_option maxHeartbeats 0 in
theorem ok_ending_at (T : Txt w K mg A0) : FnOk P w K mg base CX0 1 A0.a_ending_at A0.d_ending_at ["rows", "state"] (sp_ending_at K A0) := by
  refine T.F_ending_at.ok sc_ending_at (fun vs H Q E h => ?_) (fun cdv A outer s H vs Q E hr h => ?_)
  · obtain ⟨t, st, ns, rs, ws, s, rfl, _⟩ := h
    rfl
  · obtain ⟨t, st, ns, rs, ws, s, rfl, h⟩ := h
    refine ⟨_, (pss_cons (ps_asg (pv 1) (pg_tup rfl (pgs_cons (pg_name (i := 2) sc_ending_at.nd rfl (Or.inl rfl)) (pgs_cons (pg_name (i := 3) sc_ending_at.nd rfl (Or.inl rfl)) (pgs_cons (pg_name (i := 4) sc_ending_at.nd rfl (Or.inl rfl)) pgs_nil)))))
        (pss_cons (ps_if (PW.pt (pw_or (pt_cmpR op_isN (pv 2) pe_non (nomark _)) (pw_or1 (pt_cmpR op_eq (pv 2) (pe_callB call_len_seq (by rfl) T.b_len (by decide +kernel) (pa_cons (pv 0) pa_nil)) (nomark _))))) (pss_one (ps_ret pe_str)) pss_nil)
        (pss_cons (ps_if (PW.pt (pw_and (pt_cmpR op_in_seq (pe_ix ix_tup (pe_ix ix_tup (pv 0) (pv 2) (fun _ _ => rfl)) pe_int (fun _ _ => rfl)) (pe_glob (v := .ref A0.v_FLAG_WORDS) rfl T.gv_FLAG_WORDS rfl) rfl) (pw_and1 (pt_cmpR op_isN (pv 4) pe_non (nomark _))))) (pss_one (ps_ret pe_str)) pss_nil)
        (pss_one (ps_ret pe_non))))), ?_⟩
    obtain ⟨pl, sa, mo, k⟩ := h
    obtain ⟨v, hst, hv⟩ := id sa
    obtain ⟨ps, ht, pr, rc, hz⟩ := id pl
    obtain ⟨row, vals, flag⟩ := s
    refine ⟨_, rfl, st, _, rfl, SqT.of hst, rfl, _, _, rfl, _, _, rfl, _, _, rfl, rfl, ?_⟩
    refine ⟨_, rfl, rfl, _, rfl, ?_⟩
    cases row with
    | none =>
      refine tT (decide_eq_true rfl) ?_
      exact tT rfl k
    | some i =>
      refine tF (decide_eq_false fun z => nomatch z) ?_
      refine ⟨_, rfl, _, rfl, t, _, rfl, .inr (SqT.of ht), rfl, _, rfl, ?_⟩
      have lp := Paired.length pr
      have il := mo.row i rfl
      rw [List.length_map, lp]
      by_cases c : i = rs.length
      · refine tT (decide_eq_true (by rw [c]; rfl)) ?_
        unfold endM at k
        simp only [if_pos c] at k
        exact k
      refine tF (decide_eq_false fun z => c (by have := V.int.inj z; omega)) ?_
      have lt : i < rs.length := by omega
      obtain ⟨p, hp, hpc⟩ := prH pr (List.getElem?_eq_getElem lt)
      have ge : rs.getD i [] = rs[i] := by rw [List.getD_eq_getElem?_getD, List.getElem?_eq_getElem lt]; rfl
      unfold endM at k
      simp only [if_neg c, ge] at k
      obtain ⟨w0, zs, hpt, nf⟩ : ∃ (w0 : Str) (zs : List V), H p = some (.tup (.str w0 :: zs)) ∧ needsF rs[i] = decide (w0 ∈ (["cmov", "jif"] : List Str)) := by
        generalize rs[i] = r at hpc
        cases hpc with
        | stop e => exact ⟨_, _, e, (by decide +kernel : false = decide (("stop" : Str) ∈ (["cmov", "jif"] : List Str)))⟩
        | out a e => exact ⟨_, _, e, (by decide +kernel : false = decide (("out" : Str) ∈ (["cmov", "jif"] : List Str)))⟩
        | two w a b e =>
          have w3 : ∀ w ∈ (["cmp", "mov", "swap"] : List Str), decide (w ∈ (["cmov", "jif"] : List Str)) = false := by decide +kernel
          exact ⟨_, _, e, (w3 _ w).symm⟩
        | cmov c q a b e => exact ⟨_, _, e, (by decide +kernel : true = decide (("cmov" : Str) ∈ (["cmov", "jif"] : List Str)))⟩
        | jump e => exact ⟨_, _, e, (by decide +kernel : false = decide (("jump" : Str) ∈ (["cmov", "jif"] : List Str)))⟩
        | jif c q e => exact ⟨_, _, e, (by decide +kernel : true = decide (("jif" : Str) ∈ (["cmov", "jif"] : List Str)))⟩
      have aI : atI (ps.map V.ref) (i : Int) = some (.ref p) := at_nat (by rw [List.getElem?_map, hp]; rfl)
      refine ⟨_, rfl, _, rfl, t, _, (i : Nat), .ref p, rfl, rfl, SqT.of ht, aI, p, _, 0, .str w0, rfl, rfl, SqT.of hpt, at0v, A0.v_FLAG_WORDS, _, rfl, .inr T.tv_FLAG_WORDS.sq, rfl, flat_strs, _, rfl, ?_⟩
      rw [inV_str]
      cases hw : decide (w0 ∈ (["cmov", "jif"] : List Str)) with
      | false =>
        refine tF rfl ?_
        refine tF rfl ?_
        rw [nf, hw] at k
        simp only [Bool.false_eq_true, false_and, if_false] at k
        exact k
      | true =>
        refine tT rfl ?_
        rw [nf, hw] at k
        refine ⟨_, rfl, rfl, _, rfl, ?_⟩
        cases flag with
        | none =>
          refine tT (decide_eq_true rfl) ?_
          simp at k
          exact k
        | some z =>
          refine tF (decide_eq_false fun z => nomatch z) ?_
          simp at k
          exact k
/-! with_value -/
def sp_with_value (K : PySem.W.Frag) : Sp := fun vs H Q E => ∃ (a : Addr) (ws : List Int) (j : Nat) (x : Int), vs = [.ref a, .int (j : Nat), .int x] ∧ H a = some (.tup (ws.map V.int)) ∧ j < ws.length ∧ ws.length ≤ 1000 ∧ ∀ p H', H p = none → Same H H' → H' p = some (.tup ((ws.set j x).map V.int)) → Q (.ref p) H'
theorem sc_with_value : FnScope ["values", "place", "value"] ["values", "place", "value"] (defScope s_with_value) := ⟨rfl, rfl, rfl, by decide +kernel, rfl, by decide +kernel, by decide +kernel⟩
theorem bd_with_value (T : Txt w K mg A0) : Binds K A0.d_with_value ["values", "place", "value"] [] := T.F_with_value.binds fun _ _ _ _ _ _ us hl => match us, hl with | [_, _, _], _ => rfl
theorem ok_with_value (T : Txt w K mg A0) : FnOk P w K mg base CX0 1 A0.a_with_value A0.d_with_value ["values", "place", "value"] (sp_with_value K) := by
  refine T.F_with_value.ok sc_with_value (fun vs H Q E h => ?_) (fun cdv A outer s H vs Q E hr h => ?_)
  · obtain ⟨a, ws, j, x, rfl, _⟩ := h
    rfl
  · obtain ⟨a, ws, j, x, rfl, h⟩ := h
    refine ⟨_, (pss_one (ps_ret (pe_tup (StX.pa_star (pe_slice sl_tupA (pv 0) po_none (po_some (pv 1))) (pa_cons (pv 2) (StX.pa_star (pe_slice sl_tupA (pv 0) (po_some (pe_op op_add (pv 1) pe_int)) po_none) pa_nil)))))), ?_⟩
    obtain ⟨ha, hj, hl, k⟩ := h
    refine ⟨_, rfl, _, rfl, _, rfl, slA_any (SqT.of ha) fun p1 H1 s1 e1 => ⟨p1, _, rfl, .inl e1, _, rfl, ?_⟩⟩
    have ha1 := s1 _ _ ha
    refine ⟨_, rfl, _, rfl, _, _, rfl, rfl, _, rfl, ?_⟩
    refine noP (slA_any (K := K) (lo := some ((j : Int) + 1)) (hi := none) (SqT.of ha1) fun p2 H2 s2 e2 => ⟨p2, _, rfl, .inl e2, ?_⟩)
    show _ ∧ _
    rw [set_cut hj]
    refine ⟨small9k' (by rw [List.length_map, List.length_set]; omega), fun p hp => k p _ (s1.free (s2.free hp)) (s1.trans (s2.trans (sameNew hp))) upd_same⟩
/-! _weight_in_limit -/
def sp_weight_in_limit (K : PySem.W.Frag) : Sp := fun vs H Q E => ∃ (q rt : Addr) (rs : List Int) (c : Int), vs = [.ref q] ∧ RkAt H q rt rs c ∧ 0 ≤ c ∧ c ≤ 5 ∧ rs.length ≤ 5 ∧ rs ≠ [] ∧ IsRk rs (srt rs).length ∧ ∀ H', Same H H' → Q (.int (liW (rs, c))) H'
theorem sc_weight_in_limit : FnScope ["ranking", "ranks", "cut"] ["ranking"] (defScope s_weight_in_limit) := ⟨rfl, rfl, rfl, by decide +kernel, rfl, by decide +kernel, by decide +kernel⟩
theorem bd_weight_in_limit (T : Txt w K mg A0) : Binds K A0.d_weight_in_limit ["ranking"] [] := T.F_weight_in_limit.binds fun _ _ _ _ _ _ us hl => match us, hl with | [_], _ => rfl
set_option maxHeartbeats 0 in
theorem ok_weight_in_limit (T : Txt w K mg A0) : FnOk P w K mg base CX0 1 A0.a_weight_in_limit A0.d_weight_in_limit ["ranking"] (sp_weight_in_limit K) := by
  refine T.F_weight_in_limit.ok sc_weight_in_limit (fun vs H Q E h => ?_) (fun cdv A outer s H vs Q E hr h => ?_)
  · obtain ⟨q, rt, rs, c, rfl, _⟩ := h
    rfl
  · obtain ⟨q, rt, rs, c, rfl, h⟩ := h
    refine ⟨_, (pss_cons (ps_asg (pv 0) (pg_tup rfl (pgs_cons (pg_name (i := 1) sc_weight_in_limit.nd rfl (Or.inl rfl)) (pgs_cons (pg_name (i := 2) sc_weight_in_limit.nd rfl (Or.inl rfl)) pgs_nil))))
        (pss_one (ps_ret (pe_ifExp (pt_cmpR op_eq (pe_callB call_len_setO (by rfl) T.b_len (by decide +kernel) (pa_cons (pe_callTy (cr_setOf rfl) (by rfl) T.b_set (by decide +kernel) (pa_cons (pv 1) pa_nil)) pa_nil)) (pe_callB call_len_seq (by rfl) T.b_len (by decide +kernel) (pa_cons (pv 1) pa_nil)) (nomark _)) (pe_callBfun cr_comb rfl T.gf_comb (pa_cons (pe_callB call_len_seq (by rfl) T.b_len (by decide +kernel) (pa_cons (pv 1) pa_nil)) (pa_cons (pv 2) pa_nil))) pe_int)))), ?_⟩
    obtain ⟨hr, c0, c5, l5, ne, is, k⟩ := h
    refine ⟨_, rfl, q, _, rfl, SqT.of hr.1, rfl, _, _, rfl, _, _, rfl, rfl, ?_⟩
    refine ⟨_, rfl, rt, rs, rfl, SqT.of hr.2, by omega, fun p n ks hp nd mem ln => ⟨p, _, n, rfl, upd_same, ?_⟩⟩
    obtain rfl : n = (srt rs).length := by rw [← ln, isRk_card is nd mem]
    unfold liW at k
    refine ⟨_, rfl, rt, _, rfl, .inr (SqT.of (sameNew hp _ _ hr.2)), rfl, _, rfl, ?_⟩
    rw [List.length_map]
    by_cases e : (srt rs).length = rs.length
    · rw [if_pos e] at k
      refine tT (decide_eq_true (by rw [e])) ?_
      obtain ⟨a1, a2⟩ := cmb_log (n := (rs.length : Nat)) (k := c) (by omega) (Int.le_trans (show ((rs.length : Nat) : Int) ≤ 5 by omega) (by decide +kernel)) c0 (by omega)
      refine ⟨_, rfl, rt, _, rfl, .inr (SqT.of (sameNew hp _ _ hr.2)), _, rfl, _, c, rfl, by omega, c0, by omega, ?_, ?_⟩
      · rw [List.length_map]
        exact a1
      · rw [List.length_map]
        exact k _ (sameNew hp)
    · rw [if_neg e] at k
      refine tF (decide_eq_false (fun z => e (by have := V.int.inj z; omega))) ?_
      exact k _ (sameNew hp)
/-! _law_bag -/
def sp_law_bag (K : PySem.W.Frag) : Sp := fun vs H Q E => ∃ (a : Addr) (ns : List Int), vs = [.ref a] ∧ SqL K H a (ns.map V.int) ∧ ns.length ≤ 63 ∧ ∀ b l H', H b = none → H l = none → b ≠ l → Same H H' → Bag H' b l 0 → Q (.ref b) H'
theorem sc_law_bag : FnScope ["script", "blend", "great", "cell"] ["script"] (defScope s_law_bag) := ⟨rfl, rfl, rfl, by decide +kernel, rfl, by decide +kernel, by decide +kernel⟩
theorem bd_law_bag (T : Txt w K mg A0) : Binds K A0.d_law_bag ["script"] [] := T.F_law_bag.binds fun _ _ _ _ _ _ us hl => match us, hl with | [_], _ => rfl
theorem ok_law_bag (T : Txt w K mg A0) : FnOk P w K mg base CX0 1 A0.a_law_bag A0.d_law_bag ["script"] (sp_law_bag K) := by
  refine T.F_law_bag.ok sc_law_bag (fun vs H Q E h => ?_) (fun cdv A outer s H vs Q E hr h => ?_)
  · obtain ⟨a, ns, rfl, _⟩ := h
    rfl
  · obtain ⟨a, ns, rfl, h⟩ := h
    refine ⟨_, (pss_cons (ps_par (i := 1) (j := 2) rfl sc_law_bag.nd rfl rfl (by decide) rfl rfl (pa_cons pe_int (pa_cons (pe_lst pa_nil) pa_nil)) rfl)
        (pss_cons (ps_for PassesOwn.never rfl (pi_list (pv 0)) (pg_name (i := 3) sc_law_bag.nd rfl (Or.inl rfl)) (pss_cons (ps_set (i := 1) sc_law_bag.nd rfl (Or.inl rfl) (pe_op op_mod (pe_op op_add (pe_op op_mul (pv 1) pe_int) (pv 3)) pe_int))
        (pss_one (ps_if (pt_cmpR op_ge (pe_callB call_abs (by rfl) T.b_abs (by decide +kernel) (pa_cons (pv 3) pa_nil)) (pe_op op_pow pe_int pe_int) (nomark _)) (pss_one (ps_expr (pe_bm PySem.F.plainAttrs_list PySem.F.slot_list_append PySem.F.type_list_append mt_append (pv 2) (pa_cons (pe_callB call_abs (by rfl) T.b_abs (by decide +kernel) (pa_cons (pv 3) pa_nil)) pa_nil)))) pss_nil))))
        (pss_one (ps_ret (pe_disp (pps_cons pe_str (pv 2) (pps_cons pe_str pe_int (pps_cons pe_str pe_int (pps_cons pe_str (pv 1) pps_nil)))) (by rfl) (by rfl) (fun z => by cases z) (by decide)))))), ?_⟩
    obtain ⟨hS, hz, k⟩ := h
    refine ⟨(by show 0 ≤ sizeLine; decide), fun l hl => ⟨_, _, rfl, ?_⟩⟩
    refine ⟨_, rfl, a, rfl, ⟨_, (sameNew hl).seq hS⟩, for_list (K := K) (a := a) (xs := ns.map V.int) (fun i σ H' => ∃ (bl : Int) (gs : List Int) (v : Option V), σ = [some (.ref a), some (.int bl), some (.ref l), v] ∧ 0 ≤ bl ∧ bl < 2 ^ 61 ∧ (∀ g ∈ gs, 0 ≤ g) ∧ gs.length ≤ i ∧ H' l = some (.lst (gs.map V.int)) ∧ Same H H')
      ⟨11, [], none, rfl, by decide, by decide, by simp, Nat.le_refl _, upd_same, sameNew hl⟩ (fun i σ H' _ hp => ?_) ?_ ?_⟩
    · obtain ⟨_, _, _, _, _, _, _, _, _, s⟩ := hp
      exact s.seq hS
    · rintro i x σ H1 hx ⟨bl, gs, v, rfl, b0, b1, g0, gz, h1, s1⟩
      obtain ⟨z, hz1, rfl⟩ := map_at hx
      have hi : i < ns.length := (List.getElem?_eq_some_iff.mp hz1).1
      refine ⟨_, rfl, _, _, rfl, rfl, .inl ⟨by omega, by omega⟩, _, rfl, _, _, rfl, rfl, _, _, rfl, rfl, (by show (0 : Int) < 2305843009213693951; decide), ?_⟩
      have m0 := Int.emod_nonneg (bl * 1000003 + z) (show (2305843009213693951 : Int) ≠ 0 by decide)
      have m1 := Int.emod_lt_of_pos (bl * 1000003 + z) (show (0 : Int) < 2305843009213693951 by decide)
      refine ⟨_, rfl, _, rfl, _, _, rfl, rfl, ⟨by decide, by decide, by decide⟩, _, _, rfl, rfl, _, rfl, ?_⟩
      refine ite2 (fun _ => ?_) (fun _ => ?_)
      · refine ⟨_, rfl, .inl ⟨rfl, _, SqL.of h1⟩, _, rfl, _, rfl, l, _, _, rfl, rfl, h1, small1000 (by rw [List.length_map]; omega), ?_⟩
        refine ⟨_, gs ++ [if z < 0 then -z else z], _, rfl, m0, by omega, fun g hg => ?_, by simp; omega, by rw [upd_same, List.map_append]; rfl, fun c o e => ?_⟩
        · rcases List.mem_append.mp hg with hg | hg
          · exact g0 g hg
          · obtain rfl := List.mem_singleton.mp hg
            split <;> omega
        · rw [upd_ne (ne_of_none e hl)]
          exact s1 c o e
      · exact ⟨_, gs, _, rfl, m0, by omega, g0, by omega, h1, s1⟩
    · rintro σ H1 ⟨bl, gs, v, rfl, b0, b1, g0, gz, h1, s1⟩
      rw [List.length_map] at gz
      intro p hp
      refine ⟨_, rfl, ?_⟩
      refine ⟨_, rfl, ?_⟩
      have npl : p ≠ l := (ne_of_none h1 hp).symm
      refine ⟨upd_same, bagK l 0 0 bl, rfl, (by show 4 ≤ 15; decide), ?_⟩
      refine k p l _ (s1.free hp) hl npl ?_ ⟨gs, 0, 0, bl, upd_same, ?_, g0, by omega, by decide, by decide, by decide, b0, b1⟩
      · intro c o e
        have n : c ≠ p := ne_of_none (s1 c o e) hp
        rw [upd_ne n, upd_ne n]
        exact s1 c o e
      · rw [upd_ne npl.symm, upd_ne npl.symm]
        exact h1
/-! _law_draw -/
def sp_law_draw (K : PySem.W.Frag) : Sp := fun vs H Q E => ∃ (b l : Addr) (m : Int) (n : Nat), vs = [.ref b, .int m] ∧ b ≠ l ∧ Bag H b l n ∧ n ≤ 1000000 ∧ 0 < m ∧ m < 2 ^ 400 ∧ ∀ d H', 0 ≤ d → d < m → Bag H' b l (n + 1) → But2 b l H H' → Q (.int d) H'
theorem sc_law_draw : FnScope ["bag", "many", "drawn", "turn", "mixed"] ["bag", "many"] (defScope s_law_draw) := ⟨rfl, rfl, rfl, by decide +kernel, rfl, by decide +kernel, by decide +kernel⟩
theorem bd_law_draw (T : Txt w K mg A0) : Binds K A0.d_law_draw ["bag", "many"] [] := T.F_law_draw.binds fun _ _ _ _ _ _ us hl => match us, hl with | [_, _], _ => rfl
theorem ok_law_draw (T : Txt w K mg A0) : FnOk P w K mg base CX0 1 A0.a_law_draw A0.d_law_draw ["bag", "many"] (sp_law_draw K) := by
  refine T.F_law_draw.ok sc_law_draw (fun vs H Q E h => ?_) (fun cdv A outer s H vs Q E hr h => ?_)
  · obtain ⟨b, l, m, n, rfl, _⟩ := h
    rfl
  · obtain ⟨b, l, m, n, rfl, h⟩ := h
    refine ⟨_, (Evl.pss_cut (ps_if (PW.pt (pw_and (pt_cmpR op_lt (pe_dget (hu_of hr) (pv 0) pe_str (fun _ _ => rfl)) (pv 1) (nomark _)) (pw_and1 (pt_cmpR op_gt (pe_callB call_len_seq (by rfl) T.b_len (by decide +kernel) (pa_cons (pe_dget (hu_of hr) (pv 0) pe_str (fun _ _ => rfl)) pa_nil)) pe_int (nomark _))))) (pss_one (ps_dput (hu_of hr) (pv 0) pe_str (pe_bm PySem.F.plainAttrs_list PySem.F.slot_list_pop PySem.F.type_list_pop mt_popAt (pe_dget (hu_of hr) (pv 0) pe_str (fun _ _ => rfl)) (pa_cons pe_int pa_nil)) rfl)) pss_nil)
        (pss_cons (ps_if (pt_cmpR op_ge (pe_dget (hu_of hr) (pv 0) pe_str (fun _ _ => rfl)) (pv 1) (nomark _)) (pss_cons (ps_set (i := 2) sc_law_draw.nd rfl (Or.inl rfl) (pe_op op_mod (pe_dget (hu_of hr) (pv 0) pe_str (fun _ _ => rfl)) (pv 1)))
        (pss_cons (ps_dput (hu_of hr) (pv 0) pe_str (pe_op op_fdivW (pe_dget (hu_of hr) (pv 0) pe_str (fun _ _ => rfl)) (pv 1)) rfl)
        (pss_one (ps_ret (pv 2))))) pss_nil)
        (pss_cons (ps_daug (hu_of hr) (pv 0) pe_str pe_int in_add (fun _ _ _ => rfl))
        (pss_cons (ps_set (i := 3) sc_law_draw.nd rfl (Or.inl rfl) (pe_dget (hu_of hr) (pv 0) pe_str (fun _ _ => rfl)))
        (pss_cons (ps_set (i := 4) sc_law_draw.nd rfl (Or.inl rfl) (pe_op op_add (pe_op op_mul (pe_op op_add (pe_dget (hu_of hr) (pv 0) pe_str (fun _ _ => rfl)) (pe_op op_mul pe_int (pv 3))) (pe_op op_powB (pe_op op_add (pv 3) pe_int) pe_int)) (pe_op op_mul pe_int (pv 3))))
        (pss_one (ps_ret (pe_op op_mod (pe_op op_fdivW (pe_op op_mod (pe_op op_powB (pe_op op_mod (pv 4) pe_int) pe_int) (pe_op op_add (pe_op op_pow pe_int pe_int) pe_int)) pe_int) (pv 1))))))))), ?_⟩
    obtain ⟨nbl, bag, hn, h0, h1, k⟩ := h
    have lm := log_ok h0 h1
    refine ⟨fun σ' H' => σ' = [some (.ref b), some (.int m), none, none, none] ∧ Bag H' b l n ∧ But2 b l H H', ?_, ?_⟩
    · obtain ⟨gs, x, y, z, hb, hl, g0, gz, x0, y0, yn, z0, z1⟩ := id bag
      refine ⟨_, rfl, b, _, rfl, DGet.k (k := .inr "left") hb, _, rfl, _, _, rfl, rfl, _, rfl, ?_⟩
      refine ite2 (fun _ => ?_) (fun _ => tF rfl ⟨rfl, bag, fun _ _ _ _ e => e⟩)
      refine ⟨_, rfl, b, _, rfl, DGet.k (k := .inr "great") hb, l, _, rfl, .inl (SqL.of hl), _, _, rfl, rfl, _, rfl, ?_⟩
      cases gs with
      | nil => exact tF rfl ⟨rfl, bag, fun _ _ _ _ e => e⟩
      | cons g r =>
        refine tT (decide_eq_true (by rw [List.length_map, List.length_cons]; omega)) ?_
        refine ⟨_, rfl, b, _, rfl, DGet.k (k := .inr "great") hb, .inl ⟨rfl, _, SqL.of hl⟩, l, _, 0, 0, .int g, rfl, rfl, hl, by decide, by decide, seq0 (by simp), rfl, ?_⟩
        have hb1 : (upd H l (.lst (((g :: r).map V.int).eraseIdx 0))) b = some (.dK (bagK l x y z)) := by
          rw [upd_ne nbl]
          exact hb
        refine ⟨_, rfl, b, _, rfl, DPut.k (k := .inr "left") hb1 (small1000 (by show 4 ≤ 1000; decide)), ?_⟩
        refine ⟨rfl, ⟨r, g, y, z, upd_same, ?_, fun q hq => g0 q (List.mem_cons_of_mem _ hq), by simp at gz; omega, g0 g List.mem_cons_self, y0, yn, z0, z1⟩, fun c o n1 n2 e => ?_⟩
        · rw [upd_ne nbl.symm, upd_same]
          rfl
        · rw [upd_ne n1, upd_ne n2]
          exact e
    rintro σ' H1 ⟨rfl, ⟨gs, x, y, z, hb, hl, g0, gz, x0, y0, yn, z0, z1⟩, bt⟩
    refine ⟨_, rfl, b, _, rfl, DGet.k (k := .inr "left") hb, _, rfl, _, _, rfl, rfl, _, rfl, ?_⟩
    refine ite2 (fun _ => ?_) (fun _ => ?_)
    · refine ⟨_, rfl, b, _, rfl, DGet.k (k := .inr "left") hb, _, rfl, _, _, rfl, rfl, h0, ?_⟩
      refine ⟨_, rfl, b, _, rfl, DGet.k (k := .inr "left") hb, _, rfl, _, _, rfl, rfl, ⟨h0, lm⟩, _, rfl, b, _, rfl, DPut.k (k := .inr "left") hb (small1000 (by show 4 ≤ 1000; decide)), ?_⟩
      refine ⟨_, rfl, ?_⟩
      refine k _ _ (Int.emod_nonneg x (by omega)) (Int.emod_lt_of_pos x h0) ⟨gs, x / m, y, z, upd_same, by rw [upd_ne nbl.symm]; exact hl, g0, gz, Int.ediv_nonneg x0 (by omega), y0, by omega, z0, z1⟩ (bt.trans fun c o n1 n2 e => ?_)
      rw [upd_ne n1]
      exact e
    · refine ⟨_, rfl, b, _, rfl, DGet.k (k := .inr "turn") hb, _, _, rfl, rfl, _, DPut.k (k := .inr "turn") hb (small1000 (by show 4 ≤ 1000; decide)), ?_⟩
      have hb2 : (upd H1 b (.dK (putK (bagK l x y z) (.inr "turn" : Key) (.int (y + 1))))) b = some (.dK (bagK l x (y + 1) z)) := upd_same
      refine ⟨_, rfl, b, _, rfl, DGet.k (k := .inr "turn") hb2, ?_⟩
      refine ⟨_, rfl, b, _, rfl, DGet.k (k := .inr "blend") hb2, _, rfl, _, _, rfl, rfl, .inl ⟨by decide, by decide⟩, _, _, rfl, rfl, _, rfl, _, _, rfl, rfl, _, _, rfl, rfl, powB_of (a := 20) (by omega) (by decide) (by decide) (by decide), _, _, rfl, rfl, .inl ⟨by omega, by omega⟩, _, rfl, _, _, rfl, rfl, .inl ⟨by decide, by decide⟩, _, _, rfl, rfl, ?_⟩
      refine ⟨_, rfl, _, _, rfl, rfl, (by show (0 : Int) < 2305843009213693951; decide), _, _, rfl, rfl, ?_, ?_⟩
      · have q0 := Int.emod_nonneg ((z + 17 * (y + 1)) * (y + 1 + 29) ^ (2 : Int).toNat + 7919 * (y + 1)) (show (2305843009213693951 : Int) ≠ 0 by decide)
        have q1 := Int.emod_lt_of_pos ((z + 17 * (y + 1)) * (y + 1 + 29) ^ (2 : Int).toNat + 7919 * (y + 1)) (show (0 : Int) < 2305843009213693951 by decide)
        exact powB_of (a := 64) (by omega) (by decide) (by decide) (by decide)
      refine ⟨_, _, rfl, rfl, ⟨by decide, by decide, by decide⟩, _, _, rfl, rfl, _, _, rfl, rfl, (by show (0 : Int) < 10 ^ (18 : Int).toNat + 9; decide), _, _, rfl, rfl, ⟨by decide, by decide⟩, _, rfl, _, _, rfl, rfl, h0, ?_⟩
      refine k _ _ (Int.emod_nonneg _ (by omega)) (Int.emod_lt_of_pos _ h0) ⟨gs, x, y + 1, z, hb2, by rw [upd_ne nbl.symm]; exact hl, g0, gz, x0, by omega, by omega, z0, z1⟩ (bt.trans fun c o n1 n2 e => ?_)
      rw [upd_ne n1]
      exact e
/-! _law_half -/
def sp_law_half (K : PySem.W.Frag) : Sp := fun vs H Q E => ∃ m : Int, vs = [.int m] ∧ 1 ≤ m ∧ m ≤ 1000 ∧ Q (.int (2 ^ (m - 1).toNat)) H
theorem sc_law_half : FnScope ["span", "found", "turn"] ["span"] (defScope s_law_half) := ⟨rfl, rfl, rfl, by decide +kernel, rfl, by decide +kernel, by decide +kernel⟩
theorem bd_law_half (T : Txt w K mg A0) : Binds K A0.d_law_half ["span"] [] := T.F_law_half.binds fun _ _ _ _ _ _ us hl => match us, hl with | [_], _ => rfl
theorem ok_law_half (T : Txt w K mg A0) : FnOk P w K mg base CX0 1 A0.a_law_half A0.d_law_half ["span"] (sp_law_half K) := by
  refine T.F_law_half.ok sc_law_half (fun vs H Q E h => ?_) (fun cdv A outer s H vs Q E hr h => ?_)
  · obtain ⟨m, rfl, _⟩ := h
    rfl
  · obtain ⟨m, rfl, h⟩ := h
    refine ⟨_, (pss_cons (ps_set (i := 1) sc_law_half.nd rfl (Or.inl rfl) pe_int)
        (pss_cons (ps_for PassesOwn.never rfl (pi_range1 rfl T.b_range (pa_cons (pe_op op_sub (pv 0) pe_int) pa_nil)) (pg_name (i := 2) sc_law_half.nd rfl (Or.inl rfl)) (pss_one (ps_set (i := 1) sc_law_half.nd rfl (Or.inl rfl) (pe_op op_mul (pv 1) pe_int))))
        (pss_one (ps_ret (pv 1))))), ?_⟩
    obtain ⟨h0, h1, k⟩ := h
    refine ⟨_, rfl, _, _, rfl, rfl, m - 1, rfl, by omega, by omega, for_range (n := (m - 1).toNat) (fun i σ H' => ∃ v, σ = [some (.int m), some (.int (2 ^ i)), v] ∧ H' = H) ⟨none, rfl, rfl⟩ ?_ ?_⟩
    · rintro i σ H' hi ⟨v, rfl, rfl⟩
      refine ⟨_, rfl, _, _, rfl, rfl, .inr ⟨by decide, by decide⟩, ?_⟩
      exact ⟨_, rfl, rfl⟩
    · rintro σ H' ⟨v, rfl, rfl⟩
      exact ⟨_, rfl, k⟩
/-! _law_tests -/
def sp_law_tests (K : PySem.W.Frag) : Sp := fun vs H Q E => ∃ _ : Unit, vs = [] ∧ ∀ p H', H p = none → Same H H' → H' p = some (.lst (conds.map V.str)) → Q (.ref p) H'
theorem sc_law_tests : FnScope [] [] (defScope s_law_tests) := ⟨rfl, rfl, rfl, by decide +kernel, rfl, by decide +kernel, by decide +kernel⟩
theorem bd_law_tests (T : Txt w K mg A0) : Binds K A0.d_law_tests [] [] := T.F_law_tests.binds fun _ _ _ _ _ _ us hl => match us, hl with | [], _ => rfl
theorem ok_law_tests (T : Txt w K mg A0) : FnOk P w K mg base CX0 1 A0.a_law_tests A0.d_law_tests [] (sp_law_tests K) := by
  refine T.F_law_tests.ok sc_law_tests (fun vs H Q E h => ?_) (fun cdv A outer s H vs Q E hr h => ?_)
  · obtain ⟨_, rfl, _⟩ := h
    rfl
  · obtain ⟨_, rfl, h⟩ := h
    refine ⟨_, (pss_one (ps_ret (pe_bm0 PySem.F.plainAttrs_str PySem.F.slot_str_split PySem.F.type_str_split mt_words pe_str))), ?_⟩
    have k := h
    refine ⟨rfl, _, rfl, rfl, by decide +kernel, fun p hp => k p _ hp (sameNew hp) ?_⟩
    rw [upd_same]
    exact congrArg (fun l : List Str => some (HO.lst (l.map V.str))) (show Txt.words "e ne l le g ge b be a ae same mixed" = conds by decide +kernel)
/-! _law_names -/
def sp_law_names (K : PySem.W.Frag) : Sp := fun vs H Q E => ∃ m : Int, vs = [.int m] ∧ 1 ≤ m ∧ m ≤ 4 ∧ ∀ p H', H p = none → Same H H' → H' p = some (.lst ((regs m.toNat).map V.str)) → Q (.ref p) H'
theorem sc_law_names : FnScope ["many"] ["many"] (defScope s_law_names) := ⟨rfl, rfl, rfl, by decide +kernel, rfl, by decide +kernel, by decide +kernel⟩
theorem bd_law_names (T : Txt w K mg A0) : Binds K A0.d_law_names ["many"] [] := T.F_law_names.binds fun _ _ _ _ _ _ us hl => match us, hl with | [_], _ => rfl
theorem ok_law_names (T : Txt w K mg A0) : FnOk P w K mg base CX0 1 A0.a_law_names A0.d_law_names ["many"] (sp_law_names K) := by
  refine T.F_law_names.ok sc_law_names (fun vs H Q E h => ?_) (fun cdv A outer s H vs Q E hr h => ?_)
  · obtain ⟨m, rfl, _⟩ := h
    rfl
  · obtain ⟨m, rfl, h⟩ := h
    refine ⟨_, (pss_one (ps_ret (pe_op op_cat (pe_callTy (call_list_txt rfl) (by rfl) T.b_list (by decide +kernel) (pa_cons (pe_slice sl_str pe_str po_none (po_some (pv 0))) pa_nil)) (pe_lst (pa_cons pe_str (pa_cons pe_str pa_nil)))))), ?_⟩
    obtain ⟨m1, m2, k⟩ := h
    obtain ⟨j, rfl⟩ : ∃ j : Nat, m = (j : Int) := ⟨m.toNat, by omega⟩
    have k : ∀ p H', H p = none → Same H H' → H' p = some (.lst ((regs j).map V.str)) → Q (.ref p) H' := k
    have eR : (regs j).map V.str = sgn (cutS "pqrs" none (some (j : Int))) ++ [.str "x", .str "y"] := (regs_all j).resolve_right fun z => z ⟨by omega, by omega⟩
    have l6 := regs_len j
    have lC : (sgn (cutS "pqrs" none (some (j : Int)))).length + 2 = (regs j).length := by
      have q := congrArg List.length eR
      rw [List.length_map, List.length_append] at q
      exact q.symm
    rw [sgn_len] at lC
    refine ⟨_, rfl, _, rfl, "pqrs", rfl, (by decide +kernel), _, rfl, (by omega), fun l1 hl1 => ?_⟩
    refine lstc_of (xs := [.str "x", .str "y"]) (TupOf.con (TupOf.con TupOf.nil)) (len_ok rfl) fun l2 J2 hl2 s2 e2 => ?_
    refine cat_of (s2 _ _ upd_same) e2 (by rw [sgn_len]; show _ + 2 ≤ 1000; omega) fun l3 HA hl3 s3 eA => ?_
    have sA := (sameNew hl1 (o := .lst (sgn (cutS "pqrs" none (some (j : Int)))))).trans (s2.trans s3)
    rw [← eR] at eA
    exact k l3 HA ((sameNew hl1 (o := .lst (sgn (cutS "pqrs" none (some (j : Int)))))).free (s2.free hl3)) sA eA
/-! check_words -/
def sp_check_words (K : PySem.W.Frag) : Sp := fun vs H Q E => ∃ (wd : Int) (t : Addr) (xs : List Int), vs = [.int wd, .ref t] ∧ 1 ≤ wd ∧ wd ≤ 1000 ∧ SqT K H t (xs.map V.int) ∧ (∀ x ∈ xs, 0 ≤ x ∧ x < 2 ^ wd.toNat) ∧ ∀ H', Same H H' → Q .non H'
theorem sc_check_words : FnScope ["width", "words", "index", "word"] ["width", "words"] (defScope s_check_words) := ⟨rfl, rfl, rfl, by decide +kernel, rfl, by decide +kernel, by decide +kernel⟩
theorem bd_check_words (T : Txt w K mg A0) : Binds K A0.d_check_words ["width", "words"] [] := T.F_check_words.binds fun _ _ _ _ _ _ us hl => match us, hl with | [_, _], _ => rfl
theorem ok_check_words (T : Txt w K mg A0) : FnOk P w K mg base CX0 2 A0.a_check_words A0.d_check_words ["width", "words"] (sp_check_words K) := by
  refine T.F_check_words.ok sc_check_words (fun vs H Q E h => ?_) (fun cdv A outer s H vs Q E hr h => ?_)
  · obtain ⟨wd, t, xs, rfl, _⟩ := h
    rfl
  · obtain ⟨wd, t, xs, rfl, h⟩ := h
    refine ⟨_, (pss_one (ps_for PassesOwn.never rfl (pi_enumT rfl T.b_enumerate (pa_cons (pv 1) pa_nil)) (pg_tup rfl (pgs_cons (pg_name (i := 2) sc_check_words.nd rfl (Or.inl rfl)) (pgs_cons (pg_name (i := 3) sc_check_words.nd rfl (Or.inl rfl)) pgs_nil))) (pss_one (ps_if (pt_not (pt_val (pe_call (ok_is_word T) (hr.mono (by decide)) rfl T.g_is_word T.F_is_word.kp (bd_is_word T) .nil pass0 (pa_cons (pv 0) (pa_cons (pv 3) pa_nil))))) (pss_one ps_never) pss_nil)))), ?_⟩
    obtain ⟨h1, h2, ht, hx, k⟩ := h
    refine ⟨_, rfl, t, _, rfl, ht, for_it walk_enumT (fun i σ H' => ∃ u v, σ = [some (.int wd), some (.ref t), u, v] ∧ Same H H') ⟨none, none, rfl, Same.refl H⟩ (fun i σ H' _ hp => ?_) ?_ ?_⟩
    · obtain ⟨_, _, _, s⟩ := hp
      exact sameT s ht
    · rintro i x σ H1 H2 hi ⟨u, v, rfl, s⟩ ⟨T, x1, y, rfl, fr, rfl, e1, e2⟩
      cases e1
      obtain ⟨z, hz, rfl⟩ := map_at e2
      have hb := hx z (List.mem_of_getElem? hz)
      have s2 : Same H (upd H1 T (.tup [.int (i : Nat), .int z])) := s.trans (sameNew fr)
      refine ⟨T, _, rfl, SqT.of upd_same, rfl, _, _, rfl, _, _, rfl, rfl, ?_⟩
      refine ⟨_, rfl, _, rfl, wd, z, rfl, h1, h2, _, rfl, ?_⟩
      refine tF (by rw [decide_eq_true hb.1, decide_eq_true hb.2]; rfl) ?_
      exact ⟨_, _, rfl, s2⟩
    · rintro σ H' ⟨u, v, rfl, s⟩
      exact k H' s
/-! check_ranking -/
def sp_check_ranking (K : PySem.W.Frag) : Sp := fun vs H Q E => ∃ (q rt : Addr) (rs : List Int) (c : Int) (m : Nat), vs = [.ref q] ∧ RkAt H q rt rs c ∧ IsRk rs m ∧ 0 ≤ c ∧ c ≤ (m : Int) ∧ rs.length ≤ 60 ∧ ∀ H', Same H H' → Q .non H'
theorem sc_check_ranking : FnScope ["ranking"] ["ranking"] (defScope s_check_ranking) := ⟨rfl, rfl, rfl, by decide +kernel, rfl, by decide +kernel, by decide +kernel⟩
theorem bd_check_ranking (T : Txt w K mg A0) : Binds K A0.d_check_ranking ["ranking"] [] := T.F_check_ranking.binds fun _ _ _ _ _ _ us hl => match us, hl with | [_], _ => rfl
theorem ok_check_ranking (T : Txt w K mg A0) : FnOk P w K mg base CX0 2 A0.a_check_ranking A0.d_check_ranking ["ranking"] (sp_check_ranking K) := by
  refine T.F_check_ranking.ok sc_check_ranking (fun vs H Q E h => ?_) (fun cdv A outer s H vs Q E hr h => ?_)
  · obtain ⟨q, rt, rs, c, m, rfl, _⟩ := h
    rfl
  · obtain ⟨q, rt, rs, c, m, rfl, h⟩ := h
    refine ⟨_, (pss_one (ps_if (pt_not (pt_val (pe_call (ok_is_ranking T) (hr.mono (by decide)) rfl T.g_is_ranking T.F_is_ranking.kp (bd_is_ranking T) .nil pass0 (pa_cons (pv 0) pa_nil)))) (pss_one ps_never) pss_nil)), ?_⟩
    obtain ⟨hr, is, c0, cm, hz, k⟩ := h
    refine ⟨_, rfl, q, rt, rs, c, m, rfl, hr, is, c0, cm, hz, fun H1 s1 => ⟨true, rfl, ?_⟩⟩
    refine tF rfl ?_
    exact k H1 s1
/-! all_rankings -/
def sp_all_rankings (K : PySem.W.Frag) : Sp := fun vs H Q E => ∃ n : Nat, vs = [.int (n : Int)] ∧ 1 ≤ n ∧ n ≤ 5 ∧ ∀ l qs H', H l = none → Same H H' → H' l = some (.lst (qs.map V.ref)) → RL H' qs (allRk n) → Q (.ref l) H'
theorem sc_all_rankings : FnScope ["items", "found", "_", "longer", "ranks", "rank", "cut"] ["items"] (defScope s_all_rankings) := ⟨rfl, rfl, rfl, by decide +kernel, rfl, by decide +kernel, by decide +kernel⟩
theorem bd_all_rankings (T : Txt w K mg A0) : Binds K A0.d_all_rankings ["items"] [] := T.F_all_rankings.binds fun _ _ _ _ _ _ us hl => match us, hl with | [_], _ => rfl
set_option maxHeartbeats 0 in
theorem ok_all_rankings (T : Txt w K mg A0) : FnOk P w K mg base CX0 2 A0.a_all_rankings A0.d_all_rankings ["items"] (sp_all_rankings K) := by
  refine T.F_all_rankings.ok sc_all_rankings (fun vs H Q E h => ?_) (fun cdv A outer s H vs Q E hr h => ?_)
  · obtain ⟨n, rfl, _⟩ := h
    rfl
  · obtain ⟨n, rfl, h⟩ := h
    refine ⟨_, (pss_cons (ps_set (i := 1) sc_all_rankings.nd rfl (Or.inl rfl) (pe_lst (pa_cons (pe_tup pa_nil) pa_nil)))
        (pss_cons (ps_for PassesOwn.never rfl (pi_range1 rfl T.b_range (pa_cons (pv 0) pa_nil)) (pg_name (i := 2) sc_all_rankings.nd rfl (Or.inl rfl)) (pss_cons (ps_setLc2 (i := 3) (own := [("ranks", 4), ("rank", 5)]) (vs1 := [5]) (g := gName 4) (g1 := gName 5) rfl sc_all_rankings.nd rfl rfl (sw_true rfl rfl rfl (by decide +kernel)) (pi_list (pv 1)) (blkOk_by (own := [("ranks", 4), ("rank", 5)]) (N := ["items", "found", "_", "longer", "ranks", "rank", "cut"]) (sc := defScope s_all_rankings) (by decide +kernel)) (by decide) (fun _ _ _ _ _ => pg_name (i := 4) sc_all_rankings.nd rfl (Or.inl rfl)) (fun _ _ _ _ _ => pts_nil) (fun _ _ _ _ _ => (pi_range1 rfl T.b_range (pa_cons (pv 0) pa_nil))) (fun _ _ _ _ _ => pg_name (i := 5) sc_all_rankings.nd rfl (Or.inl rfl)) (fun _ _ _ _ _ => pts_nil) (fun _ _ _ _ _ => (pe_op (show OpR _ _ (rCatA K) from op_catA) (pv 4) (pe_tup (pa_cons (pv 5) pa_nil)))))
        (pss_one (ps_setLc (i := 1) (own := [("ranks", 4)]) (g := gName 4) rfl sc_all_rankings.nd rfl rfl (sw_true rfl rfl rfl (by decide +kernel)) (pi_list (pv 3)) (blkOk_by (own := [("ranks", 4)]) (N := ["items", "found", "_", "longer", "ranks", "rank", "cut"]) (sc := defScope s_all_rankings) (by decide +kernel)) (fun _ _ _ _ _ => pg_name (i := 4) sc_all_rankings.nd rfl (Or.inl rfl)) (fun _ _ _ _ _ => pts_one (pt_cmpR op_le (pe_call (ok_gaps T) (hr.mono (by decide)) rfl T.g_gaps T.F_gaps.kp (bd_gaps T) .nil pass0 (pa_cons (pv 4) pa_nil)) (pe_op op_sub (pv 0) (pe_callB (show CallR _ _ (rLenSq K) from cr_lenSq) (by rfl) T.b_len (by decide +kernel) (pa_cons (pv 4) pa_nil))) (nomark _))) (fun _ _ _ _ _ => (pv 4))))))
        (pss_one (ps_ret (pe_lc2 (own := [("ranks", 4), ("cut", 6)]) (vs1 := [6]) (g := gName 4) (g1 := gName 6) rfl sc_all_rankings.nd (pi_list (pv 1)) (blkOk_by (own := [("ranks", 4), ("cut", 6)]) (N := ["items", "found", "_", "longer", "ranks", "rank", "cut"]) (sc := defScope s_all_rankings) (by decide +kernel)) (by decide) (fun _ _ _ _ _ => pg_name (i := 4) sc_all_rankings.nd rfl (Or.inl rfl)) (fun _ _ _ _ _ => pts_nil) (fun _ _ _ _ _ => (pi_range1 rfl T.b_range (pa_cons (pe_op op_add (pe_callB (show CallR _ _ (rMaxT K) from cr_maxT rfl hr.units) (by rfl) T.b_max (by decide +kernel) (pa_cons (pv 4) pa_nil)) pe_int) pa_nil))) (fun _ _ _ _ _ => pg_name (i := 6) sc_all_rankings.nd rfl (Or.inl rfl)) (fun _ _ _ _ _ => pts_nil) (fun _ _ _ _ _ => (pe_tup (pa_cons (pv 4) (pa_cons (pv 6) pa_nil))))))))), ?_⟩
    obtain ⟨n1, n5, k⟩ := h
    have m5 := five n1 n5
    refine ⟨(by show 0 ≤ sizeLine; decide), fun t0 ht0 => ⟨(by show 1 ≤ sizeLine; decide), fun l0 hl0 => ?_⟩⟩
    have s0 : Same H (upd (upd H t0 (.tup [])) l0 (.lst [.ref t0])) := (sameNew ht0).trans (sameNew hl0)
    refine ⟨_, rfl, (n : Int), rfl, by omega, by omega, for_range (n := n) (fun i σ H' => ∃ (l : Addr) (as : List Addr) (u v w2 y x2 : Option V), σ = [some (.int (n : Int)), some (.ref l), u, v, w2, y, x2] ∧ Same H H' ∧ H' l = some (.lst (as.map V.ref)) ∧ TL H' as (rowsR n i)) ⟨l0, [t0], _, _, _, _, _, rfl, s0, upd_same, .cons ((sameNew hl0) _ _ upd_same) .nil⟩ ?_ ?_⟩
    · rintro i σ H1 hi ⟨l, as, u, v, w2, y, x2, rfl, s1, el, tl⟩
      obtain ⟨rs1, rs2⟩ := rows_small n m5 i (List.mem_range.mpr hi)
      have las := pr_len tl
      refine ⟨_, rfl, l, rfl, ⟨_, SqL.of el⟩, fun D hD => itl_by (xs := as.map V.ref) (fun i2 H' => Same H1 H' ∧ ∃ bs : List Addr, H' D = some (.lst (bs.map V.ref)) ∧ TL H' bs (((rowsR n i).take i2).flatMap (addR n))) ⟨sameNew hD, [], upd_same, .nil⟩ (fun i2 H' _ hp => SqL.of (hp.1 _ _ el)) ?_ ?_⟩
      · rintro i2 x H2 hx ⟨s2, bs, eD, tb⟩
        obtain ⟨a, ha, rfl⟩ := mapR_at hx
        obtain ⟨r, hr9, ea⟩ := pr_at tl ha
        have mr := List.mem_of_getElem? hr9
        have lr := rs2 r mr
        have lt2 := (List.getElem?_eq_some_iff.mp hr9).1
        have fl : (((rowsR n i).take i2).flatMap (addR n)).length ≤ 3500 := by
          have := flat_len (f := addR n) (m := 5) (l := (rowsR n i).take i2) fun x _ => by
            unfold addR
            rw [List.length_map, List.length_range]
            exact n5
          have l3 : ((rowsR n i).take i2).length ≤ 700 := by rw [List.length_take]; omega
          omega
        refine ⟨rfl, ?_⟩
        refine yesR ?_
        refine tT rfl ?_
        refine ⟨_, rfl, (n : Int), rfl, by omega, by omega, itr_by (lo := 0) (n := n) (fun j H' => Same H1 H' ∧ ∃ bs : List Addr, H' D = some (.lst (bs.map V.ref)) ∧ TL H' bs (((rowsR n i).take i2).flatMap (addR n) ++ (addR n r).take j)) ⟨s2, bs, eD, by simpa using tb⟩ ?_ ?_⟩
        · rintro j H3 hj ⟨s3, bs3, eD3, tb3⟩
          refine ⟨rfl, ?_⟩
          refine yesR ?_
          refine tT rfl ?_
          have lb3 : bs3.length ≤ 8000 := by
            rw [pr_len tb3, List.length_append]
            have : ((addR n r).take j).length ≤ 5 := by
              rw [List.length_take]
              unfold addR
              rw [List.length_map, List.length_range]
              omega
            omega
          refine ⟨_, rfl, _, rfl, (by show 1 ≤ sizeLine; decide), fun t ht => ?_⟩
          have sT := sameNew ht (o := .tup [.int (0 + (j : Int))])
          have st := addR_take (r := r) hj
          have fin : ∀ (p : Addr) (H4 : Hp), Same (upd H3 t (.tup [.int (0 + (j : Int))])) H4 → H4 p = some (.tup ((r ++ [((j : Nat) : Int)]).map V.int)) → ∃ acc, H4 D = some (.lst acc) ∧ acc.length < sizeLine ∧ Same H1 (upd H4 D (.lst (acc ++ [V.ref p]))) ∧ ∃ bs : List Addr, (upd H4 D (.lst (acc ++ [V.ref p]))) D = some (.lst (bs.map V.ref)) ∧ TL (upd H4 D (.lst (acc ++ [V.ref p]))) bs (((rowsR n i).take i2).flatMap (addR n) ++ (addR n r).take (j + 1)) := fun p H4 s4 ep => by
            have s34 := sT.trans s4
            have eD4 := s34 _ _ eD3
            refine ⟨_, eD4, small9000 (by rw [List.length_map]; omega), sameUp (s3.trans s34) hD, bs3 ++ [p], by rw [upd_same, List.map_append]; rfl, ?_⟩
            rw [st, ← List.append_assoc]
            exact TL.put (pr_snoc (TL.same tb3 s34) ep) eD4
          refine ⟨a, t, r.map V.int, [.int (0 + (j : Int))], rfl, rfl, SqT.of (sT _ _ (s3 _ _ ea)), SqT.of upd_same, Nat.le_of_lt (small9000 (by rw [List.length_map]; show r.length + 1 ≤ 9000; omega)), fun e => ?_, fun _ e => absurd e (by simp), fun _ _ p hp => ?_⟩
          · have r0 : r = [] := List.map_eq_nil_iff.mp e
            exact fin t _ (Same.refl _) (by rw [r0, upd_same, Int.zero_add]; rfl)
          · refine fin p _ (sameNew hp) ?_
            rw [upd_same, List.map_append, Int.zero_add]
            rfl
        · rintro H3 ⟨s3, bs3, eD3, tb3⟩
          refine ⟨s3, bs3, eD3, ?_⟩
          rw [flat_take hr9]
          have : (addR n r).take n = addR n r := List.take_of_length_le (by unfold addR; rw [List.length_map, List.length_range]; exact Nat.le_refl _)
          rw [this] at tb3
          exact tb3
      · rintro H2 ⟨s2, bs, eD, tb⟩
        rw [List.length_map, las, List.take_length] at tb
        have lb := pr_len tb
        have fl : ((rowsR n i).flatMap (addR n)).length ≤ 3500 := by
          have := flat_len (f := addR n) (m := 5) (l := rowsR n i) fun x _ => by
            unfold addR
            rw [List.length_map, List.length_range]
            exact n5
          omega
        have lrow : ∀ r ∈ (rowsR n i).flatMap (addR n), r.length = i + 1 ∧ r ≠ [] := fun r m => by
          obtain ⟨r0, m0, m1⟩ := List.mem_flatMap.mp m
          obtain ⟨x, _, rfl⟩ := List.mem_map.mp m1
          exact ⟨by rw [List.length_append, rs2 r0 m0]; rfl, by simp⟩
        refine ⟨_, rfl, D, rfl, ⟨_, SqL.of eD⟩, fun D2 hD2 => lc_list (xs := bs.map V.ref) (fun i3 H' => Same H2 H' ∧ ∃ cs : List Addr, H' D2 = some (.lst (cs.map V.ref)) ∧ TL H' cs ((((rowsR n i).flatMap (addR n)).take i3).filter (keepR n))) ⟨sameNew hD2, [], upd_same, .nil⟩ (fun i3 H' _ hp => SqL.of (hp.1 _ _ eD)) ?_ ?_⟩
        · rintro i3 x H3 hx ⟨s3, cs, eC, tc⟩
          obtain ⟨a, ha, rfl⟩ := mapR_at hx
          obtain ⟨r, hr9, ea⟩ := pr_at tb ha
          obtain ⟨lr, rne⟩ := lrow r (List.mem_of_getElem? hr9)
          have lc3 := pr_len tc
          have lc4 : cs.length ≤ 3500 := by
            rw [lc3]
            have h1 := List.length_filter_le (keepR n) (((rowsR n i).flatMap (addR n)).take i3)
            rw [List.length_take] at h1
            omega
          have step : (((rowsR n i).flatMap (addR n)).take (i3 + 1)).filter (keepR n) = (((rowsR n i).flatMap (addR n)).take i3).filter (keepR n) ++ (if keepR n r then [r] else []) := by
            rw [List.take_add_one, hr9, List.filter_append]
            congr 1
            cases c : keepR n r <;> simp [List.filter, c]
          refine ⟨rfl, ?_⟩
          refine ⟨_, rfl, a, r, rfl, SqT.of (s3 _ _ ea), rne, by omega, fun H4 s4 => ?_⟩
          refine ⟨_, rfl, _, rfl, a, _, rfl, .inr (SqT.of (s4 _ _ (s3 _ _ ea))), _, _, rfl, rfl, _, _, rfl, rfl, _, rfl, ?_⟩
          rw [List.length_map]
          have kd : decide (gapsI r ≤ (n : Int) - ((r.length : Nat) : Int)) = keepR n r := rfl
          cases c : keepR n r with
          | false =>
            rw [c] at kd step
            refine tF kd ⟨s3.trans s4, cs, s4 _ _ eC, ?_⟩
            rw [step]
            simpa using TL.same tc s4
          | true =>
            rw [c] at kd step
            refine tT kd ?_
            refine ⟨_, rfl, _, s4 _ _ eC, small9000 (by rw [List.length_map]; omega), sameUp (s3.trans s4) hD2, cs ++ [a], by rw [upd_same, List.map_append]; rfl, ?_⟩
            rw [step]
            exact TL.put (pr_snoc (TL.same tc s4) (s4 _ _ (s3 _ _ ea))) (s4 _ _ eC)
        · rintro H3 ⟨s3, cs, eC, tc⟩
          rw [List.length_map, lb, List.take_length] at tc
          exact ⟨D2, cs, _, _, _, _, _, rfl, s1.trans (s2.trans s3), eC, tc⟩
    · rintro σ H1 ⟨l, as, u, v, w2, y, x2, rfl, s1, el, tl⟩
      obtain ⟨ra1, ra2⟩ := rows_last n m5
      have las := pr_len tl
      refine ⟨_, rfl, l, rfl, ⟨_, SqL.of el⟩, fun D hD => itl_by (xs := as.map V.ref) (fun i2 H' => Same H1 H' ∧ ∃ qs : List Addr, H' D = some (.lst (qs.map V.ref)) ∧ RL H' qs (((rowsR n n).take i2).flatMap cutsR)) ⟨sameNew hD, [], upd_same, .nil⟩ (fun i2 H' _ hp => SqL.of (hp.1 _ _ el)) ?_ ?_⟩
      · rintro i2 x H2 hx ⟨s2, qs, eD, tq⟩
        obtain ⟨a, ha, rfl⟩ := mapR_at hx
        obtain ⟨r, hr9, ea⟩ := pr_at tl ha
        obtain ⟨lr, m0, m4⟩ := ra2 r (List.mem_of_getElem? hr9)
        have cl : ∀ x : List Int, 0 ≤ mx x → mx x ≤ 4 → (cutsR x).length ≤ 6 := fun x _ h => by
          unfold cutsR
          rw [List.length_map, List.length_range]
          omega
        have fl : (((rowsR n n).take i2).flatMap cutsR).length ≤ 4200 := by
          have := flat_len (f := cutsR) (m := 6) (l := (rowsR n n).take i2) fun x hx => by
            obtain ⟨_, a1, a2⟩ := ra2 x (List.mem_of_mem_take hx)
            exact cl x a1 a2
          have l3 : ((rowsR n n).take i2).length ≤ 700 := by rw [List.length_take]; omega
          omega
        have rne : r ≠ [] := fun e => by rw [e] at lr; exact absurd lr.symm (by show n ≠ 0; omega)
        refine ⟨rfl, ?_⟩
        refine yesR ?_
        refine tT rfl ?_
        refine ⟨_, rfl, a, r, rfl, SqT.of (s2 _ _ ea), rne, _, _, rfl, rfl, mx r + 2, rfl, by omega, by omega, itr_by (lo := 0) (n := (mx r + 2).toNat) (fun j H' => Same H1 H' ∧ ∃ qs : List Addr, H' D = some (.lst (qs.map V.ref)) ∧ RL H' qs (((rowsR n n).take i2).flatMap cutsR ++ (cutsR r).take j)) ⟨s2, qs, eD, by simpa using tq⟩ ?_ ?_⟩
        · rintro j H3 hj ⟨s3, qs3, eD3, tq3⟩
          refine ⟨rfl, ?_⟩
          refine yesR ?_
          refine tT rfl ?_
          have lb3 : qs3.length ≤ 8000 := by
            rw [pr_len tq3, List.length_append]
            have c6 := cl r m0 m4
            have : ((cutsR r).take j).length ≤ 6 := by rw [List.length_take]; omega
            omega
          refine ⟨_, rfl, _, rfl, (by show 2 ≤ sizeLine; decide), fun t ht => ?_⟩
          have sT := sameNew ht (o := .tup [.ref a, .int (0 + (j : Int))])
          have eD4 := sT _ _ eD3
          refine ⟨_, eD4, small9000 (by rw [List.length_map]; omega), sameUp (s3.trans sT) hD, qs3 ++ [t], by rw [upd_same, List.map_append]; rfl, ?_⟩
          rw [cutsR_take hj, ← List.append_assoc]
          exact RL.put (pr_snoc (RL.same tq3 sT) ⟨a, by rw [upd_same, Int.zero_add], sT _ _ (s3 _ _ ea)⟩) eD4
        · rintro H3 ⟨s3, qs3, eD3, tq3⟩
          refine ⟨s3, qs3, eD3, ?_⟩
          rw [flat_take hr9]
          have : (cutsR r).take (mx r + 2).toNat = cutsR r := List.take_of_length_le (by unfold cutsR; rw [List.length_map, List.length_range]; exact Nat.le_refl _)
          rw [this] at tq3
          exact tq3
      · rintro H2 ⟨s2, qs, eD, tq⟩
        rw [List.length_map, las, List.take_length] at tq
        exact k D qs H2 (s1.free hD) (s1.trans s2) eD tq
/-! _fits -/
def sp_fits (K : PySem.W.Frag) : Sp := fun vs H Q E => ∃ (q rt : Addr) (rs : List Int) (c : Int) (m : Nat) (wd : Int), vs = [.ref q, .int wd] ∧ RkAt H q rt rs c ∧ IsRk rs m ∧ rs.length ≤ 60 ∧ 1 ≤ wd ∧ wd ≤ 1000 ∧ ∀ H', Same H H' → Q (.bl (decide (c ≤ 2 ^ (wd - 1).toNat) && decide ((m : Int) - c ≤ 2 ^ (wd - 1).toNat))) H'
theorem sc_fits : FnScope ["ranking", "width"] ["ranking", "width"] (defScope s_fits) := ⟨rfl, rfl, rfl, by decide +kernel, rfl, by decide +kernel, by decide +kernel⟩
theorem bd_fits (T : Txt w K mg A0) : Binds K A0.d_fits ["ranking", "width"] [] := T.F_fits.binds fun _ _ _ _ _ _ us hl => match us, hl with | [_, _], _ => rfl
theorem ok_fits (T : Txt w K mg A0) : FnOk P w K mg base CX0 2 A0.a_fits A0.d_fits ["ranking", "width"] (sp_fits K) := by
  refine T.F_fits.ok sc_fits (fun vs H Q E h => ?_) (fun cdv A outer s H vs Q E hr h => ?_)
  · obtain ⟨q, rt, rs, c, m, wd, rfl, _⟩ := h
    rfl
  · obtain ⟨q, rt, rs, c, m, wd, rfl, h⟩ := h
    refine ⟨_, (pss_one (ps_ret (pe_cmpR op_le (pe_callB (cr_maxT2 rfl hr.units) (by rfl) T.b_max (by decide +kernel) (pa_cons (pe_call (ok_ranks_by_sign T) (hr.mono (by decide)) rfl T.g_ranks_by_sign T.F_ranks_by_sign.kp (bd_ranks_by_sign T) .nil pass0 (pa_cons (pv 0) pa_nil)) pa_nil)) (pe_call (ok_sign_bit T) (hr.mono (by decide)) rfl T.g_sign_bit T.F_sign_bit.kp (bd_sign_bit T) .nil pass0 (pa_cons (pv 1) pa_nil)) (nomark _)))), ?_⟩
    obtain ⟨hr, is, hz, h1, h2, k⟩ := h
    refine ⟨_, rfl, q, rt, rs, c, m, rfl, hr, is, hz, fun p H2 s2 e2 => ?_⟩
    refine ⟨p, c, (m : Int) - c, rfl, SqT.of e2, ?_⟩
    refine ⟨_, rfl, wd, rfl, h1, h2, _, _, rfl, rfl, ?_⟩
    have kk := k _ s2
    have e : (decide ((if c < (m : Int) - c then (m : Int) - c else c) ≤ 2 ^ (wd - 1).toNat)) = (decide (c ≤ 2 ^ (wd - 1).toNat) && decide ((m : Int) - c ≤ 2 ^ (wd - 1).toNat)) := by
      rw [← Bool.decide_and]
      refine decide_eq_decide.mpr ?_
      split <;> omega
    rw [← e] at kk
    exact kk
/-! _is_row -/
def sp_is_row (K : PySem.W.Frag) (A0 : Ad) : Sp := fun vs H Q E => ∃ (a t : Addr) (r : List V) (ns : List Str) (size : Int), vs = [.ref a, .ref t, .int size] ∧ H a = some (.tup r) ∧ RowIs r ∧ SqT K H t (ns.map V.str) ∧ ∀ H', Same H H' → Q (.bl (rowOk ns size r)) H'
theorem sc_is_row : FnScope ["row", "names", "many_rows", "kind", "item"] ["row", "names", "many_rows"] (defScope s_is_row) := ⟨rfl, rfl, rfl, by decide +kernel, rfl, by decide +kernel, by decide +kernel⟩
theorem bd_is_row (T : Txt w K mg A0) : Binds K A0.d_is_row ["row", "names", "many_rows"] [] := T.F_is_row.binds fun _ _ _ _ _ _ us hl => match us, hl with | [_, _, _], _ => rfl
set_option maxHeartbeats 0 in
theorem ok_is_row (T : Txt w K mg A0) : FnOk P w K mg base CX0 2 A0.a_is_row A0.d_is_row ["row", "names", "many_rows"] (sp_is_row K A0) := by
  refine T.F_is_row.ok sc_is_row (fun vs H Q E h => ?_) (fun cdv A outer s H vs Q E hr h => ?_)
  · obtain ⟨a, t, r, ns, size, rfl, _⟩ := h
    rfl
  · obtain ⟨a, t, r, ns, size, rfl, h⟩ := h
    refine ⟨_, (pss_cons (ps_if (PW.pt (pw_or (pt_cmpR op_eq (pe_callB call_len_seq (by rfl) T.b_len (by decide +kernel) (pa_cons (pv 0) pa_nil)) pe_int (nomark _)) (pw_or (pt_cmpR (OpR.or op_notInT op_notInTI) (pe_ix ix_tup (pv 0) pe_int (fun _ _ => rfl)) (pe_glob (v := .ref A0.v_FORMS) rfl T.gv_FORMS rfl) rfl) (pw_or1 (pt_cmpR op_ne (pe_callB call_len_seq (by rfl) T.b_len (by decide +kernel) (pa_cons (pv 0) pa_nil)) (pe_op op_add pe_int (pe_callB call_len_str (by rfl) T.b_len (by decide +kernel) (pa_cons (pe_ix ix_tab (pe_glob (v := .ref A0.v_FORMS) rfl T.gv_FORMS rfl) (pe_ix ix_tup (pv 0) pe_int (fun _ _ => rfl)) (fun _ _ => rfl)) pa_nil))) (nomark _)))))) (pss_one (ps_ret pe_bl)) pss_nil)
        (pss_one (ps_ret (pe_callB (cr_all rfl) (by rfl) T.b_all (by decide +kernel) (pa_cons (pe_lc (own := [("kind", 3), ("item", 4)]) rfl sc_is_row.nd (pi_list (pe_call (ok_parts_of T) (hr.mono (by decide)) rfl T.g_parts_of T.F_parts_of.kp (bd_parts_of T) .nil pass0 (pa_cons (pv 0) pa_nil))) (blkOk_by (own := [("kind", 3), ("item", 4)]) (N := ["row", "names", "many_rows", "kind", "item"]) (sc := defScope s_is_row) (by decide +kernel)) (fun _ _ _ _ _ => (show PG _ _ (gTup K 2 (gCons (gName 3) (gCons (gName 4) gNil))) from pg_tup rfl (pgs_cons (pg_name (i := 3) sc_is_row.nd rfl (Or.inl rfl)) (pgs_cons (pg_name (i := 4) sc_is_row.nd rfl (Or.inl rfl)) pgs_nil)))) (fun _ _ _ _ _ => pts_nil) (fun _ _ _ _ _ => (pe_call (ok_is_item T) (hr.mono (by decide)) rfl T.g_is_item T.F_is_item.kp (bd_is_item T) .nil pass0 (pa_cons (pv 3) (pa_cons (pv 4) (pa_cons (pv 1) (pa_cons (pv 2) pa_nil))))))) pa_nil))))), ?_⟩
    obtain ⟨ha, hr0, ht, k⟩ := h
    refine ⟨_, rfl, a, r, rfl, .inr (SqT.of ha), rfl, _, rfl, ?_⟩
    rcases hr0.wd with rfl | ⟨w, xs, rfl⟩ | ⟨i0, xs, rfl⟩
    · exact tT (by decide) (k H (Same.refl H))
    case inr.inr =>
      refine tF (decide_eq_false (by rw [List.length_cons]; intro z; have := V.int.inj z; omega)) ?_
      refine ⟨_, rfl, a, _, 0, .int i0, rfl, rfl, SqT.of ha, at0v, .inr ⟨i0, _, _, rfl, rfl, T.kt_FORMS P, _, rfl, ?_⟩⟩
      exact tT rfl (k H (Same.refl H))
    refine tF (decide_eq_false (by rw [List.length_cons]; intro z; have := V.int.inj z; omega)) ?_
    refine ⟨_, rfl, a, _, 0, .str w, rfl, rfl, SqT.of ha, at0v, .inl ⟨w, _, _, rfl, rfl, T.kt_FORMS P, _, rfl, ?_⟩⟩
    have fv := txt_find (z := w) (l := tab_FORMS)
    cases hf : tab_FORMS.lookup w with
    | none =>
      have kk := k H (Same.refl H)
      rw [rowOk_none (show fmT.lookup w = none from hf)] at kk
      rw [hf] at fv
      refine tT ?_ kk
      change (!(valV ([("cmp", .str "RR"), ("mov", .str "RR"), ("swap", .str "RR"), ("cmov", .str "CRR"), ("jump", .str "T"), ("jif", .str "CT"), ("out", .str "R"), ("stop", .str "")] : List (Str × V)) w).isSome) = true
      rw [show valV ([("cmp", .str "RR"), ("mov", .str "RR"), ("swap", .str "RR"), ("cmov", .str "CRR"), ("jump", .str "T"), ("jif", .str "CT"), ("out", .str "R"), ("stop", .str "")] : List (Str × V)) w = none from fv]
      rfl
    | some f =>
      rw [hf] at fv
      have fl : fmT.lookup w = some f := hf
      obtain ⟨fk, f3, fe⟩ := fm_all _ (lookup_mem fl)
      refine tF ?_ ?_
      · change (!(valV ([("cmp", .str "RR"), ("mov", .str "RR"), ("swap", .str "RR"), ("cmov", .str "CRR"), ("jump", .str "T"), ("jif", .str "CT"), ("out", .str "R"), ("stop", .str "")] : List (Str × V)) w).isSome) = false
        rw [show valV ([("cmp", .str "RR"), ("mov", .str "RR"), ("swap", .str "RR"), ("cmov", .str "CRR"), ("jump", .str "T"), ("jif", .str "CT"), ("out", .str "R"), ("stop", .str "")] : List (Str × V)) w = some (.str f) from fv]
        rfl
      refine ⟨_, rfl, a, _, rfl, .inr (SqT.of ha), ?_⟩
      refine ⟨_, rfl, a, _, 0, .str w, rfl, rfl, SqT.of ha, at0v, A0.v_FORMS, w, .str f, _, rfl, rfl, T.kt_FORMS P, fv, f, rfl, ?_, ?_⟩
      · rw [show f.length = f.cps.size from fe]
        have : f.cps.size ≤ 3 := f3
        exact small9k' (by omega)
      refine ⟨_, _, rfl, rfl, rfl, _, rfl, ?_⟩
      have fe' : f.length = f.cps.size := fe
      have rs := rowOk_some (xs := xs) (ns := ns) (size := size) fl
      by_cases c : xs.length = f.cps.size
      · refine tF (by rw [decide_eq_true (congrArg V.int (by rw [List.length_cons, fe']; omega))]; rfl) ?_
        rw [decide_eq_true c, Bool.true_and] at rs
        refine ⟨_, rfl, a, w, xs, f, rfl, ha, fl, c, fun p ts H1 hp s1 e1 pr1 => ⟨p, rfl, ⟨_, SqL.of e1⟩, fun D hD => lc_list (xs := ts.map V.ref) (fun i H' => Same H1 H' ∧ H' D = some (.lst (((((sgn f).zip xs).map fun q => itemOk q.1 q.2 ns size).take i).map V.bl))) ⟨sameNew hD, upd_same⟩ (fun i H' _ q => SqL.of (q.1 _ _ e1)) ?_ ?_⟩⟩
        · rintro i x H2 hx ⟨s2, eD⟩
          obtain ⟨t0, ht0, rfl⟩ := refAt hx
          obtain ⟨q, hq, eq⟩ := prG pr1 ht0
          have mq := List.mem_of_getElem? hq
          obtain ⟨kx, xx⟩ := q
          obtain ⟨m1, m2⟩ := List.of_mem_zip mq
          refine ⟨t0, _, rfl, SqT.of (s2 _ _ eq), rfl, _, _, rfl, _, _, rfl, rfl, ?_⟩
          refine ⟨rfl, ?_⟩
          refine yesR ?_
          refine tT rfl ?_
          refine ⟨_, rfl, _, rfl, _, rfl, _, rfl, kx, xx, t, ns, size, rfl, fk kx m1, sameT s2 (sameT s1 ht), hr0.at' xx (List.mem_cons_of_mem _ m2), ?_⟩
          refine ⟨_, eD, small9k (by rw [List.length_map, List.length_take]; have := hr0.few; rw [List.length_cons] at this; have l := (List.getElem?_eq_some_iff.mp hq).1; rw [List.length_zip] at l; omega), sameUp s2 hD, ?_⟩
          rw [upd_same, tkS (map_at' hq), List.map_append]
          rfl
        rintro H2 ⟨s2, eD⟩
        have lt : ts.length = ((sgn f).zip xs).length := Paired.length pr1
        refine ⟨D, _, rfl, SqL.of eD, ?_⟩
        rw [List.length_map, lt, ← List.length_map (f := fun q : V × V => itemOk q.1 q.2 ns size), List.take_length, List.all_map]
        have kk := k H2 (s1.trans s2)
        rw [rs] at kk
        exact kk
      · refine tT (by rw [decide_eq_false (fun z => c (by have := V.int.inj z; rw [List.length_cons, fe'] at this; omega))]; rfl) ?_
        have kk := k H (Same.refl H)
        rw [rs, decide_eq_false c, Bool.false_and] at kk
        exact kk
/-! _placed_row -/
def sp_placed_row (K : PySem.W.Frag) (A0 : Ad) : Sp := fun vs H Q E => ∃ (a t : Addr) (w : Str) (xs : List V) (f : Str) (ns : List Str) (size : Int), vs = [.ref a, .ref t] ∧ H a = some (.tup (.str w :: xs)) ∧ fmT.lookup w = some f ∧ rowOk ns size (.str w :: xs) = true ∧ NmAt H t ns ∧ ∀ p H', H p = none → Same H H' → PlAt K H' ns p (.str w :: xs) → Q (.ref p) H'
theorem sc_placed_row : FnScope ["row", "names", "placed", "kind", "item"] ["row", "names"] (defScope s_placed_row) := ⟨rfl, rfl, rfl, by decide +kernel, rfl, by decide +kernel, by decide +kernel⟩
theorem bd_placed_row (T : Txt w K mg A0) : Binds K A0.d_placed_row ["row", "names"] [] := T.F_placed_row.binds fun _ _ _ _ _ _ us hl => match us, hl with | [_, _], _ => rfl
set_option maxHeartbeats 0 in
theorem ok_placed_row (T : Txt w K mg A0) : FnOk P w K mg base CX0 2 A0.a_placed_row A0.d_placed_row ["row", "names"] (sp_placed_row K A0) := by
  refine T.F_placed_row.ok sc_placed_row (fun vs H Q E h => ?_) (fun cdv A outer s H vs Q E hr h => ?_)
  · obtain ⟨a, t, w, xs, f, ns, size, rfl, _⟩ := h
    rfl
  · obtain ⟨a, t, w, xs, f, ns, size, rfl, h⟩ := h
    refine ⟨_, (pss_cons (ps_setLc (i := 2) (own := [("kind", 3), ("item", 4)]) rfl sc_placed_row.nd rfl rfl (sw_true rfl rfl rfl (by decide +kernel)) (pi_list (pe_call (ok_parts_of T) (hr.mono (by decide)) rfl T.g_parts_of T.F_parts_of.kp (bd_parts_of T) .nil pass0 (pa_cons (pv 0) pa_nil))) (blkOk_by (own := [("kind", 3), ("item", 4)]) (N := ["row", "names", "placed", "kind", "item"]) (sc := defScope s_placed_row) (by decide +kernel)) (fun _ _ _ _ _ => (show PG _ _ (gTup K 2 (gCons (gName 3) (gCons (gName 4) gNil))) from pg_tup rfl (pgs_cons (pg_name (i := 3) sc_placed_row.nd rfl (Or.inl rfl)) (pgs_cons (pg_name (i := 4) sc_placed_row.nd rfl (Or.inl rfl)) pgs_nil)))) (fun _ _ _ _ _ => pts_nil) (fun _ _ _ _ _ => (pe_call (ok_placed_item T) (hr.mono (by decide)) rfl T.g_placed_item T.F_placed_item.kp (bd_placed_item T) .nil pass0 (pa_cons (pv 3) (pa_cons (pv 4) (pa_cons (pv 1) pa_nil))))))
        (pss_one (ps_ret (pe_tup (pa_cons (pe_ix ix_tup (pv 0) pe_int (fun _ _ => rfl)) (StX.pa_star (pv 2) pa_nil)))))), ?_⟩
    obtain ⟨ha, fl, ok, ht, k⟩ := h
    have rs := rowOk_some (xs := xs) (ns := ns) (size := size) fl
    rw [ok] at rs
    obtain ⟨c, al⟩ := Bool.and_eq_true_iff.mp rs.symm
    have c := of_decide_eq_true c
    obtain ⟨fk, f3, fe⟩ := fm_all _ (lookup_mem fl)
    have f3 : f.cps.size ≤ 3 := f3
    refine ⟨_, rfl, a, w, xs, f, rfl, ha, fl, c, fun p ts H1 hp s1 e1 pr1 => ⟨p, rfl, ⟨_, SqL.of e1⟩, fun D hD => lc_list (xs := ts.map V.ref) (fun i H' => Same H1 H' ∧ ∃ ps : List V, H' D = some (.lst ps) ∧ Paired (fun (q : V × V) p => PlRel K ns q.1 q.2 p) (((sgn f).zip xs).take i) ps) ⟨sameNew hD, [], upd_same, .nil⟩ (fun i H' _ q => SqL.of (q.1 _ _ e1)) ?_ ?_⟩⟩
    · rintro i x H2 hx ⟨s2, ps, eD, pr⟩
      obtain ⟨t0, ht0, rfl⟩ := refAt hx
      obtain ⟨q, hq, eq⟩ := prG pr1 ht0
      have mq := List.mem_of_getElem? hq
      have oq := List.all_eq_true.mp al q mq
      obtain ⟨kx, xx⟩ := q
      obtain ⟨m1, m2⟩ := List.of_mem_zip mq
      refine ⟨t0, _, rfl, SqT.of (s2 _ _ eq), rfl, _, _, rfl, _, _, rfl, rfl, ?_⟩
      refine ⟨rfl, ?_⟩
      refine yesR ?_
      refine tT rfl ?_
      refine ⟨_, rfl, _, rfl, _, rfl, kx, xx, t, ns, size, rfl, (ht.same s1).same s2, fk kx m1, oq, fun p hp => ?_⟩
      have lp := Paired.length pr
      refine ⟨_, eD, small9k (by rw [← lp, List.length_take]; have l := (List.getElem?_eq_some_iff.mp hq).1; rw [List.length_zip, sgn_len] at l; omega), sameUp s2 hD, ps ++ [p], by rw [upd_same], ?_⟩
      rw [tkS hq]
      exact pra pr (.cons hp .nil)
    rintro H2 ⟨s2, ps, eD, pr⟩
    have lt : ts.length = ((sgn f).zip xs).length := Paired.length pr1
    rw [List.length_map, lt, List.take_length] at pr
    have lp := Paired.length pr
    rw [List.length_zip, sgn_len] at lp
    have e0 := s2 _ _ (s1 _ _ ha)
    refine ⟨_, rfl, a, _, 0, .str w, rfl, rfl, SqT.of e0, at0v, ?_⟩
    refine ⟨_, rfl, D, ps, rfl, .inr (SqL.of eD), ?_⟩
    refine ⟨small9k' (by rw [List.append_nil, List.length_cons]; omega), fun q hq => ?_⟩
    have sq := s2.trans (sameNew hq (o := .tup (.str w :: (ps ++ []))))
    refine k q _ (s1.free (s2.free hq)) (s1.trans sq) ⟨w, xs, f, ps, rfl, fl, ?_, pr⟩
    rw [upd_same, List.append_nil]
/-! state_behind -/
def sp_state_behind (K : PySem.W.Frag) (A0 : Ad) : Sp := fun vs H Q E => ∃ (t : Addr) (cut : Int) (st : Addr) (ns : List Str) (rs : List (List V)) (ws : List Int) (s : MS), vs = [.ref t, .int cut, .ref st] ∧ Placed K H t ns rs ∧ StAt H st s ∧ MOk ns rs.length ws s ∧ ns.length ≤ 100 ∧ endM rs s = none ∧ ∀ p H', H p = none → Same H H' → StAt H' p (stepM ns rs cut s) → Q (.ref p) H'
theorem sc_state_behind : FnScope ["rows", "cut", "state", "number", "values", "flag", "row", "word", "half_swapped"] ["rows", "cut", "state"] (defScope s_state_behind) := ⟨rfl, rfl, rfl, by decide +kernel, rfl, by decide +kernel, by decide +kernel⟩
theorem bd_state_behind (T : Txt w K mg A0) : Binds K A0.d_state_behind ["rows", "cut", "state"] [] := T.F_state_behind.binds fun _ _ _ _ _ _ us hl => match us, hl with | [_, _, _], _ => rfl
set_option maxHeartbeats 0 in
theorem ok_state_behind (T : Txt w K mg A0) : FnOk P w K mg base CX0 2 A0.a_state_behind A0.d_state_behind ["rows", "cut", "state"] (sp_state_behind K A0) := by
  refine T.F_state_behind.ok sc_state_behind (fun vs H Q E h => ?_) (fun cdv A outer s H vs Q E hr h => ?_)
  · obtain ⟨t, cut, st, ns, rs, ws, s, rfl, _⟩ := h
    rfl
  · obtain ⟨t, cut, st, ns, rs, ws, s, rfl, h⟩ := h
    refine ⟨_, (pss_cons (ps_asg (pv 2) (pg_tup rfl (pgs_cons (pg_name (i := 3) sc_state_behind.nd rfl (Or.inl rfl)) (pgs_cons (pg_name (i := 4) sc_state_behind.nd rfl (Or.inl rfl)) (pgs_cons (pg_name (i := 5) sc_state_behind.nd rfl (Or.inl rfl)) pgs_nil)))))
        (pss_cons (ps_set (i := 6) sc_state_behind.nd rfl (Or.inl rfl) (pe_ix ix_tup (pv 0) (pv 3) (fun _ _ => rfl)))
        (pss_cons (ps_set (i := 7) sc_state_behind.nd rfl (Or.inl rfl) (pe_ix ix_tup (pv 6) pe_int (fun _ _ => rfl)))
        (pss_cons (ps_if (pt_cmpR op_eq (pv 7) pe_str (nomark _)) (pss_one (ps_ret (pe_tup (pa_cons pe_non (pa_cons (pv 4) (pa_cons (pv 5) pa_nil)))))) pss_nil)
        (pss_cons (ps_if (PW.pt (pw_or (pt_cmpR op_eq (pv 7) pe_str (nomark _)) (pw_or1 (PW.pt (pw_and (pt_cmpR op_eq (pv 7) pe_str (nomark _)) (pw_and1 (pt_cmpR op_in_seq (pv 5) (pe_ix ix_tup (pv 6) pe_int (fun _ _ => rfl)) rfl))))))) (pss_one (ps_ret (pe_tup (pa_cons (pe_ix ix_tup (pv 6) (pe_un un_neg pe_int) (fun _ _ => rfl)) (pa_cons (pv 4) (pa_cons (pv 5) pa_nil)))))) pss_nil)
        (pss_cons (ps_if (pt_cmpR op_eq (pv 7) pe_str (nomark _)) (pss_one (ps_set (i := 5) sc_state_behind.nd rfl (Or.inl rfl) (pe_call (ok_outcome_by_cut T) (hr.mono (by decide)) rfl T.g_outcome_by_cut T.F_outcome_by_cut.kp (bd_outcome_by_cut T) .nil pass0 (pa_cons (pv 1) (pa_cons (pe_ix ix_tup (pv 4) (pe_ix ix_tup (pv 6) pe_int (fun _ _ => rfl)) (fun _ _ => rfl)) (pa_cons (pe_ix ix_tup (pv 4) (pe_ix ix_tup (pv 6) pe_int (fun _ _ => rfl)) (fun _ _ => rfl)) pa_nil)))))) (pss_one (ps_if (PW.pt (pw_or (pt_cmpR op_eq (pv 7) pe_str (nomark _)) (pw_or1 (PW.pt (pw_and (pt_cmpR op_eq (pv 7) pe_str (nomark _)) (pw_and1 (pt_cmpR op_in_seq (pv 5) (pe_ix ix_tup (pv 6) pe_int (fun _ _ => rfl)) rfl))))))) (pss_one (ps_set (i := 4) sc_state_behind.nd rfl (Or.inl rfl) (pe_call (ok_with_value T) (hr.mono (by decide)) rfl T.g_with_value T.F_with_value.kp (bd_with_value T) .nil pass0 (pa_cons (pv 4) (pa_cons (pe_ix ix_tup (pv 6) (pe_un un_neg pe_int) (fun _ _ => rfl)) (pa_cons (pe_ix ix_tup (pv 4) (pe_ix ix_tup (pv 6) (pe_un un_neg pe_int) (fun _ _ => rfl)) (fun _ _ => rfl)) pa_nil)))))) (pss_one (ps_if (pt_cmpR op_eq (pv 7) pe_str (nomark _)) (pss_cons (ps_set (i := 8) sc_state_behind.nd rfl (Or.inl rfl) (pe_call (ok_with_value T) (hr.mono (by decide)) rfl T.g_with_value T.F_with_value.kp (bd_with_value T) .nil pass0 (pa_cons (pv 4) (pa_cons (pe_ix ix_tup (pv 6) pe_int (fun _ _ => rfl)) (pa_cons (pe_ix ix_tup (pv 4) (pe_ix ix_tup (pv 6) pe_int (fun _ _ => rfl)) (fun _ _ => rfl)) pa_nil)))))
        (pss_one (ps_set (i := 4) sc_state_behind.nd rfl (Or.inl rfl) (pe_call (ok_with_value T) (hr.mono (by decide)) rfl T.g_with_value T.F_with_value.kp (bd_with_value T) .nil pass0 (pa_cons (pv 8) (pa_cons (pe_ix ix_tup (pv 6) pe_int (fun _ _ => rfl)) (pa_cons (pe_ix ix_tup (pv 4) (pe_ix ix_tup (pv 6) pe_int (fun _ _ => rfl)) (fun _ _ => rfl)) pa_nil))))))) pss_nil)))))
        (pss_one (ps_ret (pe_tup (pa_cons (pe_op op_add (pv 3) pe_int) (pa_cons (pv 4) (pa_cons (pv 5) pa_nil)))))))))))), ?_⟩
    obtain ⟨pl, sa, mo, hn, go, k⟩ := h
    obtain ⟨v, hst, hv⟩ := id sa
    obtain ⟨ps, ht, pr, rc, hz⟩ := id pl
    obtain ⟨row, vals, flag⟩ := s
    cases row with
    | none => exact absurd go (by simp [endM])
    | some i =>
    have il := mo.row i rfl
    have ne : i ≠ rs.length := fun z => by
      unfold endM at go
      simp [z] at go
    have lt : i < rs.length := by omega
    obtain ⟨p, hp, hpc⟩ := prH pr (List.getElem?_eq_getElem lt)
    have ge : rs.getD i [] = rs[i] := by rw [List.getD_eq_getElem?_getD, List.getElem?_eq_getElem lt]; rfl
    have aI : atI (ps.map V.ref) (i : Int) = some (.ref p) := at_nat (by rw [List.getElem?_map, hp]; rfl)
    have nf : needsF rs[i] = true → ∃ z, flag = some z := fun q => by
      unfold endM at go
      simp only [if_neg ne, ge, q, true_and] at go
      cases flag with
      | none => simp at go
      | some z => exact ⟨z, rfl⟩
    have k : ∀ p H', H p = none → Same H H' → StAt H' p (stepRow ns cut i vals flag rs[i]) → Q (.ref p) H' := fun p H' a b c => k p H' a b (by show StAt H' p (stepRow ns cut i vals flag (rs.getD i [])); rw [ge]; exact c)
    refine ⟨_, rfl, st, _, rfl, SqT.of hst, rfl, _, _, rfl, _, _, rfl, _, _, rfl, rfl, ?_⟩
    refine ⟨_, rfl, _, rfl, t, _, (i : Nat), .ref p, rfl, rfl, SqT.of ht, aI, ?_⟩
    clear aI ge go pr hp ht
    have ml : vals.length = ns.length := mo.len
    have rci := rc _ (List.getElem_mem lt)
    generalize rs[i] = r at hpc nf k rci
    cases hpc with
    | stop e =>
      refine ⟨_, rfl, p, _, 0, .str "stop", rfl, rfl, SqT.of e, at0v, ?_⟩
      refine ⟨_, rfl, rfl, _, rfl, ?_⟩
      refine tT (by decide +kernel) ?_
      exact ⟨_, rfl, _, rfl, (by show 3 ≤ sizeLine; decide), fun q hq => k q _ hq (sameNew hq) ⟨v, upd_same, sameNew hq _ _ hv⟩⟩
    | out ma e =>
      refine ⟨_, rfl, p, _, 0, .str "out", rfl, rfl, SqT.of e, at0v, ?_⟩
      refine ⟨_, rfl, rfl, _, rfl, ?_⟩
      refine tF (by decide +kernel) ?_
      refine ⟨_, rfl, rfl, _, rfl, ?_⟩
      refine tF (by decide +kernel) ?_
      refine ⟨_, rfl, rfl, _, rfl, ?_⟩
      refine tF (by decide +kernel) ?_
      refine tF rfl ?_
      refine ⟨_, rfl, rfl, _, rfl, ?_⟩
      refine tF (by decide +kernel) ?_
      refine ⟨_, rfl, rfl, _, rfl, ?_⟩
      refine tF (by decide +kernel) ?_
      refine ⟨_, rfl, rfl, _, rfl, ?_⟩
      refine tF (by decide +kernel) ?_
      refine tF rfl ?_
      refine ⟨_, rfl, rfl, _, rfl, ?_⟩
      refine tF (by decide +kernel) ?_
      refine ⟨_, rfl, _, _, rfl, rfl, _, rfl, _, rfl, (by show 3 ≤ sizeLine; decide), fun q hq => k q _ hq (sameNew hq) ⟨v, upd_same.trans rfl, sameNew hq _ _ hv⟩⟩
    | two hw ma mb e =>
      simp only [List.mem_cons, List.not_mem_nil, or_false] at hw
      have ga := getR_at ma ml
      have gb := getR_at mb ml
      have la := pl_lt ma
      rw [← ml] at la
      have lb := pl_lt mb
      rw [← ml] at lb
      have vl : vals.length ≤ 1000 := by omega
      rcases hw with rfl | rfl | rfl
      ·
        simp only [step_cmp] at k
        refine ⟨_, rfl, p, _, 0, .str "cmp", rfl, rfl, SqT.of e, at0v, ?_⟩
        refine ⟨_, rfl, rfl, _, rfl, ?_⟩
        refine tF (by decide +kernel) ?_
        refine ⟨_, rfl, rfl, _, rfl, ?_⟩
        refine tF (by decide +kernel) ?_
        refine ⟨_, rfl, rfl, _, rfl, ?_⟩
        refine tF (by decide +kernel) ?_
        refine tF rfl ?_
        refine ⟨_, rfl, rfl, _, rfl, ?_⟩
        refine tT (by decide +kernel) ?_
        refine ⟨_, rfl, _, rfl, _, rfl, p, _, 1, .int _, rfl, rfl, SqT.of e, rfl, v, _, _, .int _, rfl, rfl, SqT.of hv, at_nat ga, _, rfl, _, rfl, p, _, 2, .int _, rfl, rfl, SqT.of e, rfl, v, _, _, .int _, rfl, rfl, SqT.of hv, at_nat gb, _, _, _, rfl, ?_⟩
        refine ⟨_, rfl, _, _, rfl, rfl, _, rfl, _, rfl, (by show 3 ≤ sizeLine; decide), fun q hq => k q _ hq (sameNew hq) ⟨v, upd_same.trans rfl, sameNew hq _ _ hv⟩⟩
      ·
        simp only [step_mov] at k
        refine ⟨_, rfl, p, _, 0, .str "mov", rfl, rfl, SqT.of e, at0v, ?_⟩
        refine ⟨_, rfl, rfl, _, rfl, ?_⟩
        refine tF (by decide +kernel) ?_
        refine ⟨_, rfl, rfl, _, rfl, ?_⟩
        refine tF (by decide +kernel) ?_
        refine ⟨_, rfl, rfl, _, rfl, ?_⟩
        refine tF (by decide +kernel) ?_
        refine tF rfl ?_
        refine ⟨_, rfl, rfl, _, rfl, ?_⟩
        refine tF (by decide +kernel) ?_
        refine ⟨_, rfl, rfl, _, rfl, ?_⟩
        refine tT (by decide +kernel) ?_
        refine ⟨_, rfl, _, rfl, _, rfl, p, _, -2, .int _, rfl, rfl, SqT.of e, rfl, _, rfl, _, rfl, _, rfl, p, _, -1, .int _, rfl, rfl, SqT.of e, rfl, v, _, _, .int _, rfl, rfl, SqT.of hv, at_nat gb, v, vals, _, _, rfl, hv, la, vl, fun v1 H1 f1 s1 e1 => ?_⟩
        refine ⟨_, rfl, _, _, rfl, rfl, _, rfl, _, rfl, (by show 3 ≤ sizeLine; decide), fun q hq => k q _ (s1.free hq) (s1.trans (sameNew hq)) ⟨v1, upd_same.trans rfl, sameNew hq _ _ e1⟩⟩
      ·
        simp only [step_swap] at k
        refine ⟨_, rfl, p, _, 0, .str "swap", rfl, rfl, SqT.of e, at0v, ?_⟩
        refine ⟨_, rfl, rfl, _, rfl, ?_⟩
        refine tF (by decide +kernel) ?_
        refine ⟨_, rfl, rfl, _, rfl, ?_⟩
        refine tF (by decide +kernel) ?_
        refine ⟨_, rfl, rfl, _, rfl, ?_⟩
        refine tF (by decide +kernel) ?_
        refine tF rfl ?_
        refine ⟨_, rfl, rfl, _, rfl, ?_⟩
        refine tF (by decide +kernel) ?_
        refine ⟨_, rfl, rfl, _, rfl, ?_⟩
        refine tF (by decide +kernel) ?_
        refine ⟨_, rfl, rfl, _, rfl, ?_⟩
        refine tF (by decide +kernel) ?_
        refine tF rfl ?_
        refine ⟨_, rfl, rfl, _, rfl, ?_⟩
        refine tT (by decide +kernel) ?_
        refine ⟨_, rfl, _, rfl, p, _, 1, .int _, rfl, rfl, SqT.of e, rfl, _, rfl, _, rfl, p, _, 2, .int _, rfl, rfl, SqT.of e, rfl, v, _, _, .int _, rfl, rfl, SqT.of hv, at_nat gb, v, vals, _, _, rfl, hv, la, vl, fun v1 H1 f1 s1 e1 => ?_⟩
        refine ⟨_, rfl, _, rfl, p, _, 2, .int _, rfl, rfl, SqT.of (s1 _ _ e), rfl, _, rfl, _, rfl, p, _, 1, .int _, rfl, rfl, SqT.of (s1 _ _ e), rfl, v, _, _, .int _, rfl, rfl, SqT.of (s1 _ _ hv), at_nat ga, v1, _, _, _, rfl, e1, (by rw [List.length_set]; exact lb), (by rw [List.length_set]; exact vl), fun v2 H2 f2 s2 e2 => ?_⟩
        have s12 := s1.trans s2
        refine ⟨_, rfl, _, _, rfl, rfl, _, rfl, _, rfl, (by show 3 ≤ sizeLine; decide), fun q hq => k q _ (s12.free hq) (s12.trans (sameNew hq)) ⟨v2, upd_same.trans rfl, sameNew hq _ _ e2⟩⟩
    | cmov hc tq ma mb e =>
      rename_i cc _ _ q
      have ga := getR_at ma ml
      have gb := getR_at mb ml
      have la := pl_lt ma
      rw [← ml] at la
      have vl : vals.length ≤ 1000 := by omega
      obtain ⟨z, rfl⟩ := nf rfl
      refine ⟨_, rfl, p, _, 0, .str "cmov", rfl, rfl, SqT.of e, at0v, ?_⟩
      refine ⟨_, rfl, rfl, _, rfl, ?_⟩
      refine tF (by decide +kernel) ?_
      refine ⟨_, rfl, rfl, _, rfl, ?_⟩
      refine tF (by decide +kernel) ?_
      refine ⟨_, rfl, rfl, _, rfl, ?_⟩
      refine tF (by decide +kernel) ?_
      refine tF rfl ?_
      refine ⟨_, rfl, rfl, _, rfl, ?_⟩
      refine tF (by decide +kernel) ?_
      refine ⟨_, rfl, rfl, _, rfl, ?_⟩
      refine tF (by decide +kernel) ?_
      refine ⟨_, rfl, rfl, _, rfl, ?_⟩
      refine tT (by decide +kernel) ?_
      refine ⟨_, rfl, _, rfl, p, _, 1, .ref q, rfl, rfl, SqT.of e, rfl, q, _, rfl, .inr tq.sq, rfl, flat_strs, _, rfl, ?_⟩
      have iv := inV_str (z := z) (xs := outsOf cc)
      cases hw : decide (z ∈ outsOf cc) with
      | true =>
        rw [hw] at iv
        refine tT iv ?_
        refine ⟨_, rfl, _, rfl, _, rfl, p, _, -2, .int _, rfl, rfl, SqT.of e, rfl, _, rfl, _, rfl, _, rfl, p, _, -1, .int _, rfl, rfl, SqT.of e, rfl, v, _, _, .int _, rfl, rfl, SqT.of hv, at_nat gb, v, vals, _, _, rfl, hv, la, vl, fun v1 H1 f1 s1 e1 => ?_⟩
        refine ⟨_, rfl, _, _, rfl, rfl, _, rfl, _, rfl, (by show 3 ≤ sizeLine; decide), fun q hq => k q _ (s1.free hq) (s1.trans (sameNew hq)) ?_⟩
        show StAt _ q (if decide (z ∈ outsOf cc) = true then _ else _)
        rw [if_pos hw]
        exact ⟨v1, upd_same.trans rfl, sameNew hq _ _ e1⟩
      | false =>
        rw [hw] at iv
        refine tF iv ?_
        refine ⟨_, rfl, rfl, _, rfl, ?_⟩
        refine tF (by decide +kernel) ?_
        refine ⟨_, rfl, _, _, rfl, rfl, _, rfl, _, rfl, (by show 3 ≤ sizeLine; decide), fun q hq => k q _ hq (sameNew hq) ?_⟩
        show StAt _ q (if decide (z ∈ outsOf cc) = true then _ else _)
        rw [if_neg (by rw [hw]; decide)]
        exact ⟨v, upd_same.trans rfl, sameNew hq _ _ hv⟩
    | jump e =>
      cases rci
      rename_i g0 g1
      refine ⟨_, rfl, p, _, 0, .str "jump", rfl, rfl, SqT.of e, at0v, ?_⟩
      refine ⟨_, rfl, rfl, _, rfl, ?_⟩
      refine tF (by decide +kernel) ?_
      refine ⟨_, rfl, rfl, _, rfl, ?_⟩
      refine tT (by decide +kernel) ?_
      refine ⟨_, rfl, _, rfl, p, _, -1, .int _, rfl, rfl, SqT.of e, rfl, _, rfl, _, rfl, (by show 3 ≤ sizeLine; decide), fun q hq => k q _ hq (sameNew hq) ⟨v, upd_same.trans ?_, sameNew hq _ _ hv⟩⟩
      show some (HO.tup [.int _, _, _]) = some (HO.tup [.int ((Int.toNat _ : Nat) : Int), _, _])
      rw [Int.toNat_of_nonneg g0]
      rfl
    | jif hc tq e =>
      rename_i cc _ q
      cases rci
      rename_i gc g0 g1
      obtain ⟨z, rfl⟩ := nf rfl
      refine ⟨_, rfl, p, _, 0, .str "jif", rfl, rfl, SqT.of e, at0v, ?_⟩
      refine ⟨_, rfl, rfl, _, rfl, ?_⟩
      refine tF (by decide +kernel) ?_
      refine ⟨_, rfl, rfl, _, rfl, ?_⟩
      refine tF (by decide +kernel) ?_
      refine ⟨_, rfl, rfl, _, rfl, ?_⟩
      refine tT (by decide +kernel) ?_
      refine ⟨_, rfl, _, rfl, p, _, 1, .ref q, rfl, rfl, SqT.of e, rfl, q, _, rfl, .inr tq.sq, rfl, flat_strs, _, rfl, ?_⟩
      have iv := inV_str (z := z) (xs := outsOf cc)
      cases hw : decide (z ∈ outsOf cc) with
      | true =>
        rw [hw] at iv
        refine tT iv ?_
        refine ⟨_, rfl, _, rfl, p, _, -1, .int _, rfl, rfl, SqT.of e, rfl, _, rfl, _, rfl, (by show 3 ≤ sizeLine; decide), fun q hq => k q _ hq (sameNew hq) ?_⟩
        show StAt _ q (if decide (z ∈ outsOf cc) = true then _ else _)
        rw [if_pos hw]
        refine ⟨v, upd_same.trans ?_, sameNew hq _ _ hv⟩
        show some (HO.tup [.int _, _, _]) = some (HO.tup [.int ((Int.toNat _ : Nat) : Int), _, _])
        rw [Int.toNat_of_nonneg g0]
      | false =>
        rw [hw] at iv
        refine tF iv ?_
        refine ⟨_, rfl, rfl, _, rfl, ?_⟩
        refine tF (by decide +kernel) ?_
        refine ⟨_, rfl, rfl, _, rfl, ?_⟩
        refine tF (by decide +kernel) ?_
        refine ⟨_, rfl, rfl, _, rfl, ?_⟩
        refine tF (by decide +kernel) ?_
        refine tF rfl ?_
        refine ⟨_, rfl, rfl, _, rfl, ?_⟩
        refine tF (by decide +kernel) ?_
        refine ⟨_, rfl, _, _, rfl, rfl, _, rfl, _, rfl, (by show 3 ≤ sizeLine; decide), fun q hq => k q _ hq (sameNew hq) ?_⟩
        show StAt _ q (if decide (z ∈ outsOf cc) = true then _ else _)
        rw [if_neg (by rw [hw]; decide)]
        exact ⟨v, upd_same.trans rfl, sameNew hq _ _ hv⟩
/-! _law_line -/
def sp_law_line (K : PySem.W.Frag) : Sp := fun vs H Q E => ∃ (b l : Addr) (m size : Int) (n : Nat), vs = [.ref b, .int m, .int size] ∧ b ≠ l ∧ Bag H b l n ∧ n ≤ 900000 ∧ 1 ≤ m ∧ m ≤ 4 ∧ 0 ≤ size ∧ size ≤ 4000 ∧ ∀ t r H', But2 b l H H' → H' t = some (.tup r) → rowOk (regs m.toNat) size r = true → Bag H' b l (n + 5) → Q (.ref t) H'
theorem sc_law_line : FnScope ["bag", "many", "most", "names", "tests", "one", "two", "test", "aim", "way_now"] ["bag", "many", "most"] (defScope s_law_line) := ⟨rfl, rfl, rfl, by decide +kernel, rfl, by decide +kernel, by decide +kernel⟩
theorem bd_law_line (T : Txt w K mg A0) : Binds K A0.d_law_line ["bag", "many", "most"] [] := T.F_law_line.binds fun _ _ _ _ _ _ us hl => match us, hl with | [_, _, _], _ => rfl
set_option maxHeartbeats 0 in
theorem ok_law_line (T : Txt w K mg A0) : FnOk P w K mg base CX0 2 A0.a_law_line A0.d_law_line ["bag", "many", "most"] (sp_law_line K) := by
  refine T.F_law_line.ok sc_law_line (fun vs H Q E h => ?_) (fun cdv A outer s H vs Q E hr h => ?_)
  · obtain ⟨b, l, m, size, n, rfl, _⟩ := h
    rfl
  · obtain ⟨b, l, m, size, n, rfl, h⟩ := h
    refine ⟨_, (pss_cons (ps_par (i := 3) (j := 4) rfl sc_law_line.nd rfl rfl (by decide) rfl rfl (pa_cons (pe_call (ok_law_names T) (hr.mono (by decide)) rfl T.g_law_names T.F_law_names.kp (bd_law_names T) .nil pass0 (pa_cons (pv 1) pa_nil)) (pa_cons (pe_call0 (ok_law_tests T) (hr.mono (by decide)) rfl T.g_law_tests T.F_law_tests.kp (bd_law_tests T) .nil pass0) pa_nil)) rfl)
        (pss_cons (ps_par (i := 5) (j := 6) rfl sc_law_line.nd rfl rfl (by decide) rfl rfl (pa_cons (pe_ix ix_list (pv 3) (pe_call (ok_law_draw T) (hr.mono (by decide)) rfl T.g_law_draw T.F_law_draw.kp (bd_law_draw T) .nil pass0 (pa_cons (pv 0) (pa_cons (pe_callB call_len_seq (by rfl) T.b_len (by decide +kernel) (pa_cons (pv 3) pa_nil)) pa_nil))) (fun _ _ => rfl)) (pa_cons (pe_ix ix_list (pv 3) (pe_call (ok_law_draw T) (hr.mono (by decide)) rfl T.g_law_draw T.F_law_draw.kp (bd_law_draw T) .nil pass0 (pa_cons (pv 0) (pa_cons (pe_callB call_len_seq (by rfl) T.b_len (by decide +kernel) (pa_cons (pv 3) pa_nil)) pa_nil))) (fun _ _ => rfl)) pa_nil)) rfl)
        (pss_cons (ps_par (i := 7) (j := 8) rfl sc_law_line.nd rfl rfl (by decide) rfl rfl (pa_cons (pe_ix ix_list (pv 4) (pe_call (ok_law_draw T) (hr.mono (by decide)) rfl T.g_law_draw T.F_law_draw.kp (bd_law_draw T) .nil pass0 (pa_cons (pv 0) (pa_cons pe_int pa_nil))) (fun _ _ => rfl)) (pa_cons (pe_call (ok_law_draw T) (hr.mono (by decide)) rfl T.g_law_draw T.F_law_draw.kp (bd_law_draw T) .nil pass0 (pa_cons (pv 0) (pa_cons (pe_op op_add (pv 2) pe_int) pa_nil))) pa_nil)) rfl)
        (pss_cons (ps_set (i := 9) sc_law_line.nd rfl (Or.inl rfl) (pe_call (ok_law_draw T) (hr.mono (by decide)) rfl T.g_law_draw T.F_law_draw.kp (bd_law_draw T) .nil pass0 (pa_cons (pv 0) (pa_cons pe_int pa_nil))))
        (pss_cons (ps_if (pt_cmpR op_lt (pv 9) pe_int (nomark _)) (pss_one (ps_ret (pe_tup (pa_cons pe_str (pa_cons (pv 5) (pa_cons (pv 6) pa_nil)))))) pss_nil)
        (pss_cons (ps_if (pt_cmpR op_lt (pv 9) pe_int (nomark _)) (pss_one (ps_ret (pe_tup (pa_cons (pe_ix ix_tup (pe_tup (pa_cons pe_str (pa_cons pe_str pa_nil))) (pe_op op_sub (pv 9) pe_int) (fun _ _ => rfl)) (pa_cons (pv 5) (pa_cons (pv 6) pa_nil)))))) pss_nil)
        (pss_cons (ps_if (pt_cmpR op_lt (pv 9) pe_int (nomark _)) (pss_one (ps_ret (pe_tup (pa_cons pe_str (pa_cons (pv 7) (pa_cons (pv 5) (pa_cons (pv 6) pa_nil))))))) pss_nil)
        (pss_cons (ps_if (pt_cmpR op_lt (pv 9) pe_int (nomark _)) (pss_one (ps_ret (pe_tup (pa_cons pe_str (pa_cons (pv 7) (pa_cons (pv 8) pa_nil)))))) pss_nil)
        (pss_one (ps_ret (pe_ix ix_tup (pe_tup (pa_cons (pe_tup (pa_cons pe_str (pa_cons (pv 8) pa_nil))) (pa_cons (pe_tup (pa_cons pe_str (pa_cons (pv 5) pa_nil))) (pa_cons (pe_tup (pa_cons pe_str (pa_cons (pv 6) pa_nil))) (pa_cons (pe_tup (pa_cons pe_str pa_nil)) pa_nil))))) (pe_op op_sub (pv 9) pe_int) (fun _ _ => rfl)))))))))))), ?_⟩
    obtain ⟨nbl, bag, hn, m1, m4, z0, z1, k⟩ := h
    have l6 := regs_len m.toNat
    have l2 : 2 ≤ (regs m.toNat).length := by unfold regs; rw [List.length_append]; show 2 ≤ _ + 2; omega
    refine ⟨_, rfl, m, rfl, m1, m4, fun tn HA hA sA eN => ⟨(), rfl, fun tt HB hB sB eT => ?_⟩⟩
    have eN := sB _ _ eN
    have sAB := sA.trans sB
    have bagB := bag.same sAB
    obtain ⟨nb1, nl1⟩ := bag.ne hA
    obtain ⟨nb2, nl2⟩ := bag.ne (sA.free hB)
    refine ⟨_, _, rfl, ?_⟩
    refine ⟨_, rfl, _, rfl, _, rfl, tn, _, rfl, .inl (SqL.of eN), b, l, _, n, rfl, nbl, bagB, by omega, by rw [List.length_map]; omega, Int.lt_of_le_of_lt (show _ ≤ (10 : Int) by rw [List.length_map]; omega) (by decide), fun d1 H1 a0 a1 bag1 b1 => ?_⟩
    rw [List.length_map] at a1
    obtain ⟨one, mo, at1⟩ := at_str a0 a1
    refine ⟨tn, _, d1, .str one, rfl, rfl, SqL.of (b1 _ _ nb1 nl1 eN), at1, ?_⟩
    have eN := b1 _ _ nb1 nl1 eN
    refine ⟨_, rfl, _, rfl, _, rfl, tn, _, rfl, .inl (SqL.of eN), b, l, _, _, rfl, nbl, bag1, by omega, by rw [List.length_map]; omega, Int.lt_of_le_of_lt (show _ ≤ (10 : Int) by rw [List.length_map]; omega) (by decide), fun d2 H2 c0 c1 bag2 b2 => ?_⟩
    rw [List.length_map] at c1
    obtain ⟨two, mt, at2⟩ := at_str c0 c1
    refine ⟨tn, _, d2, .str two, rfl, rfl, SqL.of (b2 _ _ nb1 nl1 eN), at2, ?_⟩
    refine ⟨_, _, rfl, ?_⟩
    refine ⟨_, rfl, _, rfl, b, l, 12, _, rfl, nbl, bag2, by omega, by decide, by decide, fun d3 H3 f0 f1 bag3 b3 => ?_⟩
    obtain ⟨cd, mc, at3⟩ := at_str (zs := conds) f0 f1
    have eT := b3 _ _ nb2 nl2 (b2 _ _ nb2 nl2 (b1 _ _ nb2 nl2 eT))
    refine ⟨tt, _, d3, .str cd, rfl, rfl, SqL.of eT, at3, ?_⟩
    refine ⟨_, rfl, _, rfl, _, _, rfl, rfl, b, l, size + 1, _, rfl, nbl, bag3, by omega, by omega, Int.lt_of_le_of_lt (show _ ≤ (5000 : Int) by omega) (by decide), fun aim H4 g0 g1 bag4 b4 => ?_⟩
    refine ⟨_, _, rfl, ?_⟩
    refine ⟨_, rfl, b, l, 16, _, rfl, nbl, bag4, by omega, by decide, by decide, fun way H5 w0 w1 bag5 b5 => ?_⟩
    have fin : ∀ t r H', Same H5 H' → H' t = some (.tup r) → rowOk (regs m.toNat) size r = true → Q (.ref t) H' := fun t r H' s e ok => k t r H' ((But2.of sAB).trans (b1.trans (b2.trans (b3.trans (b4.trans (b5.trans (But2.of s))))))) e ok (bag5.same s)
    clear k bag bagB bag1 bag2 bag3 bag4 bag5 b1 b2 b3 b4 b5 eN eT sA sB sAB at1 at2 at3
    refine ⟨_, rfl, _, _, rfl, rfl, _, rfl, ?_⟩
    by_cases w4 : way < 4
    · refine tT (decide_eq_true w4) ?_
      exact ⟨_, rfl, _, rfl, (by show 3 ≤ sizeLine; decide), fun p hp => fin p _ _ (sameNew hp) upd_same (ok_RR rfl mo mt)⟩
    refine tF (decide_eq_false w4) ?_
    refine ⟨_, rfl, _, _, rfl, rfl, _, rfl, ?_⟩
    by_cases w6 : way < 6
    · refine tT (decide_eq_true w6) ?_
      refine ⟨(by show 2 ≤ sizeLine; decide), fun p hp => ⟨_, rfl, _, _, rfl, rfl, ?_⟩⟩
      obtain ⟨wd, fw, atw⟩ : ∃ wd : Str, fmT.lookup wd = some ("RR" : Str) ∧ atI [V.str "mov", V.str "swap"] (way - 4) = some (.str wd) := by
        have : way - 4 = 0 ∨ way - 4 = 1 := by omega
        rcases this with e | e <;> rw [e]
        · exact ⟨_, by decide +kernel, rfl⟩
        · exact ⟨_, by decide +kernel, rfl⟩
      refine ⟨p, _, way - 4, .str wd, rfl, rfl, SqT.of upd_same, atw, ?_⟩
      exact ⟨_, rfl, _, rfl, (by show 3 ≤ sizeLine; decide), fun q hq => fin q _ _ ((sameNew hp).trans (sameNew hq)) upd_same (ok_RR fw mo mt)⟩
    refine tF (decide_eq_false w6) ?_
    refine ⟨_, rfl, _, _, rfl, rfl, _, rfl, ?_⟩
    by_cases w8 : way < 8
    · refine tT (decide_eq_true w8) ?_
      exact ⟨_, rfl, _, rfl, _, rfl, (by show 4 ≤ sizeLine; decide), fun p hp => fin p _ _ (sameNew hp) upd_same (ok_CRR mc mo mt)⟩
    refine tF (decide_eq_false w8) ?_
    refine ⟨_, rfl, _, _, rfl, rfl, _, rfl, ?_⟩
    by_cases w12 : way < 12
    · refine tT (decide_eq_true w12) ?_
      exact ⟨_, rfl, _, rfl, (by show 3 ≤ sizeLine; decide), fun p hp => fin p _ _ (sameNew hp) upd_same (ok_CT mc ⟨g0, by omega⟩)⟩
    refine tF (decide_eq_false w12) ?_
    refine ⟨_, rfl, (by show 2 ≤ sizeLine; decide), fun p1 q1 => ⟨_, rfl, (by show 2 ≤ sizeLine; decide), fun p2 q2 => ⟨_, rfl, (by show 2 ≤ sizeLine; decide), fun p3 q3 => ⟨(by show 1 ≤ sizeLine; decide), fun p4 q4 => ⟨(by show 4 ≤ sizeLine; decide), fun p5 q5 => ⟨_, rfl, _, _, rfl, rfl, ?_⟩⟩⟩⟩⟩⟩
    have s5 := sameNew q5 (o := .tup [.ref p1, .ref p2, .ref p3, .ref p4])
    have s4 := (sameNew q4 (o := .tup [.str "stop"])).trans s5
    have s3 := (sameNew q3 (o := .tup [.str "out", .str two])).trans s4
    have s2 := (sameNew q2 (o := .tup [.str "out", .str one])).trans s3
    have s1 := (sameNew q1 (o := .tup [.str "jump", .int aim])).trans s2
    have c : way - 12 = 0 ∨ way - 12 = 1 ∨ way - 12 = 2 ∨ way - 12 = 3 := by omega
    show rIxT K (.ref p5) (.int (way - 12)) _ _
    rcases c with e | e | e | e <;> rw [e]
    · exact ⟨p5, _, 0, .ref p1, rfl, rfl, SqT.of upd_same, rfl, fin p1 _ _ s1 (s2 _ _ upd_same) (ok_T ⟨g0, by omega⟩)⟩
    · exact ⟨p5, _, 1, .ref p2, rfl, rfl, SqT.of upd_same, rfl, fin p2 _ _ s1 (s3 _ _ upd_same) (ok_R mo)⟩
    · exact ⟨p5, _, 2, .ref p3, rfl, rfl, SqT.of upd_same, rfl, fin p3 _ _ s1 (s4 _ _ upd_same) (ok_R mt)⟩
    · exact ⟨p5, _, 3, .ref p4, rfl, rfl, SqT.of upd_same, rfl, fin p4 _ _ s1 (s5 _ _ upd_same) ok_0⟩
/-! _law_all_words -/
def sp_law_all_words (K : PySem.W.Frag) : Sp := fun vs H Q E => ∃ n wd : Nat, vs = [.int (n : Nat), .int (wd : Nat)] ∧ 1 ≤ n ∧ n ≤ 3 ∧ 1 ≤ wd ∧ wd ≤ 300 ∧ Q (.int (2 ^ (wd * n))) H
theorem sc_law_all_words : FnScope ["many", "span", "found", "turn"] ["many", "span"] (defScope s_law_all_words) := ⟨rfl, rfl, rfl, by decide +kernel, rfl, by decide +kernel, by decide +kernel⟩
theorem bd_law_all_words (T : Txt w K mg A0) : Binds K A0.d_law_all_words ["many", "span"] [] := T.F_law_all_words.binds fun _ _ _ _ _ _ us hl => match us, hl with | [_, _], _ => rfl
set_option maxHeartbeats 0 in
theorem ok_law_all_words (T : Txt w K mg A0) : FnOk P w K mg base CX0 2 A0.a_law_all_words A0.d_law_all_words ["many", "span"] (sp_law_all_words K) := by
  refine T.F_law_all_words.ok sc_law_all_words (fun vs H Q E h => ?_) (fun cdv A outer s H vs Q E hr h => ?_)
  · obtain ⟨n, wd, rfl, _⟩ := h
    rfl
  · obtain ⟨n, wd, rfl, h⟩ := h
    refine ⟨_, (pss_cons (ps_set (i := 2) sc_law_all_words.nd rfl (Or.inl rfl) pe_int)
        (pss_cons (ps_for PassesOwn.never rfl (pi_range1 rfl T.b_range (pa_cons (pv 0) pa_nil)) (pg_name (i := 3) sc_law_all_words.nd rfl (Or.inl rfl)) (pss_one (ps_set (i := 2) sc_law_all_words.nd rfl (Or.inl rfl) (pe_op op_mulW (pe_op op_mulW (pv 2) pe_int) (pe_call (ok_law_half T) (hr.mono (by decide)) rfl T.g_law_half T.F_law_half.kp (bd_law_half T) .nil pass0 (pa_cons (pv 1) pa_nil))))))
        (pss_one (ps_ret (pv 2))))), ?_⟩
    obtain ⟨n1, n3, w1, w3, k⟩ := h
    refine ⟨_, rfl, (n : Nat), rfl, by omega, by omega, for_range (n := n) (fun i σ H' => ∃ v, σ = [some (.int (n : Nat)), some (.int (wd : Nat)), some (.int (2 ^ (wd * i))), v] ∧ H' = H) ⟨none, rfl, rfl⟩ ?_ ?_⟩
    · rintro i σ H1 hi ⟨v, rfl, rfl⟩
      have i2 : i ≤ 2 := by omega
      have le : wd * i ≤ 600 := Nat.le_trans (Nat.mul_le_mul w3 i2) (by decide)
      have b0 : ((2 : Int) ^ (wd * i)).natAbs < 2 ^ 601 := by
        rw [Int.natAbs_pow]
        exact Nat.pow_lt_pow_right (a := 2) (by decide) (by omega)
      have b1 : ((2 : Int) ^ (wd * i) * 2).natAbs < 2 ^ 602 := by
        rw [Int.natAbs_mul, Nat.pow_succ]
        exact Nat.mul_lt_mul_of_pos_right b0 (by decide)
      have we : ((wd : Int) - 1).toNat = wd - 1 := by omega
      have b2 : ((2 : Int) ^ ((wd : Int) - 1).toNat).natAbs < 2 ^ 301 := by
        rw [Int.natAbs_pow]
        exact Nat.pow_lt_pow_right (a := 2) (by decide) (by omega)
      refine ⟨_, rfl, _, _, rfl, rfl, wide_mul b0 (b := 2) (by decide) (by decide) (by decide) (by decide), _, rfl, (wd : Nat), rfl, by omega, by omega, _, _, rfl, rfl, wide_mul b1 b2 (by decide) (by decide) (by decide), ?_⟩
      refine ⟨some (.int (0 + (i : Nat))), ?_, rfl⟩
      have : (2 : Int) ^ (wd * i) * 2 * 2 ^ ((wd : Int) - 1).toNat = 2 ^ (wd * (i + 1)) := by
        rw [we, Nat.mul_succ]
        obtain ⟨u, rfl⟩ : ∃ u, wd = u + 1 := ⟨wd - 1, by omega⟩
        rw [Nat.add_sub_cancel, Int.pow_add, Int.pow_succ 2 u, Int.mul_assoc, Int.mul_comm 2]
      rw [← this]
      rfl
    · rintro σ H1 ⟨v, rfl, rfl⟩
      exact ⟨_, rfl, k⟩
/-! least_words -/
def sp_least_words (K : PySem.W.Frag) : Sp := fun vs H Q E => ∃ (q rt : Addr) (rs : List Int) (c : Int) (m : Nat) (wd : Int), vs = [.ref q, .int wd] ∧ RkAt H q rt rs c ∧ IsRk rs m ∧ 0 ≤ c ∧ c ≤ (m : Int) ∧ rs.length ≤ 60 ∧ 1 ≤ wd ∧ wd ≤ 1000 ∧ c ≤ 2 ^ (wd - 1).toNat ∧ (m : Int) - c ≤ 2 ^ (wd - 1).toNat ∧ ∀ p H', H p = none → Same H H' → H' p = some (.tup ((rs.map (lw (2 ^ (wd - 1).toNat) c)).map V.int)) → Q (.ref p) H'
theorem sc_least_words : FnScope ["ranking", "width", "ranks", "cut", "rank"] ["ranking", "width"] (defScope s_least_words) := ⟨rfl, rfl, rfl, by decide +kernel, rfl, by decide +kernel, by decide +kernel⟩
theorem bd_least_words (T : Txt w K mg A0) : Binds K A0.d_least_words ["ranking", "width"] [] := T.F_least_words.binds fun _ _ _ _ _ _ us hl => match us, hl with | [_, _], _ => rfl
set_option maxHeartbeats 0 in
theorem ok_least_words (T : Txt w K mg A0) : FnOk P w K mg base CX0 3 A0.a_least_words A0.d_least_words ["ranking", "width"] (sp_least_words K) := by
  refine T.F_least_words.ok sc_least_words (fun vs H Q E h => ?_) (fun cdv A outer s H vs Q E hr h => ?_)
  · obtain ⟨q, rt, rs, c, m, wd, rfl, _⟩ := h
    rfl
  · obtain ⟨q, rt, rs, c, m, wd, rfl, h⟩ := h
    refine ⟨_, (pss_cons (ps_expr (pe_call (ok_check_ranking T) (hr.mono (by decide)) rfl T.g_check_ranking T.F_check_ranking.kp (bd_check_ranking T) .nil pass0 (pa_cons (pv 0) pa_nil)))
        (pss_cons (ps_expr (pe_call (ok_check_width T) (hr.mono (by decide)) rfl T.g_check_width T.F_check_width.kp (bd_check_width T) .nil pass0 (pa_cons (pv 1) pa_nil)))
        (pss_cons (ps_if (pt_not (pt_val (pe_call (ok_fits T) (hr.mono (by decide)) rfl T.g_fits T.F_fits.kp (bd_fits T) .nil pass0 (pa_cons (pv 0) (pa_cons (pv 1) pa_nil))))) (pss_one (ps_ret pe_non)) pss_nil)
        (pss_cons (ps_asg (pv 0) (pg_tup rfl (pgs_cons (pg_name (i := 2) sc_least_words.nd rfl (Or.inl rfl)) (pgs_cons (pg_name (i := 3) sc_least_words.nd rfl (Or.inr rfl)) pgs_nil))))
        (pss_one (ps_ret (pe_callTy call_tuple_of (by rfl) T.b_tuple (by decide +kernel) (pa_cons (pe_lc (own := [("rank", 4)]) (g := gName 4) rfl sc_least_words.nd (pi_tup (pv 2)) (blkOk_by (own := [("rank", 4)]) (N := ["ranking", "width", "ranks", "cut", "rank"]) (sc := defScope s_least_words) (by decide +kernel)) (fun _ _ _ _ _ => pg_name (i := 4) sc_least_words.nd rfl (Or.inl rfl)) (fun _ _ _ _ _ => pts_nil) (fun _ _ _ _ _ => (pe_ifExp (pt_cmpR op_lt (pv 4) (pv 3) (nomark _)) (pv 4) (pe_op op_sub (pe_op op_add (pe_call (ok_sign_bit T) (hr.mono (by decide)) rfl T.g_sign_bit T.F_sign_bit.kp (bd_sign_bit T) .nil pass0 (pa_cons (pv 1) pa_nil)) (pv 4)) (pv 3))))) pa_nil)))))))), ?_⟩
    obtain ⟨hr, is, c0, cm, hz, h1, h2, b1, b2, k⟩ := h
    refine ⟨_, rfl, q, rt, rs, c, m, rfl, hr, is, c0, cm, hz, fun H1 s1 => ?_⟩
    refine ⟨_, rfl, wd, rfl, h1, ?_⟩
    have hr1 := hr.same s1
    refine ⟨_, rfl, _, rfl, q, rt, rs, c, m, wd, rfl, hr1, is, hz, h1, h2, fun H2 s2 => ⟨_, rfl, ?_⟩⟩
    refine tF (by rw [decide_eq_true b1, decide_eq_true b2]; rfl) ?_
    have s12 := s1.trans s2
    have hr2 := hr.same s12
    refine ⟨_, rfl, q, _, rfl, SqT.of hr2.1, rfl, _, _, rfl, _, _, rfl, rfl, ?_⟩
    refine ⟨_, rfl, rt, rfl, ⟨_, SqT.of hr2.2⟩, fun D hD => lc_ints (lw (2 ^ (wd - 1).toNat) c) (SqT.of hr2.2) (by omega) hD (fun _ => rfl) (fun x H3 Q3 _ s3 q3 => ?_) (fun H3 s3 e3 => ?_)⟩
    · have q4 := q3 H3 (Same.refl _)
      unfold lw at q4
      refine ⟨_, rfl, _, rfl, _, _, rfl, rfl, _, rfl, ?_⟩
      by_cases d : x < c
      · rw [if_pos d] at q4
        refine tT (decide_eq_true d) ?_
        exact ⟨_, rfl, q4⟩
      · rw [if_neg d] at q4
        refine tF (decide_eq_false d) ?_
        exact ⟨_, rfl, wd, rfl, h1, h2, _, rfl, _, _, rfl, rfl, _, rfl, _, _, rfl, rfl, q4⟩
    refine ⟨D, _, rfl, .inl ⟨SqL.of e3, fun t ht => ?_⟩⟩
    exact k t _ (s12.free (s3.free ht)) (s12.trans (s3.trans (sameNew ht))) upd_same
/-! count_words -/
def sp_count_words (K : PySem.W.Frag) : Sp := fun vs H Q E => ∃ (q rt : Addr) (rs : List Int) (c : Int) (m : Nat) (wd : Int), vs = [.ref q, .int wd] ∧ RkAt H q rt rs c ∧ IsRk rs m ∧ 0 ≤ c ∧ c ≤ (m : Int) ∧ rs.length ≤ 60 ∧ m ≤ 8 ∧ 1 ≤ wd ∧ wd ≤ 1000 ∧ ∀ H', Same H H' → Q (.int (cmb (2 ^ (wd - 1).toNat) c * cmb (2 ^ (wd - 1).toNat) ((m : Int) - c))) H'
theorem sc_count_words : FnScope ["ranking", "width", "not_negative", "negative"] ["ranking", "width"] (defScope s_count_words) := ⟨rfl, rfl, rfl, by decide +kernel, rfl, by decide +kernel, by decide +kernel⟩
theorem bd_count_words (T : Txt w K mg A0) : Binds K A0.d_count_words ["ranking", "width"] [] := T.F_count_words.binds fun _ _ _ _ _ _ us hl => match us, hl with | [_, _], _ => rfl
set_option maxHeartbeats 0 in
theorem ok_count_words (T : Txt w K mg A0) : FnOk P w K mg base CX0 3 A0.a_count_words A0.d_count_words ["ranking", "width"] (sp_count_words K) := by
  refine T.F_count_words.ok sc_count_words (fun vs H Q E h => ?_) (fun cdv A outer s H vs Q E hr h => ?_)
  · obtain ⟨q, rt, rs, c, m, wd, rfl, _⟩ := h
    rfl
  · obtain ⟨q, rt, rs, c, m, wd, rfl, h⟩ := h
    refine ⟨_, (pss_cons (ps_expr (pe_call (ok_check_ranking T) (hr.mono (by decide)) rfl T.g_check_ranking T.F_check_ranking.kp (bd_check_ranking T) .nil pass0 (pa_cons (pv 0) pa_nil)))
        (pss_cons (ps_expr (pe_call (ok_check_width T) (hr.mono (by decide)) rfl T.g_check_width T.F_check_width.kp (bd_check_width T) .nil pass0 (pa_cons (pv 1) pa_nil)))
        (pss_cons (ps_asg (pe_call (ok_ranks_by_sign T) (hr.mono (by decide)) rfl T.g_ranks_by_sign T.F_ranks_by_sign.kp (bd_ranks_by_sign T) .nil pass0 (pa_cons (pv 0) pa_nil)) (pg_tup rfl (pgs_cons (pg_name (i := 2) sc_count_words.nd rfl (Or.inl rfl)) (pgs_cons (pg_name (i := 3) sc_count_words.nd rfl (Or.inl rfl)) pgs_nil))))
        (pss_one (ps_ret (pe_op op_mulW (pe_callBfun cr_comb rfl T.gf_comb (pa_cons (pe_call (ok_sign_bit T) (hr.mono (by decide)) rfl T.g_sign_bit T.F_sign_bit.kp (bd_sign_bit T) .nil pass0 (pa_cons (pv 1) pa_nil)) (pa_cons (pv 2) pa_nil))) (pe_callBfun cr_comb rfl T.gf_comb (pa_cons (pe_call (ok_sign_bit T) (hr.mono (by decide)) rfl T.g_sign_bit T.F_sign_bit.kp (bd_sign_bit T) .nil pass0 (pa_cons (pv 1) pa_nil)) (pa_cons (pv 3) pa_nil))))))))), ?_⟩
    obtain ⟨hr, is, c0, cm, hz, m8, h1, h2, k⟩ := h
    have hp0 := pow_pos (wd - 1).toNat
    have hp1 : (2 : Int) ^ (wd - 1).toNat ≤ 2 ^ 1000 := pow_le (by omega)
    have lg := fun (k : Int) (k0 : 0 ≤ k) (k8 : k ≤ 8) => cmb_log (n := 2 ^ (wd - 1).toNat) (Int.le_of_lt hp0) hp1 k0 k8
    refine ⟨_, rfl, q, rt, rs, c, m, rfl, hr, is, c0, cm, hz, fun H1 s1 => ?_⟩
    refine ⟨_, rfl, wd, rfl, h1, ?_⟩
    refine ⟨_, rfl, q, rt, rs, c, m, rfl, hr.same s1, is, hz, fun p H2 s2 e2 => ?_⟩
    refine ⟨p, _, rfl, SqT.of e2, rfl, _, _, rfl, _, _, rfl, rfl, ?_⟩
    obtain ⟨a1, a2⟩ := lg c c0 (by omega)
    obtain ⟨b1, b2⟩ := lg ((m : Int) - c) (by omega) (by omega)
    refine ⟨_, rfl, wd, rfl, h1, h2, _, rfl, _, c, rfl, Int.le_of_lt hp0, c0, by omega, a1, ?_⟩
    refine ⟨_, rfl, wd, rfl, h1, h2, _, rfl, _, (m : Int) - c, rfl, Int.le_of_lt hp0, by omega, by omega, b1, ?_⟩
    exact ⟨_, _, rfl, rfl, by show _ + _ < 1000000; omega, k _ (s1.trans s2)⟩
/-! count_rankings -/
def sp_count_rankings (K : PySem.W.Frag) : Sp := fun vs H Q E => ∃ n : Nat, vs = [.int (n : Int)] ∧ 1 ≤ n ∧ n ≤ 5 ∧ ∀ H', Same H H' → Q (.int ((allRk n).length : Int)) H'
theorem sc_count_rankings : FnScope ["items"] ["items"] (defScope s_count_rankings) := ⟨rfl, rfl, rfl, by decide +kernel, rfl, by decide +kernel, by decide +kernel⟩
theorem bd_count_rankings (T : Txt w K mg A0) : Binds K A0.d_count_rankings ["items"] [] := T.F_count_rankings.binds fun _ _ _ _ _ _ us hl => match us, hl with | [_], _ => rfl
theorem ok_count_rankings (T : Txt w K mg A0) : FnOk P w K mg base CX0 3 A0.a_count_rankings A0.d_count_rankings ["items"] (sp_count_rankings K) := by
  refine T.F_count_rankings.ok sc_count_rankings (fun vs H Q E h => ?_) (fun cdv A outer s H vs Q E hr h => ?_)
  · obtain ⟨n, rfl, _⟩ := h
    rfl
  · obtain ⟨n, rfl, h⟩ := h
    refine ⟨_, (pss_cons (ps_expr (pe_call (ok_check_items T) (hr.mono (by decide)) rfl T.g_check_items T.F_check_items.kp (bd_check_items T) .nil pass0 (pa_cons (pv 0) pa_nil)))
        (pss_one (ps_ret (pe_callB call_len_seq (by rfl) T.b_len (by decide +kernel) (pa_cons (pe_call (ok_all_rankings T) (hr.mono (by decide)) rfl T.g_all_rankings T.F_all_rankings.kp (bd_all_rankings T) .nil pass0 (pa_cons (pv 0) pa_nil)) pa_nil))))), ?_⟩
    obtain ⟨n1, n5, k⟩ := h
    refine ⟨_, rfl, n, rfl, n1, n5, ?_⟩
    refine ⟨_, rfl, n, rfl, n1, n5, fun l qs H1 hl s1 e1 r1 => ?_⟩
    refine ⟨l, _, rfl, .inl (SqL.of e1), ?_⟩
    rw [List.length_map, pr_len r1]
    exact k _ s1
/-! nth_ranking -/
def sp_nth_ranking (K : PySem.W.Frag) : Sp := fun vs H Q E => ∃ (n : Nat) (j : Int), vs = [.int (n : Int), .int j] ∧ 1 ≤ n ∧ n ≤ 5 ∧ 0 ≤ j ∧ j < ((allRk n).length : Int) ∧ ∀ q rt p H', (allRk n)[j.toNat]? = some p → Same H H' → RkAt H' q rt p.1 p.2 → Q (.ref q) H'
theorem sc_nth_ranking : FnScope ["items", "number", "rankings"] ["items", "number"] (defScope s_nth_ranking) := ⟨rfl, rfl, rfl, by decide +kernel, rfl, by decide +kernel, by decide +kernel⟩
theorem bd_nth_ranking (T : Txt w K mg A0) : Binds K A0.d_nth_ranking ["items", "number"] [] := T.F_nth_ranking.binds fun _ _ _ _ _ _ us hl => match us, hl with | [_, _], _ => rfl
theorem ok_nth_ranking (T : Txt w K mg A0) : FnOk P w K mg base CX0 3 A0.a_nth_ranking A0.d_nth_ranking ["items", "number"] (sp_nth_ranking K) := by
  refine T.F_nth_ranking.ok sc_nth_ranking (fun vs H Q E h => ?_) (fun cdv A outer s H vs Q E hr h => ?_)
  · obtain ⟨n, j, rfl, _⟩ := h
    rfl
  · obtain ⟨n, j, rfl, h⟩ := h
    refine ⟨_, (pss_cons (ps_expr (pe_call (ok_check_items T) (hr.mono (by decide)) rfl T.g_check_items T.F_check_items.kp (bd_check_items T) .nil pass0 (pa_cons (pv 0) pa_nil)))
        (pss_cons (ps_set (i := 2) sc_nth_ranking.nd rfl (Or.inl rfl) (pe_call (ok_all_rankings T) (hr.mono (by decide)) rfl T.g_all_rankings T.F_all_rankings.kp (bd_all_rankings T) .nil pass0 (pa_cons (pv 0) pa_nil)))
        (pss_cons (ps_if (PW.pt (pw_or (pt_cmpR op_lt (pv 1) pe_int (nomark _)) (pw_or1 (pt_cmpR op_ge (pv 1) (pe_callB call_len_seq (by rfl) T.b_len (by decide +kernel) (pa_cons (pv 2) pa_nil)) (nomark _))))) (pss_one ps_never) pss_nil)
        (pss_one (ps_ret (pe_ix ix_list (pv 2) (pv 1) (fun _ _ => rfl))))))), ?_⟩
    obtain ⟨n1, n5, j0, j1, k⟩ := h
    refine ⟨_, rfl, n, rfl, n1, n5, ?_⟩
    refine ⟨_, rfl, n, rfl, n1, n5, fun l qs H1 hl s1 e1 r1 => ?_⟩
    have lq := pr_len r1
    refine ⟨_, rfl, _, _, rfl, rfl, _, rfl, ?_⟩
    refine tF (decide_eq_false (by omega)) ?_
    refine ⟨_, rfl, _, rfl, l, _, rfl, .inl (SqL.of e1), _, _, rfl, rfl, _, rfl, ?_⟩
    refine tF (decide_eq_false (by rw [List.length_map]; omega)) ?_
    obtain ⟨q, hq⟩ : ∃ q, qs[j.toNat]? = some q := ⟨_, List.getElem?_eq_getElem (by omega)⟩
    obtain ⟨p, hp, rt, hr9⟩ := pr_at r1 hq
    exact ⟨_, rfl, _, rfl, l, _, j, .ref q, rfl, rfl, SqL.of e1, at_of (j := j.toNat) (by omega) (by rw [List.getElem?_map, hq]; rfl), k q rt p _ hp s1 hr9⟩
/-! rankings_at -/
def sp_rankings_at (K : PySem.W.Frag) : Sp := fun vs H Q E => ∃ n wd : Nat, vs = [.int (n : Nat), .int (wd : Nat)] ∧ n ∈ [1, 2, 3] ∧ wd ∈ [3, 8, 64, 300] ∧ ∀ l qs H', H l = none → Same H H' → H' l = some (.lst (qs.map V.ref)) → RL H' qs (allRk n) → Q (.ref l) H'
theorem sc_rankings_at : FnScope ["items", "width", "ranking"] ["items", "width"] (defScope s_rankings_at) := ⟨rfl, rfl, rfl, by decide +kernel, rfl, by decide +kernel, by decide +kernel⟩
theorem bd_rankings_at (T : Txt w K mg A0) : Binds K A0.d_rankings_at ["items", "width"] [] := T.F_rankings_at.binds fun _ _ _ _ _ _ us hl => match us, hl with | [_, _], _ => rfl
set_option maxHeartbeats 0 in
theorem ok_rankings_at (T : Txt w K mg A0) : FnOk P w K mg base CX0 3 A0.a_rankings_at A0.d_rankings_at ["items", "width"] (sp_rankings_at K) := by
  refine T.F_rankings_at.ok sc_rankings_at (fun vs H Q E h => ?_) (fun cdv A outer s H vs Q E hr h => ?_)
  · obtain ⟨n, wd, rfl, _⟩ := h
    rfl
  · obtain ⟨n, wd, rfl, h⟩ := h
    refine ⟨_, (pss_one (ps_ret (pe_lc (own := [("ranking", 2)]) (g := gName 2) rfl sc_rankings_at.nd (pi_list (pe_call (ok_all_rankings T) (hr.mono (by decide)) rfl T.g_all_rankings T.F_all_rankings.kp (bd_all_rankings T) .nil pass0 (pa_cons (pv 0) pa_nil))) (blkOk_by (own := [("ranking", 2)]) (N := ["items", "width", "ranking"]) (sc := defScope s_rankings_at) (by decide +kernel)) (fun _ _ _ _ _ => pg_name (i := 2) sc_rankings_at.nd rfl (Or.inl rfl)) (fun _ _ _ _ _ => pts_one (PW.pt (pw_or (pt_cmpR op_isN (pv 1) pe_non (nomark _)) (pw_or1 (pt_val (pe_call (ok_fits T) (hr.mono (by decide)) rfl T.g_fits T.F_fits.kp (bd_fits T) .nil pass0 (pa_cons (pv 2) (pa_cons (pv 1) pa_nil)))))))) (fun _ _ _ _ _ => (pv 2))))), ?_⟩
    obtain ⟨hn, hw, k⟩ := h
    have n13 : 1 ≤ n ∧ n ≤ 3 := by simp at hn; omega
    have w13 : 3 ≤ wd ∧ wd ≤ 300 := by simp at hw; omega
    refine ⟨_, rfl, n, rfl, n13.1, by omega, fun l qs H1 hl s1 e1 r1 => ?_⟩
    have l44 := len44 n hn
    have lq := pr_len r1
    have chk := chkF_is hn hw
    refine ⟨l, rfl, ⟨_, SqL.of e1⟩, fun D hD => lc_list (K := K) (a := l) (xs := qs.map V.ref) (fun i H' => Same H1 H' ∧ H' D = some (.lst ((qs.take i).map V.ref))) ⟨sameNew hD, upd_same⟩ (fun i H _ q => SqL.of (q.1 _ _ e1)) ?_ ?_⟩
    · rintro i x H2 hx ⟨s2, eD⟩
      obtain ⟨q, hq, rfl⟩ := refAt hx
      obtain ⟨p, hp, rt, hr9⟩ := pr_at r1 hq
      obtain ⟨lp, isr, p0, pm⟩ := ok_at n13.1 (by omega) (List.mem_of_getElem? hp)
      have fit : fitB wd p = true := (chk.each p (List.mem_of_getElem? hp)).2.2.2.2
      unfold fitB at fit
      refine ⟨rfl, ?_⟩
      refine ⟨_, rfl, rfl, _, rfl, ?_⟩
      refine tF (decide_eq_false fun z => (nomatch z)) ?_
      refine ⟨_, rfl, _, rfl, q, rt, p.1, p.2, (srt p.1).length, (wd : Nat), rfl, hr9.same s2, isr, by omega, by omega, by omega, fun H3 s3 => ?_⟩
      have we : ((wd : Int) - 1).toNat = wd - 1 := by omega
      rw [we]
      refine ⟨_, rfl, ?_⟩
      refine tT fit ?_
      have eD3 := s3 _ _ eD
      refine ⟨_, rfl, _, eD3, small1000 (by rw [List.length_map, List.length_take]; omega), sameUp (s2.trans s3) hD, ?_⟩
      rw [upd_same, tkS hq, List.map_append]
      rfl
    · rintro H2 ⟨s2, eD⟩
      rw [List.length_map, List.take_length] at eD
      exact k D qs H2 (s1.free hD) (s1.trans s2) eD (RL.same r1 s2)
/-! Program.__init__ -/
def sp_Program___init (K : PySem.W.Frag) (A0 : Ad) : Sp := fun vs H Q E => ∃ (p dx l : Addr) (n : Int) (as : List Addr) (rs : List (List V)), vs = [.ref p, .int n, .ref l] ∧ H p = some (.ins A0.c_Program dx []) ∧ H l = some (.lst (as.map V.ref)) ∧ RowsAt H as rs ∧ rs.length ≤ 4000 ∧ (∀ r ∈ rs, RowIs r) ∧ (1 ≤ n → n ≤ 4 → (∀ r ∈ rs, rowOk (regs n.toNat) rs.length r = true) → ∀ H', (∀ b o, b ≠ p → H b = some o → H' b = some o) → ProgAt K H' A0.c_Program p n as rs → (∀ dx2 l2 t2, H' p = some (.ins A0.c_Program dx2 [("_inputs", .int n), ("_rows", .ref l2), ("_placed", .ref t2)]) → H l2 = none) → Q .non H') ∧ (¬ (1 ≤ n ∧ n ≤ 4) → ∀ d H', H d = none → Same H H' → H' d = some (.xd [("value", .non)]) → E (.ref A0.c_InvalidProgram) (some d) H') ∧ (1 ≤ n → n ≤ 4 → ∀ (i : Nat) (r : List V), rs[i]? = some r → rowOk (regs n.toNat) rs.length r = false → (∀ (j : Nat) (y : List V), j < i → rs[j]? = some y → rowOk (regs n.toNat) rs.length y = true) → ∀ d H', H d = none → Same H H' → H' d = some (.xd [("value", .int (i : Nat))]) → E (.ref A0.c_InvalidProgram) (some d) H')
theorem sc_Program___init : FnScope ["self", "inputs", "rows", "names", "index", "row"] ["self", "inputs", "rows"] (defScope s_Program___init) := ⟨rfl, rfl, rfl, by decide +kernel, rfl, by decide +kernel, by decide +kernel⟩
theorem bd_Program___init (T : Txt w K mg A0) : Binds K A0.d_Program___init ["self", "inputs", "rows"] [] := T.F_Program___init.binds fun _ _ _ _ _ _ us hl => match us, hl with | [_, _, _], _ => rfl
set_option maxHeartbeats 0 in
theorem ok_Program___init (T : Txt w K mg A0) : FnOk P w K mg base (L2.CX P w) 3 A0.a_Program___init A0.d_Program___init ["self", "inputs", "rows"] (sp_Program___init K A0) := by
  refine T.F_Program___init.okX sc_Program___init (fun vs H Q E h => ?_) (fun cdv A outer s H vs Q E hr h => ?_)
  · obtain ⟨p, dx, l, n, as, rs, rfl, _⟩ := h
    rfl
  · obtain ⟨p, dx, l, n, as, rs, rfl, h⟩ := h
    refine ⟨_, (pss_cons (ps_if (PW.pt (pw_or (pt_cmpR op_lt (pv 1) pe_int (nomark _)) (pw_or1 (pt_cmpR op_gt (pv 1) (pe_callB call_len_seq (by rfl) T.b_len (by decide +kernel) (pa_cons (pe_glob (v := .ref A0.v_INPUT_NAMES) rfl T.gv_INPUT_NAMES rfl) pa_nil)) (nomark _))))) (pss_one (ps_raise rfl (takes_of rfl rfl rfl rfl) (pmk_oex (T.er_InvalidProgram).ox (T.er_InvalidProgram).ii (T.er_InvalidProgram).ti (okI_InvalidProgram T) (hr.mono (by decide)) (bdI_InvalidProgram T) .nil pass0 rfl T.gc_InvalidProgram (pa_cons pe_non pa_nil)))) pss_nil)
        (pss_cons (ps_set (i := 3) sc_Program___init.nd rfl (Or.inr rfl) (pe_call (ok_register_names T) (hr.mono (by decide)) rfl T.g_register_names T.F_register_names.kp (bd_register_names T) .nil pass0 (pa_cons (pv 1) pa_nil)))
        (pss_cons (ps_for (passes_of rfl) rfl (pi_enum rfl T.b_enumerate (pa_cons (pv 2) pa_nil)) (pg_tup rfl (pgs_cons (pg_name (i := 4) sc_Program___init.nd rfl (Or.inl rfl)) (pgs_cons (pg_name (i := 5) sc_Program___init.nd rfl (Or.inl rfl)) pgs_nil))) (pss_one (ps_if (pt_not (pt_val (pe_call (ok_is_row T) (hr.mono (by decide)) rfl T.g_is_row T.F_is_row.kp (bd_is_row T) .nil pass0 (pa_cons (pv 5) (pa_cons (pv 3) (pa_cons (pe_callB call_len_seq (by rfl) T.b_len (by decide +kernel) (pa_cons (pv 2) pa_nil)) pa_nil)))))) (pss_one (ps_raise rfl (takes_of rfl rfl rfl rfl) (pmk_oex (T.er_InvalidProgram).ox (T.er_InvalidProgram).ii (T.er_InvalidProgram).ti (okI_InvalidProgram T) (hr.mono (by decide)) (bdI_InvalidProgram T) .nil pass0 rfl T.gc_InvalidProgram (pa_cons (pv 4) pa_nil)))) pss_nil)))
        (pss_cons (ps_fld (pv 0) (pv 1) rfl)
        (pss_cons (ps_fld (pv 0) (pe_callTy call_list_of (by rfl) T.b_list (by decide +kernel) (pa_cons (pv 2) pa_nil)) rfl)
        (pss_one (ps_fld (pv 0) (pe_callTy call_tuple_of (by rfl) T.b_tuple (by decide +kernel) (pa_cons (pe_lc (own := [("row", 5)]) (g := gName 5) rfl sc_Program___init.nd (pi_list (pv 2)) (blkOk_by (own := [("row", 5)]) (N := ["self", "inputs", "rows", "names", "index", "row"]) (sc := defScope s_Program___init) (by decide +kernel)) (fun _ _ _ _ _ => pg_name (i := 5) sc_Program___init.nd rfl (Or.inl rfl)) (fun _ _ _ _ _ => pts_nil) (fun _ _ _ _ _ => (pe_call (ok_placed_row T) (hr.mono (by decide)) rfl T.g_placed_row T.F_placed_row.kp (bd_placed_row T) .nil pass0 (pa_cons (pv 5) (pa_cons (pv 3) pa_nil))))) pa_nil)) rfl))))))), ?_⟩
    obtain ⟨hp, hl, hr1, hz, hw, k, e1, e2⟩ := h
    refine ⟨_, rfl, _, _, rfl, rfl, _, rfl, ?_⟩
    by_cases c1 : n < 1
    · refine tT (decide_eq_true c1) ?_
      refine tT rfl ?_
      exact mkO_end fun d hd => e1 (fun z => by omega) d _ hd (sameNew hd) upd_same
    refine tF (decide_eq_false c1) ?_
    refine ⟨_, rfl, A0.v_INPUT_NAMES, _, rfl, .inr T.tv_INPUT_NAMES.sq, _, _, rfl, rfl, _, rfl, ?_⟩
    by_cases c2 : (4 : Int) < n
    · refine tT (decide_eq_true c2) ?_
      exact mkO_end fun d hd => e1 (fun z => by omega) d _ hd (sameNew hd) upd_same
    refine tF (decide_eq_false c2) ?_
    refine ⟨_, rfl, n, rfl, by omega, by omega, fun t H1 ht s1 nt => ?_⟩
    have la : as.length = rs.length := Paired.length hr1
    have hl1 := s1 _ _ hl
    refine ⟨_, rfl, l, _, rfl, SqL.of hl1, for_it walk_enum (fun i σ H' => ∃ u4 u5, σ = [some (.ref p), some (.int n), some (.ref l), some (.ref t), u4, u5] ∧ Same H1 H' ∧ ∀ (j : Nat) (y : List V), j < i → rs[j]? = some y → rowOk (regs n.toNat) rs.length y = true) ⟨none, none, rfl, Same.refl _, fun j y z => absurd z (Nat.not_lt_zero j)⟩ (fun i σ H' _ ⟨_, _, _, s, _⟩ => SqL.of (s _ _ hl1)) ?_ ?_⟩
    · rintro i x σ H2 H3 hi ⟨u4, u5, rfl, s2, pre⟩ ⟨T1, x1, y1, rfl, fr, rfl, f1, f2⟩
      cases f1
      obtain ⟨a, ha, rfl⟩ := refAt f2
      obtain ⟨r, hr2, er⟩ := prG hr1 ha
      have s3 : Same H1 (upd H2 T1 (.tup [.int (i : Nat), .ref a])) := s2.trans (sameNew fr)
      refine ⟨T1, _, rfl, SqT.of upd_same, rfl, _, _, rfl, _, _, rfl, rfl, ?_⟩
      refine ⟨_, rfl, _, rfl, _, rfl, l, _, rfl, .inl (SqL.of (s3 _ _ hl1)), a, t, r, regs n.toNat, _, rfl, s3 _ _ (s1 _ _ er), hw r (List.mem_of_getElem? hr2), (nt.same s3).sq, fun H4 s4 => ⟨_, rfl, ?_⟩⟩
      rw [List.length_map, la]
      cases ok : rowOk (regs n.toNat) rs.length r with
      | true =>
        refine tF rfl ?_
        refine ⟨_, _, rfl, s3.trans s4, fun j y hj hy => ?_⟩
        by_cases cj : j = i
        · rw [cj, hr2] at hy
          cases hy
          exact ok
        · exact pre j y (by omega) hy
      | false =>
        refine tT rfl ?_
        have sAll := s1.trans (s3.trans s4)
        exact ⟨_, rfl, mkO_end fun d hd => e2 (by omega) (by omega) i r hr2 ok pre d _ (sAll.free hd) (sAll.trans (sameNew hd)) upd_same⟩
    rintro σ H2 ⟨u4, u5, rfl, s2, pre⟩
    rw [List.length_map, la] at pre
    have all : ∀ r ∈ rs, rowOk (regs n.toNat) rs.length r = true := fun r m => by
      obtain ⟨j, hj, e⟩ := List.mem_iff_getElem.mp m
      exact pre j r hj (by rw [List.getElem?_eq_getElem hj, e])
    have s02 := s1.trans s2
    have hp2 := s02 _ _ hp
    have hl2 := s02 _ _ hl
    have nlp : l ≠ p := fun z => by rw [z, hp] at hl; cases hl
    refine ⟨_, rfl, _, rfl, p, A0.c_Program, dx, [], rfl, hp2, T.cl_Program, T.nf_Program__inputs, (by show 0 < 1000; decide), ?_⟩
    have hl3 := (upd_ne (H := H2) (o := .ins A0.c_Program dx (putF "_inputs" (.int n) [])) nlp).trans hl2
    refine ⟨_, rfl, l, _, rfl, .inl (SqL.of hl3), fun l2 hl2n => ?_⟩
    have nl2 : l2 ≠ p := fun z => by rw [z, upd_same] at hl2n; cases hl2n
    refine ⟨_, rfl, p, A0.c_Program, dx, _, rfl, (upd_ne (Ne.symm nl2)).trans upd_same, T.cl_Program, T.nf_Program__rows, (by show 1 < 1000; decide), ?_⟩
    have hl2f : H2 l2 = none := by rw [upd_ne nl2] at hl2n; exact hl2n
    obtain ⟨H6, eH⟩ : ∃ H6, H6 = (upd (upd (upd H2 p (.ins A0.c_Program dx (putF "_inputs" (.int n) []))) l2 (.lst (as.map V.ref))) p (.ins A0.c_Program dx (putF "_rows" (.ref l2) (putF "_inputs" (.int n) [])))) := ⟨_, rfl⟩
    have kp6 : ∀ b o, b ≠ p → H2 b = some o → H6 b = some o := fun b o nb e => by
      rw [eH, upd_ne nb, upd_ne (ne_of_none e hl2f), upd_ne nb]
      exact e
    have e6p : H6 p = some (.ins A0.c_Program dx (putF "_rows" (.ref l2) (putF "_inputs" (.int n) []))) := by rw [eH, upd_same]
    have e6l2 : H6 l2 = some (.lst (as.map V.ref)) := by rw [eH, upd_ne nl2, upd_same]
    have e6l := kp6 _ _ nlp hl2
    have hr6 : RowsAt H6 as rs := prm hr1 fun a r e => kp6 a _ (fun z => by rw [z, hp] at e; cases e) (s02 _ _ e)
    have nt6 : NmAt H6 t (regs n.toNat) := by
      obtain ⟨o, e, oc, od⟩ := nt.same s2
      exact ⟨o, kp6 t _ (fun z => by rw [z, hp2] at e; cases e) e, oc, od⟩
    change (_ : Ends).nx _ (upd (upd (upd H2 p (.ins A0.c_Program dx (putF "_inputs" (.int n) []))) l2 (.lst (as.map V.ref))) p (.ins A0.c_Program dx (putF "_rows" (.ref l2) (putF "_inputs" (.int n) []))))
    rw [← eH]
    clear eH
    refine ⟨_, rfl, l, rfl, ⟨_, SqL.of e6l⟩, fun D hD => lc_list (xs := as.map V.ref) (fun i H' => Same H6 H' ∧ ∃ ps : List Addr, H' D = some (.lst (ps.map V.ref)) ∧ Paired (PlAt K H' (regs n.toNat)) ps (rs.take i)) ⟨sameNew hD, [], upd_same, .nil⟩ (fun i H' _ q => SqL.of (q.1 _ _ e6l)) ?_ ?_⟩
    · rintro i x H7 hx ⟨s7, ps, eD, pr⟩
      obtain ⟨a, ha, rfl⟩ := refAt hx
      obtain ⟨r, hr2, er⟩ := prG hr6 ha
      have ok := all r (List.mem_of_getElem? hr2)
      obtain ⟨w, xs, f, rfl, fl⟩ := rowOk_shape ok
      refine ⟨rfl, ?_⟩
      refine yesR ?_
      refine tT rfl ?_
      refine ⟨_, rfl, _, rfl, a, t, w, xs, f, regs n.toNat, _, rfl, s7 _ _ er, fl, ok, nt6.same s7, fun q H8 hq s8 pl => ?_⟩
      have eD8 := s8 _ _ eD
      have lp := Paired.length pr
      refine ⟨_, eD8, small9k (by rw [List.length_map, lp, List.length_take]; omega), sameUp (s7.trans s8) hD, ps ++ [q], by rw [upd_same, List.map_append]; rfl, ?_⟩
      rw [tkS hr2]
      exact pra (prm pr fun _ _ e => (e.same s8).up eD8) (.cons (pl.up eD8) .nil)
    rintro H7 ⟨s7, ps, eD, pr⟩
    rw [List.length_map, la, List.take_length] at pr
    refine ⟨D, _, rfl, .inl ⟨SqL.of eD, fun tt htt => ?_⟩⟩
    have st := s7.trans (sameNew htt (o := .tup (ps.map V.ref)))
    refine ⟨_, rfl, p, A0.c_Program, dx, _, rfl, st _ _ e6p, T.cl_Program, T.nf_Program__placed, (by show 2 < 1000; decide), ?_⟩
    have ntp : tt ≠ p := fun z => by rw [z, s7 _ _ e6p] at htt; cases htt
    refine k (by omega) (by omega) all _ (fun b o nb e => ?_) ⟨dx, l2, tt, ps, ?_, ?_, ?_, ?_, ?_, by omega, by omega, hz, hw, all⟩ (fun dx2 l9 t2 e9 => ?_)
    · exact (upd_ne nb).trans (st _ _ (kp6 _ _ nb (s02 _ _ e)))
    · exact upd_same.trans (congrArg (fun l => some (HO.ins A0.c_Program dx l)) (fld3 _ _ _))
    · exact (upd_ne nl2).trans (st _ _ e6l2)
    · exact prm hr6 fun a r e => (upd_ne (fun z => by rw [z, e6p] at e; cases e)).trans (st _ _ e)
    · exact (upd_ne ntp).trans upd_same
    · exact prm pr fun a r e => (e.same (sameNew htt)).tp fun b xs q => (upd_ne (fun z => by rw [z, st _ _ e6p] at q; cases q)).trans q
    · have q := (upd_same.trans (congrArg (fun l => some (HO.ins A0.c_Program dx l)) (fld3 _ _ _))).symm.trans e9
      injection q with q
      injection q with _ _ q
      injection q with _ q
      injection q with q _
      injection q with _ q
      injection q with q
      rw [← q]
      exact s02.free hl2f
/-! walk -/
def sp_walk (K : PySem.W.Frag) (A0 : Ad) : Sp := fun vs H Q E => ∃ (t : Addr) (cut : Int) (a : Addr) (ns : List Str) (rs : List (List V)) (ws : List Int), vs = [.ref t, .int cut, .ref a] ∧ Placed K H t ns rs ∧ SqT K H a (ws.map V.int) ∧ ws ≠ [] ∧ ws.length + 2 = ns.length ∧ ns.length ≤ 100 ∧ mostM rs ns ws < sizeLine ∧ ∀ (n : Nat) (ending : Str) (as : List Addr) (p l last : Addr) (H' : Hp), Same H H' → WalkIs ns rs cut (begM ws) n ending → H' p = some (.tup [.ref l, .ref last, .str ending]) → H' l = some (.lst (as.map V.ref)) → Paired (StAt H') as ((List.range n).map (itM ns rs cut (begM ws))) → StAt H' last (itM ns rs cut (begM ws) n) → n ≤ mostM rs ns ws → Q (.ref p) H'
theorem sc_walk : FnScope ["rows", "cut", "values", "passed", "state", "ending"] ["rows", "cut", "values"] (defScope s_walk) := ⟨rfl, rfl, rfl, by decide +kernel, rfl, by decide +kernel, by decide +kernel⟩
theorem bd_walk (T : Txt w K mg A0) : Binds K A0.d_walk ["rows", "cut", "values"] [] := T.F_walk.binds fun _ _ _ _ _ _ us hl => match us, hl with | [_, _, _], _ => rfl
set_option maxHeartbeats 0 in
theorem ok_walk (T : Txt w K mg A0) : FnOk P w K mg base CX0 3 A0.a_walk A0.d_walk ["rows", "cut", "values"] (sp_walk K A0) := by
  refine T.F_walk.ok sc_walk (fun vs H Q E h => ?_) (fun cdv A outer s H vs Q E hr h => ?_)
  · obtain ⟨t, cut, a, ns, rs, ws, rfl, _⟩ := h
    rfl
  · obtain ⟨t, cut, a, ns, rs, ws, rfl, h⟩ := h
    refine ⟨_, (pss_cons (ps_set (i := 3) sc_walk.nd rfl (Or.inl rfl) pe_dnewN)
        (pss_cons (ps_set (i := 4) sc_walk.nd rfl (Or.inl rfl) (pe_call (ok_first_state T) (hr.mono (by decide)) rfl T.g_first_state T.F_first_state.kp (bd_first_state T) .nil pass0 (pa_cons (pv 2) pa_nil)))
        (pss_cons (ps_set (i := 5) sc_walk.nd rfl (Or.inl rfl) (pe_call (ok_ending_at T) (hr.mono (by decide)) rfl T.g_ending_at T.F_ending_at.kp (bd_ending_at T) .nil pass0 (pa_cons (pv 0) (pa_cons (pv 4) pa_nil))))
        (pss_cons (ps_while PassesOwn.never (pt_cmpR op_isN (pv 5) pe_non (nomark _)) (pss_cons (ps_asg pe_bl (pg_sub (pv 3) (pv 4) (set_nd hr.units)))
        (pss_cons (ps_set (i := 4) sc_walk.nd rfl (Or.inl rfl) (pe_call (ok_state_behind T) (hr.mono (by decide)) rfl T.g_state_behind T.F_state_behind.kp (bd_state_behind T) .nil pass0 (pa_cons (pv 0) (pa_cons (pv 1) (pa_cons (pv 4) pa_nil)))))
        (pss_one (ps_set (i := 5) sc_walk.nd rfl (Or.inl rfl) (pe_ifExp (pt_cmpR (op_inN hr.units) (pv 4) (pv 3) rfl) pe_str (pe_call (ok_ending_at T) (hr.mono (by decide)) rfl T.g_ending_at T.F_ending_at.kp (bd_ending_at T) .nil pass0 (pa_cons (pv 0) (pa_cons (pv 4) pa_nil)))))))))
        (pss_one (ps_ret (pe_tup (pa_cons (pe_callTy (call_listN rfl) (by rfl) T.b_list (by decide +kernel) (pa_cons (pv 3) pa_nil)) (pa_cons (pv 4) (pa_cons (pv 5) pa_nil)))))))))), ?_⟩
    obtain ⟨pl, ha, w0, wl, hn, hz, k⟩ := h
    have rok : ∀ r ∈ rs, RowC ns rs.length r := pl.choose_spec.2.2.1
    have mok := beg_ok (n := rs.length) w0 wl
    refine fun d hd => ?_
    refine ⟨_, rfl, a, ws, rfl, sameT (sameNew hd) ha, w0, (by omega), fun st H1 f1 s1 e1 => ?_⟩
    refine ⟨_, rfl, _, rfl, t, st, ns, rs, ws, begM ws, rfl, (pl.same (sameNew hd)).same s1, e1, mok, ?_⟩
    refine ⟨fun m σ H2 => ∃ n kvs b e, m + n = mostM rs ns ws + 1 ∧ EndIs ns rs cut (begM ws) n e ∧ σ = [some (V.ref t), some (V.int cut), some (V.ref a), some (V.ref d), some (V.ref b), some (match e with | none => V.non | some z => V.str z)] ∧ Same H H2 ∧ NDict K P w H2 d kvs ∧ Come H2 ns rs cut (begM ws) n kvs ∧ StAt H2 b (itM ns rs cut (begM ws) n), ?_, ?_⟩
    · have d0 : NDict K P w (upd H d (dRaw P w d [])) d [] := ⟨upd_same, fun e m => nomatch m⟩
      exact ⟨mostM rs ns ws + 1, 0, [], st, _, rfl, EndIs.first, rfl, (sameNew hd).trans s1, d0.same s1, .nil, e1⟩
    rintro m σ H2 ⟨n, kvs, b, e, hm, ei, rfl, s2, D, cm, sa⟩
    have le := ei.le rok mok
    refine ⟨_, rfl, rfl, _, rfl, ?_⟩
    cases e with
    | some z =>
      refine tF (decide_eq_false fun z => nomatch z) ?_
      refine ⟨_, rfl, d, kvs, rfl, D, fun l hl => ⟨_, rfl, _, rfl, (by show 3 ≤ sizeLine; decide), fun q hq => ?_⟩⟩
      have s5 := (sameNew hl (o := .lst (kvs.map fun e => V.ref e.2.1))).trans (sameNew hq (o := .tup [.ref l, .ref b, .str z]))
      refine k n z (kvs.map fun e => e.2.1) q l b _ (s2.trans s5) ei upd_same ?_ (prm cm.adr fun _ _ q => StAt.same q s5) (sa.same s5) le
      rw [List.map_map]
      exact sameNew hq _ _ upd_same
    | none =>
      refine tT (decide_eq_true rfl) ?_
      have mo := it_ok rok mok n fun i hi => ei.on i (by omega)
      have go := ei.on n (by omega)
      have le1 := Going.le ei rok mok
      have v0 : valN kvs (keyM (itM ns rs cut (begM ws) n)) = none := by
        rcases hv : valN kvs (keyM (itM ns rs cut (begM ws) n)) with _ | v
        · rfl
        · obtain ⟨i, hi, he⟩ := (cm.val (itM ns rs cut (begM ws) n)).mp (by rw [hv]; rfl)
          exact absurd he (ei.new i n hi (by omega))
      have kl := cm.len
      refine ⟨fun σ' H' => ∃ m', m' < m ∧ _, fun σ' H' x => x, ?_⟩
      refine ⟨_, rfl, _, rfl, d, b, kvs, _, rfl, rfl, D, key_at sa, key_depth _, (by omega), ?_⟩
      have D3 := D.put (v := .bl true) (key_at sa) (key_depth _)
      have c3 : Come _ ns rs cut (begM ws) (n + 1) _ := Come.add (b := b) (v := .bl true) (cm.mono fun a s q => q.dict (o := dRaw P w d (putN kvs (keyM (itM ns rs cut (begM ws) n)) b (.bl true))) D.at') (sa.dict D.at')
      have sa3 := sa.dict (o := dRaw P w d (putN kvs (keyM (itM ns rs cut (begM ws) n)) b (.bl true))) D.at'
      have s3 := sameUp (o := dRaw P w d (putN kvs (keyM (itM ns rs cut (begM ws) n)) b (.bl true))) s2 hd
      rw [← putN_new v0] at c3
      refine ⟨_, rfl, _, rfl, _, rfl, t, cut, b, ns, rs, ws, _, rfl, pl.same s3, sa3, mo, hn, go, fun b4 H4 f4 s4 e4 => ?_⟩
      have D4 := D3.same s4
      have c4 := c3.mono fun a s q => StAt.same q s4
      refine ⟨_, rfl, _, rfl, b4, d, _, _, rfl, rfl, D4, key_at e4, key_depth _, ?_⟩
      have vi := c4.val (itM ns rs cut (begM ws) (n + 1))
      have m1 : m - 1 < m ∧ m - 1 + (n + 1) = mostM rs ns ws + 1 := by omega
      refine ⟨_, rfl, ?_⟩
      by_cases hv : ∃ i, i < n + 1 ∧ itM ns rs cut (begM ws) i = itM ns rs cut (begM ws) (n + 1)
      · refine tT (vi.mpr hv) ?_
        obtain ⟨i, hi, he⟩ := hv
        exact ⟨m - 1, m1.1, n + 1, _, b4, some "endless", m1.2, Going.again ei hi he, rfl, s3.trans s4, D4, c4, e4⟩
      · refine tF (Bool.eq_false_iff.mpr fun z => hv (vi.mp z)) ?_
        have mo5 := it_ok rok mok (n + 1) fun i hi => ei.on i hi
        refine ⟨_, rfl, _, rfl, t, b4, ns, rs, ws, _, rfl, pl.same (s3.trans s4), e4, mo5, ?_⟩
        exact ⟨m - 1, m1.1, n + 1, _, b4, _, m1.2, Going.next ei (fun i hi he => hv ⟨i, hi, he⟩), rfl, s3.trans s4, D4, c4, e4⟩
/-! check_input -/
def sp_check_input (K : PySem.W.Frag) (A0 : Ad) : Sp := fun vs H Q E => ∃ (a : Addr) (n : Int) (as : List Addr) (rs : List (List V)) (wd : Int) (t : Addr) (ws : List Int), vs = [.ref a, .int wd, .ref t] ∧ ProgAt K H A0.c_Program a n as rs ∧ 1 ≤ wd ∧ wd ≤ 1000 ∧ SqT K H t (ws.map V.int) ∧ (ws.length : Int) = n ∧ (∀ x ∈ ws, 0 ≤ x ∧ x < 2 ^ wd.toNat) ∧ ∀ H', Same H H' → Q .non H'
theorem sc_check_input : FnScope ["program", "width", "words"] ["program", "width", "words"] (defScope s_check_input) := ⟨rfl, rfl, rfl, by decide +kernel, rfl, by decide +kernel, by decide +kernel⟩
theorem bd_check_input (T : Txt w K mg A0) : Binds K A0.d_check_input ["program", "width", "words"] [] := T.F_check_input.binds fun _ _ _ _ _ _ us hl => match us, hl with | [_, _, _], _ => rfl
set_option maxHeartbeats 0 in
theorem ok_check_input (T : Txt w K mg A0) : FnOk P w K mg base CX0 3 A0.a_check_input A0.d_check_input ["program", "width", "words"] (sp_check_input K A0) := by
  refine T.F_check_input.ok sc_check_input (fun vs H Q E h => ?_) (fun cdv A outer s H vs Q E hr h => ?_)
  · obtain ⟨a, n, as, rs, wd, t, ws, rfl, _⟩ := h
    rfl
  · obtain ⟨a, n, as, rs, wd, t, ws, rfl, h⟩ := h
    refine ⟨_, (pss_cons (ps_if (pt_cmpR op_ne (pe_callB call_len_seq (by rfl) T.b_len (by decide +kernel) (pa_cons (pv 2) pa_nil)) (pe_prop (pv 0) T.cl_Program T.po_Program_inputs (ok_Program_inputs T) (hr.mono (by decide)) (bd_Program_inputs T) .nil pass0 rfl) (nomark _)) (pss_one ps_never) pss_nil)
        (pss_one (ps_expr (pe_call (ok_check_words T) (hr.mono (by decide)) rfl T.g_check_words T.F_check_words.kp (bd_check_words T) .nil pass0 (pa_cons (pv 1) (pa_cons (pv 2) pa_nil)))))), ?_⟩
    obtain ⟨hp, w1, w2, ht, hn, hw, k⟩ := h
    obtain ⟨dx, l, u, ps, e1, _⟩ := id hp
    refine ⟨_, rfl, t, _, rfl, .inr ht, _, rfl, a, dx, _, rfl, e1, a, n, as, rs, rfl, hp, rfl, _, rfl, ?_⟩
    refine tF (by rw [decide_eq_true (by rw [List.length_map, hn])]; rfl) ?_
    refine ⟨_, rfl, _, rfl, wd, t, ws, rfl, w1, w2, ht, hw, fun H1 s1 => k H1 s1⟩
/-! _is_query -/
def sp_is_query (K : PySem.W.Frag) (A0 : Ad) : Sp := fun vs H Q E => ∃ (x u : Addr), vs = [.ref x, .ref u] ∧ SqT K H u [.str "end", .str "endless"] ∧ ∀ H', Same H H' → Q (.bl true) H'
theorem sc_is_query : FnScope ["program", "query", "word", "items", "item"] ["program", "query"] (defScope s_is_query) := ⟨rfl, rfl, rfl, by decide +kernel, rfl, by decide +kernel, by decide +kernel⟩
theorem bd_is_query (T : Txt w K mg A0) : Binds K A0.d_is_query ["program", "query"] [] := T.F_is_query.binds fun _ _ _ _ _ _ us hl => match us, hl with | [_, _], _ => rfl
set_option maxHeartbeats 0 in
theorem ok_is_query (T : Txt w K mg A0) : FnOk P w K mg base CX0 3 A0.a_is_query A0.d_is_query ["program", "query"] (sp_is_query K A0) := by
  refine T.F_is_query.ok sc_is_query (fun vs H Q E h => ?_) (fun cdv A outer s H vs Q E hr h => ?_)
  · obtain ⟨x, u, rfl, _⟩ := h
    rfl
  · obtain ⟨x, u, rfl, h⟩ := h
    refine ⟨_, (pss_cons (ps_if (pt_cmpR (op_notInTD (units1 hr)) (pe_tup (StX.pa_star (pe_slice sl_tupA (pv 1) po_none (po_some pe_int)) (pa_cons (pe_callB call_len_seq (by rfl) T.b_len (by decide +kernel) (pa_cons (pv 1) pa_nil)) pa_nil))) (pe_glob (v := .ref A0.v_QUERY_SHAPES) rfl T.gv_QUERY_SHAPES rfl) rfl) (pss_one (ps_ret pe_bl)) pss_nil)
        (pss_cons (ps_asg (pv 1) (pg_starT rfl (pg_name (i := 2) sc_is_query.nd rfl (Or.inl rfl)) (pg_name (i := 3) sc_is_query.nd rfl (Or.inl rfl))))
        (pss_cons (ps_if (pt_cmpR op_eq (pv 2) pe_str (nomark _)) (pss_one (ps_ret (pe_cmpR op_in_seq (pe_ix ix_list (pv 3) pe_int (fun _ _ => rfl)) (pe_glob (v := .ref A0.v_ENDINGS) rfl T.gv_ENDINGS rfl) rfl))) pss_nil)
        (pss_cons (ps_if (pt_val pe_dead) (pss_one (ps_ret pe_bl)) pss_nil)
        (pss_cons (ps_if (pt_cmpR op_eq (pv 2) pe_str (nomark _)) (pss_one (ps_ret pe_dead)) pss_nil)
        (pss_one (ps_ret pe_dead))))))), ?_⟩
    obtain ⟨hu, k⟩ := h
    refine ⟨_, rfl, _, rfl, slA_any hu fun p1 H1 s1 e1 => ?_⟩
    have hu1 := sameT s1 hu
    refine ⟨p1, _, rfl, .inl e1, _, rfl, u, _, rfl, .inr hu1, ?_⟩
    refine ⟨(by show 2 ≤ sizeLine; decide), fun tt htt => ?_⟩
    have s2 := sameNew htt (o := .tup [.str "end", .int 2])
    refine ⟨.tuple [.str "end", .int 2], [.tuple [.str "all", .int 1], .tuple [.str "end", .int 2], .tuple [.str "reach", .int 2], .tuple [.str "steps", .int 3], .tuple [.str "first", .int 2]], .tup (SqT.of upd_same) (.cons (.str _) (.cons (.int _) .nil)), .tup T.tv_QUERY_SHAPES.sq (.cons (.tup T.tv_QUERY_SHAPES_0.sq (.cons (.str _) (.cons (.int _) .nil))) (.cons (.tup T.tv_QUERY_SHAPES_1.sq (.cons (.str _) (.cons (.int _) .nil))) (.cons (.tup T.tv_QUERY_SHAPES_2.sq (.cons (.str _) (.cons (.int _) .nil))) (.cons (.tup T.tv_QUERY_SHAPES_3.sq (.cons (.str _) (.cons (.int _) .nil))) (.cons (.tup T.tv_QUERY_SHAPES_4.sq (.cons (.str _) (.cons (.int _) .nil))) .nil))))), by decide +kernel, by decide +kernel, _, rfl, ?_⟩
    refine tF (by decide +kernel) ?_
    refine ⟨_, rfl, u, _, _, rfl, sameT s2 hu1, fun l hl => ?_⟩
    refine ⟨_, rfl, rfl, _, rfl, ?_⟩
    refine tT rfl ?_
    refine ⟨_, rfl, l, _, 0, .str "endless", rfl, rfl, SqL.of upd_same, rfl, A0.v_ENDINGS, _, rfl, .inr T.tv_ENDINGS.sq, rfl, flat_strs, ?_⟩
    exact k _ (s1.trans (s2.trans (sameNew hl)))
/-! _law_lines -/
def sp_law_lines (K : PySem.W.Frag) : Sp := fun vs H Q E => ∃ (b l : Addr) (m size : Int) (n : Nat), vs = [.ref b, .int m, .int size] ∧ b ≠ l ∧ Bag H b l n ∧ n ≤ 800000 ∧ 1 ≤ m ∧ m ≤ 4 ∧ 1 ≤ size ∧ size ≤ 100 ∧ ∀ t as rs H', But2 b l H H' → H' t = some (.lst (as.map V.ref)) → RowsAt H' as rs → (∀ r ∈ rs, rowOk (regs m.toNat) rs.length r = true) → 1 ≤ rs.length → (rs.length : Int) ≤ size → Bag H' b l (n + 505) → Q (.ref t) H'
theorem sc_law_lines : FnScope ["bag", "many", "most", "number", "found", "turn"] ["bag", "many", "most"] (defScope s_law_lines) := ⟨rfl, rfl, rfl, by decide +kernel, rfl, by decide +kernel, by decide +kernel⟩
theorem bd_law_lines (T : Txt w K mg A0) : Binds K A0.d_law_lines ["bag", "many", "most"] [] := T.F_law_lines.binds fun _ _ _ _ _ _ us hl => match us, hl with | [_, _, _], _ => rfl
set_option maxHeartbeats 0 in
theorem ok_law_lines (T : Txt w K mg A0) : FnOk P w K mg base CX0 3 A0.a_law_lines A0.d_law_lines ["bag", "many", "most"] (sp_law_lines K) := by
  refine T.F_law_lines.ok sc_law_lines (fun vs H Q E h => ?_) (fun cdv A outer s H vs Q E hr h => ?_)
  · obtain ⟨b, l, m, size, n, rfl, _⟩ := h
    rfl
  · obtain ⟨b, l, m, size, n, rfl, h⟩ := h
    refine ⟨_, (pss_cons (ps_set (i := 3) sc_law_lines.nd rfl (Or.inr rfl) (pe_op op_add pe_int (pe_call (ok_law_draw T) (hr.mono (by decide)) rfl T.g_law_draw T.F_law_draw.kp (bd_law_draw T) .nil pass0 (pa_cons (pv 0) (pa_cons (pv 2) pa_nil)))))
        (pss_cons (ps_setLc (i := 4) (own := [("turn", 5)]) (g := gName 5) rfl sc_law_lines.nd rfl rfl (sw_true rfl rfl rfl (by decide +kernel)) (pi_range1 rfl T.b_range (pa_cons (pv 3) pa_nil)) (blkOk_by (own := [("turn", 5)]) (N := ["bag", "many", "most", "number", "found", "turn"]) (sc := defScope s_law_lines) (by decide +kernel)) (fun _ _ _ _ _ => pg_name (i := 5) sc_law_lines.nd rfl (Or.inl rfl)) (fun _ _ _ _ _ => pts_nil) (fun _ _ _ _ _ => (pe_call (ok_law_line T) (hr.mono (by decide)) rfl T.g_law_line T.F_law_line.kp (bd_law_line T) .nil pass0 (pa_cons (pv 0) (pa_cons (pv 1) (pa_cons (pv 3) pa_nil))))))
        (Evl.pss_cut (ps_if (PW.pt (pw_and (pt_cmpR op_gt (pe_call (ok_law_draw T) (hr.mono (by decide)) rfl T.g_law_draw T.F_law_draw.kp (bd_law_draw T) .nil pass0 (pa_cons (pv 0) (pa_cons pe_int pa_nil))) pe_int (nomark _)) (pw_and1 (pt_cmpR op_gt (pv 1) pe_int (nomark _))))) (pss_one (ps_asg (pe_tup (pa_cons pe_str (pa_cons pe_str (pa_cons pe_str pa_nil)))) (pg_sub (pv 4) pe_int set_list))) pss_nil)
        (pss_cons (ps_if (pt_cmpR op_gt (pe_call (ok_law_draw T) (hr.mono (by decide)) rfl T.g_law_draw T.F_law_draw.kp (bd_law_draw T) .nil pass0 (pa_cons (pv 0) (pa_cons pe_int pa_nil))) pe_int (nomark _)) (pss_one (ps_asg (pe_tup (pa_cons pe_str (pa_cons (pe_ix ix_tup (pe_tup (pa_cons pe_str (pa_cons pe_str pa_nil))) (pe_call (ok_law_draw T) (hr.mono (by decide)) rfl T.g_law_draw T.F_law_draw.kp (bd_law_draw T) .nil pass0 (pa_cons (pv 0) (pa_cons pe_int pa_nil))) (fun _ _ => rfl)) pa_nil))) (pg_sub (pv 4) (pe_un un_neg pe_int) set_list))) pss_nil)
        (pss_one (ps_ret (pv 4))))))), ?_⟩
    obtain ⟨nbl, bag, hn, m1, m4, z0, z1, k⟩ := h
    refine ⟨_, rfl, _, rfl, b, l, size, n, rfl, nbl, bag, by omega, by omega, Int.lt_of_le_of_lt z1 (by decide), fun d H1 d0 d1 bag1 b1 => ⟨_, _, rfl, rfl, ?_⟩⟩
    obtain ⟨num, hm⟩ : ∃ num : Nat, 1 + d = (num : Int) := ⟨(1 + d).toNat, by omega⟩
    show tSeq _ _ _ (List.set _ 3 (some (V.int (1 + d)))) H1
    rw [hm]
    refine ⟨_, rfl, (num : Int), rfl, by omega, by omega, fun D hD => itr_by (lo := 0) (n := num) (fun i H' => ∃ (as : List Addr) (rs : List (List V)), H' D = some (.lst (as.map V.ref)) ∧ RowsAt H' as rs ∧ rs.length = i ∧ (∀ r ∈ rs, rowOk (regs m.toNat) num r = true) ∧ Bag H' b l (n + 1 + 5 * i) ∧ But2 b l H1 H') ⟨[], [], upd_same, .nil, rfl, fun r z => (nomatch z), bag1.same (sameNew hD), But2.of (sameNew hD)⟩ ?_ ?_⟩
    · rintro i H' hi ⟨as, rs, eD, ra, lr, ok, bagx, bx⟩
      obtain ⟨nDb, nDl⟩ := bag1.ne hD
      have la := Paired.length ra
      refine ⟨rfl, ?_⟩
      refine yesR ?_
      refine tT rfl ?_
      refine ⟨_, rfl, _, rfl, _, rfl, b, l, m, (num : Int), _, rfl, nbl, bagx, by omega, m1, m4, by omega, by omega, fun t r H3 b3 e3 ok3 bag3 => ⟨_, b3 D _ nDb nDl eD, small1000 (by rw [List.length_map]; omega), as ++ [t], rs ++ [r], by rw [upd_same, List.map_append]; rfl, ?_, by rw [List.length_append, lr]; rfl, fun y m => ?_, (bag3.put nDb nDl).mono (by omega), fun c o n1 n2 e => ?_⟩⟩
      · have ne : t ≠ D := fun z => by rw [z, b3 D _ nDb nDl eD] at e3; cases e3
        exact pra ((ra.but2 b3 bagx).up (b3 D _ nDb nDl eD)) (.cons ((upd_ne ne).trans e3) .nil)
      · rcases List.mem_append.mp m with m | m
        · exact ok y m
        · rw [List.mem_singleton.mp m]
          exact ok3
      · rw [upd_ne (fun z => by rw [z, hD] at e; cases e)]
        exact b3 c o n1 n2 (bx c o n1 n2 e)
    rintro H2 ⟨as, rs, eD, ra, lr, ok, bag2, b2⟩
    obtain ⟨nDb, nDl⟩ := bag1.ne hD
    have put : ∀ (H4 : Hp) (N : Nat) (as : List Addr) (rs : List (List V)) (j : Nat) (p : Addr) (r : List V), H4 D = some (.lst (as.map V.ref)) → RowsAt H4 as rs → rs.length = num → (∀ r ∈ rs, rowOk (regs m.toNat) num r = true) → H4 p = some (.tup r) → rowOk (regs m.toNat) num r = true → Bag H4 b l N → But2 b l H H4 →
        ∃ (as' : List Addr) (rs' : List (List V)), (upd H4 D (.lst ((as.map V.ref).set j (.ref p)))) D = some (.lst (as'.map V.ref)) ∧ RowsAt (upd H4 D (.lst ((as.map V.ref).set j (.ref p)))) as' rs' ∧ rs'.length = num ∧ (∀ r ∈ rs', rowOk (regs m.toNat) num r = true) ∧ Bag (upd H4 D (.lst ((as.map V.ref).set j (.ref p)))) b l N ∧ But2 b l H (upd H4 D (.lst ((as.map V.ref).set j (.ref p)))) := fun H4 N as rs j p r eD ra lr ok ep okp bg bt => by
      have ne : p ≠ D := fun z => by rw [z, eD] at ep; cases ep
      refine ⟨as.set j p, rs.set j r, by rw [upd_same, List.map_set], pr_set (R := fun a r => (upd H4 D (.lst ((as.map V.ref).set j (.ref p)))) a = some (.tup r)) ((upd_ne ne).trans ep) (ra.up eD), by rw [List.length_set]; exact lr, fun y my => ?_, bg.put nDb nDl, fun c o n1 n2 e => ?_⟩
      · rcases List.mem_or_eq_of_mem_set my with my | rfl
        · exact ok y my
        · exact okp
      · rw [upd_ne (fun z => by rw [z] at e n1 n2; have := b1 _ _ n1 n2 e; rw [hD] at this; cases this)]
        exact bt c o n1 n2 e
    refine ⟨fun σ H' => σ = [some (.ref b), some (.int m), some (.int size), some (.int num), some (.ref D), none] ∧ ∃ (as : List Addr) (rs : List (List V)), H' D = some (.lst (as.map V.ref)) ∧ RowsAt H' as rs ∧ rs.length = num ∧ (∀ r ∈ rs, rowOk (regs m.toNat) num r = true) ∧ Bag H' b l (n + 1 + 5 * num + 1) ∧ But2 b l H H', ?_, ?_⟩
    · refine ⟨_, rfl, b, l, 4, _, rfl, nbl, bag2, by omega, by decide, by decide, fun d4 H3 f0 f1 bag3 b3 => ⟨_, _, rfl, rfl, _, rfl, ?_⟩⟩
      have eD3 := b3 _ _ nDb nDl eD
      have ra3 := ra.but2 b3 bag2
      have b03 := b1.trans (b2.trans b3)
      by_cases c4 : 0 < d4
      · refine tT (decide_eq_true c4) ?_
        refine ⟨_, rfl, _, _, rfl, rfl, _, rfl, ?_⟩
        by_cases c1 : 1 < m
        · refine tT (decide_eq_true c1) ?_
          refine ⟨(by show 3 ≤ sizeLine; decide), fun p hp => ?_⟩
          have s4 := sameNew hp (o := .tup [.str "cmp", .str "p", .str "q"])
          refine ⟨_, rfl, D, _, 0, 0, rfl, rfl, s4 _ _ eD3, ixN_0 (by rw [List.length_map, Paired.length ra]; omega), rfl, put _ _ as rs 0 p _ (s4 _ _ eD3) (RowsAt.same ra3 s4) lr ok upd_same (ok_RR (by decide +kernel) (regs_p m1) (regs_q c1)) (bag3.same s4) (b03.trans (But2.of s4))⟩
        · refine tF (decide_eq_false c1) ?_
          exact ⟨rfl, as, rs, eD3, ra3, lr, ok, bag3, b03⟩
      · refine tF (decide_eq_false c4) ?_
        exact ⟨rfl, as, rs, eD3, ra3, lr, ok, bag3, b03⟩
    rintro σ H3 ⟨rfl, as, rs, eD, ra, lr, ok, bag3, b03⟩
    refine ⟨_, rfl, b, l, 3, _, rfl, nbl, bag3, by omega, by decide, by decide, fun d4 H4 f0 f1 bag4 b4 => ⟨_, _, rfl, rfl, _, rfl, ?_⟩⟩
    have eD4 := b4 _ _ nDb nDl eD
    have ra4 := ra.but2 b4 bag3
    have b04 := b03.trans b4
    have fin : ∀ H' N, N ≤ 505 → (∃ (as : List Addr) (rs : List (List V)), H' D = some (.lst (as.map V.ref)) ∧ RowsAt H' as rs ∧ rs.length = num ∧ (∀ r ∈ rs, rowOk (regs m.toNat) num r = true) ∧ Bag H' b l (n + N) ∧ But2 b l H H') → Q (.ref D) H' := fun H' N hN ⟨as, rs, e1, e2, e3, e4, e5, e6⟩ => k D as rs H' e6 e1 e2 (by rw [e3]; exact e4) (by omega) (by omega) (e5.mono (by omega))
    by_cases c4 : 0 < d4
    case neg =>
      refine tF (decide_eq_false c4) ?_
      exact ⟨_, rfl, fin H4 (1 + 5 * num + 1 + 1) (by omega) ⟨as, rs, eD4, ra4, lr, ok, bag4.mono (by omega), b04⟩⟩
    refine tT (decide_eq_true c4) ?_
    refine ⟨(by show 2 ≤ sizeLine; decide), fun q hq => ⟨_, rfl, b, l, 2, _, rfl, nbl, bag4.same (sameNew hq), by omega, by decide, by decide, fun d5 H5 g0 g1 bag5 b5 => ?_⟩⟩
    obtain ⟨nqb, nql⟩ := bag4.ne hq
    obtain ⟨w, mw, aw⟩ : ∃ w : Str, w ∈ regs m.toNat ∧ atI [V.str "p", V.str "x"] d5 = some (.str w) := by
      have : d5 = 0 ∨ d5 = 1 := by omega
      rcases this with rfl | rfl
      · exact ⟨_, regs_p m1, rfl⟩
      · exact ⟨_, regs_x, rfl⟩
    refine ⟨q, _, d5, .str w, rfl, rfl, SqT.of (b5 _ _ nqb nql upd_same), aw, ?_⟩
    refine ⟨(by show 2 ≤ sizeLine; decide), fun p hp => ?_⟩
    have sq := sameNew hq (o := .tup [.str "p", .str "x"])
    have s6 := sameNew hp (o := .tup [.str "out", .str w])
    have eD6 := s6 _ _ (b5 _ _ nDb nDl (sq _ _ eD4))
    have ra6 := RowsAt.same ((RowsAt.same ra4 sq).but2 b5 (bag4.same sq)) s6
    have b06 := b04.trans ((But2.of sq).trans (b5.trans (But2.of s6)))
    refine ⟨_, rfl, _, rfl, D, _, -1, num - 1, rfl, rfl, eD6, ixN_l (by rw [List.length_map, Paired.length ra]; exact lr) (by omega), ?_⟩
    refine ⟨_, rfl, fin _ (1 + 5 * num + 1 + 1 + 1) (by omega) (put _ _ as rs (num - 1) p _ eD6 ra6 lr ok upd_same (ok_R mw) ((bag5.same s6).mono (by omega)) b06)⟩
/-! ranked_walk -/
def sp_ranked_walk (K : PySem.W.Frag) (A0 : Ad) : Sp := fun vs H Q E => ∃ (a : Addr) (n : Int) (as : List Addr) (rs : List (List V)) (q rt : Addr) (ks : List Int) (c : Int), vs = [.ref a, .ref q] ∧ ProgAt K H A0.c_Program a n as rs ∧ RkAt H q rt ks c ∧ (ks.length : Int) = n ∧ ks ≠ [] ∧ mostM rs (regs n.toNat) ks ≤ 2000000 ∧ ∀ (m : Nat) (e : Str) (ss : List Addr) (p l last : Addr) (H' : Hp), Same H H' → WalkIs (regs n.toNat) rs c (begM ks) m e → H' p = some (.tup [.ref l, .ref last, .str e]) → H' l = some (.lst (ss.map V.ref)) → ss.length = m → m ≤ 2000000 → Q (.ref p) H'
theorem sc_ranked_walk : FnScope ["program", "ranking", "ranks", "cut"] ["program", "ranking"] (defScope s_ranked_walk) := ⟨rfl, rfl, rfl, by decide +kernel, rfl, by decide +kernel, by decide +kernel⟩
theorem bd_ranked_walk (T : Txt w K mg A0) : Binds K A0.d_ranked_walk ["program", "ranking"] [] := T.F_ranked_walk.binds fun _ _ _ _ _ _ us hl => match us, hl with | [_, _], _ => rfl
set_option maxHeartbeats 0 in
theorem ok_ranked_walk (T : Txt w K mg A0) : FnOk P w K mg base CX0 4 A0.a_ranked_walk A0.d_ranked_walk ["program", "ranking"] (sp_ranked_walk K A0) := by
  refine T.F_ranked_walk.ok sc_ranked_walk (fun vs H Q E h => ?_) (fun cdv A outer s H vs Q E hr h => ?_)
  · obtain ⟨a, n, as, rs, q, rt, ks, c, rfl, _⟩ := h
    rfl
  · obtain ⟨a, n, as, rs, q, rt, ks, c, rfl, h⟩ := h
    refine ⟨_, (pss_cons (ps_asg (pv 1) (pg_tup rfl (pgs_cons (pg_name (i := 2) sc_ranked_walk.nd rfl (Or.inl rfl)) (pgs_cons (pg_name (i := 3) sc_ranked_walk.nd rfl (Or.inl rfl)) pgs_nil))))
        (pss_one (ps_ret (pe_call (ok_walk T) (hr.mono (by decide)) rfl T.g_walk T.F_walk.kp (bd_walk T) .nil pass0 (pa_cons (pe_prop (pv 0) T.cl_Program T.po_Program_placed (ok_Program_placed T) (hr.mono (by decide)) (bd_Program_placed T) .nil pass0 rfl) (pa_cons (pv 3) (pa_cons (pv 2) pa_nil))))))), ?_⟩
    obtain ⟨hp, hr, hn, w0, hz, k⟩ := h
    obtain ⟨dx, l, u, ps, e1, e2, e3, e4, e5, n1, n2, _⟩ := id hp
    have ln : ks.length + 2 = (regs n.toNat).length := by
      have : ∀ m : Nat, m ≤ 4 → m + 2 = (regs m).length := by decide
      rw [← this n.toNat (by omega)]
      omega
    
    refine ⟨_, rfl, q, _, rfl, SqT.of hr.1, rfl, _, _, rfl, _, _, rfl, rfl, ?_⟩
    refine ⟨_, rfl, a, dx, _, rfl, e1, a, n, as, rs, rfl, hp, fun tp pl => ?_⟩
    refine ⟨_, rfl, _, rfl, tp, _, rt, _, rs, ks, rfl, pl, SqT.of hr.2, w0, ln, (by omega), (by rw [sizeLine_eq]; omega), fun m e ss p ls la H2 s2 wk eq el pst ela ml => ?_⟩
    have lss := Paired.length pst
    rw [List.length_map, List.length_range] at lss
    exact k m e ss p ls la H2 s2 wk eq el lss (by omega)
/-! count_steps -/
def sp_count_steps (K : PySem.W.Frag) (A0 : Ad) : Sp := fun vs H Q E => ∃ (a : Addr) (n : Int) (as : List Addr) (rs : List (List V)) (wd : Int) (t : Addr) (ws : List Int), vs = [.ref a, .int wd, .ref t] ∧ ProgAt K H A0.c_Program a n as rs ∧ 1 ≤ wd ∧ wd ≤ 1000 ∧ SqT K H t (ws.map V.int) ∧ (ws.length : Int) = n ∧ (∀ x ∈ ws, 0 ≤ x ∧ x < 2 ^ wd.toNat) ∧ ws ≠ [] ∧ mostM rs (regs n.toNat) ws ≤ 2000000 ∧ ∀ (m : Nat) (e : Str) (H' : Hp), Same H H' → WalkIs (regs n.toNat) rs (2 ^ (wd - 1).toNat) (begM ws) m e → m ≤ 2000000 → Q (intO (if e = "endless" then none else some (m : Int))) H'
theorem sc_count_steps : FnScope ["program", "width", "words", "states", "_", "ending"] ["program", "width", "words"] (defScope s_count_steps) := ⟨rfl, rfl, rfl, by decide +kernel, rfl, by decide +kernel, by decide +kernel⟩
theorem bd_count_steps (T : Txt w K mg A0) : Binds K A0.d_count_steps ["program", "width", "words"] [] := T.F_count_steps.binds fun _ _ _ _ _ _ us hl => match us, hl with | [_, _, _], _ => rfl
set_option maxHeartbeats 0 in
theorem ok_count_steps (T : Txt w K mg A0) : FnOk P w K mg base CX0 4 A0.a_count_steps A0.d_count_steps ["program", "width", "words"] (sp_count_steps K A0) := by
  refine T.F_count_steps.ok sc_count_steps (fun vs H Q E h => ?_) (fun cdv A outer s H vs Q E hr h => ?_)
  · obtain ⟨a, n, as, rs, wd, t, ws, rfl, _⟩ := h
    rfl
  · obtain ⟨a, n, as, rs, wd, t, ws, rfl, h⟩ := h
    refine ⟨_, (pss_cons (ps_expr (pe_call (ok_check_width T) (hr.mono (by decide)) rfl T.g_check_width T.F_check_width.kp (bd_check_width T) .nil pass0 (pa_cons (pv 1) pa_nil)))
        (pss_cons (ps_expr (pe_call (ok_check_input T) (hr.mono (by decide)) rfl T.g_check_input T.F_check_input.kp (bd_check_input T) .nil pass0 (pa_cons (pv 0) (pa_cons (pv 1) (pa_cons (pv 2) pa_nil)))))
        (pss_cons (ps_asg (pe_call (ok_walk T) (hr.mono (by decide)) rfl T.g_walk T.F_walk.kp (bd_walk T) .nil pass0 (pa_cons (pe_prop (pv 0) T.cl_Program T.po_Program_placed (ok_Program_placed T) (hr.mono (by decide)) (bd_Program_placed T) .nil pass0 rfl) (pa_cons (pe_call (ok_sign_bit T) (hr.mono (by decide)) rfl T.g_sign_bit T.F_sign_bit.kp (bd_sign_bit T) .nil pass0 (pa_cons (pv 1) pa_nil)) (pa_cons (pv 2) pa_nil)))) (pg_tup rfl (pgs_cons (pg_name (i := 3) sc_count_steps.nd rfl (Or.inl rfl)) (pgs_cons (pg_name (i := 4) sc_count_steps.nd rfl (Or.inl rfl)) (pgs_cons (pg_name (i := 5) sc_count_steps.nd rfl (Or.inl rfl)) pgs_nil)))))
        (pss_one (ps_ret (pe_ifExp (pt_cmpR op_eq (pv 5) pe_str (nomark _)) pe_non (pe_callB call_len_seq (by rfl) T.b_len (by decide +kernel) (pa_cons (pv 3) pa_nil)))))))), ?_⟩
    obtain ⟨hp, w1, w2, ht, hn, hw, w0, hz, k⟩ := h
    obtain ⟨dx, l, u, ps, e1, e2, e3, e4, e5, n1, n2, _⟩ := id hp
    have ln : ws.length + 2 = (regs n.toNat).length := by
      have : ∀ m : Nat, m ≤ 4 → m + 2 = (regs m).length := by decide
      rw [← this n.toNat (by omega)]
      omega
    
    refine ⟨_, rfl, wd, rfl, w1, ?_⟩
    refine ⟨_, rfl, _, rfl, _, rfl, a, n, as, rs, wd, t, ws, rfl, hp, w1, w2, ht, hn, hw, fun H1 s1 => ?_⟩
    have hp1 := hp.same s1
    refine ⟨_, rfl, a, dx, _, rfl, s1 _ _ e1, a, n, as, rs, rfl, hp1, fun tp pl => ?_⟩
    refine ⟨_, rfl, wd, rfl, w1, w2, _, rfl, tp, _, t, _, rs, ws, rfl, pl, sameT s1 ht, w0, ln, (by omega), (by rw [sizeLine_eq]; omega), fun m e ss q ls la H2 s2 wk eq el pst ela ml => ?_⟩
    have lss := Paired.length pst
    rw [List.length_map, List.length_range] at lss
    refine ⟨q, _, rfl, SqT.of eq, rfl, _, _, rfl, _, _, rfl, _, _, rfl, rfl, ?_⟩
    have kk := k m e H2 (s1.trans s2) wk (by omega)
    refine ⟨_, rfl, rfl, _, rfl, ?_⟩
    by_cases c : e = "endless"
    · rw [if_pos c] at kk
      refine tT (decide_eq_true (congrArg V.str c)) ?_
      exact kk
    · rw [if_neg c] at kk
      refine tF (decide_eq_false (fun z => c (V.str.inj z))) ?_
      refine ⟨_, rfl, ls, _, rfl, .inl (SqL.of el), ?_⟩
      rw [List.length_map, lss]
      exact kk
/-! check_query -/
def sp_check_query (K : PySem.W.Frag) (A0 : Ad) : Sp := fun vs H Q E => ∃ (x u : Addr), vs = [.ref x, .ref u] ∧ SqT K H u [.str "end", .str "endless"] ∧ ∀ H', Same H H' → Q .non H'
theorem sc_check_query : FnScope ["program", "query"] ["program", "query"] (defScope s_check_query) := ⟨rfl, rfl, rfl, by decide +kernel, rfl, by decide +kernel, by decide +kernel⟩
theorem bd_check_query (T : Txt w K mg A0) : Binds K A0.d_check_query ["program", "query"] [] := T.F_check_query.binds fun _ _ _ _ _ _ us hl => match us, hl with | [_, _], _ => rfl
set_option maxHeartbeats 0 in
theorem ok_check_query (T : Txt w K mg A0) : FnOk P w K mg base CX0 4 A0.a_check_query A0.d_check_query ["program", "query"] (sp_check_query K A0) := by
  refine T.F_check_query.ok sc_check_query (fun vs H Q E h => ?_) (fun cdv A outer s H vs Q E hr h => ?_)
  · obtain ⟨x, u, rfl, _⟩ := h
    rfl
  · obtain ⟨x, u, rfl, h⟩ := h
    refine ⟨_, (pss_one (ps_if (pt_not (pt_val (pe_call (ok_is_query T) (hr.mono (by decide)) rfl T.g_is_query T.F_is_query.kp (bd_is_query T) .nil pass0 (pa_cons (pv 0) (pa_cons (pv 1) pa_nil))))) (pss_one ps_never) pss_nil)), ?_⟩
    obtain ⟨hu, k⟩ := h
    refine ⟨_, rfl, _, rfl, x, u, rfl, hu, fun H1 s1 => ?_⟩
    refine ⟨_, rfl, ?_⟩
    refine tF rfl ?_
    exact k H1 s1
/-! _count_all -/
def sp_count_all (K : PySem.W.Frag) : Sp := fun vs H Q E => ∃ (l : Addr) (qs : List Addr) (ps : List (List Int × Int)) (n wd : Nat), vs = [.ref l, .int (wd : Nat)] ∧ H l = some (.lst (qs.map V.ref)) ∧ RL H qs ps ∧ ps.length ≤ 44 ∧ (∀ p ∈ ps, p ∈ allRk n) ∧ n ∈ [1, 2, 3] ∧ wd ∈ [3, 8, 64, 300] ∧ ∀ H', Same H H' → Q (.int (ps.map (wdW wd)).sum) H'
theorem sc_count_all : FnScope ["rankings", "width", "ranking"] ["rankings", "width"] (defScope s_count_all) := ⟨rfl, rfl, rfl, by decide +kernel, rfl, by decide +kernel, by decide +kernel⟩
theorem bd_count_all (T : Txt w K mg A0) : Binds K A0.d_count_all ["rankings", "width"] [] := T.F_count_all.binds fun _ _ _ _ _ _ us hl => match us, hl with | [_, _], _ => rfl
set_option maxHeartbeats 0 in
theorem ok_count_all (T : Txt w K mg A0) : FnOk P w K mg base CX0 4 A0.a_count_all A0.d_count_all ["rankings", "width"] (sp_count_all K) := by
  refine T.F_count_all.ok sc_count_all (fun vs H Q E h => ?_) (fun cdv A outer s H vs Q E hr h => ?_)
  · obtain ⟨l, qs, ps, n, wd, rfl, _⟩ := h
    rfl
  · obtain ⟨l, qs, ps, n, wd, rfl, h⟩ := h
    refine ⟨_, (pss_one (ps_ret (pe_callB (cr_sum rfl) (by rfl) T.b_sum (by decide +kernel) (pa_cons (pe_lc (own := [("ranking", 2)]) (g := gName 2) rfl sc_count_all.nd (pi_list (pv 0)) (blkOk_by (own := [("ranking", 2)]) (N := ["rankings", "width", "ranking"]) (sc := defScope s_count_all) (by decide +kernel)) (fun _ _ _ _ _ => pg_name (i := 2) sc_count_all.nd rfl (Or.inl rfl)) (fun _ _ _ _ _ => pts_nil) (fun _ _ _ _ _ => (pe_call (ok_count_words T) (hr.mono (by decide)) rfl T.g_count_words T.F_count_words.kp (bd_count_words T) .nil pass0 (pa_cons (pv 2) (pa_cons (pv 1) pa_nil))))) pa_nil)))), ?_⟩
    obtain ⟨hl, r1, l44, mem, hn, hw, k⟩ := h
    have n13 : 1 ≤ n ∧ n ≤ 3 := by simp at hn; omega
    have w13 : 3 ≤ wd ∧ wd ≤ 300 := by simp at hw; omega
    have we : ((wd : Int) - 1).toNat = wd - 1 := by omega
    have lq := pr_len r1
    refine ⟨_, rfl, l, rfl, ⟨_, SqL.of hl⟩, fun D hD => lc_list (K := K) (a := l) (xs := qs.map V.ref) (fun i H' => Same H H' ∧ H' D = some (.lst (((ps.take i).map (wdW wd)).map V.int))) ⟨sameNew hD, upd_same⟩ (fun i H _ q => SqL.of (q.1 _ _ hl)) ?_ ?_⟩
    · rintro i x1 H2 hx ⟨s2, eD⟩
      obtain ⟨q, hq, rfl⟩ := refAt hx
      obtain ⟨p, hp9, rt, hr9⟩ := pr_at r1 hq
      obtain ⟨lp, isr, p0, pm⟩ := ok_at n13.1 (by omega) (mem p (List.mem_of_getElem? hp9))
      have ml := srt_len p.1
      refine ⟨rfl, ?_⟩
      refine yesR ?_
      refine tT rfl ?_
      refine ⟨_, rfl, _, rfl, q, rt, p.1, p.2, (srt p.1).length, (wd : Nat), rfl, hr9.same s2, isr, p0, pm, by omega, by omega, by omega, by omega, fun H3 s3 => ?_⟩
      rw [we]
      refine ⟨_, s3 _ _ eD, small1000 (by rw [List.length_map, List.length_map, List.length_take]; omega), sameUp (s2.trans s3) hD, ?_⟩
      rw [upd_same, tkS hp9, List.map_append, List.map_append]
      rfl
    rintro H2 ⟨s2, eD⟩
    rw [List.length_map, lq, List.take_length] at eD
    exact ⟨D, _, rfl, SqL.of eD, k H2 s2⟩
/-! _law_equal_share -/
def sp_law_equal_share (K : PySem.W.Frag) : Sp := fun vs H Q E => ∃ n wd : Nat, vs = [.int (n : Nat), .int (wd : Nat)] ∧ n ∈ [1, 2, 3] ∧ wd ∈ [3, 8, 64, 300] ∧ ∀ H', Same H H' → Q (.int (shW n wd)) H'
theorem sc_law_equal_share : FnScope ["many", "span", "met", "spot", "ranking"] ["many", "span"] (defScope s_law_equal_share) := ⟨rfl, rfl, rfl, by decide +kernel, rfl, by decide +kernel, by decide +kernel⟩
theorem bd_law_equal_share (T : Txt w K mg A0) : Binds K A0.d_law_equal_share ["many", "span"] [] := T.F_law_equal_share.binds fun _ _ _ _ _ _ us hl => match us, hl with | [_, _], _ => rfl
set_option maxHeartbeats 0 in
theorem ok_law_equal_share (T : Txt w K mg A0) : FnOk P w K mg base CX0 4 A0.a_law_equal_share A0.d_law_equal_share ["many", "span"] (sp_law_equal_share K) := by
  refine T.F_law_equal_share.ok sc_law_equal_share (fun vs H Q E h => ?_) (fun cdv A outer s H vs Q E hr h => ?_)
  · obtain ⟨n, wd, rfl, _⟩ := h
    rfl
  · obtain ⟨n, wd, rfl, h⟩ := h
    refine ⟨_, (pss_cons (ps_set (i := 2) sc_law_equal_share.nd rfl (Or.inl rfl) pe_int)
        (pss_cons (ps_for PassesOwn.never rfl (pi_range1 rfl T.b_range (pa_cons (pe_call (ok_count_rankings T) (hr.mono (by decide)) rfl T.g_count_rankings T.F_count_rankings.kp (bd_count_rankings T) .nil pass0 (pa_cons (pv 0) pa_nil)) pa_nil)) (pg_name (i := 3) sc_law_equal_share.nd rfl (Or.inl rfl)) (pss_cons (ps_set (i := 4) sc_law_equal_share.nd rfl (Or.inl rfl) (pe_call (ok_nth_ranking T) (hr.mono (by decide)) rfl T.g_nth_ranking T.F_nth_ranking.kp (bd_nth_ranking T) .nil pass0 (pa_cons (pv 0) (pa_cons (pv 3) pa_nil))))
        (pss_one (ps_if (pt_cmpR op_eq (pe_op op_add (pe_callB (cr_maxT rfl hr.units) (by rfl) T.b_max (by decide +kernel) (pa_cons (pe_ix ix_tup (pv 4) pe_int (fun _ _ => rfl)) pa_nil)) pe_int) (pv 0) (nomark _)) (pss_one (ps_aug (i := 2) sc_law_equal_share.nd rfl (Or.inl rfl) (pe_call (ok_count_words T) (hr.mono (by decide)) rfl T.g_count_words T.F_count_words.kp (bd_count_words T) .nil pass0 (pa_cons (pv 4) (pa_cons (pv 1) pa_nil))) ip_add)) pss_nil))))
        (pss_one (ps_ret (pe_op op_sub (pe_call (ok_law_all_words T) (hr.mono (by decide)) rfl T.g_law_all_words T.F_law_all_words.kp (bd_law_all_words T) .nil pass0 (pa_cons (pv 0) (pa_cons (pv 1) pa_nil))) (pv 2)))))), ?_⟩
    obtain ⟨hn, hw, k⟩ := h
    have n13 : 1 ≤ n ∧ n ≤ 3 := by simp at hn; omega
    have w13 : 3 ≤ wd ∧ wd ≤ 300 := by simp at hw; omega
    have we : ((wd : Int) - 1).toNat = wd - 1 := by omega
    refine ⟨_, rfl, n, rfl, n13.1, by omega, fun H1 s1 => ⟨((allRk n).length : Nat), rfl, by omega, by have := len44 n hn; omega, for_range (n := (allRk n).length) (fun i σ H' => ∃ u3 u4, σ = [some (.int (n : Nat)), some (.int (wd : Nat)), some (.int ((((allRk n).take i).filter fun p => decide (mx p.1 + 1 = (n : Int))).map (wdW wd)).sum), u3, u4] ∧ Same H1 H') ⟨none, none, rfl, Same.refl _⟩ ?_ ?_⟩⟩
    · rintro i σ H2 hi ⟨u3, u4, rfl, s2⟩
      refine ⟨_, rfl, _, rfl, n, 0 + (i : Int), rfl, n13.1, by omega, by omega, by omega, fun q rt p H3 hp s3 rk => ?_⟩
      rw [show (0 + (i : Int)).toNat = i by omega] at hp
      obtain ⟨lp, isr, p0, pm⟩ := ok_at n13.1 (by omega) (List.mem_of_getElem? hp)
      have ml := srt_len p.1
      have pne : p.1 ≠ [] := fun z => by rw [z] at lp; have : 0 = n := lp; omega
      refine ⟨_, rfl, q, _, 0, .ref rt, rfl, rfl, SqT.of rk.1, rfl, rt, p.1, rfl, SqT.of rk.2, pne, _, _, rfl, rfl, _, rfl, rfl, _, rfl, ?_⟩
      by_cases c : mx p.1 + 1 = (n : Int)
      · refine tT (decide_eq_true (congrArg V.int c)) ?_
        refine ⟨_, rfl, _, rfl, _, rfl, q, rt, p.1, p.2, (srt p.1).length, (wd : Nat), rfl, rk, isr, p0, pm, by omega, by omega, by omega, by omega, fun H4 s4 => ⟨_, _, rfl, rfl, ?_⟩⟩
        rw [we]
        refine ⟨some (.int (0 + (i : Nat))), some (.ref q), ?_, s2.trans (s3.trans s4)⟩
        have : List.filter (fun p => decide (mx p.1 + 1 = (n : Int))) [p] = [p] := by rw [List.filter_cons, if_pos (decide_eq_true c)]; rfl
        rw [tkS hp, List.filter_append, this, List.map_append, List.sum_append]
        show _ = [_, _, some (V.int (_ + (wdW wd p + 0))), _, _]
        rw [Int.add_zero]
        rfl
      · refine tF (decide_eq_false fun z => c (V.int.inj z)) ?_
        refine ⟨some (.int (0 + (i : Nat))), some (.ref q), ?_, s2.trans s3⟩
        have : List.filter (fun p => decide (mx p.1 + 1 = (n : Int))) [p] = [] := by rw [List.filter_cons, if_neg (by rw [decide_eq_false c]; decide)]; rfl
        rw [tkS hp, List.filter_append, this, List.append_nil]
        rfl
    · rintro σ H2 ⟨u3, u4, rfl, s2⟩
      rw [List.take_length]
      refine ⟨_, rfl, _, rfl, n, wd, rfl, n13.1, n13.2, by omega, by omega, _, rfl, _, _, rfl, rfl, ?_⟩
      exact k H2 (s1.trans s2)
/-! _steps_of -/
def sp_steps_of (K : PySem.W.Frag) (A0 : Ad) : Sp := fun vs H Q E => ∃ (a : Addr) (n : Int) (as : List Addr) (rs : List (List V)) (q rt : Addr) (ks : List Int) (c : Int), vs = [.ref a, .ref q] ∧ ProgAt K H A0.c_Program a n as rs ∧ RkAt H q rt ks c ∧ (ks.length : Int) = n ∧ ks ≠ [] ∧ mostM rs (regs n.toNat) ks ≤ 2000000 ∧ ((∀ i, stO (regs n.toNat) rs c ks = some i → 0 ≤ i ∧ i ≤ 2000000) → ∀ H', Same H H' → Q (intO (stO (regs n.toNat) rs c ks)) H')
theorem sc_steps_of : FnScope ["program", "ranking", "states", "_", "ending"] ["program", "ranking"] (defScope s_steps_of) := ⟨rfl, rfl, rfl, by decide +kernel, rfl, by decide +kernel, by decide +kernel⟩
theorem bd_steps_of (T : Txt w K mg A0) : Binds K A0.d_steps_of ["program", "ranking"] [] := T.F_steps_of.binds fun _ _ _ _ _ _ us hl => match us, hl with | [_, _], _ => rfl
set_option maxHeartbeats 0 in
theorem ok_steps_of (T : Txt w K mg A0) : FnOk P w K mg base CX0 5 A0.a_steps_of A0.d_steps_of ["program", "ranking"] (sp_steps_of K A0) := by
  refine T.F_steps_of.ok sc_steps_of (fun vs H Q E h => ?_) (fun cdv A outer s H vs Q E hr h => ?_)
  · obtain ⟨a, n, as, rs, q, rt, ks, c, rfl, _⟩ := h
    rfl
  · obtain ⟨a, n, as, rs, q, rt, ks, c, rfl, h⟩ := h
    refine ⟨_, (pss_cons (ps_asg (pe_call (ok_ranked_walk T) (hr.mono (by decide)) rfl T.g_ranked_walk T.F_ranked_walk.kp (bd_ranked_walk T) .nil pass0 (pa_cons (pv 0) (pa_cons (pv 1) pa_nil))) (pg_tup rfl (pgs_cons (pg_name (i := 2) sc_steps_of.nd rfl (Or.inl rfl)) (pgs_cons (pg_name (i := 3) sc_steps_of.nd rfl (Or.inl rfl)) (pgs_cons (pg_name (i := 4) sc_steps_of.nd rfl (Or.inl rfl)) pgs_nil)))))
        (pss_one (ps_ret (pe_ifExp (pt_cmpR op_eq (pv 4) pe_str (nomark _)) pe_non (pe_callB call_len_seq (by rfl) T.b_len (by decide +kernel) (pa_cons (pv 2) pa_nil)))))), ?_⟩
    obtain ⟨hp, hr, hn, w0, hz, k⟩ := h
    refine ⟨_, rfl, _, rfl, a, n, as, rs, q, rt, ks, c, rfl, hp, hr, hn, w0, hz, fun m e ss p ls la H2 s2 wk eq el lss ml => ?_⟩
    rw [stO_of wk] at k
    refine ⟨p, _, rfl, SqT.of eq, rfl, _, _, rfl, _, _, rfl, _, _, rfl, rfl, ?_⟩
    refine ⟨_, rfl, rfl, _, rfl, ?_⟩
    by_cases c : e = "endless"
    · rw [if_pos c] at k
      refine tT (decide_eq_true (congrArg V.str c)) ?_
      exact k (fun i z => nomatch z) H2 s2
    · rw [if_neg c] at k
      refine tF (decide_eq_false (fun z => c (V.str.inj z))) ?_
      refine ⟨_, rfl, ls, _, rfl, .inl (SqL.of el), ?_⟩
      rw [List.length_map, lss]
      exact k (fun i z => by rw [← Option.some.inj z]; omega) H2 s2
/-! _law_numbers -/
def sp_law_numbers (K : PySem.W.Frag) (A0 : Ad) : Sp := fun vs H Q E => ∃ (x : Addr) (n : Nat) (as : List Addr) (rs : List (List V)), vs = [.ref x, .int (n : Nat)] ∧ ProgAt K H A0.c_Program x (n : Nat) as rs ∧ n ∈ [1, 2, 3] ∧ rs.length ≤ 30 ∧ ∀ l H', Same H H' → (∀ p ∈ allRk n, ∀ i, sP (regs n) rs p = some i → 0 ≤ i ∧ i ≤ 2000000) → H' l = some (.lst ((allRk n).map fun p => intO (sP (regs n) rs p))) → Q (.ref l) H'
theorem sc_law_numbers : FnScope ["made", "many", "found", "spot"] ["made", "many"] (defScope s_law_numbers) := ⟨rfl, rfl, rfl, by decide +kernel, rfl, by decide +kernel, by decide +kernel⟩
theorem bd_law_numbers (T : Txt w K mg A0) : Binds K A0.d_law_numbers ["made", "many"] [] := T.F_law_numbers.binds fun _ _ _ _ _ _ us hl => match us, hl with | [_, _], _ => rfl
set_option maxHeartbeats 0 in
theorem ok_law_numbers (T : Txt w K mg A0) : FnOk P w K mg base CX0 5 A0.a_law_numbers A0.d_law_numbers ["made", "many"] (sp_law_numbers K A0) := by
  refine T.F_law_numbers.ok sc_law_numbers (fun vs H Q E h => ?_) (fun cdv A outer s H vs Q E hr h => ?_)
  · obtain ⟨x, n, as, rs, rfl, _⟩ := h
    rfl
  · obtain ⟨x, n, as, rs, rfl, h⟩ := h
    refine ⟨_, (pss_cons (ps_set (i := 2) sc_law_numbers.nd rfl (Or.inl rfl) (pe_lst pa_nil))
        (pss_cons (ps_for PassesOwn.never rfl (pi_range1 rfl T.b_range (pa_cons (pe_call (ok_count_rankings T) (hr.mono (by decide)) rfl T.g_count_rankings T.F_count_rankings.kp (bd_count_rankings T) .nil pass0 (pa_cons (pv 1) pa_nil)) pa_nil)) (pg_name (i := 3) sc_law_numbers.nd rfl (Or.inl rfl)) (pss_one (ps_expr (pe_bm PySem.F.plainAttrs_list PySem.F.slot_list_append PySem.F.type_list_append mt_append (pv 2) (pa_cons (pe_call (ok_count_steps T) (hr.mono (by decide)) rfl T.g_count_steps T.F_count_steps.kp (bd_count_steps T) .nil pass0 (pa_cons (pv 0) (pa_cons pe_int (pa_cons (pe_call (ok_least_words T) (hr.mono (by decide)) rfl T.g_least_words T.F_least_words.kp (bd_least_words T) .nil pass0 (pa_cons (pe_call (ok_nth_ranking T) (hr.mono (by decide)) rfl T.g_nth_ranking T.F_nth_ranking.kp (bd_nth_ranking T) .nil pass0 (pa_cons (pv 1) (pa_cons (pv 3) pa_nil))) (pa_cons pe_int pa_nil))) pa_nil)))) pa_nil)))))
        (pss_one (ps_ret (pv 2))))), ?_⟩
    obtain ⟨hp, hn, l30, k⟩ := h
    have n13 : 1 ≤ n ∧ n ≤ 3 := by simp at hn; omega
    have l44 := len44 n hn
    have chk := chkF_is hn (show 3 ∈ [3, 8, 64, 300] by decide)
    have chb := List.all_eq_true.mp (chkB_all n hn)
    have rok : ∀ r ∈ rs, RowC (regs n) rs.length r := hp.rok
    refine ⟨Nat.zero_le _, fun D hD => ?_⟩
    have sD := sameNew hD (o := .lst [])
    refine ⟨_, rfl, n, rfl, n13.1, by omega, fun H1 s1 => ⟨((allRk n).length : Nat), rfl, by omega, by omega, for_range (n := (allRk n).length) (fun i σ H' => ∃ u3, σ = [some (.ref x), some (.int (n : Nat)), some (.ref D), u3] ∧ Same H H' ∧ (∀ p ∈ (allRk n).take i, ∀ j, sP (regs n) rs p = some j → 0 ≤ j ∧ j ≤ 2000000) ∧ H' D = some (.lst (((allRk n).take i).map fun p => intO (sP (regs n) rs p)))) ⟨none, rfl, sD.trans s1, fun p m => (nomatch m), s1 _ _ upd_same⟩ ?_ ?_⟩⟩
    · rintro i σ H2 hi ⟨u3, rfl, s2, bnd, eD⟩
      refine ⟨_, rfl, .inl ⟨rfl, _, SqL.of eD⟩, _, rfl, _, rfl, _, rfl, n, 0 + (i : Int), rfl, n13.1, by omega, by omega, by omega, fun q rt p H3 hp9 s3 rk => ?_⟩
      rw [show (0 + (i : Int)).toNat = i by omega] at hp9
      have mp := List.mem_of_getElem? hp9
      obtain ⟨lp, isr, p0, pm⟩ := ok_at n13.1 (by omega) mp
      have ml := srt_len p.1
      have pne : p.1 ≠ [] := fun z => by rw [z] at lp; have : 0 = n := lp; omega
      have fit : fitB 3 p = true := (chk.each p mp).2.2.2.2
      unfold fitB at fit
      rw [Bool.and_eq_true] at fit
      have f1 := of_decide_eq_true fit.1
      have f2 := of_decide_eq_true fit.2
      have cb := chb p mp
      rw [Bool.and_eq_true] at cb
      have cb1 := of_decide_eq_true cb.1
      have cb2 := List.all_eq_true.mp cb.2
      refine ⟨q, rt, p.1, p.2, (srt p.1).length, 3, rfl, rk, isr, p0, pm, by omega, by decide, by decide, f1, f2, fun t H4 f4 s4 e4 => ?_⟩
      have s24 := s3.trans s4
      refine ⟨x, (n : Nat), as, rs, 3, t, p.1.map (lw 4 p.2), rfl, hp.same (s2.trans s24), by decide, by decide, SqT.of e4, by rw [List.length_map, lp], fun y m => ?_, fun z => pne (List.map_eq_nil_iff.mp z), most_le (by omega) (by rw [List.length_map]; omega) (regs_len _), fun m e H5 s5 wk ml => ?_⟩
      · have := cb2 y m
        rw [Bool.and_eq_true] at this
        exact ⟨of_decide_eq_true this.1, of_decide_eq_true this.2⟩
      have wk : WalkIs (regs n) rs 4 (begM (p.1.map (lw 4 p.2))) m e := wk
      have hl2 : (p.1.map (lw 4 p.2)).length + 2 = (regs n).length := by
        rw [List.length_map, lp]
        have : ∀ m : Nat, m ≤ 4 → m + 2 = (regs m).length := by decide
        exact this n (by omega)
      have wt := walk_turn turn_rk (fun z => pne (List.map_eq_nil_iff.mp z)) hl2 rok wk
      rw [condR_id rok] at wt
      have wt : WalkIs (regs n) rs (rkOf 3 (p.1.map (lw 4 p.2))).2 (begM (rkOf 3 (p.1.map (lw 4 p.2))).1) m e := wt
      rw [cb1] at wt
      have so : sP (regs n) rs p = if e = "endless" then none else some (m : Int) := stO_of wt
      have s25 := s24.trans s5
      have eD5 := s25 _ _ eD
      refine ⟨D, _, _, rfl, rfl, eD5, small1000 (by rw [List.length_map, List.length_take]; omega), _, rfl, sameUp (s2.trans s25) hD, fun p2 m2 => ?_, ?_⟩
      · rw [tkS hp9] at m2
        rcases List.mem_append.mp m2 with m2 | m2
        · exact bnd p2 m2
        · rw [List.mem_singleton.mp m2, so]
          intro j hj
          by_cases c : e = "endless"
          · rw [if_pos c] at hj
            exact nomatch hj
          · rw [if_neg c] at hj
            rw [← Option.some.inj hj]
            omega
      · rw [upd_same, tkS hp9, List.map_append, ← so]
        rfl
    · rintro σ H2 ⟨u3, rfl, s2, bnd, eD⟩
      rw [List.take_length] at bnd eD
      exact ⟨_, rfl, k D H2 s2 bnd eD⟩
/-! _is_true -/
def sp_is_true (K : PySem.W.Frag) (A0 : Ad) : Sp := fun vs H Q E => ∃ (x : Addr) (n : Int) (as : List Addr) (rs : List (List V)) (q rt : Addr) (ks : List Int) (c : Int) (u : Addr), vs = [.ref x, .ref q, .ref u] ∧ ProgAt K H A0.c_Program x n as rs ∧ RkAt H q rt ks c ∧ (ks.length : Int) = n ∧ ks ≠ [] ∧ mostM rs (regs n.toNat) ks ≤ 2000000 ∧ SqT K H u [.str "end", .str "endless"] ∧ ∀ H', Same H H' → Q (.bl (decide (stO (regs n.toNat) rs c ks = none))) H'
theorem sc_is_true : FnScope ["program", "ranking", "query", "word", "items", "many"] ["program", "ranking", "query"] (defScope s_is_true) := ⟨rfl, rfl, rfl, by decide +kernel, rfl, by decide +kernel, by decide +kernel⟩
theorem bd_is_true (T : Txt w K mg A0) : Binds K A0.d_is_true ["program", "ranking", "query"] [] := T.F_is_true.binds fun _ _ _ _ _ _ us hl => match us, hl with | [_, _, _], _ => rfl
set_option maxHeartbeats 0 in
theorem ok_is_true (T : Txt w K mg A0) : FnOk P w K mg base CX0 6 A0.a_is_true A0.d_is_true ["program", "ranking", "query"] (sp_is_true K A0) := by
  refine T.F_is_true.ok sc_is_true (fun vs H Q E h => ?_) (fun cdv A outer s H vs Q E hr h => ?_)
  · obtain ⟨x, n, as, rs, q, rt, ks, c, u, rfl, _⟩ := h
    rfl
  · obtain ⟨x, n, as, rs, q, rt, ks, c, u, rfl, h⟩ := h
    refine ⟨_, (pss_cons (ps_asg (pv 2) (pg_starT rfl (pg_name (i := 3) sc_is_true.nd rfl (Or.inl rfl)) (pg_name (i := 4) sc_is_true.nd rfl (Or.inl rfl))))
        (pss_cons (ps_if (pt_cmpR op_eq (pv 3) pe_str (nomark _)) (pss_one (ps_ret (pe_cmpR op_eq (pe_ix ix_tup (pe_call (ok_ranked_walk T) (hr.mono (by decide)) rfl T.g_ranked_walk T.F_ranked_walk.kp (bd_ranked_walk T) .nil pass0 (pa_cons (pv 0) (pa_cons (pv 1) pa_nil))) pe_int (fun _ _ => rfl)) (pe_ix ix_list (pv 4) pe_int (fun _ _ => rfl)) (nomark _)))) pss_nil)
        (pss_cons (ps_if (pt_cmpR op_eq (pv 3) pe_str (nomark _)) (pss_one (ps_ret pe_dead)) pss_nil)
        (pss_cons (ps_if (pt_cmpR op_eq (pv 3) pe_str (nomark _)) (pss_cons (ps_set (i := 5) sc_is_true.nd rfl (Or.inl rfl) pe_dead)
        (pss_one (ps_ret pe_dead))) pss_nil)
        (pss_cons (ps_if (pt_cmpR op_eq (pv 3) pe_str (nomark _)) (pss_one (ps_ret pe_dead)) pss_nil)
        (pss_one (ps_ret pe_bl))))))), ?_⟩
    obtain ⟨hp, hr, hn, w0, hz, hu, k⟩ := h
    refine ⟨_, rfl, u, _, _, rfl, hu, fun l hl => ?_⟩
    have s1 := sameNew hl (o := .lst [.str "endless"])
    refine ⟨_, rfl, rfl, _, rfl, ?_⟩
    refine tT rfl ?_
    refine ⟨_, rfl, _, rfl, x, n, as, rs, q, rt, ks, c, rfl, hp.same s1, hr.same s1, hn, w0, hz, fun m e ss p ls la H2 s2 wk eq el lss ml => ?_⟩
    rw [stO_of wk] at k
    have kk := k H2 (s1.trans s2)
    refine ⟨p, _, 2, .str e, rfl, rfl, SqT.of eq, rfl, _, rfl, l, _, 0, .str "endless", rfl, rfl, SqL.of (s2 _ _ upd_same), rfl, rfl, ?_⟩
    by_cases c : e = "endless"
    · rw [if_pos c, decide_eq_true rfl] at kk
      rw [decide_eq_true (congrArg V.str c)]
      exact kk
    · rw [if_neg c, decide_eq_false (fun z => nomatch z)] at kk
      rw [decide_eq_false (fun z => c (V.str.inj z))]
      exact kk
/-! _average -/
def sp_average (K : PySem.W.Frag) (A0 : Ad) : Sp := fun vs H Q E => ∃ (x : Addr) (n : Nat) (as : List Addr) (rs : List (List V)) (l : Addr) (ts : List Addr) (ps : List (List Int × Int)) (W : List Int × Int → Int), vs = [.ref x, .ref l] ∧ ProgAt K H A0.c_Program x (n : Nat) as rs ∧ n ∈ [1, 2, 3] ∧ rs.length ≤ 30 ∧ H l = some (.lst (ts.map V.ref)) ∧ ps.length ≤ 44 ∧ (∀ p ∈ ps, p.1.length = n ∧ 0 ≤ W p ∧ W p < 2 ^ 1000) ∧ Paired (fun (t : Addr) (p : List Int × Int) => ∃ q rt, H t = some (.tup [.ref q, .int (W p)]) ∧ RkAt H q rt p.1 p.2) ts ps ∧ 0 < (ps.map W).sum ∧ ((∀ p ∈ ps, ∀ i, sP (regs n) rs p = some i → 0 ≤ i ∧ i ≤ 2000000) → ((∃ p ∈ ps, sP (regs n) rs p = none) → ∀ H', Same H H' → Q .non H') ∧ ((∀ p ∈ ps, sP (regs n) rs p ≠ none) → ∀ t H' (g : Int), Same H H' → (((((ps.map fun p => ((sP (regs n) rs p).getD 0) * W p).sum).natAbs.gcd ((ps.map W).sum).natAbs : Nat) : Int) = g) → H' t = some (.tup [.int ((ps.map fun p => ((sP (regs n) rs p).getD 0) * W p).sum / g), .int ((ps.map W).sum / g)]) → Q (.ref t) H'))
theorem sc_average : FnScope ["program", "weighted", "counted", "ranking", "weight", "many", "_", "steps_in_all", "weights", "common"] ["program", "weighted"] (defScope s_average) := ⟨rfl, rfl, rfl, by decide +kernel, rfl, by decide +kernel, by decide +kernel⟩
theorem bd_average (T : Txt w K mg A0) : Binds K A0.d_average ["program", "weighted"] [] := T.F_average.binds fun _ _ _ _ _ _ us hl => match us, hl with | [_, _], _ => rfl
set_option maxHeartbeats 0 in
theorem ok_average (T : Txt w K mg A0) : FnOk P w K mg base CX0 6 A0.a_average A0.d_average ["program", "weighted"] (sp_average K A0) := by
  refine T.F_average.ok sc_average (fun vs H Q E h => ?_) (fun cdv A outer s H vs Q E hr h => ?_)
  · obtain ⟨x, n, as, rs, l, ts, ps, W, rfl, _⟩ := h
    rfl
  · obtain ⟨x, n, as, rs, l, ts, ps, W, rfl, h⟩ := h
    refine ⟨_, (pss_cons (ps_setLc (i := 2) (own := [("ranking", 3), ("weight", 4)]) rfl sc_average.nd rfl rfl (sw_true rfl rfl rfl (by decide +kernel)) (pi_list (pv 1)) (blkOk_by (own := [("ranking", 3), ("weight", 4)]) (N := ["program", "weighted", "counted", "ranking", "weight", "many", "_", "steps_in_all", "weights", "common"]) (sc := defScope s_average) (by decide +kernel)) (fun _ _ _ _ _ => (show PG _ _ (gTup K 2 (gCons (gName 3) (gCons (gName 4) gNil))) from pg_tup rfl (pgs_cons (pg_name (i := 3) sc_average.nd rfl (Or.inl rfl)) (pgs_cons (pg_name (i := 4) sc_average.nd rfl (Or.inl rfl)) pgs_nil)))) (fun _ _ _ _ _ => pts_nil) (fun _ _ _ _ _ => (pe_tup (pa_cons (pe_call (ok_steps_of T) (hr.mono (by decide)) rfl T.g_steps_of T.F_steps_of.kp (bd_steps_of T) .nil pass0 (pa_cons (pv 0) (pa_cons (pv 3) pa_nil))) (pa_cons (pv 4) pa_nil)))))
        (pss_cons (ps_if (pt_val (pe_callB (cr_any rfl) (by rfl) T.b_any (by decide +kernel) (pa_cons (pe_lc (own := [("many", 5), ("_", 6)]) rfl sc_average.nd (pi_list (pv 2)) (blkOk_by (own := [("many", 5), ("_", 6)]) (N := ["program", "weighted", "counted", "ranking", "weight", "many", "_", "steps_in_all", "weights", "common"]) (sc := defScope s_average) (by decide +kernel)) (fun _ _ _ _ _ => (show PG _ _ (gTup K 2 (gCons (gName 5) (gCons (gName 6) gNil))) from pg_tup rfl (pgs_cons (pg_name (i := 5) sc_average.nd rfl (Or.inl rfl)) (pgs_cons (pg_name (i := 6) sc_average.nd rfl (Or.inl rfl)) pgs_nil)))) (fun _ _ _ _ _ => pts_nil) (fun _ _ _ _ _ => (pe_cmpR op_isN (pv 5) pe_non (nomark _)))) pa_nil))) (pss_one (ps_ret pe_non)) pss_nil)
        (pss_cons (ps_set (i := 7) sc_average.nd rfl (Or.inl rfl) (pe_callB (cr_sum rfl) (by rfl) T.b_sum (by decide +kernel) (pa_cons (pe_lc (own := [("many", 5), ("weight", 4)]) rfl sc_average.nd (pi_list (pv 2)) (blkOk_by (own := [("many", 5), ("weight", 4)]) (N := ["program", "weighted", "counted", "ranking", "weight", "many", "_", "steps_in_all", "weights", "common"]) (sc := defScope s_average) (by decide +kernel)) (fun _ _ _ _ _ => (show PG _ _ (gTup K 2 (gCons (gName 5) (gCons (gName 4) gNil))) from pg_tup rfl (pgs_cons (pg_name (i := 5) sc_average.nd rfl (Or.inl rfl)) (pgs_cons (pg_name (i := 4) sc_average.nd rfl (Or.inl rfl)) pgs_nil)))) (fun _ _ _ _ _ => pts_nil) (fun _ _ _ _ _ => (pe_op op_mulW (pv 5) (pv 4)))) pa_nil)))
        (pss_cons (ps_set (i := 8) sc_average.nd rfl (Or.inl rfl) (pe_callB (cr_sum rfl) (by rfl) T.b_sum (by decide +kernel) (pa_cons (pe_lc (own := [("_", 6), ("weight", 4)]) rfl sc_average.nd (pi_list (pv 2)) (blkOk_by (own := [("_", 6), ("weight", 4)]) (N := ["program", "weighted", "counted", "ranking", "weight", "many", "_", "steps_in_all", "weights", "common"]) (sc := defScope s_average) (by decide +kernel)) (fun _ _ _ _ _ => (show PG _ _ (gTup K 2 (gCons (gName 6) (gCons (gName 4) gNil))) from pg_tup rfl (pgs_cons (pg_name (i := 6) sc_average.nd rfl (Or.inl rfl)) (pgs_cons (pg_name (i := 4) sc_average.nd rfl (Or.inl rfl)) pgs_nil)))) (fun _ _ _ _ _ => pts_nil) (fun _ _ _ _ _ => (pv 4))) pa_nil)))
        (pss_cons (ps_set (i := 9) sc_average.nd rfl (Or.inl rfl) (pe_callBfun cr_gcd rfl T.gf_gcd (pa_cons (pv 7) (pa_cons (pv 8) pa_nil))))
        (pss_one (ps_ret (pe_tup (pa_cons (pe_op op_fdivW (pv 7) (pv 9)) (pa_cons (pe_op op_fdivW (pv 8) (pv 9)) pa_nil)))))))))), ?_⟩
    obtain ⟨hp, hn, l30, hl, l44, aw, pr, wp, k⟩ := h
    have n13 : 1 ≤ n ∧ n ≤ 3 := by simp at hn; omega
    have lt := Paired.length pr
    refine ⟨_, rfl, l, rfl, ⟨_, SqL.of hl⟩, fun D hD => lc_list (K := K) (a := l) (xs := ts.map V.ref) (fun i H' => Same H H' ∧ (∀ p ∈ ps.take i, ∀ j, sP (regs n) rs p = some j → 0 ≤ j ∧ j ≤ 2000000) ∧ ∃ cs, H' D = some (.lst (cs.map V.ref)) ∧ Paired (fun (c : Addr) (p : List Int × Int) => H' c = some (.tup [intO (sP (regs n) rs p), .int (W p)])) cs (ps.take i)) ⟨sameNew hD, fun p m => (nomatch m), [], upd_same, .nil⟩ (fun i H _ q => SqL.of (q.1 _ _ hl)) ?_ ?_⟩
    · rintro i x1 H2 hx ⟨s2, bnd, cs, eD, cr⟩
      obtain ⟨t, ht, rfl⟩ := refAt hx
      obtain ⟨p, hp9, q, rt, et, er⟩ := prG pr ht
      obtain ⟨lp, w0, w1⟩ := aw p (List.mem_of_getElem? hp9)
      have pne : p.1 ≠ [] := fun z => by rw [z] at lp; have : 0 = n := lp; omega
      have lcs := Paired.length cr
      have il : i < ps.length := (List.getElem?_eq_some_iff.mp hp9).1
      rw [List.length_take] at lcs
      refine ⟨t, _, rfl, SqT.of (s2 _ _ et), rfl, _, _, rfl, _, _, rfl, rfl, ?_⟩
      refine ⟨rfl, ?_⟩
      refine yesR ?_
      refine tT rfl ?_
      refine ⟨_, rfl, _, rfl, x, (n : Nat), as, rs, q, rt, p.1, p.2, rfl, hp.same s2, er.same s2, by rw [lp], pne, most_le (by omega) (by omega) (regs_len _), fun b9 H3 s3 => ?_⟩
      refine ⟨_, rfl, (by show 2 ≤ sizeLine; decide), fun t2 ht2 => ?_⟩
      have s4 := s3.trans (sameNew ht2 (o := .tup [intO (sP (regs n) rs p), .int (W p)]))
      have eD4 := s4 _ _ eD
      refine ⟨_, eD4, small1000 (by rw [List.length_map]; omega), sameUp (s2.trans s4) hD, fun p2 m2 => ?_, cs ++ [t2], by rw [upd_same, List.map_append]; rfl, ?_⟩
      · rw [tkS hp9] at m2
        rcases List.mem_append.mp m2 with m2 | m2
        · exact bnd p2 m2
        · rw [List.mem_singleton.mp m2]
          exact b9
      · have up : ∀ (c : Addr) (o : HO), (∀ xs, o ≠ .lst xs) → (upd H3 t2 (.tup [intO (sP (regs n) rs p), .int (W p)])) c = some o → (upd (upd H3 t2 (.tup [intO (sP (regs n) rs p), .int (W p)])) D (.lst (cs.map V.ref ++ [.ref t2]))) c = some o := fun c o ne e => (upd_ne fun z => by rw [z, eD4] at e; exact ne _ (Option.some.inj e).symm).trans e
        rw [tkS hp9]
        exact pra (prm cr fun c p e => up c _ (fun xs z => nomatch z) (s4 _ _ e)) (.cons (up t2 _ (fun xs z => nomatch z) upd_same) .nil)
    rintro H1 ⟨s1, bnd, cs, eD, cr⟩
    rw [List.length_map, lt, List.take_length] at bnd cr
    have lcs := Paired.length cr
    obtain ⟨k0, k1⟩ := k bnd
    refine ⟨_, rfl, D, rfl, ⟨_, SqL.of eD⟩, fun D2 hD2 => lc_list (K := K) (a := D) (xs := cs.map V.ref) (fun i H' => Same H1 H' ∧ H' D2 = some (.lst (((ps.take i).map fun p => decide (sP (regs n) rs p = none)).map V.bl))) ⟨sameNew hD2, upd_same⟩ (fun i H _ q => SqL.of (q.1 _ _ eD)) ?_ ?_⟩
    · rintro i x1 H2 hx ⟨s2, eD2⟩
      obtain ⟨c, hc, rfl⟩ := refAt hx
      obtain ⟨p, hp9, ec⟩ := prG cr hc
      refine ⟨c, _, rfl, SqT.of (s2 _ _ ec), rfl, _, _, rfl, _, _, rfl, rfl, ?_⟩
      refine ⟨rfl, ?_⟩
      refine yesR ?_
      refine tT rfl ?_
      refine ⟨_, rfl, rfl, ?_⟩
      refine ⟨_, eD2, small1000 (by rw [List.length_map, List.length_map, List.length_take]; omega), sameUp s2 hD2, ?_⟩
      rw [upd_same, tkS hp9, List.map_append, List.map_append]
      have : (decide (intO (sP (regs n) rs p) = V.non)) = decide (sP (regs n) rs p = none) := by
        cases sP (regs n) rs p <;> rfl
      rw [this]
      rfl
    rintro H2 ⟨s2, eD2⟩
    rw [List.length_map, lcs, List.take_length] at eD2
    refine ⟨D2, _, rfl, SqL.of eD2, ?_⟩
    have s12 := s1.trans s2
    refine ⟨_, rfl, ?_⟩
    by_cases any : ∃ p ∈ ps, sP (regs n) rs p = none
    · refine tT ?_ ?_
      · rw [List.any_map, List.any_eq_true]
        obtain ⟨p, m, e⟩ := any
        exact ⟨p, m, decide_eq_true e⟩
      · exact k0 any H2 s12
    refine tF ?_ ?_
    · rw [List.any_map, List.any_eq_false]
      exact fun p m z => any ⟨p, m, of_decide_eq_true z⟩
    have all : ∀ p ∈ ps, sP (regs n) rs p ≠ none := fun p m z => any ⟨p, m, z⟩
    have k := k1 all
    clear k0 k1 any
    have eD3 := s2 _ _ eD
    have cr3 := prm cr fun c p (e : H1 c = _) => s2 _ _ e
    refine ⟨_, rfl, D, rfl, ⟨_, SqL.of eD3⟩, fun D3 hD3 => lc_list (K := K) (a := D) (xs := cs.map V.ref) (fun i H' => Same H2 H' ∧ H' D3 = some (.lst (((ps.take i).map fun p => (sP (regs n) rs p).getD 0 * W p).map V.int))) ⟨sameNew hD3, upd_same⟩ (fun i H _ q => SqL.of (q.1 _ _ eD3)) ?_ ?_⟩
    · rintro i x1 H3 hx ⟨s3, eD4⟩
      obtain ⟨c, hc, rfl⟩ := refAt hx
      obtain ⟨p, hp9, ec⟩ := prG cr3 hc
      have mp := List.mem_of_getElem? hp9
      obtain ⟨lp, w0, w1⟩ := aw p mp
      obtain ⟨v, hv⟩ : ∃ v, sP (regs n) rs p = some v := Option.ne_none_iff_exists'.mp (all p mp)
      obtain ⟨v0, v1⟩ := bnd p mp v hv
      have ec := s3 _ _ ec
      rw [hv] at ec
      refine ⟨c, _, rfl, SqT.of ec, rfl, _, _, rfl, _, _, rfl, rfl, ?_⟩
      refine ⟨rfl, ?_⟩
      refine yesR ?_
      refine tT rfl ?_
      refine ⟨_, rfl, _, rfl, _, _, rfl, rfl, wide_mul (a := 30) (b := 1000) (by omega) (by omega) (by decide) (by decide) (by decide), ?_⟩
      refine ⟨_, eD4, small1000 (by rw [List.length_map, List.length_map, List.length_take]; omega), sameUp s3 hD3, ?_⟩
      rw [upd_same, tkS hp9, List.map_append, List.map_append]
      show _ = some (HO.lst (_ ++ [V.int ((sP (regs n) rs p).getD 0 * W p)]))
      rw [hv]
      rfl
    rintro H3 ⟨s3, eD4⟩
    rw [List.length_map, lcs, List.take_length] at eD4
    refine ⟨D3, _, rfl, SqL.of eD4, ?_⟩
    have eD5 := s3 _ _ eD3
    have cr4 := prm cr3 fun c p (e : H2 c = _) => s3 _ _ e
    refine ⟨_, rfl, D, rfl, ⟨_, SqL.of eD5⟩, fun D4 hD4 => lc_list (K := K) (a := D) (xs := cs.map V.ref) (fun i H' => Same H3 H' ∧ H' D4 = some (.lst (((ps.take i).map W).map V.int))) ⟨sameNew hD4, upd_same⟩ (fun i H _ q => SqL.of (q.1 _ _ eD5)) ?_ ?_⟩
    · rintro i x1 H4 hx ⟨s4, eD6⟩
      obtain ⟨c, hc, rfl⟩ := refAt hx
      obtain ⟨p, hp9, ec⟩ := prG cr4 hc
      refine ⟨c, _, rfl, SqT.of (s4 _ _ ec), rfl, _, _, rfl, _, _, rfl, rfl, ?_⟩
      refine ⟨rfl, ?_⟩
      refine yesR ?_
      refine tT rfl ?_
      refine ⟨_, rfl, ?_⟩
      refine ⟨_, eD6, small1000 (by rw [List.length_map, List.length_map, List.length_take]; omega), sameUp s4 hD4, ?_⟩
      rw [upd_same, tkS hp9, List.map_append, List.map_append]
      rfl
    rintro H4 ⟨s4, eD6⟩
    rw [List.length_map, lcs, List.take_length] at eD6
    refine ⟨D4, _, rfl, SqL.of eD6, ?_⟩
    obtain ⟨g, hg, g0, g1, _⟩ := gcd_cut (a := (ps.map fun p => (sP (regs n) rs p).getD 0 * W p).sum) wp
    have wbig : (ps.map W).sum < 2 ^ 1010 := by
      have := sum_le (f := W) (g := fun _ => (2 : Int) ^ 1000) ps fun p m => Int.le_of_lt (aw p m).2.2
      have e : (ps.map fun _ => (2 : Int) ^ 1000).sum = (ps.length : Int) * 2 ^ 1000 := by
        rw [List.map_const', List.sum_replicate_int]
      rw [e] at this
      have h2 : (ps.length : Int) * 2 ^ 1000 ≤ 44 * 2 ^ 1000 := Int.mul_le_mul_of_nonneg_right (by omega) (by decide)
      have h3 : (44 : Int) * 2 ^ 1000 < 2 ^ 1010 := by decide +kernel
      omega
    have gb : g.natAbs < 2 ^ 1010 := by omega
    refine ⟨_, rfl, _, rfl, _, _, rfl, ?_⟩
    rw [hg]
    refine ⟨_, rfl, _, rfl, _, _, rfl, rfl, wide_div g0 gb (by decide) (by decide), _, rfl, _, rfl, _, _, rfl, rfl, wide_div g0 gb (by decide) (by decide), (by show 2 ≤ sizeLine; decide), fun t ht => ?_⟩
    exact k t _ g (s12.trans (s3.trans (s4.trans (sameNew ht)))) hg upd_same
/-! average_steps -/
def sp_average_steps (K : PySem.W.Frag) (A0 : Ad) : Sp := fun vs H Q E => ∃ (x : Addr) (wd n : Nat) (as : List Addr) (rs : List (List V)), vs = [.ref x, .int (wd : Nat)] ∧ ProgAt K H A0.c_Program x (n : Nat) as rs ∧ n ∈ [1, 2, 3] ∧ wd ∈ [3, 8, 64, 300] ∧ rs.length ≤ 30 ∧ ((∀ p ∈ allRk n, ∀ i, sP (regs n) rs p = some i → 0 ≤ i ∧ i ≤ 2000000) → ((∃ p ∈ allRk n, sP (regs n) rs p = none) → ∀ H', Same H H' → Q .non H') ∧ ((∀ p ∈ allRk n, sP (regs n) rs p ≠ none) → ∀ t H' (g : Int), Same H H' → ((((((allRk n).map fun p => ((sP (regs n) rs p).getD 0) * wdW wd p).sum).natAbs.gcd (((allRk n).map fun p => wdW wd p).sum).natAbs : Nat) : Int) = g) → H' t = some (.tup [.int (((allRk n).map fun p => ((sP (regs n) rs p).getD 0) * wdW wd p).sum / g), .int (((allRk n).map fun p => wdW wd p).sum / g)]) → Q (.ref t) H'))
theorem sc_average_steps : FnScope ["program", "width", "rankings", "ranking"] ["program", "width"] (defScope s_average_steps) := ⟨rfl, rfl, rfl, by decide +kernel, rfl, by decide +kernel, by decide +kernel⟩
theorem bd_average_steps (T : Txt w K mg A0) : Binds K A0.d_average_steps ["program", "width"] [] := T.F_average_steps.binds fun _ _ _ _ _ _ us hl => match us, hl with | [_, _], _ => rfl
set_option maxHeartbeats 0 in
theorem ok_average_steps (T : Txt w K mg A0) : FnOk P w K mg base CX0 7 A0.a_average_steps A0.d_average_steps ["program", "width"] (sp_average_steps K A0) := by
  refine T.F_average_steps.ok sc_average_steps (fun vs H Q E h => ?_) (fun cdv A outer s H vs Q E hr h => ?_)
  · obtain ⟨x, wd, n, as, rs, rfl, _⟩ := h
    rfl
  · obtain ⟨x, wd, n, as, rs, rfl, h⟩ := h
    refine ⟨_, (pss_cons (ps_expr (pe_call (ok_check_width T) (hr.mono (by decide)) rfl T.g_check_width T.F_check_width.kp (bd_check_width T) .nil pass0 (pa_cons (pv 1) pa_nil)))
        (pss_cons (ps_set (i := 2) sc_average_steps.nd rfl (Or.inl rfl) (pe_call (ok_rankings_at T) (hr.mono (by decide)) rfl T.g_rankings_at T.F_rankings_at.kp (bd_rankings_at T) .nil pass0 (pa_cons (pe_prop (pv 0) T.cl_Program T.po_Program_inputs (ok_Program_inputs T) (hr.mono (by decide)) (bd_Program_inputs T) .nil pass0 rfl) (pa_cons (pv 1) pa_nil))))
        (pss_one (ps_ret (pe_call (ok_average T) (hr.mono (by decide)) rfl T.g_average T.F_average.kp (bd_average T) .nil pass0 (pa_cons (pv 0) (pa_cons (pe_lc (own := [("ranking", 3)]) (g := gName 3) rfl sc_average_steps.nd (pi_list (pv 2)) (blkOk_by (own := [("ranking", 3)]) (N := ["program", "width", "rankings", "ranking"]) (sc := defScope s_average_steps) (by decide +kernel)) (fun _ _ _ _ _ => pg_name (i := 3) sc_average_steps.nd rfl (Or.inl rfl)) (fun _ _ _ _ _ => pts_nil) (fun _ _ _ _ _ => (pe_tup (pa_cons (pv 3) (pa_cons (pe_call (ok_count_words T) (hr.mono (by decide)) rfl T.g_count_words T.F_count_words.kp (bd_count_words T) .nil pass0 (pa_cons (pv 3) (pa_cons (pv 1) pa_nil))) pa_nil))))) pa_nil))))))), ?_⟩
    obtain ⟨hp, hn, hw, l30, k⟩ := h
    have n13 : 1 ≤ n ∧ n ≤ 3 := by simp at hn; omega
    have w13 : 3 ≤ wd ∧ wd ≤ 300 := by simp at hw; omega
    have chk := chkF_is hn hw
    obtain ⟨dx, ll, u, ps, e1', _⟩ := id hp
    refine ⟨_, rfl, (wd : Nat), rfl, by omega, ?_⟩
    have we : ((wd : Int) - 1).toNat = wd - 1 := by omega
    refine ⟨_, rfl, x, dx, _, rfl, e1', x, n, as, rs, rfl, hp, _, rfl, n, wd, rfl, hn, hw, fun l qs H1 hl s1 e1 r1 => ?_⟩
    
    have l44 := len44 n hn
    have lq := pr_len r1
    have hp1 := hp.same s1
    refine ⟨_, rfl, _, rfl, l, rfl, ⟨_, SqL.of e1⟩, fun D hD => lc_list (K := K) (a := l) (xs := qs.map V.ref) (fun i H' => Same H1 H' ∧ ∃ ts : List Addr, H' D = some (.lst (ts.map V.ref)) ∧ Paired (fun (t : Addr) (p : List Int × Int) => ∃ q rt, H' t = some (.tup [.ref q, .int (wdW wd p)]) ∧ RkAt H' q rt p.1 p.2) ts ((allRk n).take i)) ⟨sameNew hD, [], upd_same, .nil⟩ (fun i H _ q => SqL.of (q.1 _ _ e1)) ?_ ?_⟩
    · rintro i x1 H2 hx ⟨s2, ts, eD, cr⟩
      obtain ⟨q, hq, rfl⟩ := refAt hx
      obtain ⟨p, hp9, rt, hr9⟩ := pr_at r1 hq
      obtain ⟨lp, isr, p0, pm⟩ := ok_at n13.1 (by omega) (List.mem_of_getElem? hp9)
      have ml := srt_len p.1
      have pne : p.1 ≠ [] := fun z => by rw [z] at lp; have : 0 = n := lp; omega
      have lts := Paired.length cr
      have il : i < (allRk n).length := (List.getElem?_eq_some_iff.mp hp9).1
      rw [List.length_take] at lts
      refine ⟨rfl, ?_⟩
      refine yesR ?_
      refine tT rfl ?_
      refine ⟨_, rfl, _, rfl, _, rfl, q, rt, p.1, p.2, (srt p.1).length, (wd : Nat), rfl, hr9.same s2, isr, p0, pm, by omega, by omega, by omega, by omega, fun H3 s3 => ?_⟩
      rw [we]
      refine ⟨(by show 2 ≤ sizeLine; decide), fun t2 ht2 => ?_⟩
      have s4 := s3.trans (sameNew ht2 (o := .tup [.ref q, .int (wdW wd p)]))
      have eD4 := s4 _ _ eD
      have up : ∀ (c : Addr) (o : HO), (∀ xs, o ≠ .lst xs) → (upd H3 t2 (.tup [.ref q, .int (wdW wd p)])) c = some o → (upd (upd H3 t2 (.tup [.ref q, .int (wdW wd p)])) D (.lst (ts.map V.ref ++ [.ref t2]))) c = some o := fun c o ne e => (upd_ne fun z => by rw [z, eD4] at e; exact ne _ (Option.some.inj e).symm).trans e
      have upr : ∀ {q rt : Addr} {p : List Int × Int}, RkAt (upd H3 t2 (.tup [.ref q, .int (wdW wd p)])) q rt p.1 p.2 → True := fun _ => trivial
      refine ⟨_, eD4, small1000 (by rw [List.length_map]; omega), sameUp (s2.trans s4) hD, ts ++ [t2], by rw [upd_same, List.map_append]; rfl, ?_⟩
      rw [tkS hp9]
      refine pra (prm cr fun c p e => ?_) (.cons ⟨q, rt, up t2 _ (fun xs z => nomatch z) upd_same, up _ _ (fun xs z => nomatch z) ((hr9.same (s2.trans s4)).1), up _ _ (fun xs z => nomatch z) ((hr9.same (s2.trans s4)).2)⟩ .nil)
      obtain ⟨q', rt', e1', e2', e3'⟩ := e
      exact ⟨q', rt', up _ _ (fun xs z => nomatch z) (s4 _ _ e1'), up _ _ (fun xs z => nomatch z) (s4 _ _ e2'), up _ _ (fun xs z => nomatch z) (s4 _ _ e3')⟩
    rintro H2 ⟨s2, ts, eD, cr⟩
    rw [List.length_map, lq, List.take_length] at cr
    have s12 := s1.trans s2
    refine ⟨x, n, as, rs, D, ts, allRk n, fun p => wdW wd p, rfl, hp.same s12, hn, l30, eD, l44, (fun p m => ⟨(ok_at n13.1 (by omega) m).1, Int.le_trans (show (0 : Int) ≤ 1 by decide) (chk.each p m).1, (chk.each p m).2.1⟩), cr, (show 0 < ((allRk n).map (wdW wd)).sum by rw [chk.all]; exact Int.pow_pos (by decide)), fun bnd => ?_⟩
    obtain ⟨k0, k1⟩ := k bnd
    exact ⟨fun h H' s => k0 h H' (s12.trans s), fun h t H' g s => k1 h t H' g (s12.trans s)⟩
/-! average_limit -/
def sp_average_limit (K : PySem.W.Frag) (A0 : Ad) : Sp := fun vs H Q E => ∃ (x : Addr) (n : Nat) (as : List Addr) (rs : List (List V)), vs = [.ref x] ∧ ProgAt K H A0.c_Program x (n : Nat) as rs ∧ n ∈ [1, 2, 3] ∧ rs.length ≤ 30 ∧ ((∀ p ∈ allRk n, ∀ i, sP (regs n) rs p = some i → 0 ≤ i ∧ i ≤ 2000000) → ((∃ p ∈ allRk n, sP (regs n) rs p = none) → ∀ H', Same H H' → Q .non H') ∧ ((∀ p ∈ allRk n, sP (regs n) rs p ≠ none) → ∀ t H' (g : Int), Same H H' → ((((((allRk n).map fun p => ((sP (regs n) rs p).getD 0) * liW p).sum).natAbs.gcd (((allRk n).map fun p => liW p).sum).natAbs : Nat) : Int) = g) → H' t = some (.tup [.int (((allRk n).map fun p => ((sP (regs n) rs p).getD 0) * liW p).sum / g), .int (((allRk n).map fun p => liW p).sum / g)]) → Q (.ref t) H'))
theorem sc_average_limit : FnScope ["program", "ranking"] ["program"] (defScope s_average_limit) := ⟨rfl, rfl, rfl, by decide +kernel, rfl, by decide +kernel, by decide +kernel⟩
theorem bd_average_limit (T : Txt w K mg A0) : Binds K A0.d_average_limit ["program"] [] := T.F_average_limit.binds fun _ _ _ _ _ _ us hl => match us, hl with | [_], _ => rfl
set_option maxHeartbeats 0 in
theorem ok_average_limit (T : Txt w K mg A0) : FnOk P w K mg base CX0 7 A0.a_average_limit A0.d_average_limit ["program"] (sp_average_limit K A0) := by
  refine T.F_average_limit.ok sc_average_limit (fun vs H Q E h => ?_) (fun cdv A outer s H vs Q E hr h => ?_)
  · obtain ⟨x, n, as, rs, rfl, _⟩ := h
    rfl
  · obtain ⟨x, n, as, rs, rfl, h⟩ := h
    refine ⟨_, (pss_one (ps_ret (pe_call (ok_average T) (hr.mono (by decide)) rfl T.g_average T.F_average.kp (bd_average T) .nil pass0 (pa_cons (pv 0) (pa_cons (pe_lc (own := [("ranking", 1)]) (g := gName 1) rfl sc_average_limit.nd (pi_list (pe_call (ok_all_rankings T) (hr.mono (by decide)) rfl T.g_all_rankings T.F_all_rankings.kp (bd_all_rankings T) .nil pass0 (pa_cons (pe_prop (pv 0) T.cl_Program T.po_Program_inputs (ok_Program_inputs T) (hr.mono (by decide)) (bd_Program_inputs T) .nil pass0 rfl) pa_nil))) (blkOk_by (own := [("ranking", 1)]) (N := ["program", "ranking"]) (sc := defScope s_average_limit) (by decide +kernel)) (fun _ _ _ _ _ => pg_name (i := 1) sc_average_limit.nd rfl (Or.inl rfl)) (fun _ _ _ _ _ => pts_nil) (fun _ _ _ _ _ => (pe_tup (pa_cons (pv 1) (pa_cons (pe_call (ok_weight_in_limit T) (hr.mono (by decide)) rfl T.g_weight_in_limit T.F_weight_in_limit.kp (bd_weight_in_limit T) .nil pass0 (pa_cons (pv 1) pa_nil)) pa_nil))))) pa_nil))))), ?_⟩
    obtain ⟨hp, hn, l30, k⟩ := h
    have n13 : 1 ≤ n ∧ n ≤ 3 := by simp at hn; omega
    have chk := chkF_is hn (show 3 ∈ [3, 8, 64, 300] by decide)
    obtain ⟨dx, ll, u, ps, e1', _⟩ := id hp
    refine ⟨_, rfl, _, rfl, x, dx, _, rfl, e1', x, n, as, rs, rfl, hp, n, rfl, n13.1, by omega, fun l qs H1 hl s1 e1 r1 => ?_⟩
    
    have l44 := len44 n hn
    have lq := pr_len r1
    have hp1 := hp.same s1
    refine ⟨l, rfl, ⟨_, SqL.of e1⟩, fun D hD => lc_list (K := K) (a := l) (xs := qs.map V.ref) (fun i H' => Same H1 H' ∧ ∃ ts : List Addr, H' D = some (.lst (ts.map V.ref)) ∧ Paired (fun (t : Addr) (p : List Int × Int) => ∃ q rt, H' t = some (.tup [.ref q, .int (liW p)]) ∧ RkAt H' q rt p.1 p.2) ts ((allRk n).take i)) ⟨sameNew hD, [], upd_same, .nil⟩ (fun i H _ q => SqL.of (q.1 _ _ e1)) ?_ ?_⟩
    · rintro i x1 H2 hx ⟨s2, ts, eD, cr⟩
      obtain ⟨q, hq, rfl⟩ := refAt hx
      obtain ⟨p, hp9, rt, hr9⟩ := pr_at r1 hq
      obtain ⟨lp, isr, p0, pm⟩ := ok_at n13.1 (by omega) (List.mem_of_getElem? hp9)
      have ml := srt_len p.1
      have pne : p.1 ≠ [] := fun z => by rw [z] at lp; have : 0 = n := lp; omega
      have lts := Paired.length cr
      have il : i < (allRk n).length := (List.getElem?_eq_some_iff.mp hp9).1
      rw [List.length_take] at lts
      refine ⟨rfl, ?_⟩
      refine yesR ?_
      refine tT rfl ?_
      refine ⟨_, rfl, _, rfl, q, rt, p.1, p.2, rfl, hr9.same s2, p0, by omega, by omega, pne, isr, fun H3 s3 => ?_⟩
      refine ⟨(by show 2 ≤ sizeLine; decide), fun t2 ht2 => ?_⟩
      have s4 := s3.trans (sameNew ht2 (o := .tup [.ref q, .int (liW p)]))
      have eD4 := s4 _ _ eD
      have up : ∀ (c : Addr) (o : HO), (∀ xs, o ≠ .lst xs) → (upd H3 t2 (.tup [.ref q, .int (liW p)])) c = some o → (upd (upd H3 t2 (.tup [.ref q, .int (liW p)])) D (.lst (ts.map V.ref ++ [.ref t2]))) c = some o := fun c o ne e => (upd_ne fun z => by rw [z, eD4] at e; exact ne _ (Option.some.inj e).symm).trans e
      have upr : ∀ {q rt : Addr} {p : List Int × Int}, RkAt (upd H3 t2 (.tup [.ref q, .int (liW p)])) q rt p.1 p.2 → True := fun _ => trivial
      refine ⟨_, eD4, small1000 (by rw [List.length_map]; omega), sameUp (s2.trans s4) hD, ts ++ [t2], by rw [upd_same, List.map_append]; rfl, ?_⟩
      rw [tkS hp9]
      refine pra (prm cr fun c p e => ?_) (.cons ⟨q, rt, up t2 _ (fun xs z => nomatch z) upd_same, up _ _ (fun xs z => nomatch z) ((hr9.same (s2.trans s4)).1), up _ _ (fun xs z => nomatch z) ((hr9.same (s2.trans s4)).2)⟩ .nil)
      obtain ⟨q', rt', e1', e2', e3'⟩ := e
      exact ⟨q', rt', up _ _ (fun xs z => nomatch z) (s4 _ _ e1'), up _ _ (fun xs z => nomatch z) (s4 _ _ e2'), up _ _ (fun xs z => nomatch z) (s4 _ _ e3')⟩
    rintro H2 ⟨s2, ts, eD, cr⟩
    rw [List.length_map, lq, List.take_length] at cr
    have s12 := s1.trans s2
    refine ⟨x, n, as, rs, D, ts, allRk n, fun p => liW p, rfl, hp.same s12, hn, l30, eD, l44, (fun p m => ⟨(ok_at n13.1 (by omega) m).1, (chk.each p m).2.2.1, Int.lt_of_lt_of_le (chk.each p m).2.2.2.1 (by decide +kernel)⟩), cr, chk.pos, fun bnd => ?_⟩
    obtain ⟨k0, k1⟩ := k bnd
    exact ⟨fun h H' s => k0 h H' (s12.trans s), fun h t H' g s => k1 h t H' g (s12.trans s)⟩
/-! _rankings_with -/
def sp_rankings_with (K : PySem.W.Frag) (A0 : Ad) : Sp := fun vs H Q E => ∃ (x : Addr) (n : Nat) (as : List Addr) (rs : List (List V)) (wd : Nat) (u : Addr), vs = [.ref x, .int (wd : Nat), .ref u] ∧ ProgAt K H A0.c_Program x (n : Nat) as rs ∧ n ∈ [1, 2, 3] ∧ wd ∈ [3, 8, 64, 300] ∧ rs.length ≤ 30 ∧ SqT K H u [.str "end", .str "endless"] ∧ ∀ l qs H', Same H H' → H' l = some (.lst (qs.map V.ref)) → RL H' qs ((allRk n).filter fun p => decide (sP (regs n) rs p = none)) → Q (.ref l) H'
theorem sc_rankings_with : FnScope ["program", "width", "query", "ranking"] ["program", "width", "query"] (defScope s_rankings_with) := ⟨rfl, rfl, rfl, by decide +kernel, rfl, by decide +kernel, by decide +kernel⟩
theorem bd_rankings_with (T : Txt w K mg A0) : Binds K A0.d_rankings_with ["program", "width", "query"] [] := T.F_rankings_with.binds fun _ _ _ _ _ _ us hl => match us, hl with | [_, _, _], _ => rfl
set_option maxHeartbeats 0 in
theorem ok_rankings_with (T : Txt w K mg A0) : FnOk P w K mg base CX0 7 A0.a_rankings_with A0.d_rankings_with ["program", "width", "query"] (sp_rankings_with K A0) := by
  refine T.F_rankings_with.ok sc_rankings_with (fun vs H Q E h => ?_) (fun cdv A outer s H vs Q E hr h => ?_)
  · obtain ⟨x, n, as, rs, wd, u, rfl, _⟩ := h
    rfl
  · obtain ⟨x, n, as, rs, wd, u, rfl, h⟩ := h
    refine ⟨_, (pss_one (ps_ret (pe_lc (own := [("ranking", 3)]) (g := gName 3) rfl sc_rankings_with.nd (pi_list (pe_call (ok_rankings_at T) (hr.mono (by decide)) rfl T.g_rankings_at T.F_rankings_at.kp (bd_rankings_at T) .nil pass0 (pa_cons (pe_prop (pv 0) T.cl_Program T.po_Program_inputs (ok_Program_inputs T) (hr.mono (by decide)) (bd_Program_inputs T) .nil pass0 rfl) (pa_cons (pv 1) pa_nil)))) (blkOk_by (own := [("ranking", 3)]) (N := ["program", "width", "query", "ranking"]) (sc := defScope s_rankings_with) (by decide +kernel)) (fun _ _ _ _ _ => pg_name (i := 3) sc_rankings_with.nd rfl (Or.inl rfl)) (fun _ _ _ _ _ => pts_one (pt_val (pe_call (ok_is_true T) (hr.mono (by decide)) rfl T.g_is_true T.F_is_true.kp (bd_is_true T) .nil pass0 (pa_cons (pv 0) (pa_cons (pv 3) (pa_cons (pv 2) pa_nil)))))) (fun _ _ _ _ _ => (pv 3))))), ?_⟩
    obtain ⟨hp, hn, hw, l30, hu, k⟩ := h
    have n13 : 1 ≤ n ∧ n ≤ 3 := by simp at hn; omega
    have l44 := len44 n hn
    obtain ⟨dx, ll, uu, ps, e1', _⟩ := id hp
    refine ⟨_, rfl, x, dx, _, rfl, e1', x, n, as, rs, rfl, hp, _, rfl, n, wd, rfl, hn, hw, fun l qs H1 hl s1 e1 r1 => ?_⟩
    have lq := pr_len r1
    refine ⟨l, rfl, ⟨_, SqL.of e1⟩, fun D hD => lc_list (K := K) (a := l) (xs := qs.map V.ref) (fun i H' => Same H1 H' ∧ ∃ us : List Addr, us.length ≤ i ∧ H' D = some (.lst (us.map V.ref)) ∧ RL H' us (((allRk n).take i).filter fun p => decide (sP (regs n) rs p = none))) ⟨sameNew hD, [], Nat.le_refl _, upd_same, .nil⟩ (fun i H _ q => SqL.of (q.1 _ _ e1)) ?_ ?_⟩
    · rintro i x1 H2 hx ⟨s2, us, lu, eD, cr⟩
      obtain ⟨q, hq, rfl⟩ := refAt hx
      obtain ⟨p, hp9, rt, hr9⟩ := pr_at r1 hq
      obtain ⟨lp, isr, p0, pm⟩ := ok_at n13.1 (by omega) (List.mem_of_getElem? hp9)
      have pne : p.1 ≠ [] := fun z => by rw [z] at lp; have : 0 = n := lp; omega
      have il : i < (allRk n).length := (List.getElem?_eq_some_iff.mp hp9).1
      refine ⟨rfl, ?_⟩
      refine ⟨_, rfl, _, rfl, _, rfl, x, (n : Nat), as, rs, q, rt, p.1, p.2, u, rfl, hp.same (s1.trans s2), hr9.same s2, by rw [lp], pne, most_le (by omega) (by omega) (regs_len _), sameT (s1.trans s2) hu, fun H3 s3 => ?_⟩
      have eD3 := s3 _ _ eD
      refine ⟨_, rfl, ?_⟩
      by_cases c : sP (regs n) rs p = none
      · refine tT (decide_eq_true c) ?_
        refine ⟨_, rfl, _, eD3, small1000 (by rw [List.length_map]; omega), sameUp (s2.trans s3) hD, us ++ [q], by rw [List.length_append]; exact Nat.succ_le_succ lu, by rw [upd_same, List.map_append]; rfl, ?_⟩
        rw [tkS hp9, List.filter_append]
        have : List.filter (fun p => decide (sP (regs n) rs p = none)) [p] = [p] := by rw [List.filter_cons, if_pos (decide_eq_true c)]; rfl
        rw [this]
        exact RL.put (pra (RL.same cr s3) (.cons ⟨rt, hr9.same (s2.trans s3)⟩ .nil)) eD3
      · refine tF (decide_eq_false c) ?_
        refine ⟨s2.trans s3, us, Nat.le_succ_of_le lu, eD3, ?_⟩
        rw [tkS hp9, List.filter_append]
        have : List.filter (fun p => decide (sP (regs n) rs p = none)) [p] = [] := by rw [List.filter_cons, if_neg (by rw [decide_eq_false c]; decide)]; rfl
        rw [this, List.append_nil]
        exact RL.same cr s3
    rintro H2 ⟨s2, us, lu, eD, cr⟩
    rw [List.length_map, lq, List.take_length] at cr
    exact k D us H2 (s1.trans s2) eD cr
/-! count_inputs -/
def sp_count_inputs (K : PySem.W.Frag) (A0 : Ad) : Sp := fun vs H Q E => ∃ (x : Addr) (n : Nat) (as : List Addr) (rs : List (List V)) (wd : Nat) (u : Addr), vs = [.ref x, .int (wd : Nat), .ref u] ∧ ProgAt K H A0.c_Program x (n : Nat) as rs ∧ n ∈ [1, 2, 3] ∧ wd ∈ [3, 8, 64, 300] ∧ rs.length ≤ 30 ∧ SqT K H u [.str "end", .str "endless"] ∧ ∀ H', Same H H' → Q (.int (((allRk n).filter fun p => decide (sP (regs n) rs p = none)).map (wdW wd)).sum) H'
theorem sc_count_inputs : FnScope ["program", "width", "query"] ["program", "width", "query"] (defScope s_count_inputs) := ⟨rfl, rfl, rfl, by decide +kernel, rfl, by decide +kernel, by decide +kernel⟩
theorem bd_count_inputs (T : Txt w K mg A0) : Binds K A0.d_count_inputs ["program", "width", "query"] [] := T.F_count_inputs.binds fun _ _ _ _ _ _ us hl => match us, hl with | [_, _, _], _ => rfl
set_option maxHeartbeats 0 in
theorem ok_count_inputs (T : Txt w K mg A0) : FnOk P w K mg base CX0 8 A0.a_count_inputs A0.d_count_inputs ["program", "width", "query"] (sp_count_inputs K A0) := by
  refine T.F_count_inputs.ok sc_count_inputs (fun vs H Q E h => ?_) (fun cdv A outer s H vs Q E hr h => ?_)
  · obtain ⟨x, n, as, rs, wd, u, rfl, _⟩ := h
    rfl
  · obtain ⟨x, n, as, rs, wd, u, rfl, h⟩ := h
    refine ⟨_, (pss_cons (ps_expr (pe_call (ok_check_width T) (hr.mono (by decide)) rfl T.g_check_width T.F_check_width.kp (bd_check_width T) .nil pass0 (pa_cons (pv 1) pa_nil)))
        (pss_cons (ps_expr (pe_call (ok_check_query T) (hr.mono (by decide)) rfl T.g_check_query T.F_check_query.kp (bd_check_query T) .nil pass0 (pa_cons (pv 0) (pa_cons (pv 2) pa_nil))))
        (pss_one (ps_ret (pe_call (ok_count_all T) (hr.mono (by decide)) rfl T.g_count_all T.F_count_all.kp (bd_count_all T) .nil pass0 (pa_cons (pe_call (ok_rankings_with T) (hr.mono (by decide)) rfl T.g_rankings_with T.F_rankings_with.kp (bd_rankings_with T) .nil pass0 (pa_cons (pv 0) (pa_cons (pv 1) (pa_cons (pv 2) pa_nil)))) (pa_cons (pv 1) pa_nil))))))), ?_⟩
    obtain ⟨hp, hn, hw, l30, hu, k⟩ := h
    have w13 : 3 ≤ wd ∧ wd ≤ 300 := by simp at hw; omega
    have l44 := len44 n hn
    refine ⟨_, rfl, (wd : Nat), rfl, by omega, ?_⟩
    refine ⟨_, rfl, _, rfl, x, u, rfl, hu, fun H1 s1 => ?_⟩
    refine ⟨_, rfl, _, rfl, _, rfl, x, n, as, rs, wd, u, rfl, hp.same s1, hn, hw, l30, sameT s1 hu, fun l qs H2 s2 e2 r2 => ?_⟩
    refine ⟨_, rfl, l, qs, _, n, wd, rfl, e2, r2, Nat.le_trans (List.length_filter_le _ _) l44, fun p m => (List.mem_filter.mp m).1, hn, hw, fun H3 s3 => ?_⟩
    exact k _ (s1.trans (s2.trans s3))
/-! law -/
def sp_law (K : PySem.W.Frag) : Sp := fun vs H Q E => ∃ (a : Addr) (ns : List Int), vs = [.ref a] ∧ SqL K H a (ns.map V.int) ∧ ns.length ≤ 63 ∧ ∀ H', Q (.bl true) H'
theorem sc_law : FnScope ["script", "bag", "turn", "many", "span", "made", "numbers", "told", "top", "bottom", "factor", "over", "under", "far"] ["script"] (defScope s_law) := ⟨rfl, rfl, rfl, by decide +kernel, rfl, by decide +kernel, by decide +kernel⟩
theorem bd_law (T : Txt w K mg A0) : Binds K A0.d_law ["script"] [] := T.F_law.binds fun _ _ _ _ _ _ us hl => match us, hl with | [_], _ => rfl
set_option maxHeartbeats 0 in
theorem ok_law (T : Txt w K mg A0) : FnOk P w K mg base CX0 9 A0.a_law A0.d_law ["script"] (sp_law K) := by
  refine T.F_law.ok sc_law (fun vs H Q E h => ?_) (fun cdv A outer s H vs Q E hr h => ?_)
  · obtain ⟨a, ns, rfl, _⟩ := h
    rfl
  · obtain ⟨a, ns, rfl, h⟩ := h
    refine ⟨_, (pss_cons (ps_set (i := 1) sc_law.nd rfl (Or.inl rfl) (pe_call (ok_law_bag T) (hr.mono (by decide)) rfl T.g_law_bag T.F_law_bag.kp (bd_law_bag T) .nil pass0 (pa_cons (pv 0) pa_nil)))
        (pss_cons (ps_for PassesOwn.never rfl (pi_range1 rfl T.b_range (pa_cons (pe_op op_add pe_int (pe_callB (call_min2 rfl) (by rfl) T.b_min (by decide +kernel) (pa_cons pe_int (pa_cons (pe_callB call_len_seq (by rfl) T.b_len (by decide +kernel) (pa_cons (pv 0) pa_nil)) pa_nil)))) pa_nil)) (pg_name (i := 2) sc_law.nd rfl (Or.inl rfl)) (pss_cons (ps_par (i := 3) (j := 4) rfl sc_law.nd rfl rfl (by decide) rfl rfl (pa_cons (pe_op op_add pe_int (pe_call (ok_law_draw T) (hr.mono (by decide)) rfl T.g_law_draw T.F_law_draw.kp (bd_law_draw T) .nil pass0 (pa_cons (pv 1) (pa_cons pe_int pa_nil)))) (pa_cons (pe_ix ix_tup (pe_tup (pa_cons pe_int (pa_cons pe_int (pa_cons pe_int (pa_cons pe_int pa_nil))))) (pe_call (ok_law_draw T) (hr.mono (by decide)) rfl T.g_law_draw T.F_law_draw.kp (bd_law_draw T) .nil pass0 (pa_cons (pv 1) (pa_cons pe_int pa_nil))) (fun _ _ => rfl)) pa_nil)) rfl)
        (pss_cons (ps_set (i := 5) sc_law.nd rfl (Or.inl rfl) (pe_makeS T.mk_Program (ok_Program___init T) (hr.mono (by decide)) rfl T.gc_Program (bd_Program___init T) (fun σ => passAt takes0 σ) (pa_cons (pv 3) (pa_cons (pe_call (ok_law_lines T) (hr.mono (by decide)) rfl T.g_law_lines T.F_law_lines.kp (bd_law_lines T) .nil pass0 (pa_cons (pv 1) (pa_cons (pv 3) (pa_cons pe_int pa_nil)))) pa_nil))))
        (pss_cons (ps_par (i := 6) (j := 7) rfl sc_law.nd rfl rfl (by decide) rfl rfl (pa_cons (pe_call (ok_law_numbers T) (hr.mono (by decide)) rfl T.g_law_numbers T.F_law_numbers.kp (bd_law_numbers T) .nil pass0 (pa_cons (pv 5) (pa_cons (pv 3) pa_nil))) (pa_cons (pe_call (ok_average_limit T) (hr.mono (by decide)) rfl T.g_average_limit T.F_average_limit.kp (bd_average_limit T) .nil pass0 (pa_cons (pv 5) pa_nil)) pa_nil)) rfl)
        (pss_cons (ps_if (PW.pt (pw_or (pt_cmpR op_ne (pe_cmpR op_isN (pv 7) pe_non (nomark _)) (pe_cmpR (op_inD (units1 hr)) pe_non (pv 6) rfl) (nomark _)) (pw_or1 (pt_cmpR op_ne (pe_cmpR op_isN (pe_call (ok_average_steps T) (hr.mono (by decide)) rfl T.g_average_steps T.F_average_steps.kp (bd_average_steps T) .nil pass0 (pa_cons (pv 5) (pa_cons pe_int pa_nil))) pe_non (nomark _)) (pe_cmpR (op_inD (units1 hr)) pe_non (pv 6) rfl) (nomark _))))) (pss_one (ps_ret pe_bl)) pss_nil)
        (pss_cons (ps_if (pt_cmpR op_isN (pv 7) pe_non (nomark _)) (pss_cons (ps_if (pt_cmpR op_lt (pe_call (ok_count_inputs T) (hr.mono (by decide)) rfl T.g_count_inputs T.F_count_inputs.kp (bd_count_inputs T) .nil pass0 (pa_cons (pv 5) (pa_cons pe_int (pa_cons (pe_tup (pa_cons pe_str (pa_cons pe_str pa_nil))) pa_nil)))) pe_int (nomark _)) (pss_one (ps_ret pe_bl)) pss_nil)
        (pss_one ps_continue)) pss_nil)
        (pss_cons (ps_asg (pv 7) (pg_tup rfl (pgs_cons (pg_name (i := 8) sc_law.nd rfl (Or.inl rfl)) (pgs_cons (pg_name (i := 9) sc_law.nd rfl (Or.inl rfl)) pgs_nil))))
        (pss_cons (ps_if (PW.pt (pw_or (pt_not (pt_chain op_le op_le (pe_op op_mulW (pe_callB (cr_min rfl) (by rfl) T.b_min (by decide +kernel) (pa_cons (pv 6) pa_nil)) (pv 9)) (pv 8) (pe_op op_mulW (pe_callB (cr_max rfl) (by rfl) T.b_max (by decide +kernel) (pa_cons (pv 6) pa_nil)) (pv 9)))) (pw_or1 (pt_cmpR op_lt (pv 9) pe_int (nomark _))))) (pss_one (ps_ret pe_bl)) pss_nil)
        (pss_cons (ps_for PassesOwn.never rfl (pi_range2 rfl T.b_range (pa_cons pe_int (pa_cons pe_int pa_nil))) (pg_name (i := 10) sc_law.nd rfl (Or.inl rfl)) (pss_one (ps_if (PW.pt (pw_and (pt_cmpR op_eq (pe_op op_mod (pv 8) (pv 10)) pe_int (nomark _)) (pw_and1 (pt_cmpR op_eq (pe_op op_mod (pv 9) (pv 10)) pe_int (nomark _))))) (pss_one (ps_ret pe_bl)) pss_nil)))
        (pss_cons (ps_asg (pe_call (ok_average_steps T) (hr.mono (by decide)) rfl T.g_average_steps T.F_average_steps.kp (bd_average_steps T) .nil pass0 (pa_cons (pv 5) (pa_cons (pv 4) pa_nil))) (pg_tup rfl (pgs_cons (pg_name (i := 11) sc_law.nd rfl (Or.inl rfl)) (pgs_cons (pg_name (i := 12) sc_law.nd rfl (Or.inl rfl)) pgs_nil))))
        (pss_cons (ps_set (i := 13) sc_law.nd rfl (Or.inl rfl) (pe_op op_mulW (pe_callB call_abs (by rfl) T.b_abs (by decide +kernel) (pa_cons (pe_op op_sub (pe_op op_mulW (pv 11) (pv 9)) (pe_op op_mulW (pv 8) (pv 12))) pa_nil)) (pe_call (ok_law_all_words T) (hr.mono (by decide)) rfl T.g_law_all_words T.F_law_all_words.kp (bd_law_all_words T) .nil pass0 (pa_cons (pv 3) (pa_cons (pv 4) pa_nil)))))
        (pss_cons (ps_if (pt_cmpR op_gt (pv 13) (pe_op op_mulW (pe_op op_mulW (pe_op op_mulW (pe_op op_mulW pe_int (pe_op op_sub (pe_callB (cr_max rfl) (by rfl) T.b_max (by decide +kernel) (pa_cons (pv 6) pa_nil)) (pe_callB (cr_min rfl) (by rfl) T.b_min (by decide +kernel) (pa_cons (pv 6) pa_nil)))) (pe_call (ok_law_equal_share T) (hr.mono (by decide)) rfl T.g_law_equal_share T.F_law_equal_share.kp (bd_law_equal_share T) .nil pass0 (pa_cons (pv 3) (pa_cons (pv 4) pa_nil)))) (pv 9)) (pv 12)) (nomark _)) (pss_one (ps_ret pe_bl)) pss_nil)
        (pss_one (ps_if (PW.pt (pw_and (pt_cmpR op_eq (pv 3) pe_int (nomark _)) (pw_and1 (pt_cmpR op_ne (pe_op op_mulW (pv 11) (pv 9)) (pe_op op_mulW (pv 8) (pv 12)) (nomark _))))) (pss_one (ps_ret pe_bl)) pss_nil))))))))))))))
        (pss_one (ps_ret pe_bl)))), ?_⟩
    obtain ⟨hS, hlen, k⟩ := h
    refine ⟨_, rfl, a, ns, rfl, hS, hlen, fun b l H0 hb hl nbl s0 bag0 => ?_⟩
    have hS0 := s0.seq hS
    refine ⟨_, rfl, a, _, rfl, .inl hS0, _, _, rfl, _, _, rfl, rfl, ?_⟩
    rw [List.length_map]
    obtain ⟨m, hm, em⟩ : ∃ m : Nat, m ≤ 8 ∧ (3 : Int) + (if ((ns.length : Nat) : Int) < 5 then ((ns.length : Nat) : Int) else 5) = (m : Int) := by
      by_cases c : ((ns.length : Nat) : Int) < 5
      · exact ⟨3 + ns.length, by omega, by rw [if_pos c]; omega⟩
      · exact ⟨8, by omega, by rw [if_neg c]; omega⟩
    refine ⟨(m : Int), (by show [V.int (3 + _)] = _; rw [em]), by omega, by omega, for_range (n := m) (fun i σ H' => ∃ v2 v3 v4 v5 v6 v7 v8 v9 v10 v11 v12 v13, σ = [some (.ref a), some (.ref b), v2, v3, v4, v5, v6, v7, v8, v9, v10, v11, v12, v13] ∧ Bag H' b l (1000 * i)) ⟨none, none, none, none, none, none, none, none, none, none, none, none, rfl, bag0.mono (by omega)⟩ ?_ ?_⟩
    rotate_left
    · rintro σ H1 ⟨v2, v3, v4, v5, v6, v7, v8, v9, v10, v11, v12, v13, rfl, bag1⟩
      exact k _
    rintro i σ H1 hi ⟨v2, v3, v4, v5, v6, v7, v8, v9, v10, v11, v12, v13, rfl, bag1⟩
    refine ⟨_, rfl, b, l, 3, _, rfl, nbl, bag1, by omega, by decide, by decide, fun d H2 p0 p1 bag2 b2 => ⟨_, _, rfl, rfl, ?_⟩⟩
    obtain ⟨n, hn⟩ : ∃ n : Nat, (1 + d : Int) = (n : Int) := ⟨(1 + d).toNat, by omega⟩
    have hv : (fun i j : Int => V.int (i + j)) 1 d = V.int (n : Int) := by show V.int (1 + d) = _; rw [hn]
    rw [hv]
    have n1 : 1 ≤ n := by omega
    have n3 : n ≤ 3 := by omega
    have nm : n ∈ [1, 2, 3] := by simp; omega
    refine ⟨(by show 4 ≤ sizeLine; decide), fun tp htp => ⟨_, rfl, b, l, 4, _, rfl, nbl, bag2.same (sameNew htp), by omega, by decide, by decide, fun d3 H3 l3 u3 bag3 b3 => ?_⟩⟩
    obtain ⟨ntb, ntl⟩ := bag2.ne htp
    obtain ⟨sp, asp, spm⟩ : ∃ sp : Nat, atI [V.int 3, V.int 8, V.int 64, V.int 300] d3 = some (.int (sp : Nat)) ∧ sp ∈ [3, 8, 64, 300] := by
      have : d3 = 0 ∨ d3 = 1 ∨ d3 = 2 ∨ d3 = 3 := by omega
      rcases this with rfl | rfl | rfl | rfl
      · exact ⟨3, rfl, by decide⟩
      · exact ⟨8, rfl, by decide⟩
      · exact ⟨64, rfl, by decide⟩
      · exact ⟨300, rfl, by decide⟩
    have sp13 : 3 ≤ sp ∧ sp ≤ 300 := by simp at spm; omega
    refine ⟨tp, _, d3, .int (sp : Nat), rfl, rfl, SqT.of (b3 _ _ ntb ntl upd_same), asp, _, _, rfl, ?_⟩
    refine ⟨_, rfl, _, rfl, _, rfl, b, l, (n : Int), 7, _, rfl, nbl, bag3, by omega, by omega, by omega, by decide, by decide, fun L as rs H4 b4 eL ra ok r1 r2 bag4 => ?_⟩
    have la : as.length = rs.length := Paired.length ra
    have rsis : ∀ r ∈ rs, RowIs r := fun r m => rowIs_ok (ok r m)
    have lrs : rs.length ≤ 7 := by omega
    refine fun x dx nx ndx nex => ?_
    have sN : Same H4 (upd (upd H4 dx (.own x)) x (.ins A0.c_Program dx [])) := fun b o e => by
      rw [upd_ne (ne_of_none e nx), upd_ne (ne_of_none e ndx)]
      exact e
    refine ⟨x, dx, L, (n : Int), as, rs, rfl, upd_same, sN _ _ eL, ra.same sN, by omega, rsis, fun h1 h2 all H6 kp pg _ => ⟨rfl, ?_⟩, fun c d H' hd s' he => absurd ⟨by omega, by omega⟩ c, fun h1 h2 i y hy nok pre d H' hd s' he => ?_⟩
    rotate_left
    · rw [ok y (List.mem_of_getElem? hy)] at nok
      cases nok
    have s56 : Same H4 H6 := fun b o e => kp b o (ne_of_none e nx) (sN _ _ e)
    have bag6 := bag4.same s56
    clear sN kp nx ndx nex s56 bag1 bag2 bag3 bag4 eL ra b2 b3 b4 all htp ntb ntl asp
    have l30 : rs.length ≤ 30 := by omega
    refine ⟨_, rfl, _, rfl, x, n, as, rs, rfl, pg, nm, l30, fun N H7 s7 bnd eN => ?_⟩
    have eN' : H7 N = some (.lst (((allRk n).map (sP (regs n) rs)).map intO)) := by
      rw [List.map_map]
      exact eN
    obtain ⟨SL, hSL⟩ : ∃ SL, SL = (allRk n).map (sP (regs n) rs) := ⟨_, rfl⟩
    rw [← hSL] at eN'
    have anyN : ∀ {H' : Hp}, Same H7 H' → ∃ ds, Dp K H' (.ref N) (.list ds) ∧ SeqAt.shaped (.list ds) = true ∧ (ds.any fun z => PyData.eqv z .none) = SL.any Option.isNone := fun s => ⟨SL.map intD, .lst (SqL.of (s _ _ eN')) (into_all SL), by unfold SeqAt.shaped; rw [show (PyData.list (SL.map intD)).canLay0 = _ from (into_lay SL).1, show (PyData.list (SL.map intD)).depth = _ from congrArg (· + 1) (into_lay SL).2]; rfl, into_any SL⟩
    have three : 3 ∈ [3, 8, 64, 300] := by decide
    refine ⟨_, rfl, x, n, as, rs, rfl, pg.same s7, nm, l30, fun bnd2 => ⟨fun hno H8 s8 => ?_, fun all t7 H8 g2 s8 hg2 et => ?_⟩⟩
    · have any1 : SL.any Option.isNone = true := by
        obtain ⟨p, mp, ep⟩ := hno
        rw [hSL, List.any_map, List.any_eq_true]
        exact ⟨p, mp, by show (sP (regs n) rs p).isNone = true; rw [ep]; rfl⟩
      obtain ⟨ds, dN, dS, dA⟩ := anyN s8
      rw [any1] at dA
      refine ⟨_, _, rfl, ?_⟩
      refine ⟨_, rfl, rfl, _, rfl, .none, ds, .non, dN, rfl, dS, rfl, _, rfl, ?_⟩
      refine tF (by rw [dA]; rfl) ?_
      have s78 := s7.trans s8
      refine ⟨_, rfl, x, 3, n, as, rs, rfl, pg.same s78, nm, three, l30, fun bnd3 => ⟨fun _ H9 s9 => ?_, fun all => ?_⟩⟩
      rotate_left
      · obtain ⟨p, mp, ep⟩ := hno
        exact absurd ep (all p mp)
      obtain ⟨ds2, dN2, dS2, dA2⟩ := anyN (s8.trans s9)
      rw [any1] at dA2
      refine ⟨rfl, _, rfl, .none, ds2, .non, dN2, rfl, dS2, rfl, _, rfl, ?_⟩
      refine tF (by rw [dA2]; rfl) ?_
      refine ⟨_, rfl, rfl, _, rfl, ?_⟩
      refine tT rfl ?_
      refine ⟨_, rfl, (by show 2 ≤ sizeLine; decide), fun u hu => ?_⟩
      have s10 := s78.trans (s9.trans (sameNew hu (o := .tup [.str "end", .str "endless"])))
      refine ⟨x, n, as, rs, 3, u, rfl, pg.same s10, nm, three, l30, SqT.of upd_same, fun H10 s11 => ⟨_, _, rfl, rfl, _, rfl, ?_⟩⟩
      have chk3 := chkF_is nm three
      have c1 : 1 ≤ (((allRk n).filter fun p => decide (sP (regs n) rs p = none)).map (wdW 3)).sum := by
        refine (sum_one _ fun p mp => (chk3.each p (List.mem_filter.mp mp).1).1).2 fun z => ?_
        obtain ⟨p, mp, ep⟩ := hno
        have : p ∈ (allRk n).filter fun p => decide (sP (regs n) rs p = none) := List.mem_filter.mpr ⟨mp, decide_eq_true ep⟩
        rw [z] at this
        exact nomatch this
      refine tF (decide_eq_false (by omega)) ?_
      exact ⟨_, _, _, _, _, _, _, _, _, _, _, _, rfl, (bag6.same (s10.trans s11)).mono (by omega)⟩
    have any0 : SL.any Option.isNone = false := by
      rw [hSL, List.any_map, List.any_eq_false]
      exact fun p mp z => all p mp (Option.isNone_iff_eq_none.mp z)
    obtain ⟨S, hS⟩ : ∃ S : List Int × Int → Int, S = fun p => (sP (regs n) rs p).getD 0 := ⟨_, rfl⟩
    have eNi : H7 N = some (.lst (((allRk n).map S).map V.int)) := by
      rw [eN, List.map_map]
      exact congrArg (fun z => some (HO.lst z)) (List.map_congr_left fun p mp => by
        obtain ⟨v, hv⟩ := Option.ne_none_iff_exists'.mp (all p mp)
        rw [hS]
        show intO (sP (regs n) rs p) = V.int ((sP (regs n) rs p).getD 0)
        rw [hv]
        rfl)
    have Sb : ∀ p ∈ allRk n, 0 ≤ S p ∧ S p ≤ 2000000 := fun p mp => by
      obtain ⟨v, hv⟩ := Option.ne_none_iff_exists'.mp (all p mp)
      have : S p = v := by
        rw [hS]
        show (sP (regs n) rs p).getD 0 = v
        rw [hv]
        rfl
      rw [this]
      exact bnd p mp v hv
    have chk := chkF_is nm spm
    have et2 : H8 t7 = some (.tup [.int (((allRk n).map fun p => S p * liW p).sum / g2), .int (((allRk n).map fun p => liW p).sum / g2)]) := by rw [hS]; exact et
    have hg2' : (((((allRk n).map fun p => S p * liW p).sum).natAbs.gcd (((allRk n).map fun p => liW p).sum).natAbs : Nat) : Int) = g2 := by rw [hS]; exact hg2
    obtain ⟨g, hg, g20, g2l, e3, e4, bpos, low⟩ := gcd_cut (a := ((allRk n).map fun p => S p * liW p).sum) (b := ((allRk n).map fun p => liW p).sum) chk.pos
    obtain rfl : g = g2 := by rw [← hg, hg2']
    clear hg hg2 hg2' et
    have big : ((allRk n).map fun p => liW p).sum < 2 ^ 100 := chk.big
    have bl : ((allRk n).map fun p => liW p).sum / g ≤ ((allRk n).map fun p => liW p).sum := Int.ediv_le_self _ (Int.le_of_lt chk.pos)
    obtain ⟨top, htop⟩ : ∃ z, z = ((allRk n).map fun p => S p * liW p).sum / g := ⟨_, rfl⟩
    obtain ⟨bottom, hbot⟩ : ∃ z, z = ((allRk n).map fun p => liW p).sum / g := ⟨_, rfl⟩
    rw [← htop] at e3 low
    rw [← hbot] at e4 bpos low bl
    rw [← htop, ← hbot] at et2
    have bot100 : bottom < 2 ^ 100 := Int.lt_of_le_of_lt bl big
    clear bl htop hbot
    obtain ⟨ds, dN, dS, dA⟩ := anyN s8
    rw [any0] at dA
    refine ⟨_, _, rfl, ?_⟩
    refine ⟨_, rfl, rfl, _, rfl, .none, ds, .non, dN, rfl, dS, rfl, _, rfl, ?_⟩
    refine tF (by rw [dA, decide_eq_false (show ¬ V.ref t7 = V.non from fun z => (nomatch z))]; rfl) ?_
    have s78 := s7.trans s8
    refine ⟨_, rfl, x, 3, n, as, rs, rfl, pg.same s78, nm, three, l30, fun bnd3 => ⟨fun hno => ?_, fun _ t9 H9 g3 s9 hg3 et3 => ?_⟩⟩
    · obtain ⟨p, mp, ep⟩ := hno
      exact absurd ep (all p mp)
    obtain ⟨ds2, dN2, dS2, dA2⟩ := anyN (s8.trans s9)
    rw [any0] at dA2
    refine ⟨rfl, _, rfl, .none, ds2, .non, dN2, rfl, dS2, rfl, _, rfl, ?_⟩
    refine tF (by rw [dA2, decide_eq_false (show ¬ V.ref t9 = V.non from fun z => (nomatch z))]; rfl) ?_
    refine ⟨_, rfl, rfl, _, rfl, ?_⟩
    refine tF (decide_eq_false (show ¬ V.ref t7 = V.non from fun z => (nomatch z))) ?_
    have s89 := s8.trans s9
    have s79 := s78.trans s9
    refine ⟨_, rfl, t7, _, rfl, SqT.of (s9 _ _ et2), rfl, _, _, rfl, _, _, rfl, rfl, ?_⟩
    clear et3 hg3 dN dN2 dS dS2 dA dA2 et2
    have ne : 0 < ((allRk n).map S).length := by
      rw [List.length_map]
      have : ∀ n ∈ [1, 2, 3], 0 < (allRk n).length := by decide +kernel
      exact this n nm
    have mb : ∀ y ∈ (allRk n).map S, 0 ≤ y ∧ y ≤ 2000000 := fun y my => by
      obtain ⟨p, mp, rfl⟩ := List.mem_map.mp my
      exact Sb p mp
    have eN9 := s89 _ _ eNi
    have lowhi := fun (m M : Int) (bd : ∀ p ∈ allRk n, m ≤ S p ∧ S p ≤ M) (mM : m ≤ M) => (avg_math chk (g1 := 1) (over := ((allRk n).map fun p => S p * wdW sp p).sum) (under := ((allRk n).map fun p => wdW sp p).sum) bd mM (by decide) g20 (Int.mul_one _) (Int.mul_one _) e3 e4).1
    obtain ⟨t0, t1⟩ := lowhi 0 2000000 Sb (by decide)
    have tb : top.natAbs < 2 ^ 130 := by omega
    have bb : bottom.natAbs < 2 ^ 100 := by omega
    refine ⟨_, rfl, N, _, rfl, SqL.of eN9, ne, fun mi m1 m2 => ?_⟩
    obtain ⟨mi0, mi1⟩ := mb mi m1
    obtain ⟨lo1, _⟩ := lowhi mi 2000000 (fun p mp => ⟨m2 _ (List.mem_map_of_mem mp), (Sb p mp).2⟩) mi1
    refine ⟨_, rfl, _, _, rfl, rfl, wide_mul (a := 30) (by omega) bb (by decide) (by decide) (by decide), _, rfl, _, _, rfl, rfl, _, rfl, ?_⟩
    refine tT (decide_eq_true lo1) ?_
    refine ⟨_, rfl, N, _, rfl, SqL.of eN9, ne, fun Mx M1 M2 => ?_⟩
    obtain ⟨Mx0, Mx1⟩ := mb Mx M1
    obtain ⟨_, hi1⟩ := lowhi 0 Mx (fun p mp => ⟨(Sb p mp).1, M2 _ (List.mem_map_of_mem mp)⟩) Mx0
    refine ⟨_, rfl, _, _, rfl, rfl, wide_mul (a := 30) (by omega) bb (by decide) (by decide) (by decide), _, _, rfl, rfl, _, rfl, ?_⟩
    refine tF (by rw [decide_eq_true hi1]; rfl) ?_
    refine ⟨_, rfl, _, _, rfl, rfl, _, rfl, ?_⟩
    refine tF (decide_eq_false (by omega)) ?_
    refine ⟨2, 12, rfl, by decide, for_range (lo := 2) (n := 10) (fun j σ H' => ∃ w10, σ = [some (.ref a), some (.ref b), some (.int (0 + (i : Nat))), some (.int (n : Nat)), some (.int (sp : Nat)), some (.ref x), some (.ref N), some (.ref t7), some (.int top), some (.int bottom), w10, v11, v12, v13] ∧ H' = H9) ⟨_, rfl, rfl⟩ ?_ ?_⟩
    · rintro j σ H' hj ⟨w10, rfl, rfl⟩
      refine ⟨_, rfl, _, rfl, _, _, rfl, rfl, by omega, rfl, _, rfl, ?_⟩
      by_cases c : top % (2 + (j : Int)) = 0
      case neg =>
        refine tF (decide_eq_false fun z => c (V.int.inj z)) ?_
        refine tF rfl ?_
        exact ⟨_, rfl, rfl⟩
      refine tT (decide_eq_true (congrArg V.int c)) ?_
      refine ⟨_, rfl, _, rfl, _, _, rfl, rfl, by omega, rfl, _, rfl, ?_⟩
      refine tF (decide_eq_false fun z => low (2 + (j : Int)) (by omega) ⟨c, V.int.inj z⟩) ?_
      exact ⟨_, rfl, rfl⟩
    rintro σ H' ⟨w10, rfl, rfl⟩
    refine ⟨_, rfl, _, rfl, x, sp, n, as, rs, rfl, pg.same s79, nm, spm, l30, fun bnd4 => ⟨fun hno => ?_, fun _ t10 H10 g1 s10 hg1 et10 => ?_⟩⟩
    · obtain ⟨p, mp, ep⟩ := hno
      exact absurd ep (all p mp)
    have wpos : 0 < ((allRk n).map fun p => wdW sp p).sum := by
      have : ((allRk n).map fun p => wdW sp p).sum = 2 ^ (sp * n) := chk.all
      rw [this]
      exact Int.pow_pos (by decide)
    have et11 : H10 t10 = some (.tup [.int (((allRk n).map fun p => S p * wdW sp p).sum / g1), .int (((allRk n).map fun p => wdW sp p).sum / g1)]) := by rw [hS]; exact et10
    have hg1' : (((((allRk n).map fun p => S p * wdW sp p).sum).natAbs.gcd (((allRk n).map fun p => wdW sp p).sum).natAbs : Nat) : Int) = g1 := by rw [hS]; exact hg1
    obtain ⟨g', hg', g10, g1l, e1, e2, upos, _⟩ := gcd_cut (a := ((allRk n).map fun p => S p * wdW sp p).sum) (b := ((allRk n).map fun p => wdW sp p).sum) wpos
    obtain rfl : g' = g1 := by rw [← hg', hg1']
    have ul : ((allRk n).map fun p => wdW sp p).sum / g' ≤ ((allRk n).map fun p => wdW sp p).sum := Int.ediv_le_self _ (Int.le_of_lt wpos)
    obtain ⟨over, hover⟩ : ∃ z, z = ((allRk n).map fun p => S p * wdW sp p).sum / g' := ⟨_, rfl⟩
    obtain ⟨under, hund⟩ : ∃ z, z = ((allRk n).map fun p => wdW sp p).sum / g' := ⟨_, rfl⟩
    rw [← hover, ← hund] at et11
    rw [← hover] at e1
    rw [← hund] at e2 upos ul
    clear hg1 hg1' hg' et10 hover hund
    have w901 : (2 : Int) ^ (sp * n) < 2 ^ 901 := by
      have le : sp * n ≤ 900 := Nat.le_trans (Nat.mul_le_mul sp13.2 n3) (by decide)
      exact_mod_cast Nat.pow_lt_pow_right (a := 2) (by decide) (show sp * n < 901 by omega)
    have u901 : under < 2 ^ 901 := by
      rw [show ((allRk n).map fun p => wdW sp p).sum = 2 ^ (sp * n) from chk.all] at ul
      exact Int.lt_of_le_of_lt ul w901
    have ob : 0 ≤ over ∧ over ≤ 2000000 * under := by
      have x1 : ((allRk n).map fun _ => (0 : Int) * 0).sum ≤ ((allRk n).map fun p => S p * wdW sp p).sum := sum_le _ fun p mp => by
        have h2 := (chk.each p mp).1
        exact Int.mul_nonneg (Sb p mp).1 (by omega)
      have x2 : ((allRk n).map fun p => S p * wdW sp p).sum ≤ ((allRk n).map fun p => wdW sp p * 2000000).sum := sum_le _ fun p mp => by
        have h2 := (chk.each p mp).1
        rw [Int.mul_comm (wdW sp p)]
        exact Int.mul_le_mul_of_nonneg_right (Sb p mp).2 (by omega)
      rw [sum_mul, Int.mul_zero, ← e1] at x1
      rw [sum_mul, ← e1, ← e2] at x2
      exact ⟨Int.le_of_mul_le_mul_right (a := g') (by rw [Int.zero_mul]; exact x1) g10, Int.le_of_mul_le_mul_right (a := g') (by grind) g10⟩
    have ub : under.natAbs < 2 ^ 901 := by omega
    have ovb : over.natAbs < 2 ^ 930 := by omega
    refine ⟨t10, _, rfl, SqT.of et11, rfl, _, _, rfl, _, _, rfl, rfl, ?_⟩
    have xb := nab_mul ovb bb
    have yb := nab_mul tb ub
    have tu0 : 0 ≤ top * under := Int.mul_nonneg (by omega) (by omega)
    have ob0 : 0 ≤ over * bottom := Int.mul_nonneg ob.1 (by omega)
    refine ⟨_, rfl, _, rfl, _, _, rfl, rfl, wide_mul ovb bb (by decide) (by decide) (by decide), _, rfl, _, rfl, _, _, rfl, rfl, wide_mul tb ub (by decide) (by decide) (by decide), _, _, rfl, rfl, _, rfl, ?_⟩
    obtain ⟨Y, hY⟩ : ∃ Y, Y = if over * bottom - top * under < 0 then -(over * bottom - top * under) else over * bottom - top * under := ⟨_, rfl⟩
    have hY2 : Y = over * bottom - top * under ∨ Y = -(over * bottom - top * under) := by
      rw [hY]
      split
      · exact .inr rfl
      · exact .inl rfl
    have Yb : Y.natAbs < 2 ^ 1032 := by
      have xb : (over * bottom).natAbs < 2 ^ 1030 := xb
      have yb : (top * under).natAbs < 2 ^ 1031 := yb
      generalize over * bottom = z1 at hY2 xb
      generalize top * under = z2 at hY2 yb
      omega
    rw [← hY]
    have Wb : ((2 : Int) ^ (sp * n)).natAbs < 2 ^ 901 := by
      have : (0 : Int) < 2 ^ (sp * n) := Int.pow_pos (by decide)
      omega
    refine ⟨_, rfl, _, rfl, n, sp, rfl, n1, n3, by omega, by omega, _, _, rfl, rfl, wide_mul Yb Wb (by decide) (by decide) (by decide), ?_⟩
    have eN10 := s10 _ _ eN9
    refine ⟨_, rfl, _, rfl, N, _, rfl, SqL.of eN10, ne, fun Mx a1 a2 => ⟨_, rfl, N, _, rfl, SqL.of eN10, ne, fun mi b1 b2 => ?_⟩⟩
    obtain ⟨Mx0, Mx1⟩ := mb Mx a1
    obtain ⟨mi0, mi1⟩ := mb mi b1
    have mM : mi ≤ Mx := b2 _ a1
    obtain ⟨_, far, one⟩ := avg_math chk (m := mi) (M := Mx) (fun p mp => ⟨b2 _ (List.mem_map_of_mem mp), a2 _ (List.mem_map_of_mem mp)⟩) mM g10 g20 e1 e2 e3 e4
    have far := far Y hY2
    have sb : (shW n sp).natAbs < 2 ^ 901 := by
      have h0 := chk.share
      have h1 : shW n sp ≤ 2 ^ (sp * n) := by
        unfold shW
        exact Int.sub_le_self _ (sum_one _ fun p mp => (chk.each p (List.mem_filter.mp mp).1).1).1
      omega
    have c1 : (2 * (Mx - mi)).natAbs < 2 ^ 30 := by omega
    have c2 := nab_mul c1 sb
    have c3 := nab_mul c2 bb
    refine ⟨_, _, rfl, rfl, _, _, rfl, rfl, wide_mul (a := 3) (b := 30) (by decide) (by omega) (by decide) (by decide) (by decide), _, rfl, _, rfl, n, sp, rfl, nm, spm, fun H11 s11 => ?_⟩
    refine ⟨_, _, rfl, rfl, wide_mul c1 sb (by decide) (by decide) (by decide), _, rfl, _, _, rfl, rfl, wide_mul c2 bb (by decide) (by decide) (by decide), _, rfl, _, _, rfl, rfl, wide_mul c3 ub (by decide) (by decide) (by decide), _, _, rfl, rfl, _, rfl, ?_⟩
    refine tF (decide_eq_false (Int.not_lt.mpr far)) ?_
    have bagE := (bag6.same (s79.trans (s10.trans s11))).mono (show _ ≤ 1000 * (i + 1) by omega)
    refine ⟨_, rfl, rfl, _, rfl, ?_⟩
    by_cases c : n = 1
    case neg =>
      refine tF (decide_eq_false fun z => c (by have := V.int.inj z; omega)) ?_
      refine tF rfl ?_
      exact ⟨_, _, _, _, _, _, _, _, _, _, _, _, rfl, bagE⟩
    refine tT (decide_eq_true (by rw [c]; rfl)) ?_
    refine ⟨_, rfl, _, rfl, _, _, rfl, rfl, wide_mul ovb bb (by decide) (by decide) (by decide), _, rfl, _, rfl, _, _, rfl, rfl, wide_mul tb ub (by decide) (by decide) (by decide), rfl, _, rfl, ?_⟩
    refine tF (by rw [decide_eq_true (congrArg V.int (one c))]; rfl) ?_
    exact ⟨_, _, _, _, _, _, _, _, _, _, _, _, rfl, bagE⟩
end
/-! ### the end -/
theorem all_mk {l : PySem.W.OpenLaw} {w : World} {K : PySem.W.Frag} {h : Heap} {mg : Str → Option Value} {fa : Addr} (X : K.In h) (G : h.Ns mainGlobals mg) (hfa : mg "law" = some (.ref fa))
    {oc_Program : Addr} (aC_Program : PySem.W.nsIn K mainGlobals "Program" = some (some (.ref oc_Program)))
    {f0 : Addr} {od0 an0 : Option Addr} {sl0 : Array (Option Value)} {oc0 kV0 dc0 pm0 cd0 ct0 : Value}
    {f1 : Addr} {od1 an1 : Option Addr} {sl1 : Array (Option Value)} {oc1 kV1 dc1 pm1 cd1 ct1 : Value}
    {f2 : Addr} {od2 an2 : Option Addr} {sl2 : Array (Option Value)} {oc2 kV2 dc2 pm2 cd2 ct2 : Value}
    {f3 : Addr} {od3 an3 : Option Addr} {sl3 : Array (Option Value)} {oc3 kV3 dc3 pm3 cd3 ct3 : Value}
    {f4 : Addr} {od4 an4 : Option Addr} {sl4 : Array (Option Value)} {oc4 kV4 dc4 pm4 cd4 ct4 : Value}
    {f5 : Addr} {od5 an5 : Option Addr} {sl5 : Array (Option Value)} {oc5 kV5 dc5 pm5 cd5 ct5 : Value}
    {f6 : Addr} {od6 an6 : Option Addr} {sl6 : Array (Option Value)} {oc6 kV6 dc6 pm6 cd6 ct6 : Value}
    {f7 : Addr} {od7 an7 : Option Addr} {sl7 : Array (Option Value)} {oc7 kV7 dc7 pm7 cd7 ct7 : Value}
    {f8 : Addr} {od8 an8 : Option Addr} {sl8 : Array (Option Value)} {oc8 kV8 dc8 pm8 cd8 ct8 : Value}
    {f9 : Addr} {od9 an9 : Option Addr} {sl9 : Array (Option Value)} {oc9 kV9 dc9 pm9 cd9 ct9 : Value}
    {f10 : Addr} {od10 an10 : Option Addr} {sl10 : Array (Option Value)} {oc10 kV10 dc10 pm10 cd10 ct10 : Value}
    {f11 : Addr} {od11 an11 : Option Addr} {sl11 : Array (Option Value)} {oc11 kV11 dc11 pm11 cd11 ct11 : Value}
    {f12 : Addr} {od12 an12 : Option Addr} {sl12 : Array (Option Value)} {oc12 kV12 dc12 pm12 cd12 ct12 : Value}
    {f13 : Addr} {od13 an13 : Option Addr} {sl13 : Array (Option Value)} {oc13 kV13 dc13 pm13 cd13 ct13 : Value}
    {f14 : Addr} {od14 an14 : Option Addr} {sl14 : Array (Option Value)} {oc14 kV14 dc14 pm14 cd14 ct14 : Value}
    {f15 : Addr} {od15 an15 : Option Addr} {sl15 : Array (Option Value)} {oc15 kV15 dc15 pm15 cd15 ct15 : Value}
    {f16 : Addr} {od16 an16 : Option Addr} {sl16 : Array (Option Value)} {oc16 kV16 dc16 pm16 cd16 ct16 : Value}
    {f17 : Addr} {od17 an17 : Option Addr} {sl17 : Array (Option Value)} {oc17 kV17 dc17 pm17 cd17 ct17 : Value}
    {f18 : Addr} {od18 an18 : Option Addr} {sl18 : Array (Option Value)} {oc18 kV18 dc18 pm18 cd18 ct18 : Value}
    {f19 : Addr} {od19 an19 : Option Addr} {sl19 : Array (Option Value)} {oc19 kV19 dc19 pm19 cd19 ct19 : Value}
    {f20 : Addr} {od20 an20 : Option Addr} {sl20 : Array (Option Value)} {oc20 kV20 dc20 pm20 cd20 ct20 : Value}
    {f21 : Addr} {od21 an21 : Option Addr} {sl21 : Array (Option Value)} {oc21 kV21 dc21 pm21 cd21 ct21 : Value}
    {f22 : Addr} {od22 an22 : Option Addr} {sl22 : Array (Option Value)} {oc22 kV22 dc22 pm22 cd22 ct22 : Value}
    {f23 : Addr} {od23 an23 : Option Addr} {sl23 : Array (Option Value)} {oc23 kV23 dc23 pm23 cd23 ct23 : Value}
    {f24 : Addr} {od24 an24 : Option Addr} {sl24 : Array (Option Value)} {oc24 kV24 dc24 pm24 cd24 ct24 : Value}
    {f25 : Addr} {od25 an25 : Option Addr} {sl25 : Array (Option Value)} {oc25 kV25 dc25 pm25 cd25 ct25 : Value}
    {f26 : Addr} {od26 an26 : Option Addr} {sl26 : Array (Option Value)} {oc26 kV26 dc26 pm26 cd26 ct26 : Value}
    {f27 : Addr} {od27 an27 : Option Addr} {sl27 : Array (Option Value)} {oc27 kV27 dc27 pm27 cd27 ct27 : Value}
    {f28 : Addr} {od28 an28 : Option Addr} {sl28 : Array (Option Value)} {oc28 kV28 dc28 pm28 cd28 ct28 : Value}
    {f29 : Addr} {od29 an29 : Option Addr} {sl29 : Array (Option Value)} {oc29 kV29 dc29 pm29 cd29 ct29 : Value}
    {f30 : Addr} {od30 an30 : Option Addr} {sl30 : Array (Option Value)} {oc30 kV30 dc30 pm30 cd30 ct30 : Value}
    {f31 : Addr} {od31 an31 : Option Addr} {sl31 : Array (Option Value)} {oc31 kV31 dc31 pm31 cd31 ct31 : Value}
    {f32 : Addr} {od32 an32 : Option Addr} {sl32 : Array (Option Value)} {oc32 kV32 dc32 pm32 cd32 ct32 : Value}
    {f33 : Addr} {od33 an33 : Option Addr} {sl33 : Array (Option Value)} {oc33 kV33 dc33 pm33 cd33 ct33 : Value}
    {f34 : Addr} {od34 an34 : Option Addr} {sl34 : Array (Option Value)} {oc34 kV34 dc34 pm34 cd34 ct34 : Value}
    {f35 : Addr} {od35 an35 : Option Addr} {sl35 : Array (Option Value)} {oc35 kV35 dc35 pm35 cd35 ct35 : Value}
    {f36 : Addr} {od36 an36 : Option Addr} {sl36 : Array (Option Value)} {oc36 kV36 dc36 pm36 cd36 ct36 : Value}
    {f37 : Addr} {od37 an37 : Option Addr} {sl37 : Array (Option Value)} {oc37 kV37 dc37 pm37 cd37 ct37 : Value}
    {f38 : Addr} {od38 an38 : Option Addr} {sl38 : Array (Option Value)} {oc38 kV38 dc38 pm38 cd38 ct38 : Value}
    {f39 : Addr} {od39 an39 : Option Addr} {sl39 : Array (Option Value)} {oc39 kV39 dc39 pm39 cd39 ct39 : Value}
    {f40 : Addr} {od40 an40 : Option Addr} {sl40 : Array (Option Value)} {oc40 kV40 dc40 pm40 cd40 ct40 : Value}
    {f41 : Addr} {od41 an41 : Option Addr} {sl41 : Array (Option Value)} {oc41 kV41 dc41 pm41 cd41 ct41 : Value}
    {f42 : Addr} {od42 an42 : Option Addr} {sl42 : Array (Option Value)} {oc42 kV42 dc42 pm42 cd42 ct42 : Value}
    {f43 : Addr} {od43 an43 : Option Addr} {sl43 : Array (Option Value)} {oc43 kV43 dc43 pm43 cd43 ct43 : Value}
    {f44 : Addr} {od44 an44 : Option Addr} {sl44 : Array (Option Value)} {oc44 kV44 dc44 pm44 cd44 ct44 : Value}
    {f45 : Addr} {od45 an45 : Option Addr} {sl45 : Array (Option Value)} {oc45 kV45 dc45 pm45 cd45 ct45 : Value}
    {f46 : Addr} {od46 an46 : Option Addr} {sl46 : Array (Option Value)} {oc46 kV46 dc46 pm46 cd46 ct46 : Value}
    {f47 : Addr} {od47 an47 : Option Addr} {sl47 : Array (Option Value)} {oc47 kV47 dc47 pm47 cd47 ct47 : Value}
    {f48 : Addr} {od48 an48 : Option Addr} {sl48 : Array (Option Value)} {oc48 kV48 dc48 pm48 cd48 ct48 : Value}
    {f49 : Addr} {od49 an49 : Option Addr} {sl49 : Array (Option Value)} {oc49 kV49 dc49 pm49 cd49 ct49 : Value}
    {f50 : Addr} {od50 an50 : Option Addr} {sl50 : Array (Option Value)} {oc50 kV50 dc50 pm50 cd50 ct50 : Value}
    {f51 : Addr} {od51 an51 : Option Addr} {sl51 : Array (Option Value)} {oc51 kV51 dc51 pm51 cd51 ct51 : Value}
    {f52 : Addr} {od52 an52 : Option Addr} {sl52 : Array (Option Value)} {oc52 kV52 dc52 pm52 cd52 ct52 : Value}
    {f53 : Addr} {od53 an53 : Option Addr} {sl53 : Array (Option Value)} {oc53 kV53 dc53 pm53 cd53 ct53 : Value}
    {f54 : Addr} {od54 an54 : Option Addr} {sl54 : Array (Option Value)} {oc54 kV54 dc54 pm54 cd54 ct54 : Value}
    {f55 : Addr} {od55 an55 : Option Addr} {sl55 : Array (Option Value)} {oc55 kV55 dc55 pm55 cd55 ct55 : Value}
    (a0 : PySem.W.nsIn K mainGlobals "check_width" = some (some (.ref f0)))
    (l0 : K.lookup f0 = some ⟨oc0, od0, .func (PySem.W.fnOf "check_width" "check_width" (defArgs s_check_width) (defBody s_check_width) (defScope s_check_width) .none kV0 dc0 pm0 an0 cd0 ct0), sl0⟩) (c0 : PySem.W.codeIn K cd0 "check_width" = true) (k0 : PySem.W.keepIn K (.ref f0) = true)
    (a1 : PySem.W.nsIn K mainGlobals "check_words" = some (some (.ref f1)))
    (l1 : K.lookup f1 = some ⟨oc1, od1, .func (PySem.W.fnOf "check_words" "check_words" (defArgs s_check_words) (defBody s_check_words) (defScope s_check_words) .none kV1 dc1 pm1 an1 cd1 ct1), sl1⟩) (c1 : PySem.W.codeIn K cd1 "check_words" = true) (k1 : PySem.W.keepIn K (.ref f1) = true)
    (a2 : PySem.W.nsIn K mainGlobals "is_word" = some (some (.ref f2)))
    (l2 : K.lookup f2 = some ⟨oc2, od2, .func (PySem.W.fnOf "is_word" "is_word" (defArgs s_is_word) (defBody s_is_word) (defScope s_is_word) .none kV2 dc2 pm2 an2 cd2 ct2), sl2⟩) (c2 : PySem.W.codeIn K cd2 "is_word" = true) (k2 : PySem.W.keepIn K (.ref f2) = true)
    (a3 : PySem.W.nsIn K mainGlobals "sign_bit" = some (some (.ref f3)))
    (l3 : K.lookup f3 = some ⟨oc3, od3, .func (PySem.W.fnOf "sign_bit" "sign_bit" (defArgs s_sign_bit) (defBody s_sign_bit) (defScope s_sign_bit) .none kV3 dc3 pm3 an3 cd3 ct3), sl3⟩) (c3 : PySem.W.codeIn K cd3 "sign_bit" = true) (k3 : PySem.W.keepIn K (.ref f3) = true)
    (a4 : PySem.W.nsIn K mainGlobals "outcome_by_cut" = some (some (.ref f4)))
    (l4 : K.lookup f4 = some ⟨oc4, od4, .func (PySem.W.fnOf "outcome_by_cut" "outcome_by_cut" (defArgs s_outcome_by_cut) (defBody s_outcome_by_cut) (defScope s_outcome_by_cut) .none kV4 dc4 pm4 an4 cd4 ct4), sl4⟩) (c4 : PySem.W.codeIn K cd4 "outcome_by_cut" = true) (k4 : PySem.W.keepIn K (.ref f4) = true)
    (a5 : PySem.W.nsIn K mainGlobals "check_ranking" = some (some (.ref f5)))
    (l5 : K.lookup f5 = some ⟨oc5, od5, .func (PySem.W.fnOf "check_ranking" "check_ranking" (defArgs s_check_ranking) (defBody s_check_ranking) (defScope s_check_ranking) .none kV5 dc5 pm5 an5 cd5 ct5), sl5⟩) (c5 : PySem.W.codeIn K cd5 "check_ranking" = true) (k5 : PySem.W.keepIn K (.ref f5) = true)
    (a6 : PySem.W.nsIn K mainGlobals "check_items" = some (some (.ref f6)))
    (l6 : K.lookup f6 = some ⟨oc6, od6, .func (PySem.W.fnOf "check_items" "check_items" (defArgs s_check_items) (defBody s_check_items) (defScope s_check_items) .none kV6 dc6 pm6 an6 cd6 ct6), sl6⟩) (c6 : PySem.W.codeIn K cd6 "check_items" = true) (k6 : PySem.W.keepIn K (.ref f6) = true)
    (a7 : PySem.W.nsIn K mainGlobals "least_words" = some (some (.ref f7)))
    (l7 : K.lookup f7 = some ⟨oc7, od7, .func (PySem.W.fnOf "least_words" "least_words" (defArgs s_least_words) (defBody s_least_words) (defScope s_least_words) .none kV7 dc7 pm7 an7 cd7 ct7), sl7⟩) (c7 : PySem.W.codeIn K cd7 "least_words" = true) (k7 : PySem.W.keepIn K (.ref f7) = true)
    (a8 : PySem.W.nsIn K mainGlobals "count_words" = some (some (.ref f8)))
    (l8 : K.lookup f8 = some ⟨oc8, od8, .func (PySem.W.fnOf "count_words" "count_words" (defArgs s_count_words) (defBody s_count_words) (defScope s_count_words) .none kV8 dc8 pm8 an8 cd8 ct8), sl8⟩) (c8 : PySem.W.codeIn K cd8 "count_words" = true) (k8 : PySem.W.keepIn K (.ref f8) = true)
    (a9 : PySem.W.nsIn K mainGlobals "count_rankings" = some (some (.ref f9)))
    (l9 : K.lookup f9 = some ⟨oc9, od9, .func (PySem.W.fnOf "count_rankings" "count_rankings" (defArgs s_count_rankings) (defBody s_count_rankings) (defScope s_count_rankings) .none kV9 dc9 pm9 an9 cd9 ct9), sl9⟩) (c9 : PySem.W.codeIn K cd9 "count_rankings" = true) (k9 : PySem.W.keepIn K (.ref f9) = true)
    (a10 : PySem.W.nsIn K mainGlobals "nth_ranking" = some (some (.ref f10)))
    (l10 : K.lookup f10 = some ⟨oc10, od10, .func (PySem.W.fnOf "nth_ranking" "nth_ranking" (defArgs s_nth_ranking) (defBody s_nth_ranking) (defScope s_nth_ranking) .none kV10 dc10 pm10 an10 cd10 ct10), sl10⟩) (c10 : PySem.W.codeIn K cd10 "nth_ranking" = true) (k10 : PySem.W.keepIn K (.ref f10) = true)
    (a11 : PySem.W.nsIn K mainGlobals "all_rankings" = some (some (.ref f11)))
    (l11 : K.lookup f11 = some ⟨oc11, od11, .func (PySem.W.fnOf "all_rankings" "all_rankings" (defArgs s_all_rankings) (defBody s_all_rankings) (defScope s_all_rankings) .none kV11 dc11 pm11 an11 cd11 ct11), sl11⟩) (c11 : PySem.W.codeIn K cd11 "all_rankings" = true) (k11 : PySem.W.keepIn K (.ref f11) = true)
    (a12 : PySem.W.nsIn K mainGlobals "rankings_at" = some (some (.ref f12)))
    (l12 : K.lookup f12 = some ⟨oc12, od12, .func (PySem.W.fnOf "rankings_at" "rankings_at" (defArgs s_rankings_at) (defBody s_rankings_at) (defScope s_rankings_at) .none kV12 dc12 pm12 an12 cd12 ct12), sl12⟩) (c12 : PySem.W.codeIn K cd12 "rankings_at" = true) (k12 : PySem.W.keepIn K (.ref f12) = true)
    (a13 : PySem.W.nsIn K mainGlobals "_is_ranking" = some (some (.ref f13)))
    (l13 : K.lookup f13 = some ⟨oc13, od13, .func (PySem.W.fnOf "_is_ranking" "_is_ranking" (defArgs s_is_ranking) (defBody s_is_ranking) (defScope s_is_ranking) .none kV13 dc13 pm13 an13 cd13 ct13), sl13⟩) (c13 : PySem.W.codeIn K cd13 "_is_ranking" = true) (k13 : PySem.W.keepIn K (.ref f13) = true)
    (a14 : PySem.W.nsIn K mainGlobals "_ranks_by_sign" = some (some (.ref f14)))
    (l14 : K.lookup f14 = some ⟨oc14, od14, .func (PySem.W.fnOf "_ranks_by_sign" "_ranks_by_sign" (defArgs s_ranks_by_sign) (defBody s_ranks_by_sign) (defScope s_ranks_by_sign) .none kV14 dc14 pm14 an14 cd14 ct14), sl14⟩) (c14 : PySem.W.codeIn K cd14 "_ranks_by_sign" = true) (k14 : PySem.W.keepIn K (.ref f14) = true)
    (a15 : PySem.W.nsIn K mainGlobals "_fits" = some (some (.ref f15)))
    (l15 : K.lookup f15 = some ⟨oc15, od15, .func (PySem.W.fnOf "_fits" "_fits" (defArgs s_fits) (defBody s_fits) (defScope s_fits) .none kV15 dc15 pm15 an15 cd15 ct15), sl15⟩) (c15 : PySem.W.codeIn K cd15 "_fits" = true) (k15 : PySem.W.keepIn K (.ref f15) = true)
    (a16 : PySem.W.nsIn K mainGlobals "_gaps" = some (some (.ref f16)))
    (l16 : K.lookup f16 = some ⟨oc16, od16, .func (PySem.W.fnOf "_gaps" "_gaps" (defArgs s_gaps) (defBody s_gaps) (defScope s_gaps) .none kV16 dc16 pm16 an16 cd16 ct16), sl16⟩) (c16 : PySem.W.codeIn K cd16 "_gaps" = true) (k16 : PySem.W.keepIn K (.ref f16) = true)
    (a17 : PySem.W.nsIn K mainGlobals "register_names" = some (some (.ref f17)))
    (l17 : K.lookup f17 = some ⟨oc17, od17, .func (PySem.W.fnOf "register_names" "register_names" (defArgs s_register_names) (defBody s_register_names) (defScope s_register_names) .none kV17 dc17 pm17 an17 cd17 ct17), sl17⟩) (c17 : PySem.W.codeIn K cd17 "register_names" = true) (k17 : PySem.W.keepIn K (.ref f17) = true)
    (a18 : PySem.W.nsIn K mainGlobals "parts_of" = some (some (.ref f18)))
    (l18 : K.lookup f18 = some ⟨oc18, od18, .func (PySem.W.fnOf "parts_of" "parts_of" (defArgs s_parts_of) (defBody s_parts_of) (defScope s_parts_of) .none kV18 dc18 pm18 an18 cd18 ct18), sl18⟩) (c18 : PySem.W.codeIn K cd18 "parts_of" = true) (k18 : PySem.W.keepIn K (.ref f18) = true)
    (a19 : PySem.W.findIn K (.ref oc_Program) "__init__" = some (some (.ref f19))) (i19 : PySem.W.isFn K (.ref f19) = true)
    (l19 : K.lookup f19 = some ⟨oc19, od19, .func (PySem.W.fnOf "__init__" "Program.__init__" (defArgs s_Program___init) (defBody s_Program___init) (defScope s_Program___init) .none kV19 dc19 pm19 an19 cd19 ct19), sl19⟩) (c19 : PySem.W.codeIn K cd19 "Program.__init__" = true) (k19 : PySem.W.keepIn K (.ref f19) = true)
    {pp20 : Addr} {rr20 : List Value} (a20 : PySem.W.findIn K (.ref oc_Program) "inputs" = some (some (.ref pp20))) (qr20 : PySem.W.recIn K pp20 "property" = some (.ref f20 :: rr20)) (qg20 : PySem.W.specialIn K (.ref pp20) "__get__" = some (some (.builtin "property.__get__"))) (qt20 : PySem.W.takesIn K (.ref pp20) = some true)
    (l20 : K.lookup f20 = some ⟨oc20, od20, .func (PySem.W.fnOf "inputs" "Program.inputs" (defArgs s_Program_inputs) (defBody s_Program_inputs) (defScope s_Program_inputs) .none kV20 dc20 pm20 an20 cd20 ct20), sl20⟩) (c20 : PySem.W.codeIn K cd20 "Program.inputs" = true) (k20 : PySem.W.keepIn K (.ref f20) = true)
    {pp21 : Addr} {rr21 : List Value} (a21 : PySem.W.findIn K (.ref oc_Program) "placed" = some (some (.ref pp21))) (qr21 : PySem.W.recIn K pp21 "property" = some (.ref f21 :: rr21)) (qg21 : PySem.W.specialIn K (.ref pp21) "__get__" = some (some (.builtin "property.__get__"))) (qt21 : PySem.W.takesIn K (.ref pp21) = some true)
    (l21 : K.lookup f21 = some ⟨oc21, od21, .func (PySem.W.fnOf "placed" "Program.placed" (defArgs s_Program_placed) (defBody s_Program_placed) (defScope s_Program_placed) .none kV21 dc21 pm21 an21 cd21 ct21), sl21⟩) (c21 : PySem.W.codeIn K cd21 "Program.placed" = true) (k21 : PySem.W.keepIn K (.ref f21) = true)
    (a22 : PySem.W.nsIn K mainGlobals "_is_row" = some (some (.ref f22)))
    (l22 : K.lookup f22 = some ⟨oc22, od22, .func (PySem.W.fnOf "_is_row" "_is_row" (defArgs s_is_row) (defBody s_is_row) (defScope s_is_row) .none kV22 dc22 pm22 an22 cd22 ct22), sl22⟩) (c22 : PySem.W.codeIn K cd22 "_is_row" = true) (k22 : PySem.W.keepIn K (.ref f22) = true)
    (a23 : PySem.W.nsIn K mainGlobals "_is_item" = some (some (.ref f23)))
    (l23 : K.lookup f23 = some ⟨oc23, od23, .func (PySem.W.fnOf "_is_item" "_is_item" (defArgs s_is_item) (defBody s_is_item) (defScope s_is_item) .none kV23 dc23 pm23 an23 cd23 ct23), sl23⟩) (c23 : PySem.W.codeIn K cd23 "_is_item" = true) (k23 : PySem.W.keepIn K (.ref f23) = true)
    (a24 : PySem.W.nsIn K mainGlobals "_placed_row" = some (some (.ref f24)))
    (l24 : K.lookup f24 = some ⟨oc24, od24, .func (PySem.W.fnOf "_placed_row" "_placed_row" (defArgs s_placed_row) (defBody s_placed_row) (defScope s_placed_row) .none kV24 dc24 pm24 an24 cd24 ct24), sl24⟩) (c24 : PySem.W.codeIn K cd24 "_placed_row" = true) (k24 : PySem.W.keepIn K (.ref f24) = true)
    (a25 : PySem.W.nsIn K mainGlobals "_placed_item" = some (some (.ref f25)))
    (l25 : K.lookup f25 = some ⟨oc25, od25, .func (PySem.W.fnOf "_placed_item" "_placed_item" (defArgs s_placed_item) (defBody s_placed_item) (defScope s_placed_item) .none kV25 dc25 pm25 an25 cd25 ct25), sl25⟩) (c25 : PySem.W.codeIn K cd25 "_placed_item" = true) (k25 : PySem.W.keepIn K (.ref f25) = true)
    (a26 : PySem.W.nsIn K mainGlobals "first_state" = some (some (.ref f26)))
    (l26 : K.lookup f26 = some ⟨oc26, od26, .func (PySem.W.fnOf "first_state" "first_state" (defArgs s_first_state) (defBody s_first_state) (defScope s_first_state) .none kV26 dc26 pm26 an26 cd26 ct26), sl26⟩) (c26 : PySem.W.codeIn K cd26 "first_state" = true) (k26 : PySem.W.keepIn K (.ref f26) = true)
    (a27 : PySem.W.nsIn K mainGlobals "ending_at" = some (some (.ref f27)))
    (l27 : K.lookup f27 = some ⟨oc27, od27, .func (PySem.W.fnOf "ending_at" "ending_at" (defArgs s_ending_at) (defBody s_ending_at) (defScope s_ending_at) .none kV27 dc27 pm27 an27 cd27 ct27), sl27⟩) (c27 : PySem.W.codeIn K cd27 "ending_at" = true) (k27 : PySem.W.keepIn K (.ref f27) = true)
    (a28 : PySem.W.nsIn K mainGlobals "state_behind" = some (some (.ref f28)))
    (l28 : K.lookup f28 = some ⟨oc28, od28, .func (PySem.W.fnOf "state_behind" "state_behind" (defArgs s_state_behind) (defBody s_state_behind) (defScope s_state_behind) .none kV28 dc28 pm28 an28 cd28 ct28), sl28⟩) (c28 : PySem.W.codeIn K cd28 "state_behind" = true) (k28 : PySem.W.keepIn K (.ref f28) = true)
    (a29 : PySem.W.nsIn K mainGlobals "with_value" = some (some (.ref f29)))
    (l29 : K.lookup f29 = some ⟨oc29, od29, .func (PySem.W.fnOf "with_value" "with_value" (defArgs s_with_value) (defBody s_with_value) (defScope s_with_value) .none kV29 dc29 pm29 an29 cd29 ct29), sl29⟩) (c29 : PySem.W.codeIn K cd29 "with_value" = true) (k29 : PySem.W.keepIn K (.ref f29) = true)
    (a30 : PySem.W.nsIn K mainGlobals "walk" = some (some (.ref f30)))
    (l30 : K.lookup f30 = some ⟨oc30, od30, .func (PySem.W.fnOf "walk" "walk" (defArgs s_walk) (defBody s_walk) (defScope s_walk) .none kV30 dc30 pm30 an30 cd30 ct30), sl30⟩) (c30 : PySem.W.codeIn K cd30 "walk" = true) (k30 : PySem.W.keepIn K (.ref f30) = true)
    (a31 : PySem.W.nsIn K mainGlobals "ranked_walk" = some (some (.ref f31)))
    (l31 : K.lookup f31 = some ⟨oc31, od31, .func (PySem.W.fnOf "ranked_walk" "ranked_walk" (defArgs s_ranked_walk) (defBody s_ranked_walk) (defScope s_ranked_walk) .none kV31 dc31 pm31 an31 cd31 ct31), sl31⟩) (c31 : PySem.W.codeIn K cd31 "ranked_walk" = true) (k31 : PySem.W.keepIn K (.ref f31) = true)
    (a32 : PySem.W.nsIn K mainGlobals "check_input" = some (some (.ref f32)))
    (l32 : K.lookup f32 = some ⟨oc32, od32, .func (PySem.W.fnOf "check_input" "check_input" (defArgs s_check_input) (defBody s_check_input) (defScope s_check_input) .none kV32 dc32 pm32 an32 cd32 ct32), sl32⟩) (c32 : PySem.W.codeIn K cd32 "check_input" = true) (k32 : PySem.W.keepIn K (.ref f32) = true)
    (a33 : PySem.W.nsIn K mainGlobals "count_steps" = some (some (.ref f33)))
    (l33 : K.lookup f33 = some ⟨oc33, od33, .func (PySem.W.fnOf "count_steps" "count_steps" (defArgs s_count_steps) (defBody s_count_steps) (defScope s_count_steps) .none kV33 dc33 pm33 an33 cd33 ct33), sl33⟩) (c33 : PySem.W.codeIn K cd33 "count_steps" = true) (k33 : PySem.W.keepIn K (.ref f33) = true)
    (a34 : PySem.W.nsIn K mainGlobals "check_query" = some (some (.ref f34)))
    (l34 : K.lookup f34 = some ⟨oc34, od34, .func (PySem.W.fnOf "check_query" "check_query" (defArgs s_check_query) (defBody s_check_query) (defScope s_check_query) .none kV34 dc34 pm34 an34 cd34 ct34), sl34⟩) (c34 : PySem.W.codeIn K cd34 "check_query" = true) (k34 : PySem.W.keepIn K (.ref f34) = true)
    (a35 : PySem.W.nsIn K mainGlobals "count_inputs" = some (some (.ref f35)))
    (l35 : K.lookup f35 = some ⟨oc35, od35, .func (PySem.W.fnOf "count_inputs" "count_inputs" (defArgs s_count_inputs) (defBody s_count_inputs) (defScope s_count_inputs) .none kV35 dc35 pm35 an35 cd35 ct35), sl35⟩) (c35 : PySem.W.codeIn K cd35 "count_inputs" = true) (k35 : PySem.W.keepIn K (.ref f35) = true)
    (a36 : PySem.W.nsIn K mainGlobals "average_steps" = some (some (.ref f36)))
    (l36 : K.lookup f36 = some ⟨oc36, od36, .func (PySem.W.fnOf "average_steps" "average_steps" (defArgs s_average_steps) (defBody s_average_steps) (defScope s_average_steps) .none kV36 dc36 pm36 an36 cd36 ct36), sl36⟩) (c36 : PySem.W.codeIn K cd36 "average_steps" = true) (k36 : PySem.W.keepIn K (.ref f36) = true)
    (a37 : PySem.W.nsIn K mainGlobals "average_limit" = some (some (.ref f37)))
    (l37 : K.lookup f37 = some ⟨oc37, od37, .func (PySem.W.fnOf "average_limit" "average_limit" (defArgs s_average_limit) (defBody s_average_limit) (defScope s_average_limit) .none kV37 dc37 pm37 an37 cd37 ct37), sl37⟩) (c37 : PySem.W.codeIn K cd37 "average_limit" = true) (k37 : PySem.W.keepIn K (.ref f37) = true)
    (a38 : PySem.W.nsIn K mainGlobals "_is_query" = some (some (.ref f38)))
    (l38 : K.lookup f38 = some ⟨oc38, od38, .func (PySem.W.fnOf "_is_query" "_is_query" (defArgs s_is_query) (defBody s_is_query) (defScope s_is_query) .none kV38 dc38 pm38 an38 cd38 ct38), sl38⟩) (c38 : PySem.W.codeIn K cd38 "_is_query" = true) (k38 : PySem.W.keepIn K (.ref f38) = true)
    (a39 : PySem.W.nsIn K mainGlobals "_rankings_with" = some (some (.ref f39)))
    (l39 : K.lookup f39 = some ⟨oc39, od39, .func (PySem.W.fnOf "_rankings_with" "_rankings_with" (defArgs s_rankings_with) (defBody s_rankings_with) (defScope s_rankings_with) .none kV39 dc39 pm39 an39 cd39 ct39), sl39⟩) (c39 : PySem.W.codeIn K cd39 "_rankings_with" = true) (k39 : PySem.W.keepIn K (.ref f39) = true)
    (a40 : PySem.W.nsIn K mainGlobals "_is_true" = some (some (.ref f40)))
    (l40 : K.lookup f40 = some ⟨oc40, od40, .func (PySem.W.fnOf "_is_true" "_is_true" (defArgs s_is_true) (defBody s_is_true) (defScope s_is_true) .none kV40 dc40 pm40 an40 cd40 ct40), sl40⟩) (c40 : PySem.W.codeIn K cd40 "_is_true" = true) (k40 : PySem.W.keepIn K (.ref f40) = true)
    (a41 : PySem.W.nsIn K mainGlobals "_steps_of" = some (some (.ref f41)))
    (l41 : K.lookup f41 = some ⟨oc41, od41, .func (PySem.W.fnOf "_steps_of" "_steps_of" (defArgs s_steps_of) (defBody s_steps_of) (defScope s_steps_of) .none kV41 dc41 pm41 an41 cd41 ct41), sl41⟩) (c41 : PySem.W.codeIn K cd41 "_steps_of" = true) (k41 : PySem.W.keepIn K (.ref f41) = true)
    (a42 : PySem.W.nsIn K mainGlobals "_average" = some (some (.ref f42)))
    (l42 : K.lookup f42 = some ⟨oc42, od42, .func (PySem.W.fnOf "_average" "_average" (defArgs s_average) (defBody s_average) (defScope s_average) .none kV42 dc42 pm42 an42 cd42 ct42), sl42⟩) (c42 : PySem.W.codeIn K cd42 "_average" = true) (k42 : PySem.W.keepIn K (.ref f42) = true)
    (a43 : PySem.W.nsIn K mainGlobals "_weight_in_limit" = some (some (.ref f43)))
    (l43 : K.lookup f43 = some ⟨oc43, od43, .func (PySem.W.fnOf "_weight_in_limit" "_weight_in_limit" (defArgs s_weight_in_limit) (defBody s_weight_in_limit) (defScope s_weight_in_limit) .none kV43 dc43 pm43 an43 cd43 ct43), sl43⟩) (c43 : PySem.W.codeIn K cd43 "_weight_in_limit" = true) (k43 : PySem.W.keepIn K (.ref f43) = true)
    (a44 : PySem.W.nsIn K mainGlobals "_count_all" = some (some (.ref f44)))
    (l44 : K.lookup f44 = some ⟨oc44, od44, .func (PySem.W.fnOf "_count_all" "_count_all" (defArgs s_count_all) (defBody s_count_all) (defScope s_count_all) .none kV44 dc44 pm44 an44 cd44 ct44), sl44⟩) (c44 : PySem.W.codeIn K cd44 "_count_all" = true) (k44 : PySem.W.keepIn K (.ref f44) = true)
    (a45 : PySem.W.nsIn K mainGlobals "_law_bag" = some (some (.ref f45)))
    (l45 : K.lookup f45 = some ⟨oc45, od45, .func (PySem.W.fnOf "_law_bag" "_law_bag" (defArgs s_law_bag) (defBody s_law_bag) (defScope s_law_bag) .none kV45 dc45 pm45 an45 cd45 ct45), sl45⟩) (c45 : PySem.W.codeIn K cd45 "_law_bag" = true) (k45 : PySem.W.keepIn K (.ref f45) = true)
    (a46 : PySem.W.nsIn K mainGlobals "_law_draw" = some (some (.ref f46)))
    (l46 : K.lookup f46 = some ⟨oc46, od46, .func (PySem.W.fnOf "_law_draw" "_law_draw" (defArgs s_law_draw) (defBody s_law_draw) (defScope s_law_draw) .none kV46 dc46 pm46 an46 cd46 ct46), sl46⟩) (c46 : PySem.W.codeIn K cd46 "_law_draw" = true) (k46 : PySem.W.keepIn K (.ref f46) = true)
    (a47 : PySem.W.nsIn K mainGlobals "_law_half" = some (some (.ref f47)))
    (l47 : K.lookup f47 = some ⟨oc47, od47, .func (PySem.W.fnOf "_law_half" "_law_half" (defArgs s_law_half) (defBody s_law_half) (defScope s_law_half) .none kV47 dc47 pm47 an47 cd47 ct47), sl47⟩) (c47 : PySem.W.codeIn K cd47 "_law_half" = true) (k47 : PySem.W.keepIn K (.ref f47) = true)
    (a48 : PySem.W.nsIn K mainGlobals "_law_tests" = some (some (.ref f48)))
    (l48 : K.lookup f48 = some ⟨oc48, od48, .func (PySem.W.fnOf "_law_tests" "_law_tests" (defArgs s_law_tests) (defBody s_law_tests) (defScope s_law_tests) .none kV48 dc48 pm48 an48 cd48 ct48), sl48⟩) (c48 : PySem.W.codeIn K cd48 "_law_tests" = true) (k48 : PySem.W.keepIn K (.ref f48) = true)
    (a49 : PySem.W.nsIn K mainGlobals "_law_names" = some (some (.ref f49)))
    (l49 : K.lookup f49 = some ⟨oc49, od49, .func (PySem.W.fnOf "_law_names" "_law_names" (defArgs s_law_names) (defBody s_law_names) (defScope s_law_names) .none kV49 dc49 pm49 an49 cd49 ct49), sl49⟩) (c49 : PySem.W.codeIn K cd49 "_law_names" = true) (k49 : PySem.W.keepIn K (.ref f49) = true)
    (a50 : PySem.W.nsIn K mainGlobals "_law_line" = some (some (.ref f50)))
    (l50 : K.lookup f50 = some ⟨oc50, od50, .func (PySem.W.fnOf "_law_line" "_law_line" (defArgs s_law_line) (defBody s_law_line) (defScope s_law_line) .none kV50 dc50 pm50 an50 cd50 ct50), sl50⟩) (c50 : PySem.W.codeIn K cd50 "_law_line" = true) (k50 : PySem.W.keepIn K (.ref f50) = true)
    (a51 : PySem.W.nsIn K mainGlobals "_law_lines" = some (some (.ref f51)))
    (l51 : K.lookup f51 = some ⟨oc51, od51, .func (PySem.W.fnOf "_law_lines" "_law_lines" (defArgs s_law_lines) (defBody s_law_lines) (defScope s_law_lines) .none kV51 dc51 pm51 an51 cd51 ct51), sl51⟩) (c51 : PySem.W.codeIn K cd51 "_law_lines" = true) (k51 : PySem.W.keepIn K (.ref f51) = true)
    (a52 : PySem.W.nsIn K mainGlobals "_law_numbers" = some (some (.ref f52)))
    (l52 : K.lookup f52 = some ⟨oc52, od52, .func (PySem.W.fnOf "_law_numbers" "_law_numbers" (defArgs s_law_numbers) (defBody s_law_numbers) (defScope s_law_numbers) .none kV52 dc52 pm52 an52 cd52 ct52), sl52⟩) (c52 : PySem.W.codeIn K cd52 "_law_numbers" = true) (k52 : PySem.W.keepIn K (.ref f52) = true)
    (a53 : PySem.W.nsIn K mainGlobals "_law_all_words" = some (some (.ref f53)))
    (l53 : K.lookup f53 = some ⟨oc53, od53, .func (PySem.W.fnOf "_law_all_words" "_law_all_words" (defArgs s_law_all_words) (defBody s_law_all_words) (defScope s_law_all_words) .none kV53 dc53 pm53 an53 cd53 ct53), sl53⟩) (c53 : PySem.W.codeIn K cd53 "_law_all_words" = true) (k53 : PySem.W.keepIn K (.ref f53) = true)
    (a54 : PySem.W.nsIn K mainGlobals "_law_equal_share" = some (some (.ref f54)))
    (l54 : K.lookup f54 = some ⟨oc54, od54, .func (PySem.W.fnOf "_law_equal_share" "_law_equal_share" (defArgs s_law_equal_share) (defBody s_law_equal_share) (defScope s_law_equal_share) .none kV54 dc54 pm54 an54 cd54 ct54), sl54⟩) (c54 : PySem.W.codeIn K cd54 "_law_equal_share" = true) (k54 : PySem.W.keepIn K (.ref f54) = true)
    (a55 : PySem.W.nsIn K mainGlobals "law" = some (some (.ref f55)))
    (l55 : K.lookup f55 = some ⟨oc55, od55, .func (PySem.W.fnOf "law" "law" (defArgs s_law) (defBody s_law) (defScope s_law) .none kV55 dc55 pm55 an55 cd55 ct55), sl55⟩) (c55 : PySem.W.codeIn K cd55 "law" = true) (k55 : PySem.W.keepIn K (.ref f55) = true)
    (pg_Program : PySem.W.plainGet K oc_Program Str.empty = true) (hd_Program : PySem.W.hasDictIn K oc_Program = true) (po_Program : PySem.W.plainOver K oc_Program = true) (sa_Program : PySem.W.findIn K (.ref oc_Program) "__setattr__" = some (some (.builtin "object.__setattr__"))) (mk_Program : PySem.W.makesIn K oc_Program = true) (kc_Program : PySem.W.keepIn K (.ref oc_Program) = true)
    (nf_Program__inputs : PySem.W.findIn K (.ref oc_Program) "_inputs" = some none) (nf_Program__rows : PySem.W.findIn K (.ref oc_Program) "_rows" = some none) (nf_Program__placed : PySem.W.findIn K (.ref oc_Program) "_placed" = some none)
    (ta_Program : PySem.W.findIn K (.ref oc_Program) "__class__" = some (some (.builtin "object.__class__"))) (tm_Program : PySem.W.mroIn K oc_Program (.type "object") = some true) (to_Program : PySem.W.kitOne K (.ref oc_Program) (.ref oc_Program) = some true) (sf_Program : PySem.W.selfFirst K oc_Program = true)
    (tg : PySem.W.specialIn K (.builtin "object.__class__") "__get__" = some (some (.builtin "getset_descriptor.__get__"))) (tt : PySem.W.takesIn K (.builtin "object.__class__") = some true)
    (z_abs : PySem.W.nsIn K mainGlobals "abs" = some none)
    (z_all : PySem.W.nsIn K mainGlobals "all" = some none)
    (z_any : PySem.W.nsIn K mainGlobals "any" = some none)
    (z_enumerate : PySem.W.nsIn K mainGlobals "enumerate" = some none)
    (z_int : PySem.W.nsIn K mainGlobals "int" = some none)
    (z_len : PySem.W.nsIn K mainGlobals "len" = some none)
    (z_list : PySem.W.nsIn K mainGlobals "list" = some none)
    (z_max : PySem.W.nsIn K mainGlobals "max" = some none)
    (z_min : PySem.W.nsIn K mainGlobals "min" = some none)
    (z_range : PySem.W.nsIn K mainGlobals "range" = some none)
    (z_set : PySem.W.nsIn K mainGlobals "set" = some none)
    (z_sorted : PySem.W.nsIn K mainGlobals "sorted" = some none)
    (z_sum : PySem.W.nsIn K mainGlobals "sum" = some none)
    (z_tuple : PySem.W.nsIn K mainGlobals "tuple" = some none)
    (z_type : PySem.W.nsIn K mainGlobals "type" = some none)
    (z_zip : PySem.W.nsIn K mainGlobals "zip" = some none)
    {ti_MOST_ITEMS : Tok} (ai_MOST_ITEMS : PySem.W.nsIn K mainGlobals "MOST_ITEMS" = some (some (.int 5 ti_MOST_ITEMS)))
    (af_comb : PySem.W.nsIn K mainGlobals "comb" = some (some (.builtin "math.comb")))
    (af_gcd : PySem.W.nsIn K mainGlobals "gcd" = some (some (.builtin "math.gcd")))
    {vv_CONDITIONS : Addr} (av_CONDITIONS : PySem.W.nsIn K mainGlobals "CONDITIONS" = some (some (.ref vv_CONDITIONS)))
    {es_CONDITIONS : Array DictEntry} {nn_CONDITIONS : Nat} (lk_CONDITIONS : K.lookup vv_CONDITIONS = some ⟨.type "dict", none, .dict es_CONDITIONS nn_CONDITIONS, #[]⟩) (kk_CONDITIONS : es_CONDITIONS.toList.map He.keyOf = He.keysIn w.params ["e", "ne", "l", "le", "g", "ge", "b", "be", "a", "ae", "same", "mixed"]) (lo_CONDITIONS : (vv_CONDITIONS == sysModules) = false)
    {pp_CONDITIONS_0 : Addr} {pp_CONDITIONS_1 : Addr} {pp_CONDITIONS_2 : Addr} {pp_CONDITIONS_3 : Addr} {pp_CONDITIONS_4 : Addr} {pp_CONDITIONS_5 : Addr} {pp_CONDITIONS_6 : Addr} {pp_CONDITIONS_7 : Addr} {pp_CONDITIONS_8 : Addr} {pp_CONDITIONS_9 : Addr} {pp_CONDITIONS_10 : Addr} {pp_CONDITIONS_11 : Addr} (vl_CONDITIONS : es_CONDITIONS.toList.map (·.val) = [.ref pp_CONDITIONS_0, .ref pp_CONDITIONS_1, .ref pp_CONDITIONS_2, .ref pp_CONDITIONS_3, .ref pp_CONDITIONS_4, .ref pp_CONDITIONS_5, .ref pp_CONDITIONS_6, .ref pp_CONDITIONS_7, .ref pp_CONDITIONS_8, .ref pp_CONDITIONS_9, .ref pp_CONDITIONS_10, .ref pp_CONDITIONS_11])
    {oo_CONDITIONS_0 : Obj} {it_CONDITIONS_0 : Array Value} {nn_CONDITIONS_0 : Nat} (lk_CONDITIONS_0 : K.lookup pp_CONDITIONS_0 = some oo_CONDITIONS_0) (cl_CONDITIONS_0 : oo_CONDITIONS_0.cls = .type "tuple") (dt_CONDITIONS_0 : oo_CONDITIONS_0.data = .seq it_CONDITIONS_0 nn_CONDITIONS_0) (el_CONDITIONS_0 : it_CONDITIONS_0.toList.map strV = (["E"] : List Str).map some)
    {oo_CONDITIONS_1 : Obj} {it_CONDITIONS_1 : Array Value} {nn_CONDITIONS_1 : Nat} (lk_CONDITIONS_1 : K.lookup pp_CONDITIONS_1 = some oo_CONDITIONS_1) (cl_CONDITIONS_1 : oo_CONDITIONS_1.cls = .type "tuple") (dt_CONDITIONS_1 : oo_CONDITIONS_1.data = .seq it_CONDITIONS_1 nn_CONDITIONS_1) (el_CONDITIONS_1 : it_CONDITIONS_1.toList.map strV = (["LB", "GA", "GB", "LA"] : List Str).map some)
    {oo_CONDITIONS_2 : Obj} {it_CONDITIONS_2 : Array Value} {nn_CONDITIONS_2 : Nat} (lk_CONDITIONS_2 : K.lookup pp_CONDITIONS_2 = some oo_CONDITIONS_2) (cl_CONDITIONS_2 : oo_CONDITIONS_2.cls = .type "tuple") (dt_CONDITIONS_2 : oo_CONDITIONS_2.data = .seq it_CONDITIONS_2 nn_CONDITIONS_2) (el_CONDITIONS_2 : it_CONDITIONS_2.toList.map strV = (["LB", "LA"] : List Str).map some)
    {oo_CONDITIONS_3 : Obj} {it_CONDITIONS_3 : Array Value} {nn_CONDITIONS_3 : Nat} (lk_CONDITIONS_3 : K.lookup pp_CONDITIONS_3 = some oo_CONDITIONS_3) (cl_CONDITIONS_3 : oo_CONDITIONS_3.cls = .type "tuple") (dt_CONDITIONS_3 : oo_CONDITIONS_3.data = .seq it_CONDITIONS_3 nn_CONDITIONS_3) (el_CONDITIONS_3 : it_CONDITIONS_3.toList.map strV = (["E", "LB", "LA"] : List Str).map some)
    {oo_CONDITIONS_4 : Obj} {it_CONDITIONS_4 : Array Value} {nn_CONDITIONS_4 : Nat} (lk_CONDITIONS_4 : K.lookup pp_CONDITIONS_4 = some oo_CONDITIONS_4) (cl_CONDITIONS_4 : oo_CONDITIONS_4.cls = .type "tuple") (dt_CONDITIONS_4 : oo_CONDITIONS_4.data = .seq it_CONDITIONS_4 nn_CONDITIONS_4) (el_CONDITIONS_4 : it_CONDITIONS_4.toList.map strV = (["GA", "GB"] : List Str).map some)
    {oo_CONDITIONS_5 : Obj} {it_CONDITIONS_5 : Array Value} {nn_CONDITIONS_5 : Nat} (lk_CONDITIONS_5 : K.lookup pp_CONDITIONS_5 = some oo_CONDITIONS_5) (cl_CONDITIONS_5 : oo_CONDITIONS_5.cls = .type "tuple") (dt_CONDITIONS_5 : oo_CONDITIONS_5.data = .seq it_CONDITIONS_5 nn_CONDITIONS_5) (el_CONDITIONS_5 : it_CONDITIONS_5.toList.map strV = (["E", "GA", "GB"] : List Str).map some)
    {oo_CONDITIONS_6 : Obj} {it_CONDITIONS_6 : Array Value} {nn_CONDITIONS_6 : Nat} (lk_CONDITIONS_6 : K.lookup pp_CONDITIONS_6 = some oo_CONDITIONS_6) (cl_CONDITIONS_6 : oo_CONDITIONS_6.cls = .type "tuple") (dt_CONDITIONS_6 : oo_CONDITIONS_6.data = .seq it_CONDITIONS_6 nn_CONDITIONS_6) (el_CONDITIONS_6 : it_CONDITIONS_6.toList.map strV = (["LB", "GB"] : List Str).map some)
    {oo_CONDITIONS_7 : Obj} {it_CONDITIONS_7 : Array Value} {nn_CONDITIONS_7 : Nat} (lk_CONDITIONS_7 : K.lookup pp_CONDITIONS_7 = some oo_CONDITIONS_7) (cl_CONDITIONS_7 : oo_CONDITIONS_7.cls = .type "tuple") (dt_CONDITIONS_7 : oo_CONDITIONS_7.data = .seq it_CONDITIONS_7 nn_CONDITIONS_7) (el_CONDITIONS_7 : it_CONDITIONS_7.toList.map strV = (["E", "LB", "GB"] : List Str).map some)
    {oo_CONDITIONS_8 : Obj} {it_CONDITIONS_8 : Array Value} {nn_CONDITIONS_8 : Nat} (lk_CONDITIONS_8 : K.lookup pp_CONDITIONS_8 = some oo_CONDITIONS_8) (cl_CONDITIONS_8 : oo_CONDITIONS_8.cls = .type "tuple") (dt_CONDITIONS_8 : oo_CONDITIONS_8.data = .seq it_CONDITIONS_8 nn_CONDITIONS_8) (el_CONDITIONS_8 : it_CONDITIONS_8.toList.map strV = (["GA", "LA"] : List Str).map some)
    {oo_CONDITIONS_9 : Obj} {it_CONDITIONS_9 : Array Value} {nn_CONDITIONS_9 : Nat} (lk_CONDITIONS_9 : K.lookup pp_CONDITIONS_9 = some oo_CONDITIONS_9) (cl_CONDITIONS_9 : oo_CONDITIONS_9.cls = .type "tuple") (dt_CONDITIONS_9 : oo_CONDITIONS_9.data = .seq it_CONDITIONS_9 nn_CONDITIONS_9) (el_CONDITIONS_9 : it_CONDITIONS_9.toList.map strV = (["E", "GA", "LA"] : List Str).map some)
    {oo_CONDITIONS_10 : Obj} {it_CONDITIONS_10 : Array Value} {nn_CONDITIONS_10 : Nat} (lk_CONDITIONS_10 : K.lookup pp_CONDITIONS_10 = some oo_CONDITIONS_10) (cl_CONDITIONS_10 : oo_CONDITIONS_10.cls = .type "tuple") (dt_CONDITIONS_10 : oo_CONDITIONS_10.data = .seq it_CONDITIONS_10 nn_CONDITIONS_10) (el_CONDITIONS_10 : it_CONDITIONS_10.toList.map strV = (["E", "LB", "GA"] : List Str).map some)
    {oo_CONDITIONS_11 : Obj} {it_CONDITIONS_11 : Array Value} {nn_CONDITIONS_11 : Nat} (lk_CONDITIONS_11 : K.lookup pp_CONDITIONS_11 = some oo_CONDITIONS_11) (cl_CONDITIONS_11 : oo_CONDITIONS_11.cls = .type "tuple") (dt_CONDITIONS_11 : oo_CONDITIONS_11.data = .seq it_CONDITIONS_11 nn_CONDITIONS_11) (el_CONDITIONS_11 : it_CONDITIONS_11.toList.map strV = (["GB", "LA"] : List Str).map some)
    {vv_INPUT_NAMES : Addr} (av_INPUT_NAMES : PySem.W.nsIn K mainGlobals "INPUT_NAMES" = some (some (.ref vv_INPUT_NAMES)))
    {oo_INPUT_NAMES : Obj} {it_INPUT_NAMES : Array Value} {nn_INPUT_NAMES : Nat} (lk_INPUT_NAMES : K.lookup vv_INPUT_NAMES = some oo_INPUT_NAMES) (cl_INPUT_NAMES : oo_INPUT_NAMES.cls = .type "tuple") (dt_INPUT_NAMES : oo_INPUT_NAMES.data = .seq it_INPUT_NAMES nn_INPUT_NAMES) (el_INPUT_NAMES : it_INPUT_NAMES.toList.map strV = (["p", "q", "r", "s"] : List Str).map some)
    {vv_OTHER_NAMES : Addr} (av_OTHER_NAMES : PySem.W.nsIn K mainGlobals "OTHER_NAMES" = some (some (.ref vv_OTHER_NAMES)))
    {oo_OTHER_NAMES : Obj} {it_OTHER_NAMES : Array Value} {nn_OTHER_NAMES : Nat} (lk_OTHER_NAMES : K.lookup vv_OTHER_NAMES = some oo_OTHER_NAMES) (cl_OTHER_NAMES : oo_OTHER_NAMES.cls = .type "tuple") (dt_OTHER_NAMES : oo_OTHER_NAMES.data = .seq it_OTHER_NAMES nn_OTHER_NAMES) (el_OTHER_NAMES : it_OTHER_NAMES.toList.map strV = (["x", "y"] : List Str).map some)
    {vv_FORMS : Addr} (av_FORMS : PySem.W.nsIn K mainGlobals "FORMS" = some (some (.ref vv_FORMS)))
    {es_FORMS : Array DictEntry} {nn_FORMS : Nat} (lk_FORMS : K.lookup vv_FORMS = some ⟨.type "dict", none, .dict es_FORMS nn_FORMS, #[]⟩) (kk_FORMS : es_FORMS.toList.map He.keyOf = He.keysIn w.params ["cmp", "mov", "swap", "cmov", "jump", "jif", "out", "stop"]) (lo_FORMS : (vv_FORMS == sysModules) = false)
    {tt_FORMS_0 : Tok} {tt_FORMS_1 : Tok} {tt_FORMS_2 : Tok} {tt_FORMS_3 : Tok} {tt_FORMS_4 : Tok} {tt_FORMS_5 : Tok} {tt_FORMS_6 : Tok} {tt_FORMS_7 : Tok} (vl_FORMS : es_FORMS.toList.map (·.val) = [.str "RR" tt_FORMS_0, .str "RR" tt_FORMS_1, .str "RR" tt_FORMS_2, .str "CRR" tt_FORMS_3, .str "T" tt_FORMS_4, .str "CT" tt_FORMS_5, .str "R" tt_FORMS_6, .str "" tt_FORMS_7])
    {vv_FLAG_WORDS : Addr} (av_FLAG_WORDS : PySem.W.nsIn K mainGlobals "FLAG_WORDS" = some (some (.ref vv_FLAG_WORDS)))
    {oo_FLAG_WORDS : Obj} {it_FLAG_WORDS : Array Value} {nn_FLAG_WORDS : Nat} (lk_FLAG_WORDS : K.lookup vv_FLAG_WORDS = some oo_FLAG_WORDS) (cl_FLAG_WORDS : oo_FLAG_WORDS.cls = .type "tuple") (dt_FLAG_WORDS : oo_FLAG_WORDS.data = .seq it_FLAG_WORDS nn_FLAG_WORDS) (el_FLAG_WORDS : it_FLAG_WORDS.toList.map strV = (["cmov", "jif"] : List Str).map some)
    {vv_ENDINGS : Addr} (av_ENDINGS : PySem.W.nsIn K mainGlobals "ENDINGS" = some (some (.ref vv_ENDINGS)))
    {oo_ENDINGS : Obj} {it_ENDINGS : Array Value} {nn_ENDINGS : Nat} (lk_ENDINGS : K.lookup vv_ENDINGS = some oo_ENDINGS) (cl_ENDINGS : oo_ENDINGS.cls = .type "tuple") (dt_ENDINGS : oo_ENDINGS.data = .seq it_ENDINGS nn_ENDINGS) (el_ENDINGS : it_ENDINGS.toList.map strV = (["stop", "fault", "endless"] : List Str).map some)
    {vv_QUERY_SHAPES : Addr} (av_QUERY_SHAPES : PySem.W.nsIn K mainGlobals "QUERY_SHAPES" = some (some (.ref vv_QUERY_SHAPES)))
    {pp_QUERY_SHAPES_0 : Addr} {pp_QUERY_SHAPES_1 : Addr} {pp_QUERY_SHAPES_2 : Addr} {pp_QUERY_SHAPES_3 : Addr} {pp_QUERY_SHAPES_4 : Addr}    {oo_QUERY_SHAPES : Obj} {it_QUERY_SHAPES : Array Value} {nn_QUERY_SHAPES : Nat} (lk_QUERY_SHAPES : K.lookup vv_QUERY_SHAPES = some oo_QUERY_SHAPES) (cl_QUERY_SHAPES : oo_QUERY_SHAPES.cls = .type "tuple") (dt_QUERY_SHAPES : oo_QUERY_SHAPES.data = .seq it_QUERY_SHAPES nn_QUERY_SHAPES) (el_QUERY_SHAPES : it_QUERY_SHAPES.toList = [.ref pp_QUERY_SHAPES_0, .ref pp_QUERY_SHAPES_1, .ref pp_QUERY_SHAPES_2, .ref pp_QUERY_SHAPES_3, .ref pp_QUERY_SHAPES_4])
    {oo_QUERY_SHAPES_0 : Obj} {it_QUERY_SHAPES_0 : Array Value} {nn_QUERY_SHAPES_0 : Nat} (lk_QUERY_SHAPES_0 : K.lookup pp_QUERY_SHAPES_0 = some oo_QUERY_SHAPES_0) (cl_QUERY_SHAPES_0 : oo_QUERY_SHAPES_0.cls = .type "tuple") (dt_QUERY_SHAPES_0 : oo_QUERY_SHAPES_0.data = .seq it_QUERY_SHAPES_0 nn_QUERY_SHAPES_0) (el_QUERY_SHAPES_0 : it_QUERY_SHAPES_0.toList.map absV = ([.str "all", .int 1] : List V).map some)
    {oo_QUERY_SHAPES_1 : Obj} {it_QUERY_SHAPES_1 : Array Value} {nn_QUERY_SHAPES_1 : Nat} (lk_QUERY_SHAPES_1 : K.lookup pp_QUERY_SHAPES_1 = some oo_QUERY_SHAPES_1) (cl_QUERY_SHAPES_1 : oo_QUERY_SHAPES_1.cls = .type "tuple") (dt_QUERY_SHAPES_1 : oo_QUERY_SHAPES_1.data = .seq it_QUERY_SHAPES_1 nn_QUERY_SHAPES_1) (el_QUERY_SHAPES_1 : it_QUERY_SHAPES_1.toList.map absV = ([.str "end", .int 2] : List V).map some)
    {oo_QUERY_SHAPES_2 : Obj} {it_QUERY_SHAPES_2 : Array Value} {nn_QUERY_SHAPES_2 : Nat} (lk_QUERY_SHAPES_2 : K.lookup pp_QUERY_SHAPES_2 = some oo_QUERY_SHAPES_2) (cl_QUERY_SHAPES_2 : oo_QUERY_SHAPES_2.cls = .type "tuple") (dt_QUERY_SHAPES_2 : oo_QUERY_SHAPES_2.data = .seq it_QUERY_SHAPES_2 nn_QUERY_SHAPES_2) (el_QUERY_SHAPES_2 : it_QUERY_SHAPES_2.toList.map absV = ([.str "reach", .int 2] : List V).map some)
    {oo_QUERY_SHAPES_3 : Obj} {it_QUERY_SHAPES_3 : Array Value} {nn_QUERY_SHAPES_3 : Nat} (lk_QUERY_SHAPES_3 : K.lookup pp_QUERY_SHAPES_3 = some oo_QUERY_SHAPES_3) (cl_QUERY_SHAPES_3 : oo_QUERY_SHAPES_3.cls = .type "tuple") (dt_QUERY_SHAPES_3 : oo_QUERY_SHAPES_3.data = .seq it_QUERY_SHAPES_3 nn_QUERY_SHAPES_3) (el_QUERY_SHAPES_3 : it_QUERY_SHAPES_3.toList.map absV = ([.str "steps", .int 3] : List V).map some)
    {oo_QUERY_SHAPES_4 : Obj} {it_QUERY_SHAPES_4 : Array Value} {nn_QUERY_SHAPES_4 : Nat} (lk_QUERY_SHAPES_4 : K.lookup pp_QUERY_SHAPES_4 = some oo_QUERY_SHAPES_4) (cl_QUERY_SHAPES_4 : oo_QUERY_SHAPES_4.cls = .type "tuple") (dt_QUERY_SHAPES_4 : oo_QUERY_SHAPES_4.data = .seq it_QUERY_SHAPES_4 nn_QUERY_SHAPES_4) (el_QUERY_SHAPES_4 : it_QUERY_SHAPES_4.toList.map absV = ([.str "first", .int 2] : List V).map some)
    {cB : Addr} (aB : PySem.W.nsIn K mainGlobals "BranchError" = some (some (.ref cB))) (kB : PySem.W.keepIn K (.ref cB) = true) (qB : PySem.W.excIn K cB [.type "ValueError", .type "Exception", .type "BaseException", .type "object"] "ValueError.__new__" = true)
    (e1B : PySem.W.findIn K (.ref cB) "__getattribute__" = some (some (.builtin "BaseException.__getattribute__"))) (e2B : PySem.W.findIn K (.ref cB) "__getattr__" = some none) (e3B : PySem.W.subIn K (.ref cB) (.type "BaseException") = some true) (e4B : PySem.W.hasDictIn K cB = true) (e5B : PySem.W.findIn K (.ref cB) "__class__" = some (some (.builtin "object.__class__"))) (e6B : PySem.W.mroIn K cB (.type "object") = some true)
    (sg : PySem.W.specialIn K (.builtin "object.__class__") "__get__" = some (some (.builtin "getset_descriptor.__get__"))) (st : PySem.W.takesIn K (.builtin "object.__class__") = some true)
    {ce0 ie0 Ne0 : Addr} {ne0 qe0 : Str} {be0 : List Value} {se0 : List Str} {ue0 : List Value} {ve0 : Bool} {we0 : Option Bool} {xe0 : Option Addr} {ma0 mb0 mc0 md0 me0 : Option Value}
    {oi0 ai0 : Option Addr} {li0 : Array (Option Value)} {ci0 ki0 di0 pi0 gi0 ti0 : Value}
    (E1_0 : PySem.W.nsIn K mainGlobals "InvalidProgram" = some (some (.ref ce0))) (E2_0 : K.lookup ce0 = some (excClassObj ne0 qe0 ce0 Ne0 be0 [.ref cB, .type "ValueError", .type "Exception", .type "BaseException", .type "object"] true se0 ue0 ve0 we0 xe0 ma0 mb0 mc0 md0 me0 "ValueError.__new__"))
    (E3_0 : PySem.W.findIn K (.ref ce0) "__setattr__" = some (some (.builtin "object.__setattr__"))) (E4_0 : PySem.W.typeIn K (.ref ce0) = some (.type "type")) (E5_0 : PySem.W.keepIn K (.ref ce0) = true) (E6_0 : PySem.W.findIn K (.ref ce0) "value" = some none)
    (E7_0 : PySem.W.findIn K (.ref ce0) "__init__" = some (some (.ref ie0))) (E8_0 : PySem.W.typeIn K (.ref ie0) = some (.type "function")) (E9_0 : K.lookup ie0 = some ⟨ci0, oi0, .func (PySem.W.fnOf "__init__" "InvalidProgram.__init__" (defArgs s_InvalidProgram) (defBody s_InvalidProgram) (defScope s_InvalidProgram) .none ki0 di0 pi0 ai0 gi0 ti0), li0⟩) (Ea_0 : PySem.W.codeIn K gi0 "InvalidProgram.__init__" = true) (Eb_0 : PySem.W.keepIn K (.ref ie0) = true)
    (e1_0 : PySem.W.findIn K (.ref ce0) "__getattribute__" = some (some (.builtin "BaseException.__getattribute__"))) (e2_0 : PySem.W.findIn K (.ref ce0) "__getattr__" = some none) (e3_0 : PySem.W.subIn K (.ref ce0) (.type "BaseException") = some true) (e4_0 : PySem.W.hasDictIn K ce0 = true) (e5_0 : PySem.W.findIn K (.ref ce0) "__class__" = some (some (.builtin "object.__class__"))) (e6_0 : PySem.W.mroIn K ce0 (.type "object") = some true)
    (tab : kitTab K [ce0] cB = true)
    : ∃ fd : FuncData, (∀ (s : Shared) (v : Value), BindsTo s fd ⟨[v], []⟩ [("script", v)]) ∧ ∀ base : Heap, K.In base → base.Ns mainGlobals mg → FnOk l.prog w K mg base CX0 9 fa fd ["script"] (sp_law K) := by
  have e := hfa.symm.trans (PySem.W.mg_of X G a55)
  cases e
  have T : Txt w K mg ⟨vv_CONDITIONS, pp_CONDITIONS_0, pp_CONDITIONS_1, pp_CONDITIONS_2, pp_CONDITIONS_3, pp_CONDITIONS_4, pp_CONDITIONS_5, pp_CONDITIONS_6, pp_CONDITIONS_7, pp_CONDITIONS_8, pp_CONDITIONS_9, pp_CONDITIONS_10, pp_CONDITIONS_11, vv_INPUT_NAMES, vv_OTHER_NAMES, vv_FORMS, vv_FLAG_WORDS, vv_ENDINGS, vv_QUERY_SHAPES, pp_QUERY_SHAPES_0, pp_QUERY_SHAPES_1, pp_QUERY_SHAPES_2, pp_QUERY_SHAPES_3, pp_QUERY_SHAPES_4, ce0, cB, ie0, (PySem.W.fnOf "__init__" "InvalidProgram.__init__" (defArgs s_InvalidProgram) (defBody s_InvalidProgram) (defScope s_InvalidProgram) .none ki0 di0 pi0 ai0 gi0 ti0), oc_Program, pp20, pp21, f0, (PySem.W.fnOf "check_width" "check_width" (defArgs s_check_width) (defBody s_check_width) (defScope s_check_width) .none kV0 dc0 pm0 an0 cd0 ct0), f1, (PySem.W.fnOf "check_words" "check_words" (defArgs s_check_words) (defBody s_check_words) (defScope s_check_words) .none kV1 dc1 pm1 an1 cd1 ct1), f2, (PySem.W.fnOf "is_word" "is_word" (defArgs s_is_word) (defBody s_is_word) (defScope s_is_word) .none kV2 dc2 pm2 an2 cd2 ct2), f3, (PySem.W.fnOf "sign_bit" "sign_bit" (defArgs s_sign_bit) (defBody s_sign_bit) (defScope s_sign_bit) .none kV3 dc3 pm3 an3 cd3 ct3), f4, (PySem.W.fnOf "outcome_by_cut" "outcome_by_cut" (defArgs s_outcome_by_cut) (defBody s_outcome_by_cut) (defScope s_outcome_by_cut) .none kV4 dc4 pm4 an4 cd4 ct4), f5, (PySem.W.fnOf "check_ranking" "check_ranking" (defArgs s_check_ranking) (defBody s_check_ranking) (defScope s_check_ranking) .none kV5 dc5 pm5 an5 cd5 ct5), f6, (PySem.W.fnOf "check_items" "check_items" (defArgs s_check_items) (defBody s_check_items) (defScope s_check_items) .none kV6 dc6 pm6 an6 cd6 ct6), f7, (PySem.W.fnOf "least_words" "least_words" (defArgs s_least_words) (defBody s_least_words) (defScope s_least_words) .none kV7 dc7 pm7 an7 cd7 ct7), f8, (PySem.W.fnOf "count_words" "count_words" (defArgs s_count_words) (defBody s_count_words) (defScope s_count_words) .none kV8 dc8 pm8 an8 cd8 ct8), f9, (PySem.W.fnOf "count_rankings" "count_rankings" (defArgs s_count_rankings) (defBody s_count_rankings) (defScope s_count_rankings) .none kV9 dc9 pm9 an9 cd9 ct9), f10, (PySem.W.fnOf "nth_ranking" "nth_ranking" (defArgs s_nth_ranking) (defBody s_nth_ranking) (defScope s_nth_ranking) .none kV10 dc10 pm10 an10 cd10 ct10), f11, (PySem.W.fnOf "all_rankings" "all_rankings" (defArgs s_all_rankings) (defBody s_all_rankings) (defScope s_all_rankings) .none kV11 dc11 pm11 an11 cd11 ct11), f12, (PySem.W.fnOf "rankings_at" "rankings_at" (defArgs s_rankings_at) (defBody s_rankings_at) (defScope s_rankings_at) .none kV12 dc12 pm12 an12 cd12 ct12), f13, (PySem.W.fnOf "_is_ranking" "_is_ranking" (defArgs s_is_ranking) (defBody s_is_ranking) (defScope s_is_ranking) .none kV13 dc13 pm13 an13 cd13 ct13), f14, (PySem.W.fnOf "_ranks_by_sign" "_ranks_by_sign" (defArgs s_ranks_by_sign) (defBody s_ranks_by_sign) (defScope s_ranks_by_sign) .none kV14 dc14 pm14 an14 cd14 ct14), f15, (PySem.W.fnOf "_fits" "_fits" (defArgs s_fits) (defBody s_fits) (defScope s_fits) .none kV15 dc15 pm15 an15 cd15 ct15), f16, (PySem.W.fnOf "_gaps" "_gaps" (defArgs s_gaps) (defBody s_gaps) (defScope s_gaps) .none kV16 dc16 pm16 an16 cd16 ct16), f17, (PySem.W.fnOf "register_names" "register_names" (defArgs s_register_names) (defBody s_register_names) (defScope s_register_names) .none kV17 dc17 pm17 an17 cd17 ct17), f18, (PySem.W.fnOf "parts_of" "parts_of" (defArgs s_parts_of) (defBody s_parts_of) (defScope s_parts_of) .none kV18 dc18 pm18 an18 cd18 ct18), f19, (PySem.W.fnOf "__init__" "Program.__init__" (defArgs s_Program___init) (defBody s_Program___init) (defScope s_Program___init) .none kV19 dc19 pm19 an19 cd19 ct19), f20, (PySem.W.fnOf "inputs" "Program.inputs" (defArgs s_Program_inputs) (defBody s_Program_inputs) (defScope s_Program_inputs) .none kV20 dc20 pm20 an20 cd20 ct20), f21, (PySem.W.fnOf "placed" "Program.placed" (defArgs s_Program_placed) (defBody s_Program_placed) (defScope s_Program_placed) .none kV21 dc21 pm21 an21 cd21 ct21), f22, (PySem.W.fnOf "_is_row" "_is_row" (defArgs s_is_row) (defBody s_is_row) (defScope s_is_row) .none kV22 dc22 pm22 an22 cd22 ct22), f23, (PySem.W.fnOf "_is_item" "_is_item" (defArgs s_is_item) (defBody s_is_item) (defScope s_is_item) .none kV23 dc23 pm23 an23 cd23 ct23), f24, (PySem.W.fnOf "_placed_row" "_placed_row" (defArgs s_placed_row) (defBody s_placed_row) (defScope s_placed_row) .none kV24 dc24 pm24 an24 cd24 ct24), f25, (PySem.W.fnOf "_placed_item" "_placed_item" (defArgs s_placed_item) (defBody s_placed_item) (defScope s_placed_item) .none kV25 dc25 pm25 an25 cd25 ct25), f26, (PySem.W.fnOf "first_state" "first_state" (defArgs s_first_state) (defBody s_first_state) (defScope s_first_state) .none kV26 dc26 pm26 an26 cd26 ct26), f27, (PySem.W.fnOf "ending_at" "ending_at" (defArgs s_ending_at) (defBody s_ending_at) (defScope s_ending_at) .none kV27 dc27 pm27 an27 cd27 ct27), f28, (PySem.W.fnOf "state_behind" "state_behind" (defArgs s_state_behind) (defBody s_state_behind) (defScope s_state_behind) .none kV28 dc28 pm28 an28 cd28 ct28), f29, (PySem.W.fnOf "with_value" "with_value" (defArgs s_with_value) (defBody s_with_value) (defScope s_with_value) .none kV29 dc29 pm29 an29 cd29 ct29), f30, (PySem.W.fnOf "walk" "walk" (defArgs s_walk) (defBody s_walk) (defScope s_walk) .none kV30 dc30 pm30 an30 cd30 ct30), f31, (PySem.W.fnOf "ranked_walk" "ranked_walk" (defArgs s_ranked_walk) (defBody s_ranked_walk) (defScope s_ranked_walk) .none kV31 dc31 pm31 an31 cd31 ct31), f32, (PySem.W.fnOf "check_input" "check_input" (defArgs s_check_input) (defBody s_check_input) (defScope s_check_input) .none kV32 dc32 pm32 an32 cd32 ct32), f33, (PySem.W.fnOf "count_steps" "count_steps" (defArgs s_count_steps) (defBody s_count_steps) (defScope s_count_steps) .none kV33 dc33 pm33 an33 cd33 ct33), f34, (PySem.W.fnOf "check_query" "check_query" (defArgs s_check_query) (defBody s_check_query) (defScope s_check_query) .none kV34 dc34 pm34 an34 cd34 ct34), f35, (PySem.W.fnOf "count_inputs" "count_inputs" (defArgs s_count_inputs) (defBody s_count_inputs) (defScope s_count_inputs) .none kV35 dc35 pm35 an35 cd35 ct35), f36, (PySem.W.fnOf "average_steps" "average_steps" (defArgs s_average_steps) (defBody s_average_steps) (defScope s_average_steps) .none kV36 dc36 pm36 an36 cd36 ct36), f37, (PySem.W.fnOf "average_limit" "average_limit" (defArgs s_average_limit) (defBody s_average_limit) (defScope s_average_limit) .none kV37 dc37 pm37 an37 cd37 ct37), f38, (PySem.W.fnOf "_is_query" "_is_query" (defArgs s_is_query) (defBody s_is_query) (defScope s_is_query) .none kV38 dc38 pm38 an38 cd38 ct38), f39, (PySem.W.fnOf "_rankings_with" "_rankings_with" (defArgs s_rankings_with) (defBody s_rankings_with) (defScope s_rankings_with) .none kV39 dc39 pm39 an39 cd39 ct39), f40, (PySem.W.fnOf "_is_true" "_is_true" (defArgs s_is_true) (defBody s_is_true) (defScope s_is_true) .none kV40 dc40 pm40 an40 cd40 ct40), f41, (PySem.W.fnOf "_steps_of" "_steps_of" (defArgs s_steps_of) (defBody s_steps_of) (defScope s_steps_of) .none kV41 dc41 pm41 an41 cd41 ct41), f42, (PySem.W.fnOf "_average" "_average" (defArgs s_average) (defBody s_average) (defScope s_average) .none kV42 dc42 pm42 an42 cd42 ct42), f43, (PySem.W.fnOf "_weight_in_limit" "_weight_in_limit" (defArgs s_weight_in_limit) (defBody s_weight_in_limit) (defScope s_weight_in_limit) .none kV43 dc43 pm43 an43 cd43 ct43), f44, (PySem.W.fnOf "_count_all" "_count_all" (defArgs s_count_all) (defBody s_count_all) (defScope s_count_all) .none kV44 dc44 pm44 an44 cd44 ct44), f45, (PySem.W.fnOf "_law_bag" "_law_bag" (defArgs s_law_bag) (defBody s_law_bag) (defScope s_law_bag) .none kV45 dc45 pm45 an45 cd45 ct45), f46, (PySem.W.fnOf "_law_draw" "_law_draw" (defArgs s_law_draw) (defBody s_law_draw) (defScope s_law_draw) .none kV46 dc46 pm46 an46 cd46 ct46), f47, (PySem.W.fnOf "_law_half" "_law_half" (defArgs s_law_half) (defBody s_law_half) (defScope s_law_half) .none kV47 dc47 pm47 an47 cd47 ct47), f48, (PySem.W.fnOf "_law_tests" "_law_tests" (defArgs s_law_tests) (defBody s_law_tests) (defScope s_law_tests) .none kV48 dc48 pm48 an48 cd48 ct48), f49, (PySem.W.fnOf "_law_names" "_law_names" (defArgs s_law_names) (defBody s_law_names) (defScope s_law_names) .none kV49 dc49 pm49 an49 cd49 ct49), f50, (PySem.W.fnOf "_law_line" "_law_line" (defArgs s_law_line) (defBody s_law_line) (defScope s_law_line) .none kV50 dc50 pm50 an50 cd50 ct50), f51, (PySem.W.fnOf "_law_lines" "_law_lines" (defArgs s_law_lines) (defBody s_law_lines) (defScope s_law_lines) .none kV51 dc51 pm51 an51 cd51 ct51), f52, (PySem.W.fnOf "_law_numbers" "_law_numbers" (defArgs s_law_numbers) (defBody s_law_numbers) (defScope s_law_numbers) .none kV52 dc52 pm52 an52 cd52 ct52), f53, (PySem.W.fnOf "_law_all_words" "_law_all_words" (defArgs s_law_all_words) (defBody s_law_all_words) (defScope s_law_all_words) .none kV53 dc53 pm53 an53 cd53 ct53), f54, (PySem.W.fnOf "_law_equal_share" "_law_equal_share" (defArgs s_law_equal_share) (defBody s_law_equal_share) (defScope s_law_equal_share) .none kV54 dc54 pm54 an54 cd54 ct54), fa, (PySem.W.fnOf "law" "law" (defArgs s_law) (defBody s_law) (defScope s_law) .none kV55 dc55 pm55 an55 cd55 ct55)⟩ := {
    g_check_width := PySem.W.mg_of X G a0,
    F_check_width := fun_mk (st := s_check_width) l0 c0 k0,
    g_check_words := PySem.W.mg_of X G a1,
    F_check_words := fun_mk (st := s_check_words) l1 c1 k1,
    g_is_word := PySem.W.mg_of X G a2,
    F_is_word := fun_mk (st := s_is_word) l2 c2 k2,
    g_sign_bit := PySem.W.mg_of X G a3,
    F_sign_bit := fun_mk (st := s_sign_bit) l3 c3 k3,
    g_outcome_by_cut := PySem.W.mg_of X G a4,
    F_outcome_by_cut := fun_mk (st := s_outcome_by_cut) l4 c4 k4,
    g_check_ranking := PySem.W.mg_of X G a5,
    F_check_ranking := fun_mk (st := s_check_ranking) l5 c5 k5,
    g_check_items := PySem.W.mg_of X G a6,
    F_check_items := fun_mk (st := s_check_items) l6 c6 k6,
    g_least_words := PySem.W.mg_of X G a7,
    F_least_words := fun_mk (st := s_least_words) l7 c7 k7,
    g_count_words := PySem.W.mg_of X G a8,
    F_count_words := fun_mk (st := s_count_words) l8 c8 k8,
    g_count_rankings := PySem.W.mg_of X G a9,
    F_count_rankings := fun_mk (st := s_count_rankings) l9 c9 k9,
    g_nth_ranking := PySem.W.mg_of X G a10,
    F_nth_ranking := fun_mk (st := s_nth_ranking) l10 c10 k10,
    g_all_rankings := PySem.W.mg_of X G a11,
    F_all_rankings := fun_mk (st := s_all_rankings) l11 c11 k11,
    g_rankings_at := PySem.W.mg_of X G a12,
    F_rankings_at := fun_mk (st := s_rankings_at) l12 c12 k12,
    g_is_ranking := PySem.W.mg_of X G a13,
    F_is_ranking := fun_mk (st := s_is_ranking) l13 c13 k13,
    g_ranks_by_sign := PySem.W.mg_of X G a14,
    F_ranks_by_sign := fun_mk (st := s_ranks_by_sign) l14 c14 k14,
    g_fits := PySem.W.mg_of X G a15,
    F_fits := fun_mk (st := s_fits) l15 c15 k15,
    g_gaps := PySem.W.mg_of X G a16,
    F_gaps := fun_mk (st := s_gaps) l16 c16 k16,
    g_register_names := PySem.W.mg_of X G a17,
    F_register_names := fun_mk (st := s_register_names) l17 c17 k17,
    g_parts_of := PySem.W.mg_of X G a18,
    F_parts_of := fun_mk (st := s_parts_of) l18 c18 k18,
    me_Program___init := ⟨a19, i19, k19⟩,
    F_Program___init := fun_mk (st := s_Program___init) l19 c19 k19,
    po_Program_inputs := ⟨a20, qg20, qt20, ⟨_, qr20⟩⟩,
    F_Program_inputs := fun_mk (st := s_Program_inputs) l20 c20 k20,
    po_Program_placed := ⟨a21, qg21, qt21, ⟨_, qr21⟩⟩,
    F_Program_placed := fun_mk (st := s_Program_placed) l21 c21 k21,
    g_is_row := PySem.W.mg_of X G a22,
    F_is_row := fun_mk (st := s_is_row) l22 c22 k22,
    g_is_item := PySem.W.mg_of X G a23,
    F_is_item := fun_mk (st := s_is_item) l23 c23 k23,
    g_placed_row := PySem.W.mg_of X G a24,
    F_placed_row := fun_mk (st := s_placed_row) l24 c24 k24,
    g_placed_item := PySem.W.mg_of X G a25,
    F_placed_item := fun_mk (st := s_placed_item) l25 c25 k25,
    g_first_state := PySem.W.mg_of X G a26,
    F_first_state := fun_mk (st := s_first_state) l26 c26 k26,
    g_ending_at := PySem.W.mg_of X G a27,
    F_ending_at := fun_mk (st := s_ending_at) l27 c27 k27,
    g_state_behind := PySem.W.mg_of X G a28,
    F_state_behind := fun_mk (st := s_state_behind) l28 c28 k28,
    g_with_value := PySem.W.mg_of X G a29,
    F_with_value := fun_mk (st := s_with_value) l29 c29 k29,
    g_walk := PySem.W.mg_of X G a30,
    F_walk := fun_mk (st := s_walk) l30 c30 k30,
    g_ranked_walk := PySem.W.mg_of X G a31,
    F_ranked_walk := fun_mk (st := s_ranked_walk) l31 c31 k31,
    g_check_input := PySem.W.mg_of X G a32,
    F_check_input := fun_mk (st := s_check_input) l32 c32 k32,
    g_count_steps := PySem.W.mg_of X G a33,
    F_count_steps := fun_mk (st := s_count_steps) l33 c33 k33,
    g_check_query := PySem.W.mg_of X G a34,
    F_check_query := fun_mk (st := s_check_query) l34 c34 k34,
    g_count_inputs := PySem.W.mg_of X G a35,
    F_count_inputs := fun_mk (st := s_count_inputs) l35 c35 k35,
    g_average_steps := PySem.W.mg_of X G a36,
    F_average_steps := fun_mk (st := s_average_steps) l36 c36 k36,
    g_average_limit := PySem.W.mg_of X G a37,
    F_average_limit := fun_mk (st := s_average_limit) l37 c37 k37,
    g_is_query := PySem.W.mg_of X G a38,
    F_is_query := fun_mk (st := s_is_query) l38 c38 k38,
    g_rankings_with := PySem.W.mg_of X G a39,
    F_rankings_with := fun_mk (st := s_rankings_with) l39 c39 k39,
    g_is_true := PySem.W.mg_of X G a40,
    F_is_true := fun_mk (st := s_is_true) l40 c40 k40,
    g_steps_of := PySem.W.mg_of X G a41,
    F_steps_of := fun_mk (st := s_steps_of) l41 c41 k41,
    g_average := PySem.W.mg_of X G a42,
    F_average := fun_mk (st := s_average) l42 c42 k42,
    g_weight_in_limit := PySem.W.mg_of X G a43,
    F_weight_in_limit := fun_mk (st := s_weight_in_limit) l43 c43 k43,
    g_count_all := PySem.W.mg_of X G a44,
    F_count_all := fun_mk (st := s_count_all) l44 c44 k44,
    g_law_bag := PySem.W.mg_of X G a45,
    F_law_bag := fun_mk (st := s_law_bag) l45 c45 k45,
    g_law_draw := PySem.W.mg_of X G a46,
    F_law_draw := fun_mk (st := s_law_draw) l46 c46 k46,
    g_law_half := PySem.W.mg_of X G a47,
    F_law_half := fun_mk (st := s_law_half) l47 c47 k47,
    g_law_tests := PySem.W.mg_of X G a48,
    F_law_tests := fun_mk (st := s_law_tests) l48 c48 k48,
    g_law_names := PySem.W.mg_of X G a49,
    F_law_names := fun_mk (st := s_law_names) l49 c49 k49,
    g_law_line := PySem.W.mg_of X G a50,
    F_law_line := fun_mk (st := s_law_line) l50 c50 k50,
    g_law_lines := PySem.W.mg_of X G a51,
    F_law_lines := fun_mk (st := s_law_lines) l51 c51 k51,
    g_law_numbers := PySem.W.mg_of X G a52,
    F_law_numbers := fun_mk (st := s_law_numbers) l52 c52 k52,
    g_law_all_words := PySem.W.mg_of X G a53,
    F_law_all_words := fun_mk (st := s_law_all_words) l53 c53 k53,
    g_law_equal_share := PySem.W.mg_of X G a54,
    F_law_equal_share := fun_mk (st := s_law_equal_share) l54 c54 k54,
    g_law := PySem.W.mg_of X G a55,
    F_law := fun_mk (st := s_law) l55 c55 k55,
    gc_Program := PySem.W.mg_of X G aC_Program, cl_Program := ⟨pg_Program, hd_Program, po_Program, sa_Program⟩, mk_Program := ⟨mk_Program, a19, i19, kc_Program⟩, ty_Program := ⟨ta_Program, tg, tt, tm_Program, to_Program⟩, sf_Program := sf_Program, nf_Program__inputs := nf_Program__inputs, nf_Program__rows := nf_Program__rows, nf_Program__placed := nf_Program__placed,
    gv_CONDITIONS := PySem.W.mg_of X G av_CONDITIONS,
    kt_CONDITIONS := fun P => ktab_of (kus := [("e", .ref pp_CONDITIONS_0), ("ne", .ref pp_CONDITIONS_1), ("l", .ref pp_CONDITIONS_2), ("le", .ref pp_CONDITIONS_3), ("g", .ref pp_CONDITIONS_4), ("ge", .ref pp_CONDITIONS_5), ("b", .ref pp_CONDITIONS_6), ("be", .ref pp_CONDITIONS_7), ("a", .ref pp_CONDITIONS_8), ("ae", .ref pp_CONDITIONS_9), ("same", .ref pp_CONDITIONS_10), ("mixed", .ref pp_CONDITIONS_11)]) lk_CONDITIONS kk_CONDITIONS vl_CONDITIONS (.cons ⟨rfl, rfl⟩ (.cons ⟨rfl, rfl⟩ (.cons ⟨rfl, rfl⟩ (.cons ⟨rfl, rfl⟩ (.cons ⟨rfl, rfl⟩ (.cons ⟨rfl, rfl⟩ (.cons ⟨rfl, rfl⟩ (.cons ⟨rfl, rfl⟩ (.cons ⟨rfl, rfl⟩ (.cons ⟨rfl, rfl⟩ (.cons ⟨rfl, rfl⟩ (.cons ⟨rfl, rfl⟩ (.nil))))))))))))) (show (["e", "ne", "l", "le", "g", "ge", "b", "be", "a", "ae", "same", "mixed"] : List Str).Nodup by decide) lo_CONDITIONS,
    tv_CONDITIONS_0 := tupK_of lk_CONDITIONS_0 cl_CONDITIONS_0 dt_CONDITIONS_0 el_CONDITIONS_0,
    tv_CONDITIONS_1 := tupK_of lk_CONDITIONS_1 cl_CONDITIONS_1 dt_CONDITIONS_1 el_CONDITIONS_1,
    tv_CONDITIONS_2 := tupK_of lk_CONDITIONS_2 cl_CONDITIONS_2 dt_CONDITIONS_2 el_CONDITIONS_2,
    tv_CONDITIONS_3 := tupK_of lk_CONDITIONS_3 cl_CONDITIONS_3 dt_CONDITIONS_3 el_CONDITIONS_3,
    tv_CONDITIONS_4 := tupK_of lk_CONDITIONS_4 cl_CONDITIONS_4 dt_CONDITIONS_4 el_CONDITIONS_4,
    tv_CONDITIONS_5 := tupK_of lk_CONDITIONS_5 cl_CONDITIONS_5 dt_CONDITIONS_5 el_CONDITIONS_5,
    tv_CONDITIONS_6 := tupK_of lk_CONDITIONS_6 cl_CONDITIONS_6 dt_CONDITIONS_6 el_CONDITIONS_6,
    tv_CONDITIONS_7 := tupK_of lk_CONDITIONS_7 cl_CONDITIONS_7 dt_CONDITIONS_7 el_CONDITIONS_7,
    tv_CONDITIONS_8 := tupK_of lk_CONDITIONS_8 cl_CONDITIONS_8 dt_CONDITIONS_8 el_CONDITIONS_8,
    tv_CONDITIONS_9 := tupK_of lk_CONDITIONS_9 cl_CONDITIONS_9 dt_CONDITIONS_9 el_CONDITIONS_9,
    tv_CONDITIONS_10 := tupK_of lk_CONDITIONS_10 cl_CONDITIONS_10 dt_CONDITIONS_10 el_CONDITIONS_10,
    tv_CONDITIONS_11 := tupK_of lk_CONDITIONS_11 cl_CONDITIONS_11 dt_CONDITIONS_11 el_CONDITIONS_11,
    gv_INPUT_NAMES := PySem.W.mg_of X G av_INPUT_NAMES,
    tv_INPUT_NAMES := tupK_of lk_INPUT_NAMES cl_INPUT_NAMES dt_INPUT_NAMES el_INPUT_NAMES,
    gv_OTHER_NAMES := PySem.W.mg_of X G av_OTHER_NAMES,
    tv_OTHER_NAMES := tupK_of lk_OTHER_NAMES cl_OTHER_NAMES dt_OTHER_NAMES el_OTHER_NAMES,
    gv_FORMS := PySem.W.mg_of X G av_FORMS,
    kt_FORMS := fun P => ktab_of (kus := [("cmp", .str "RR" tt_FORMS_0), ("mov", .str "RR" tt_FORMS_1), ("swap", .str "RR" tt_FORMS_2), ("cmov", .str "CRR" tt_FORMS_3), ("jump", .str "T" tt_FORMS_4), ("jif", .str "CT" tt_FORMS_5), ("out", .str "R" tt_FORMS_6), ("stop", .str "" tt_FORMS_7)]) lk_FORMS kk_FORMS vl_FORMS (.cons ⟨rfl, ⟨_, rfl⟩⟩ (.cons ⟨rfl, ⟨_, rfl⟩⟩ (.cons ⟨rfl, ⟨_, rfl⟩⟩ (.cons ⟨rfl, ⟨_, rfl⟩⟩ (.cons ⟨rfl, ⟨_, rfl⟩⟩ (.cons ⟨rfl, ⟨_, rfl⟩⟩ (.cons ⟨rfl, ⟨_, rfl⟩⟩ (.cons ⟨rfl, ⟨_, rfl⟩⟩ (.nil))))))))) (show (["cmp", "mov", "swap", "cmov", "jump", "jif", "out", "stop"] : List Str).Nodup by decide) lo_FORMS,
    gv_FLAG_WORDS := PySem.W.mg_of X G av_FLAG_WORDS,
    tv_FLAG_WORDS := tupK_of lk_FLAG_WORDS cl_FLAG_WORDS dt_FLAG_WORDS el_FLAG_WORDS,
    gv_ENDINGS := PySem.W.mg_of X G av_ENDINGS,
    tv_ENDINGS := tupK_of lk_ENDINGS cl_ENDINGS dt_ENDINGS el_ENDINGS,
    gv_QUERY_SHAPES := PySem.W.mg_of X G av_QUERY_SHAPES,
    tv_QUERY_SHAPES := tupV_refs (as := [pp_QUERY_SHAPES_0, pp_QUERY_SHAPES_1, pp_QUERY_SHAPES_2, pp_QUERY_SHAPES_3, pp_QUERY_SHAPES_4]) lk_QUERY_SHAPES cl_QUERY_SHAPES dt_QUERY_SHAPES el_QUERY_SHAPES (show 5 ≤ 1000 by decide),
    tv_QUERY_SHAPES_0 := tupV_of lk_QUERY_SHAPES_0 cl_QUERY_SHAPES_0 dt_QUERY_SHAPES_0 el_QUERY_SHAPES_0,
    tv_QUERY_SHAPES_1 := tupV_of lk_QUERY_SHAPES_1 cl_QUERY_SHAPES_1 dt_QUERY_SHAPES_1 el_QUERY_SHAPES_1,
    tv_QUERY_SHAPES_2 := tupV_of lk_QUERY_SHAPES_2 cl_QUERY_SHAPES_2 dt_QUERY_SHAPES_2 el_QUERY_SHAPES_2,
    tv_QUERY_SHAPES_3 := tupV_of lk_QUERY_SHAPES_3 cl_QUERY_SHAPES_3 dt_QUERY_SHAPES_3 el_QUERY_SHAPES_3,
    tv_QUERY_SHAPES_4 := tupV_of lk_QUERY_SHAPES_4 cl_QUERY_SHAPES_4 dt_QUERY_SHAPES_4 el_QUERY_SHAPES_4,
    gc_InvalidProgram := PySem.W.mg_of X G E1_0, er_InvalidProgram := ⟨⟨⟨_, _, _, _, _, _, _, _, _, _, _, _, _, _, _, E2_0, rfl⟩, E3_0, e3_0, E4_0, E5_0⟩, ⟨e1_0, e2_0, e3_0, e4_0, e5_0, sg, st, e6_0⟩, E6_0, E7_0, E8_0⟩, FI_InvalidProgram := fun_mk (st := s_InvalidProgram) E9_0 Ea_0 Eb_0,
    gi_MOST_ITEMS := ⟨_, PySem.W.mg_of X G ai_MOST_ITEMS⟩,
    gf_comb := PySem.W.mg_of X G af_comb,
    gf_gcd := PySem.W.mg_of X G af_gcd,
    gc_BranchError := PySem.W.mg_of X G aB, xb := qB, kb := kB, eb := ⟨e1B, e2B, e3B, e4B, e5B, sg, st, e6B⟩, tab := tab,
    b_abs := PySem.W.mg_none_of X G z_abs, b_all := PySem.W.mg_none_of X G z_all, b_any := PySem.W.mg_none_of X G z_any, b_enumerate := PySem.W.mg_none_of X G z_enumerate, b_int := PySem.W.mg_none_of X G z_int, b_len := PySem.W.mg_none_of X G z_len, b_list := PySem.W.mg_none_of X G z_list, b_max := PySem.W.mg_none_of X G z_max, b_min := PySem.W.mg_none_of X G z_min, b_range := PySem.W.mg_none_of X G z_range, b_set := PySem.W.mg_none_of X G z_set, b_sorted := PySem.W.mg_none_of X G z_sorted, b_sum := PySem.W.mg_none_of X G z_sum, b_tuple := PySem.W.mg_none_of X G z_tuple, b_type := PySem.W.mg_none_of X G z_type, b_zip := PySem.W.mg_none_of X G z_zip }
  exact ⟨(PySem.W.fnOf "law" "law" (defArgs s_law) (defBody s_law) (defScope s_law) .none kV55 dc55 pm55 an55 cd55 ct55), fun s v => .of_eq rfl, fun base _ _ => ok_law T⟩
theorem walk {l : PySem.W.OpenLaw} {q : Program} {loose : List Str} {XP : (Str → Option Value) → Heap → Prop} {YP : World → Heap → Prop} {d : DefRec} {K : Params → PySem.W.Frag} (hn : l.most = some 63) (hdf : d.params.defaults = [])
    (hY : ∀ (w : World) (h : Heap), YP w h → (K w.params).In h) (F : ∀ (w : World) (mg : Str → Option Value) (fa : Addr) (h : Heap), (K w.params).In h → h.Ns mainGlobals mg → mg d.name = some (.ref fa) →
      ∃ fd : FuncData, (∀ (s : Shared) (u : Value), BindsTo s fd ⟨[u], []⟩ [("script", u)]) ∧ ∀ base : Heap, (K w.params).In base → base.Ns mainGlobals mg → FnOk l.prog w (K w.params) mg base CX0 9 fa fd ["script"] (sp_law (K w.params))) :
    PySem.W.WalkO q loose XP YP l.row.toRowW d [] (fun f vs => PySem.call f vs) :=
  L2.walk_ofK (n := 63) (k := 9) (x := "script") (CX := CX0) (sp := sp_law) hn (by decide) hdf ⟨rfl, by decide, by decide⟩ hY F (fun K H a ns hl _ hS => ⟨a, ns, rfl, hS, hl, fun _ => rfl⟩) fun _ _ _ _ z => z
end BR
open PySem PySem.W PyProof.Rows
set_option maxRecDepth 100000 in
set_option maxHeartbeats 0 in
theorem PySem.Challenge.cw_branchorders_k69_whole_averages_and_limi_holds : PySem.Challenge.rw_branchorders_k69_whole_averages_and_limi.Holds := by
  w_on; o_law; k_head; (case hw => w_witness2)
  k_fill
  refine BR.walk (l := PySem.Challenge.rw_branchorders_k69_whole_averages_and_limi) rfl rfl (fun w h Y => PySem.W.kIn_of Y) ?F
  case F =>
    intro w mg fa h KX G hmg
    refine' BR.all_mk KX G hmg ?aC_Program ?a0 ?l0 ?c0 ?k0 ?a1 ?l1 ?c1 ?k1 ?a2 ?l2 ?c2 ?k2 ?a3 ?l3 ?c3 ?k3 ?a4 ?l4 ?c4 ?k4 ?a5 ?l5 ?c5 ?k5 ?a6 ?l6 ?c6 ?k6 ?a7 ?l7 ?c7 ?k7 ?a8 ?l8 ?c8 ?k8 ?a9 ?l9 ?c9 ?k9 ?a10 ?l10 ?c10 ?k10 ?a11 ?l11 ?c11 ?k11 ?a12 ?l12 ?c12 ?k12 ?a13 ?l13 ?c13 ?k13 ?a14 ?l14 ?c14 ?k14 ?a15 ?l15 ?c15 ?k15 ?a16 ?l16 ?c16 ?k16 ?a17 ?l17 ?c17 ?k17 ?a18 ?l18 ?c18 ?k18 ?a19 ?i19 ?l19 ?c19 ?k19 ?a20 ?qr20 ?qg20 ?qt20 ?l20 ?c20 ?k20 ?a21 ?qr21 ?qg21 ?qt21 ?l21 ?c21 ?k21 ?a22 ?l22 ?c22 ?k22 ?a23 ?l23 ?c23 ?k23 ?a24 ?l24 ?c24 ?k24 ?a25 ?l25 ?c25 ?k25 ?a26 ?l26 ?c26 ?k26 ?a27 ?l27 ?c27 ?k27 ?a28 ?l28 ?c28 ?k28 ?a29 ?l29 ?c29 ?k29 ?a30 ?l30 ?c30 ?k30 ?a31 ?l31 ?c31 ?k31 ?a32 ?l32 ?c32 ?k32 ?a33 ?l33 ?c33 ?k33 ?a34 ?l34 ?c34 ?k34 ?a35 ?l35 ?c35 ?k35 ?a36 ?l36 ?c36 ?k36 ?a37 ?l37 ?c37 ?k37 ?a38 ?l38 ?c38 ?k38 ?a39 ?l39 ?c39 ?k39 ?a40 ?l40 ?c40 ?k40 ?a41 ?l41 ?c41 ?k41 ?a42 ?l42 ?c42 ?k42 ?a43 ?l43 ?c43 ?k43 ?a44 ?l44 ?c44 ?k44 ?a45 ?l45 ?c45 ?k45 ?a46 ?l46 ?c46 ?k46 ?a47 ?l47 ?c47 ?k47 ?a48 ?l48 ?c48 ?k48 ?a49 ?l49 ?c49 ?k49 ?a50 ?l50 ?c50 ?k50 ?a51 ?l51 ?c51 ?k51 ?a52 ?l52 ?c52 ?k52 ?a53 ?l53 ?c53 ?k53 ?a54 ?l54 ?c54 ?k54 ?a55 ?l55 ?c55 ?k55 ?pg_Program ?hd_Program ?po_Program ?sa_Program ?mk_Program ?kc_Program ?nf_Program__inputs ?nf_Program__rows ?nf_Program__placed ?ta_Program ?tm_Program ?to_Program ?sf_Program ?tg ?tt ?z_abs ?z_all ?z_any ?z_enumerate ?z_int ?z_len ?z_list ?z_max ?z_min ?z_range ?z_set ?z_sorted ?z_sum ?z_tuple ?z_type ?z_zip ?ai_MOST_ITEMS ?af_comb ?af_gcd ?av_CONDITIONS ?lk_CONDITIONS ?kk_CONDITIONS ?lo_CONDITIONS ?vl_CONDITIONS ?lk_CONDITIONS_0 ?cl_CONDITIONS_0 ?dt_CONDITIONS_0 ?el_CONDITIONS_0 ?lk_CONDITIONS_1 ?cl_CONDITIONS_1 ?dt_CONDITIONS_1 ?el_CONDITIONS_1 ?lk_CONDITIONS_2 ?cl_CONDITIONS_2 ?dt_CONDITIONS_2 ?el_CONDITIONS_2 ?lk_CONDITIONS_3 ?cl_CONDITIONS_3 ?dt_CONDITIONS_3 ?el_CONDITIONS_3 ?lk_CONDITIONS_4 ?cl_CONDITIONS_4 ?dt_CONDITIONS_4 ?el_CONDITIONS_4 ?lk_CONDITIONS_5 ?cl_CONDITIONS_5 ?dt_CONDITIONS_5 ?el_CONDITIONS_5 ?lk_CONDITIONS_6 ?cl_CONDITIONS_6 ?dt_CONDITIONS_6 ?el_CONDITIONS_6 ?lk_CONDITIONS_7 ?cl_CONDITIONS_7 ?dt_CONDITIONS_7 ?el_CONDITIONS_7 ?lk_CONDITIONS_8 ?cl_CONDITIONS_8 ?dt_CONDITIONS_8 ?el_CONDITIONS_8 ?lk_CONDITIONS_9 ?cl_CONDITIONS_9 ?dt_CONDITIONS_9 ?el_CONDITIONS_9 ?lk_CONDITIONS_10 ?cl_CONDITIONS_10 ?dt_CONDITIONS_10 ?el_CONDITIONS_10 ?lk_CONDITIONS_11 ?cl_CONDITIONS_11 ?dt_CONDITIONS_11 ?el_CONDITIONS_11 ?av_INPUT_NAMES ?lk_INPUT_NAMES ?cl_INPUT_NAMES ?dt_INPUT_NAMES ?el_INPUT_NAMES ?av_OTHER_NAMES ?lk_OTHER_NAMES ?cl_OTHER_NAMES ?dt_OTHER_NAMES ?el_OTHER_NAMES ?av_FORMS ?lk_FORMS ?kk_FORMS ?lo_FORMS ?vl_FORMS ?av_FLAG_WORDS ?lk_FLAG_WORDS ?cl_FLAG_WORDS ?dt_FLAG_WORDS ?el_FLAG_WORDS ?av_ENDINGS ?lk_ENDINGS ?cl_ENDINGS ?dt_ENDINGS ?el_ENDINGS ?av_QUERY_SHAPES ?lk_QUERY_SHAPES ?cl_QUERY_SHAPES ?dt_QUERY_SHAPES ?el_QUERY_SHAPES ?lk_QUERY_SHAPES_0 ?cl_QUERY_SHAPES_0 ?dt_QUERY_SHAPES_0 ?el_QUERY_SHAPES_0 ?lk_QUERY_SHAPES_1 ?cl_QUERY_SHAPES_1 ?dt_QUERY_SHAPES_1 ?el_QUERY_SHAPES_1 ?lk_QUERY_SHAPES_2 ?cl_QUERY_SHAPES_2 ?dt_QUERY_SHAPES_2 ?el_QUERY_SHAPES_2 ?lk_QUERY_SHAPES_3 ?cl_QUERY_SHAPES_3 ?dt_QUERY_SHAPES_3 ?el_QUERY_SHAPES_3 ?lk_QUERY_SHAPES_4 ?cl_QUERY_SHAPES_4 ?dt_QUERY_SHAPES_4 ?el_QUERY_SHAPES_4 ?aB ?kB ?qB ?e1B ?e2B ?e3B ?e4B ?e5B ?e6B ?sg ?st ?E1_0 ?E2_0 ?E3_0 ?E4_0 ?E5_0 ?E6_0 ?E7_0 ?E8_0 ?E9_0 ?Ea_0 ?Eb_0 ?e1_0 ?e2_0 ?e3_0 ?e4_0 ?e5_0 ?e6_0 ?tab
    (case aC_Program => k_is)
    (case a0 => k_is)
    (case l0 => k_is)
    (case c0 => k_is)
    (case k0 => k_is)
    (case a1 => k_is)
    (case l1 => k_is)
    (case c1 => k_is)
    (case k1 => k_is)
    (case a2 => k_is)
    (case l2 => k_is)
    (case c2 => k_is)
    (case k2 => k_is)
    (case a3 => k_is)
    (case l3 => k_is)
    (case c3 => k_is)
    (case k3 => k_is)
    (case a4 => k_is)
    (case l4 => k_is)
    (case c4 => k_is)
    (case k4 => k_is)
    (case a5 => k_is)
    (case l5 => k_is)
    (case c5 => k_is)
    (case k5 => k_is)
    (case a6 => k_is)
    (case l6 => k_is)
    (case c6 => k_is)
    (case k6 => k_is)
    (case a7 => k_is)
    (case l7 => k_is)
    (case c7 => k_is)
    (case k7 => k_is)
    (case a8 => k_is)
    (case l8 => k_is)
    (case c8 => k_is)
    (case k8 => k_is)
    (case a9 => k_is)
    (case l9 => k_is)
    (case c9 => k_is)
    (case k9 => k_is)
    (case a10 => k_is)
    (case l10 => k_is)
    (case c10 => k_is)
    (case k10 => k_is)
    (case a11 => k_is)
    (case l11 => k_is)
    (case c11 => k_is)
    (case k11 => k_is)
    (case a12 => k_is)
    (case l12 => k_is)
    (case c12 => k_is)
    (case k12 => k_is)
    (case a13 => k_is)
    (case l13 => k_is)
    (case c13 => k_is)
    (case k13 => k_is)
    (case a14 => k_is)
    (case l14 => k_is)
    (case c14 => k_is)
    (case k14 => k_is)
    (case a15 => k_is)
    (case l15 => k_is)
    (case c15 => k_is)
    (case k15 => k_is)
    (case a16 => k_is)
    (case l16 => k_is)
    (case c16 => k_is)
    (case k16 => k_is)
    (case a17 => k_is)
    (case l17 => k_is)
    (case c17 => k_is)
    (case k17 => k_is)
    (case a18 => k_is)
    (case l18 => k_is)
    (case c18 => k_is)
    (case k18 => k_is)
    (case a19 => k_is)
    (case i19 => k_is)
    (case l19 => k_is)
    (case c19 => k_is)
    (case k19 => k_is)
    (case a20 => k_is)
    (case qr20 => k_is)
    (case qg20 => k_is)
    (case qt20 => k_is)
    (case l20 => k_is)
    (case c20 => k_is)
    (case k20 => k_is)
    (case a21 => k_is)
    (case qr21 => k_is)
    (case qg21 => k_is)
    (case qt21 => k_is)
    (case l21 => k_is)
    (case c21 => k_is)
    (case k21 => k_is)
    (case a22 => k_is)
    (case l22 => k_is)
    (case c22 => k_is)
    (case k22 => k_is)
    (case a23 => k_is)
    (case l23 => k_is)
    (case c23 => k_is)
    (case k23 => k_is)
    (case a24 => k_is)
    (case l24 => k_is)
    (case c24 => k_is)
    (case k24 => k_is)
    (case a25 => k_is)
    (case l25 => k_is)
    (case c25 => k_is)
    (case k25 => k_is)
    (case a26 => k_is)
    (case l26 => k_is)
    (case c26 => k_is)
    (case k26 => k_is)
    (case a27 => k_is)
    (case l27 => k_is)
    (case c27 => k_is)
    (case k27 => k_is)
    (case a28 => k_is)
    (case l28 => k_is)
    (case c28 => k_is)
    (case k28 => k_is)
    (case a29 => k_is)
    (case l29 => k_is)
    (case c29 => k_is)
    (case k29 => k_is)
    (case a30 => k_is)
    (case l30 => k_is)
    (case c30 => k_is)
    (case k30 => k_is)
    (case a31 => k_is)
    (case l31 => k_is)
    (case c31 => k_is)
    (case k31 => k_is)
    (case a32 => k_is)
    (case l32 => k_is)
    (case c32 => k_is)
    (case k32 => k_is)
    (case a33 => k_is)
    (case l33 => k_is)
    (case c33 => k_is)
    (case k33 => k_is)
    (case a34 => k_is)
    (case l34 => k_is)
    (case c34 => k_is)
    (case k34 => k_is)
    (case a35 => k_is)
    (case l35 => k_is)
    (case c35 => k_is)
    (case k35 => k_is)
    (case a36 => k_is)
    (case l36 => k_is)
    (case c36 => k_is)
    (case k36 => k_is)
    (case a37 => k_is)
    (case l37 => k_is)
    (case c37 => k_is)
    (case k37 => k_is)
    (case a38 => k_is)
    (case l38 => k_is)
    (case c38 => k_is)
    (case k38 => k_is)
    (case a39 => k_is)
    (case l39 => k_is)
    (case c39 => k_is)
    (case k39 => k_is)
    (case a40 => k_is)
    (case l40 => k_is)
    (case c40 => k_is)
    (case k40 => k_is)
    (case a41 => k_is)
    (case l41 => k_is)
    (case c41 => k_is)
    (case k41 => k_is)
    (case a42 => k_is)
    (case l42 => k_is)
    (case c42 => k_is)
    (case k42 => k_is)
    (case a43 => k_is)
    (case l43 => k_is)
    (case c43 => k_is)
    (case k43 => k_is)
    (case a44 => k_is)
    (case l44 => k_is)
    (case c44 => k_is)
    (case k44 => k_is)
    (case a45 => k_is)
    (case l45 => k_is)
    (case c45 => k_is)
    (case k45 => k_is)
    (case a46 => k_is)
    (case l46 => k_is)
    (case c46 => k_is)
    (case k46 => k_is)
    (case a47 => k_is)
    (case l47 => k_is)
    (case c47 => k_is)
    (case k47 => k_is)
    (case a48 => k_is)
    (case l48 => k_is)
    (case c48 => k_is)
    (case k48 => k_is)
    (case a49 => k_is)
    (case l49 => k_is)
    (case c49 => k_is)
    (case k49 => k_is)
    (case a50 => k_is)
    (case l50 => k_is)
    (case c50 => k_is)
    (case k50 => k_is)
    (case a51 => k_is)
    (case l51 => k_is)
    (case c51 => k_is)
    (case k51 => k_is)
    (case a52 => k_is)
    (case l52 => k_is)
    (case c52 => k_is)
    (case k52 => k_is)
    (case a53 => k_is)
    (case l53 => k_is)
    (case c53 => k_is)
    (case k53 => k_is)
    (case a54 => k_is)
    (case l54 => k_is)
    (case c54 => k_is)
    (case k54 => k_is)
    (case a55 => k_is)
    (case l55 => k_is)
    (case c55 => k_is)
    (case k55 => k_is)
    (case pg_Program => k_is)
    (case hd_Program => k_is)
    (case po_Program => k_is)
    (case sa_Program => k_is)
    (case mk_Program => k_is)
    (case kc_Program => k_is)
    (case nf_Program__inputs => k_is)
    (case nf_Program__rows => k_is)
    (case nf_Program__placed => k_is)
    (case ta_Program => k_is)
    (case tm_Program => k_is)
    (case to_Program => first | exact if_pos (beq_self_eq_true _) | k_is)
    (case sf_Program => k_is)
    (case tg => k_is)
    (case tt => k_is)
    (case z_abs => k_is)
    (case z_all => k_is)
    (case z_any => k_is)
    (case z_enumerate => k_is)
    (case z_int => k_is)
    (case z_len => k_is)
    (case z_list => k_is)
    (case z_max => k_is)
    (case z_min => k_is)
    (case z_range => k_is)
    (case z_set => k_is)
    (case z_sorted => k_is)
    (case z_sum => k_is)
    (case z_tuple => k_is)
    (case z_type => k_is)
    (case z_zip => k_is)
    (case ai_MOST_ITEMS => k_is)
    (case af_comb => k_is)
    (case af_gcd => k_is)
    (case av_CONDITIONS => k_is)
    (case lk_CONDITIONS => k_is)
    (case kk_CONDITIONS => first | rfl | kernel_rfl | k_is)
    (case lo_CONDITIONS => first | rfl | kernel_rfl | k_is)
    (case vl_CONDITIONS => first | rfl | kernel_rfl | k_is)
    (case lk_CONDITIONS_0 => k_is)
    (case cl_CONDITIONS_0 => first | rfl | kernel_rfl | k_is)
    (case dt_CONDITIONS_0 => first | rfl | kernel_rfl | k_is)
    (case el_CONDITIONS_0 => first | rfl | kernel_rfl | k_is)
    (case lk_CONDITIONS_1 => k_is)
    (case cl_CONDITIONS_1 => first | rfl | kernel_rfl | k_is)
    (case dt_CONDITIONS_1 => first | rfl | kernel_rfl | k_is)
    (case el_CONDITIONS_1 => first | rfl | kernel_rfl | k_is)
    (case lk_CONDITIONS_2 => k_is)
    (case cl_CONDITIONS_2 => first | rfl | kernel_rfl | k_is)
    (case dt_CONDITIONS_2 => first | rfl | kernel_rfl | k_is)
    (case el_CONDITIONS_2 => first | rfl | kernel_rfl | k_is)
    (case lk_CONDITIONS_3 => k_is)
    (case cl_CONDITIONS_3 => first | rfl | kernel_rfl | k_is)
    (case dt_CONDITIONS_3 => first | rfl | kernel_rfl | k_is)
    (case el_CONDITIONS_3 => first | rfl | kernel_rfl | k_is)
    (case lk_CONDITIONS_4 => k_is)
    (case cl_CONDITIONS_4 => first | rfl | kernel_rfl | k_is)
    (case dt_CONDITIONS_4 => first | rfl | kernel_rfl | k_is)
    (case el_CONDITIONS_4 => first | rfl | kernel_rfl | k_is)
    (case lk_CONDITIONS_5 => k_is)
    (case cl_CONDITIONS_5 => first | rfl | kernel_rfl | k_is)
    (case dt_CONDITIONS_5 => first | rfl | kernel_rfl | k_is)
    (case el_CONDITIONS_5 => first | rfl | kernel_rfl | k_is)
    (case lk_CONDITIONS_6 => k_is)
    (case cl_CONDITIONS_6 => first | rfl | kernel_rfl | k_is)
    (case dt_CONDITIONS_6 => first | rfl | kernel_rfl | k_is)
    (case el_CONDITIONS_6 => first | rfl | kernel_rfl | k_is)
    (case lk_CONDITIONS_7 => k_is)
    (case cl_CONDITIONS_7 => first | rfl | kernel_rfl | k_is)
    (case dt_CONDITIONS_7 => first | rfl | kernel_rfl | k_is)
    (case el_CONDITIONS_7 => first | rfl | kernel_rfl | k_is)
    (case lk_CONDITIONS_8 => k_is)
    (case cl_CONDITIONS_8 => first | rfl | kernel_rfl | k_is)
    (case dt_CONDITIONS_8 => first | rfl | kernel_rfl | k_is)
    (case el_CONDITIONS_8 => first | rfl | kernel_rfl | k_is)
    (case lk_CONDITIONS_9 => k_is)
    (case cl_CONDITIONS_9 => first | rfl | kernel_rfl | k_is)
    (case dt_CONDITIONS_9 => first | rfl | kernel_rfl | k_is)
    (case el_CONDITIONS_9 => first | rfl | kernel_rfl | k_is)
    (case lk_CONDITIONS_10 => k_is)
    (case cl_CONDITIONS_10 => first | rfl | kernel_rfl | k_is)
    (case dt_CONDITIONS_10 => first | rfl | kernel_rfl | k_is)
    (case el_CONDITIONS_10 => first | rfl | kernel_rfl | k_is)
    (case lk_CONDITIONS_11 => k_is)
    (case cl_CONDITIONS_11 => first | rfl | kernel_rfl | k_is)
    (case dt_CONDITIONS_11 => first | rfl | kernel_rfl | k_is)
    (case el_CONDITIONS_11 => first | rfl | kernel_rfl | k_is)
    (case av_INPUT_NAMES => k_is)
    (case lk_INPUT_NAMES => k_is)
    (case cl_INPUT_NAMES => first | rfl | kernel_rfl | k_is)
    (case dt_INPUT_NAMES => first | rfl | kernel_rfl | k_is)
    (case el_INPUT_NAMES => first | rfl | kernel_rfl | k_is)
    (case av_OTHER_NAMES => k_is)
    (case lk_OTHER_NAMES => k_is)
    (case cl_OTHER_NAMES => first | rfl | kernel_rfl | k_is)
    (case dt_OTHER_NAMES => first | rfl | kernel_rfl | k_is)
    (case el_OTHER_NAMES => first | rfl | kernel_rfl | k_is)
    (case av_FORMS => k_is)
    (case lk_FORMS => k_is)
    (case kk_FORMS => first | rfl | kernel_rfl | k_is)
    (case lo_FORMS => first | rfl | kernel_rfl | k_is)
    (case vl_FORMS => first | rfl | kernel_rfl | k_is)
    (case av_FLAG_WORDS => k_is)
    (case lk_FLAG_WORDS => k_is)
    (case cl_FLAG_WORDS => first | rfl | kernel_rfl | k_is)
    (case dt_FLAG_WORDS => first | rfl | kernel_rfl | k_is)
    (case el_FLAG_WORDS => first | rfl | kernel_rfl | k_is)
    (case av_ENDINGS => k_is)
    (case lk_ENDINGS => k_is)
    (case cl_ENDINGS => first | rfl | kernel_rfl | k_is)
    (case dt_ENDINGS => first | rfl | kernel_rfl | k_is)
    (case el_ENDINGS => first | rfl | kernel_rfl | k_is)
    (case av_QUERY_SHAPES => k_is)
    (case lk_QUERY_SHAPES => k_is)
    (case cl_QUERY_SHAPES => first | rfl | kernel_rfl | k_is)
    (case dt_QUERY_SHAPES => first | rfl | kernel_rfl | k_is)
    (case el_QUERY_SHAPES => first | rfl | kernel_rfl | k_is)
    (case lk_QUERY_SHAPES_0 => k_is)
    (case cl_QUERY_SHAPES_0 => first | rfl | kernel_rfl | k_is)
    (case dt_QUERY_SHAPES_0 => first | rfl | kernel_rfl | k_is)
    (case el_QUERY_SHAPES_0 => first | rfl | kernel_rfl | k_is)
    (case lk_QUERY_SHAPES_1 => k_is)
    (case cl_QUERY_SHAPES_1 => first | rfl | kernel_rfl | k_is)
    (case dt_QUERY_SHAPES_1 => first | rfl | kernel_rfl | k_is)
    (case el_QUERY_SHAPES_1 => first | rfl | kernel_rfl | k_is)
    (case lk_QUERY_SHAPES_2 => k_is)
    (case cl_QUERY_SHAPES_2 => first | rfl | kernel_rfl | k_is)
    (case dt_QUERY_SHAPES_2 => first | rfl | kernel_rfl | k_is)
    (case el_QUERY_SHAPES_2 => first | rfl | kernel_rfl | k_is)
    (case lk_QUERY_SHAPES_3 => k_is)
    (case cl_QUERY_SHAPES_3 => first | rfl | kernel_rfl | k_is)
    (case dt_QUERY_SHAPES_3 => first | rfl | kernel_rfl | k_is)
    (case el_QUERY_SHAPES_3 => first | rfl | kernel_rfl | k_is)
    (case lk_QUERY_SHAPES_4 => k_is)
    (case cl_QUERY_SHAPES_4 => first | rfl | kernel_rfl | k_is)
    (case dt_QUERY_SHAPES_4 => first | rfl | kernel_rfl | k_is)
    (case el_QUERY_SHAPES_4 => first | rfl | kernel_rfl | k_is)
    (case aB => k_is)
    (case kB => k_is)
    (case qB => k_exc)
    (case e1B => k_is)
    (case e2B => k_is)
    (case e3B => k_is)
    (case e4B => k_is)
    (case e5B => k_is)
    (case e6B => k_is)
    (case sg => k_is)
    (case st => k_is)
    (case E1_0 => k_is)
    (case E2_0 => k_is)
    (case E3_0 => k_is)
    (case E4_0 => k_is)
    (case E5_0 => k_is)
    (case E6_0 => k_is)
    (case E7_0 => k_is)
    (case E8_0 => k_is)
    (case E9_0 => k_is)
    (case Ea_0 => k_is)
    (case Eb_0 => k_is)
    (case e1_0 => k_is)
    (case e2_0 => k_is)
    (case e3_0 => k_is)
    (case e4_0 => k_is)
    (case e5_0 => k_is)
    (case e6_0 => k_is)
    (case tab => first | kernel_rfl | decide +kernel)
#print axioms PySem.Challenge.cw_branchorders_k69_whole_averages_and_limi_holds
