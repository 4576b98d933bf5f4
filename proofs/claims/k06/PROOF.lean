import PyProof.Rows.All
import Wide.All
import OpenK.AllK
import Wide.FinOn
import PyProof.ReprRoads
import HandS.ForMost
import HandS.Wide
import HandS.Walk
import KE.GoesEnum
import KE.GoesMore
import PyProof.ReprLen
import PyProof.Rows.RegStrFacts
import HandS.IsInst
import HandS.ExcInit
import HandS.ExcValue
import KE.KExcIs
import KE.KIsAll
import HandS.ExcField
import HandS.ExcIs
import HandS.Evl
import KE.DataFind
import HandS.WordsExc
import HandS.Text
import HandS.More
import HandS.Iter
import HandS.HeadHook3
import HandS.Style
import HandS.Small
import HandS.Strs
import HandS.SetFor
import HandS.Star
import HandS.Conv
import HandS.TupLe
import HandS.TupSets
import HandS.Zip
import KE.DataMinMax
import HandS.Gcd
import HandS.Deep
import HandS.TupAny
import KE.KMathGC
import HandS.SortRule
import HandS.WideBits
import PyProof.Rows.TupDisplay
import KE.KDictKeyed
import KE.KeyNested
import KE.KDictPairs
import HandS.Spec
import PySem.Challenge.RW_branchorders_k06_errors_of_words_and_out
set_option Elab.async false
set_option linter.all false
set_option maxRecDepth 100000
set_option maxHeartbeats 2000000

namespace BR
open PySem PySem.Spec PyProof.Rows L2
/-! ### own rules: great powers, calls by keywords alone, repr of data where no repr runs, enumerate of a tuple -/
section
variable {X : Cx}
def CPowB (i j : Int) : Prop := 0 ≤ j ∧ (Builtin.Int.intBits i : Int) * j ≤ 2 ^ 27
theorem op_powB : OpR X (binaryOp .Pow) (rI CPowB fun i j => .int (i ^ j.toNat)) :=
  opI fun _ _ _ _ _ _ _ c h => pow_int c.1 c.2 h
theorem powB_of {i j : Int} {a : Nat} (ha : i.natAbs < 2 ^ a) (h0 : 0 < a) (hj : 0 ≤ j) (hz : ((a : Int) + 1) * j ≤ 2 ^ 27) : CPowB i j := by
  refine ⟨hj, Int.le_trans (Int.mul_le_mul_of_nonneg_right ?_ hj) hz⟩
  have e := PySem.Flt.log2_lt_of h0 ha
  have b : Builtin.Int.intBits i ≤ i.natAbs.log2 + 1 := by
    unfold Builtin.Int.intBits
    split
    · exact Nat.zero_le _
    · omega
  omega
end

section
variable {X : Cx} {CX : CXT} {k : Nat} {f : Addr} {fd : FuncData} {ps ks : List Str} {sp : Sp} {E : XK} {x : Str}
/-- f(k = v, ..): keywords alone -/
theorem pe_callK0 {p pos : Pos} {kws : List Keyword} {tk : TA} {g : List Value → List Value → List Value} {gV : List V → List V → List V} (F : FnOk X.prog X.w X.K X.mg X.base CX k f fd ps sp) (room : Room k X.A) (hg : Gl X x)
    (hm : X.mg x = some (.ref f)) (kp : PySem.W.keepIn X.K (.ref f) = true) (b : KBinds X.K fd ps ks g gV) (hx : Passes CX X E) (hkw : PK X kws tk)
    (all1 : (backToKw pos (keywordEach kws X.env)).all (·.1.isSome) = true := by rfl) (nms : (backToKw pos (keywordEach kws X.env)).filterMap (·.1) = ks := by rfl)
    (nodb : (x == ("__debug__" : Str)) = false := by decide) (pl : ((backTo pos (starEach [] X.env)).any (·.1) || (backToKw pos (keywordEach kws X.env)).any (·.1.isNone)) = false := by rfl) :
    PE X (.Call (.Name x p) [] kws pos) (tCallK sp gV E tNil tk) := by
  refine ⟨fun pins s σ H Q I0 hh => ?_⟩
  refine wpAny_Call_Name_kw (ld_glob I0 hg hm ?_ nodb)
  refine PySem.W.callWith_KW0 (h₀ := X.base) I0.ok.mod.kin kp all1 (thn (hkw.run pos pins s σ H _ I0 hh) fun ws s2 ⟨zs, H2, I2, rz, q2⟩ => ?_) pl
  refine ⟨I2.kIn, ?_⟩
  rw [nms]
  exact run_fnk (us := []) (vs := []) F room b hx I2 .nil rz q2
end

/-! ### defs that run where no repr runs -/
structure FnG (P : Program) (w : World) (K : PySem.W.Frag) (mg : Str → Option Value) (base : Heap) (CX : CXT) (k : Nat) (f : Addr) (fd : FuncData) (ps : List Str) (sp : Sp) : Prop where
  ln : ∀ vs H Q E, sp vs H Q E → vs.length = ps.length
  go : ∀ (A : Around) (outer : List Env) (s : Shared) (H : Hp) (args : Args) (us : List Value) (vs : List V) (Q : VK) (E : XK), A.guards = some [] → Room k A → Env0 P w K mg base A outer s H →
    BindsTo s fd args (ps.zip us) → Vals vs us → sp vs H Q E → codeAny (model P w) A (.call (.ref f) args) (CR CX outer P w H s Q E) s
section
variable {P : Program} {w : World} {K : PySem.W.Frag} {mg : Str → Option Value} {base : Heap}
theorem Fun.okG {x qual : Str} {st : Stmt} {f : Addr} {fd : FuncData} {N ps : List Str} {k : Nat} {sp : Sp} (F : Fun K x qual st f fd) (S : FnScope N ps (defScope st)) (ln : ∀ vs H Q E, sp vs H Q E → vs.length = ps.length)
    (body : ∀ (cdv : Value) (A : Around) (outer : List Env) (s : Shared) (H : Hp) (vs : List V) (Q : VK) (E : XK), A.guards = some [] → Room k (A.deeper (envOfC qual (defScope st) s.heap.objs.size f cdv)) → sp vs H Q E →
      ∃ t, PSs (cxOf CX0 P w K mg base N qual (defScope st) f cdv A outer s H E).nox (defBody st) t ∧ t { nx := fun _ H' => Q .non H', rt := Q } (start N vs) H) : FnG P w K mg base CX0 (k + 1) f fd ps sp := by
  obtain ⟨oc, od, kV, doc, pm, an, cdv, ct, osl, rfl, lk, hcd⟩ := F.ex
  refine ⟨ln, fun A outer s H args us vs Q E gg hr e0 hb r hsp => ?_⟩
  have hl := ln _ _ _ _ hsp
  have kin : K.In s.heap := e0.mod.kin.keeps fun b o e => (e0.bs b o e).1
  have nolim : s.heap.NoLimit := e0.mod.nolimit.keeps fun b o e => (e0.bs b o e).1
  have kinds : ∀ y ∈ ps.zip us, (defScope st).names.lookup y.1 = some .local ∨ ((defScope st).names.lookup y.1 = some .cell ∧ ((cellsFrom (s.heap.objs.size + 1) (defScope st).names []).lookup y.1).isSome = true) := by
    rintro ⟨n, v⟩ hy
    rcases S.par n (List.of_mem_zip hy).1 with q | q
    · exact .inl q
    · exact .inr ⟨q, PySem.W.cellsFrom_some _ _ _ (.inl q)⟩
  refine codeAny_call_function hr.depth (kin _ _ lk) rfl S.co S.gen rfl (PySem.W.codeRec_of kin hcd) (hb _ _ _ _ ?_)
  refine wpAny_newFunctionEnv_cells S.kind kinds fun env he s1 xc => ?_
  subst he
  refine ⟨nolim.keeps xc.toInCall.keep, codeAny_func ?_⟩
  obtain ⟨t, ht0, hq⟩ := body cdv A outer s H vs Q E gg (hr.deeper _) hsp
  have ht := ht0.nox
  have I1 := inv_start (CX := CX0) (E := E) S hr.hd e0 hl r xc
  refine wpAny_mono (ht.run [] s1 (start N vs) H _ I1 hq) (fun fl s' hs => ?_) fun e s' hs => hs
  cases fl with
  | ret u =>
    obtain ⟨v, σ', H', J, rv, q⟩ := hs
    exact ⟨v, H', J.os, J.bare, J.base, J.hok, rv, q⟩
  | next =>
    obtain ⟨σ', H', J, q⟩ := hs
    exact ⟨.non, H', J.os, J.bare, J.base, J.hok, rfl, q⟩
  | brk => obtain ⟨_, _, _, q⟩ := hs; exact q.elim
  | cont => obtain ⟨_, _, _, q⟩ := hs; exact q.elim
end
section
variable {X : Cx} {CX : CXT} {k : Nat} {f : Addr} {fd : FuncData} {ps : List Str} {sp : Sp} {E : XK} {x : Str} {ds : List Value} {dvs : List V} {p pos : Pos} {e : Expr} {es : List Expr} {t : TA}
theorem pe_callG (F : FnG X.prog X.w X.K X.mg X.base CX k f fd ps sp) (gg : X.A.guards = some []) (room : Room k X.A) (hg : Gl X x) (hm : X.mg x = some (.ref f)) (kp : PySem.W.keepIn X.K (.ref f) = true)
    (b : Binds X.K fd ps ds) (hd : Vals dvs ds) (hx : Passes CX X E) (args : PA X (e :: es) t) (nodb : (x == ("__debug__" : Str)) = false := by decide)
    (st1 : starEach (e :: es) X.env = (false, eval e X.env) :: starEach es X.env := by rfl) (st2 : (backTo pos (starEach es X.env)).any (·.1) = false := by rfl) :
    PE X (.Call (.Name x p) (e :: es) [] pos) (tCall sp dvs E t) := by
  refine ⟨fun pins s σ H Q I0 hh => ?_⟩
  refine wpAny_Call_Name_kw (ld_glob I0 hg hm ?_ nodb)
  refine PySem.W.callWith_K (h₀ := X.base) I0.ok.mod.kin kp (thn (args.run pos pins s σ H _ I0 hh) ?_) st1 st2
  rintro us s1 ⟨vs, H1, I1, r, q⟩
  refine ⟨I1.kIn, ?_⟩
  have r2 : Vals (vs ++ dvs) (us ++ ds) := r.append hd
  have hl : (us ++ ds).length = ps.length := by rw [← r2.length]; exact F.ln _ _ _ _ q
  refine wpAny_call (codeAny_mono (F.go X.A X.stack s1 H1 ⟨us, []⟩ (us ++ ds) (vs ++ dvs) Q E gg room I1.env0 (b s1 us I1.kIn hl) r2 q) fun res s' hq => ?_)
  cases res with
  | error e => exact hx pins σ H1 s1 e s' I1 hq
  | ok fl =>
    cases fl with
    | ret u => exact I1.after hq
    | next => exact hq.elim
    | brk => exact hq.elim
    | cont => exact hq.elim
/-- repr of a list or tuple of plain data -/
theorem call_reprD (gg : X.A.guards = some []) (hu : X.A.units + 64 < cLine) : CallR X (.builtin "repr") (fun xs H Q => ∃ a d, xs = [.ref a] ∧ Dp X.K H (.ref a) d ∧ d.showable = true ∧ d.hasDict = false ∧ d.depth ≤ 60 ∧ d.shown.length ≤ sizeLine ∧ Q (.str d.shown) H) := by
  rintro pins s σ H xs us Q I r ⟨a, d, rfl, hd, h1, h2, h3, h4, q⟩
  cases r with
  | cons r1 rr =>
    cases rr
    obtain ⟨as, rd⟩ := Dp.reads I d (.ref a) _ hd r1
    cases r1
    refine repr_of_reads' rd h1 (fun z => by rw [h2] at z; cases z) gg (by omega) (fun _ _ z => z) (fun h' u tk hk => ?_) h4
    exact ⟨.str d.shown, H, I.kept (t' := tk) hk, ⟨u, rfl⟩, q⟩
end
end BR

namespace BR
open PySem PySem.Spec PyProof.Rows L2
/-! ### a law's end for such defs -/
theorem law_callG {P : Program} {w : World} {K : PySem.W.Frag} {mg mb : Str → Option Value} {k : Nat} {fa a : Addr} {fd : FuncData} {x : Str} {sp : Sp} {s₁ : Shared} {vs : List Value} {ns : List Int}
    (kin : K.In s₁.heap) (hns : s₁.heap.Ns mainGlobals mg) (hb : s₁.heap.Ns builtinsNs mb) (hbb : ∀ y : Str, y ≠ "__name__" → mb y = bootBuiltins y) (nolim : s₁.heap.NoLimit) (nogen : s₁.gens = #[])
    (ha : s₁.heap.get? a = some { cls := .type "list", data := .seq vs.toArray }) (hi : IntsAre vs ns) (hl : ns.length ≤ sizeLine) (hr : Room k callerA)
    (F : ∀ base : Heap, K.In base → base.Ns mainGlobals mg → FnG P w K mg base CX0 k fa fd [x] sp) (hbind : ∀ (s : Shared) (u : Value), BindsTo s fd ⟨[u], []⟩ [(x, u)])
    (hsp : ∀ H : Hp, Only H → SqL K H a (ns.map V.int) → sp [.ref a] H (fun v _ => v = .bl true) fun _ _ _ => False) :
    codeAny (model P w) callerA (.call (.ref fa) ⟨[.ref a], []⟩) (fun r s' => r = .ok (.ret (.bool true)) ∧ OldK s₁.heap s'.heap ∧ s'.os = s₁.os ∧ AllBare s'.gens) s₁ := by
  have rv := vals_ints hi
  have lenV := hi.length
  have core : ∀ H : Hp, Only H → SqL K H a (ns.map V.int) → HOk P w H s₁.heap → (∀ b, H b ≠ none → b = a) → (H a ≠ none → K.lookup a = none) →
      codeAny (model P w) callerA (.call (.ref fa) ⟨[.ref a], []⟩) (fun r s' => r = .ok (.ret (.bool true)) ∧ OldK s₁.heap s'.heap ∧ s'.os = s₁.os ∧ AllBare s'.gens) s₁ := by
    intro H only sq hok hA hK
    have isA : ∀ {b : Addr} {u : HO}, H b = some u → b = a := fun {b u} q => hA b (by rw [q]; exact fun z => nomatch z)
    have hid : ∀ {b : Addr} {o : Obj}, s₁.heap.get? b = some o → H b = none → (hidT s₁.heap H).get? b = some o := fun e n => hidT_get e n
    have noA : ∀ {b : Addr} {o : Obj} {es : Array DictEntry} {ep : Nat}, s₁.heap.get? b = some o → o.data = .dict es ep → H b = none := by
      intro b o es ep e d
      cases q : H b with
      | none => rfl
      | some u =>
        have eb := isA q
        subst eb
        rw [ha] at e
        cases e
        exact absurd (show Data.seq vs.toArray _ = Data.dict es ep from d) (by intro z; cases z)
    have nsK : ∀ {b : Addr} {m : Str → Option Value}, s₁.heap.Ns b m → (hidT s₁.heap H).Ns b m := by
      rintro b m ⟨o, es, ep, e, d, r⟩
      exact ⟨o, es, ep, hid e (noA e d), d, r⟩
    have kinB : K.In (hidT s₁.heap H) := by
      intro b o e
      refine hid (kin b o e) ?_
      cases q : H b with
      | none => rfl
      | some u =>
        have eb := isA q
        subst eb
        rw [hK (by rw [q]; exact fun z => nomatch z)] at e
        cases e
    obtain ⟨mc, l1, l2⟩ := nolim
    have md : Mod K mg (hidT s₁.heap H) := ⟨kinB, nsK hns, ⟨mb, nsK hb, hbb⟩, ⟨mc, nsK l1, l2⟩⟩
    have e0 : Env0 P w K mg (hidT s₁.heap H) callerA [] s₁ H := ⟨rfl, md, fun b o e => of_hidT e, Nat.le_of_eq (hidT_size _ _), trivial, fun b z => absurd (show b ∈ ([] : List Addr) from z) (by simp), hok, .of_eq nogen⟩
    refine codeAny_mono ((F _ kinB (nsK hns)).go callerA [] s₁ H ⟨[.ref a], []⟩ [.ref a] [.ref a] _ _ rfl hr e0 (hbind s₁ (.ref a)) (.cons rfl .nil) (hsp H only sq)) fun r s' hh => ?_
    cases r with
    | error e => exact False.elim hh
    | ok fl =>
      cases fl with
      | next => exact hh.elim
      | brk => exact hh.elim
      | cont => exact hh.elim
      | ret u =>
        obtain ⟨v, H', os, bare, un, hok', r', q⟩ := hh
        obtain rfl : v = V.bl true := q
        obtain rfl : u = Value.bool true := r'
        refine ⟨rfl, OldK.of_keep fun b o e => ?_, os, bare⟩
        cases q : H b with
        | none => exact un.keep b o e q (fun z => absurd (show b ∈ ([] : List Addr) from z) (by simp)) (by simp)
        | some u =>
          rcases only b with z | ⟨ob, xs, z⟩
          · rw [q] at z; cases z
          · obtain ⟨e1, _⟩ := hok b _ z
            obtain ⟨e2, _⟩ := hok' b _ (un.frzs b ob _ z)
            rw [e] at e1
            cases e1
            exact e2
  cases hk : K.lookup a with
  | some o =>
    have e := kin a o hk
    rw [ha] at e
    cases e
    exact core (fun _ => none) (fun _ => .inl rfl) (.inr ⟨_, vs.toArray, _, hk, rfl, rfl, rfl, by rw [List.size_toArray, lenV]; exact hl, by simpa using rv⟩) (fun b u z => nomatch (show (none : Option HO) = some u from z)) (fun b z => absurd rfl z) fun z => absurd rfl z
  | none =>
    refine core (fun b => if b = a then some (.frz { cls := .type "list", data := .seq vs.toArray } (.lst (ns.map V.int))) else none) (fun b => ?_) (.inl (.inr ⟨_, if_pos rfl⟩)) (fun b u z => ?_) (fun b z => ?_) fun _ => hk
    · by_cases hb : b = a
      · exact .inr ⟨_, _, if_pos hb⟩
      · exact .inl (if_neg hb)
    · have z1 : (if b = a then some (HO.frz { cls := .type "list", data := .seq vs.toArray } (.lst (ns.map V.int))) else none) = some u := z
      by_cases hb : b = a
      · subst hb
        rw [if_pos rfl] at z1
        cases z1
        refine ⟨ha, ?_, vs, _, rv, ha⟩
        rw [List.length_map]
        exact hl
      · rw [if_neg hb] at z1
        cases z1
    · refine Decidable.byContradiction fun hb => z ?_
      exact if_neg hb
theorem walk_ofG {l : PySem.W.OpenLaw} {n k : Nat} {q : Program} {loose : List Str} {XP : (Str → Option Value) → Heap → Prop} {YP : World → Heap → Prop} {d : DefRec} {K : Params → PySem.W.Frag} {sp : PySem.W.Frag → Sp} {x : Str}
    (most : l.most = some n) (small : n ≤ sizeLine) (nodef : d.params.defaults = []) (hr : Room k callerA) (hY : ∀ (w : World) (h : Heap), YP w h → (K w.params).In h)
    (F : ∀ (w : World) (mg : Str → Option Value) (fa : Addr) (h : Heap), (K w.params).In h → h.Ns mainGlobals mg → mg d.name = some (.ref fa) → ∃ fd : FuncData, (∀ (s : Shared) (u : Value), BindsTo s fd ⟨[u], []⟩ [(x, u)]) ∧
      ∀ base : Heap, (K w.params).In base → base.Ns mainGlobals mg → FnG l.prog w (K w.params) mg base CX0 k fa fd [x] (sp (K w.params)))
    (hsp : ∀ (K : PySem.W.Frag) (H : Hp) (a : Addr) (ns : List Int), ns.length ≤ n → Only H → SqL K H a (ns.map V.int) → sp K [.ref a] H (fun v _ => v = .bl true) fun _ _ _ => False) :
    PySem.W.WalkO q loose XP YP l.row.toRowW d [] (fun f vs => PySem.call f vs) := by
  refine Att.attach_call most nodef fun w s₀ s₁ mg mb fa o pm cd doc a vs ns G Y ho hd hcd hmg hobj hints hlen hg => ?_
  have kin := hY w _ Y
  obtain ⟨fd, bnd, ok⟩ := F w mg fa _ kin G.T.g hmg
  exact law_callG kin G.T.g G.T.b G.T.builtins G.T.nolimit hg hobj hints (Nat.le_trans hlen small) hr ok bnd fun H only sq => hsp _ H a ns hlen only sq
/-! ### for i, x in enumerate(t), t a tuple -/
set_option maxHeartbeats 4000000 in
theorem meets_enumT (l : Addr) (items : Array Value) (n : Nat) (dct : Option Addr) (sl : Array (Option Value)) :
    Meets (Builtin.«enumerate.__new__» ⟨[.type "enumerate", .ref l], []⟩) (fun _ R s => s.heap.get? l = some { cls := .type "tuple", dict := dct, data := .seq items n, slots := sl } ∧
      R (.ok (.ret (.ref (s.heap.push { cls := .type "tuple_iterator", data := .fields #[.ref l, .int 0 0] }).objs.size)))
        { s with heap := (s.heap.push { cls := .type "tuple_iterator", data := .fields #[.ref l, .int 0 0] }).push { cls := .type "enumerate", data := .fields #[.none, .bool false, .ref s.heap.objs.size, rawInt 0, .none, .none] } }) :=
  .of_wp fun prog w A R s hh => by
    obtain ⟨hp, g, d, tk, os⟩ := s
    obtain ⟨hl, hh⟩ := hh
    have sub := sub_enumerate
    have isT : Heap.IsTuple (Shared.heap ⟨hp, g, d, tk, os⟩) l items := ⟨_, hl, rfl, n, rfl⟩
    wp_walk using AutoSeq1.wpAny_loadPart' hl
    refine wpAny_stack_any fun st0 => wpAny_pure ?_
    split
    · rename_i c _ _ _ _ _
      cases (c == Value.type "enumerate")
      · wp_walk using AutoSeq1.wpAny_loadPart' hl, wpAny_pyIter_tuple isT
        exact ⟨_, rfl, hh⟩
      · wp_walk using AutoSeq1.wpAny_loadPart' hl, wpAny_pyIter_tuple isT
        exact ⟨_, rfl, hh⟩
    · wp_walk using AutoSeq1.wpAny_loadPart' hl, wpAny_pyIter_tuple isT
      exact ⟨_, rfl, hh⟩
section
variable {prog : Program} {w : World} {A : Around} {E : Value → Shared → Prop} {s : Shared}
theorem call_enumT {l : Addr} {items : Array Value} {Q : Value → Shared → Prop} (isT : s.heap.IsTuple l items)
    (hh : ∀ h', IsEnum h' (s.heap.objs.size + 1) s.heap.objs.size 0 .none → h'.IsTupleIter s.heap.objs.size l 0 → h'.objs.size = s.heap.objs.size + 2 →
      (∀ b o, s.heap.get? b = some o → h'.get? b = some o) → Q (.ref (s.heap.objs.size + 1)) { s with heap := h' }) :
    wpAny (model prog w) A (call (.type "enumerate") [.ref l]) Q E s := by
  obtain ⟨⟨c, dct, dt, sl⟩, hl, hc, n, hd⟩ := isT
  obtain rfl : c = .type "tuple" := hc
  obtain rfl : dt = .seq items n := hd
  refine callType_new F.called_enumerate (by decide) (F.typeCall_enumerate_1 _) (F.newCall_enumerate_1 _) (fun obj => F.args_object_init_2 obj _) F.entry_enumerate_new (meets_enumT l items n dct sl) ⟨hl, ?_⟩
  generalize hI : s.heap.push { cls := .type "tuple_iterator", data := .fields #[.ref l, .int 0 0] } = h1
  have sz : h1.objs.size = s.heap.objs.size + 1 := by rw [← hI]; exact Heap.size_push ..
  show _ ∧ _
  rw [sz]
  have he : IsEnum (h1.push { cls := .type "enumerate", data := .fields #[.none, .bool false, .ref s.heap.objs.size, rawInt 0, .none, .none] }) (s.heap.objs.size + 1) s.heap.objs.size 0 .none := by
    have e := Heap.get?_push_size h1 (o := { cls := .type "enumerate", data := .fields #[.none, .bool false, .ref s.heap.objs.size, rawInt 0, .none, .none] }) rfl
    rw [sz] at e
    exact e
  refine ⟨⟨_, he, rfl⟩, hh _ he ⟨_, Heap.get?_push_of_some _ (by rw [← hI]; exact Heap.get?_push_size _ rfl), rfl, rfl⟩ (by rw [Heap.size_push, sz]) fun b o e => Heap.get?_push_of_some _ ?_⟩
  rw [← hI]
  exact Heap.get?_push_of_some _ e
end
end BR

namespace BR
open PySem PySem.Spec PyProof.Rows L2
def IteT (K : PySem.W.Frag) (a : Addr) (xs : List V) : It :=
  ⟨fun i H => SqT K H a xs ∧ i < xs.length, fun i H v H' => ∃ T x, v = .ref T ∧ H T = none ∧ H' = upd H T (.tup [.int (i : Nat), x]) ∧ xs[i]? = some x, fun i H => SqT K H a xs ∧ xs.length ≤ i⟩
theorem diff_cls {h : Heap} {a b : Addr} {o u : Obj} {c d : String} (h1 : h.get? a = some o) (h2 : h.get? b = some u) (e1 : o.cls = .type c) (e2 : u.cls = .type d) (ne : c ≠ d) : a ≠ b := by
  rintro rfl
  rw [h1] at h2
  cases h2
  rw [e1] at e2
  cases e2
  exact ne rfl
theorem turn_enumT {P : Program} {w : World} {K : PySem.W.Frag} {elts : List Expr} {kk : Nat} {tpos : Pos} (a e it : Addr) (xs : List V) :
    Turn P w K (.Tuple elts kk tpos) (IteT K a xs) [e, it] e (fun i h => (∃ old, IsEnum h e it ((i : Nat) : Int) old) ∧ h.IsTupleIter it a i ∧ e ≠ it ∧ i ≤ xs.length) where
  mem := by simp
  obj := by
    rintro i h ⟨⟨old, he⟩, ⟨o, ho, hc, hd⟩, _⟩ b hb
    rcases List.mem_cons.mp hb with rfl | hb
    · exact ⟨_, he, fun v q => nomatch q⟩
    · obtain rfl := List.mem_singleton.mp hb
      exact ⟨o, ho, fun v q => by rw [hd] at q; cases q⟩
  keep := by
    rintro i h h' ⟨⟨old, he⟩, hi, hne, hz⟩ k
    exact ⟨⟨old, k e (by simp) _ he⟩, hi.at fun o q => k it (by simp) o q, hne, hz⟩
  item := by
    intro X hP hw hK hc i pins s σ H E I hf st hg
    subst hP hw hK
    obtain ⟨⟨old, he⟩, hit, hne, hz⟩ := st
    obtain ⟨hq, hlt⟩ := hg
    obtain ⟨its, rv, isT, _⟩ := I.tuple hq
    have hl := rv.length
    obtain ⟨ot, hot, hct, _⟩ := id isT
    obtain ⟨oi, hoi, hci, _⟩ := id hit
    have nta : it ≠ a := diff_cls hoi hot hci hct (by decide)
    have nea : e ≠ a := diff_cls he hot rfl hct (by decide)
    have hel : e < s.heap.objs.size := Heap.lt_size he
    have hil : it < s.heap.objs.size := Heap.lt_size hoi
    have D := Draws.tuple (prog := X.prog) (w := X.w) (A := X.A.in1) (show X.A.in1.handled = none from I.ok.hd hc) it a (Ne.symm nta) its.toArray
    refine wpAny_pyNext_enum_itemD D he ⟨hit, isT⟩ (by simp; omega) hne (by simp [hne, nea]) fun x h' tk hx ho hit' hT hsz hk => ?_
    obtain ⟨hit1, isT1⟩ := hit'
    refine ⟨_, rfl, wpAny_letOwnedTupleGo_enum (s := { s with heap := h', toks := tk + 1 }) ho fun h2 he2 sb => ?_⟩
    have hT2 : h2.get? s.heap.objs.size = some { cls := .type "tuple", data := .seq #[.int i tk, x] } := (sb.2 _ (Nat.ne_of_gt hel)).trans hT
    have hxi : i < its.length := by omega
    obtain ⟨y, hy, ry⟩ : ∃ y, xs[i]? = some y ∧ RelV y x := by
      have e1 : xs[i]? = some xs[i] := by simp [hlt]
      obtain ⟨u, hu, ru⟩ := rv.get e1
      have e2 : its[i]? = some x := by simpa using hx
      rw [e2] at hu
      cases hu
      exact ⟨_, e1, ru⟩
    have new : ObjOk X.prog X.w (upd H s.heap.objs.size (.tup [.int (i : Nat), y])) h2 s.heap.objs.size (.tup [.int (i : Nat), y]) :=
      ⟨by show 2 ≤ sizeLine; decide, [.int i tk, x], .cons ⟨_, rfl⟩ (.cons ry .nil), ⟨_, hT2, rfl, _, rfl⟩⟩
    have I1 : Inv X pins σ (upd H s.heap.objs.size (.tup [.int (i : Nat), y])) { s with heap := h2, toks := tk + 1 } := by
      refine I.turnedNew (ch := [e, it]) (fun b ob hb q => ?_) hf (Nat.le_refl _) new
      have b1 : b ≠ e := fun z => hb (by simp [z])
      exact (sb.2 b b1).trans (hk b ob b1 (fun z => hb (by simp [z])) q)
    refine ⟨.ref s.heap.objs.size, _, I1, rfl, ⟨_, y, rfl, I.hok.fresh (Nat.le_refl _), rfl, hy⟩, ⟨⟨x, ?_⟩, hit1.at fun o q => (sb.2 it (Ne.symm hne)).trans q, hne, hlt⟩, fun b hb => ?_⟩
    · have e1 : ((i + 1 : Nat) : Int) = (i : Int) + 1 := by omega
      rw [e1]
      exact he2
    · have hb' : b < s.heap.objs.size := by
        rcases List.mem_cons.mp hb with rfl | hb
        · exact hel
        · obtain rfl := List.mem_singleton.mp hb
          exact hil
      rw [upd_ne (Nat.ne_of_lt hb')]
      exact (hf b hb).1
  done := by
    intro X hP hw hK hc i pins s σ H E I hf st hg
    subst hP hw hK
    obtain ⟨⟨old, he⟩, hit, hne, hz⟩ := st
    obtain ⟨hq, hge⟩ := hg
    obtain ⟨its, rv, isT, _⟩ := I.tuple hq
    have hl := rv.length
    obtain rfl : i = its.toArray.size := by simp; omega
    obtain ⟨ot, hot, hct, _⟩ := id isT
    obtain ⟨oi, hoi, hci, _⟩ := id hit
    have nta : it ≠ a := diff_cls hoi hot hci hct (by decide)
    have D := Draws.tuple (prog := X.prog) (w := X.w) (A := X.A.in1) (show X.A.in1.handled = none from I.ok.hd hc) it a (Ne.symm nta) its.toArray
    obtain ⟨f0, f1, f2, f3, f4, f5⟩ := hf it (by simp)
    exact wpAny_pyNext_enum_endD D he ⟨hit, isT⟩ fun h' eb => ⟨rfl, I.turned (t' := s.toks) (fun b o hb q => eb b o hb q) f0 f1 f3 f4 f5⟩
  self := fun A i s Q E st h => let ⟨⟨_, he⟩, _⟩ := st; wpAny_pyIter_enum he h
def iEnumT (K : PySem.W.Frag) (ta : TA) : TI := fun σ H R => ta σ H fun vs H1 => ∃ a xs, vs = [.ref a] ∧ SqT K H1 a xs ∧ R (IteT K a xs) H1
theorem pi_enumT {X : Cx} {e : Expr} {ta : TA} {p pos tpos : Pos} {elts : List Expr} {kk : Nat} (hg : Gl X "enumerate") (hm : X.mg "enumerate" = none) (args : PA X [e] ta) (st1 : starEach [e] X.env = [(false, eval e X.env)] := by rfl) :
    PI X (.Tuple elts kk tpos) (.Call (.Name "enumerate" p) [e] [] pos) (iEnumT X.K ta) := by
  refine ⟨fun pins s σ H R I h => ?_⟩
  refine Call_ (ld_blt I hg hm boot_enumerate (PyProof.Rows.callWith_type1 (thn (args.run pos pins s σ H _ I h) ?_) st1 rfl))
  rintro us s1 ⟨vs, H1, I1, r1, a, xs, rfl, hq, q⟩
  cases r1 with
  | cons r rr =>
    cases rr
    cases r
    obtain ⟨its, rv, isT, hz⟩ := I1.tuple hq
    refine call_enumT isT fun h' he hit hsz hk => wpAny_pyIter_enum he ?_
    have I2 : Inv X pins σ H1 { s1 with heap := h' } := I1.kept (t' := s1.toks) hk
    refine ⟨s1.heap.objs.size + 1, [s1.heap.objs.size + 1, s1.heap.objs.size], _, _, H1, rfl, I2, turn_enumT a (s1.heap.objs.size + 1) s1.heap.objs.size xs, ⟨⟨.none, he⟩, hit, Nat.succ_ne_self _, Nat.zero_le _⟩, fun b hb => ?_, q⟩
    have hle : s1.heap.objs.size ≤ b := by
      rcases List.mem_cons.mp hb with rfl | hb
      · exact Nat.le_add_right _ _
      · obtain rfl := List.mem_singleton.mp hb
        exact Nat.le_refl _
    exact I1.fpOk hle (I1.hok.fresh hle)
theorem walk_enumT {K : PySem.W.Frag} {a : Addr} {xs : List V} : Walk (IteT K a xs) xs.length (fun H => SqT K H a xs) (YPair (fun i => some (.int (i : Nat))) (fun i => xs[i]?)) := by
  refine ⟨fun i _ hi q => ⟨q, hi⟩, fun _ q => ⟨q, Nat.le_refl _⟩, ?_⟩
  rintro i H v H' _ q ⟨T, x, h1, h2, h3, h4⟩
  exact ⟨T, .int (i : Nat), x, h1, h2, h3, rfl, h4⟩
end BR

namespace BR
open PySem PySem.Spec PyProof.Rows L2
/-! ### the draws' pool, heaps, words -/
theorem tT {c : Bool} {A B : Prop} (hc : c = true) (h : A) : if c = true then A else B := by
  rw [if_pos hc]
  exact h
theorem tF {c : Bool} {A B : Prop} (hc : c = false) (h : B) : if c = true then A else B := by
  rw [hc, if_neg Bool.false_ne_true]
  exact h
theorem sameNew {H : Hp} {p : Addr} {o : HO} (h : H p = none) : Same H (upd H p o) := fun b u e => by
  rw [upd_ne (ne_of_none e h)]
  exact e
theorem sameT {K : PySem.W.Frag} {H H' : Hp} {a : Addr} {xs : List V} (e : Same H H') (h : SqT K H a xs) : SqT K H' a xs := by
  rcases h with (h | ⟨o, h⟩) | h
  · exact .inl (.inl (e _ _ h))
  · exact .inl (.inr ⟨o, e _ _ h⟩)
  · exact .inr h
theorem map_at {xs : List Int} {i : Nat} {v : V} (h : (xs.map V.int)[i]? = some v) : ∃ z, xs[i]? = some z ∧ v = V.int z := by
  rw [List.getElem?_map] at h
  cases e : xs[i]? with
  | none => rw [e] at h; cases h
  | some z => rw [e] at h; exact ⟨z, rfl, (Option.some.inj h).symm⟩
/-- all but p as it was -/
def But (p : Addr) (H H' : Hp) : Prop := ∀ b o, b ≠ p → H b = some o → H' b = some o
theorem But.refl {p : Addr} (H : Hp) : But p H H := fun _ _ _ e => e
theorem But.trans {p : Addr} {H H1 H2 : Hp} (a : But p H H1) (b : But p H1 H2) : But p H H2 := fun c o n e => b c o n (a c o n e)
theorem But.of {p : Addr} {H H' : Hp} (s : Same H H') : But p H H' := fun b o _ e => s b o e
theorem But.upd {p : Addr} {H : Hp} {o : HO} : But p H (upd H p o) := fun b u n e => by
  rw [upd_ne n]
  exact e
theorem But.new {p q : Addr} {H : Hp} {o : HO} (h : H q = none) : But p H (L2.upd H q o) := But.of (sameNew h)
/-- the pool at p, not more than n numbers mixed -/
def Pool (H : Hp) (p : Addr) (n : Nat) : Prop := ∃ g b c : Int, H p = some (.lst [.int g, .int b, .int c]) ∧ 0 ≤ g ∧ 0 ≤ b ∧ b < 2 ^ 62 ∧ 0 ≤ c ∧ c ≤ (n : Int)
theorem Pool.same {H H' : Hp} {p : Addr} {n : Nat} (h : Pool H p n) (s : Same H H') : Pool H' p n := by
  obtain ⟨g, b, c, e, r⟩ := h
  exact ⟨g, b, c, s _ _ e, r⟩
theorem Pool.mono {H : Hp} {p : Addr} {n m : Nat} (h : Pool H p n) (l : n ≤ m) : Pool H p m := by
  obtain ⟨g, b, c, e, r1, r2, r3, r4, r5⟩ := h
  exact ⟨g, b, c, e, r1, r2, r3, r4, by omega⟩
theorem Pool.new {H : Hp} {p q : Addr} {o : HO} {n : Nat} (h : Pool H p n) (hq : H q = none) : Pool (L2.upd H q o) p n := h.same (sameNew hq)
theorem Pool.ne {H : Hp} {p q : Addr} {n : Nat} (h : Pool H p n) (hq : H q = none) : q ≠ p := by
  obtain ⟨g, b, c, e, _⟩ := h
  exact (ne_of_none e hq).symm
theorem Pool.put {H : Hp} {p q : Addr} {o : HO} {n : Nat} (h : Pool H p n) (nq : q ≠ p) : Pool (L2.upd H q o) p n := by
  obtain ⟨g, b, c, e, r⟩ := h
  exact ⟨g, b, c, by rw [upd_ne nq.symm]; exact e, r⟩
theorem pow_pos (n : Nat) : (0 : Int) < 2 ^ n := by
  have h : (2 : Int) ^ n = ((2 ^ n : Nat) : Int) := by norm_cast
  rw [h]
  have := Nat.two_pow_pos n
  omega
theorem pow_lt {a b : Nat} (h : a < b) : (2 : Int) ^ a < 2 ^ b := by
  have h1 : (2 : Int) ^ a = ((2 ^ a : Nat) : Int) := by norm_cast
  have h2 : (2 : Int) ^ b = ((2 ^ b : Nat) : Int) := by norm_cast
  have h3 : 2 ^ a < 2 ^ b := Nat.pow_lt_pow_right (by decide) h
  rw [h1, h2]
  omega
theorem log_ok {m : Int} (h0 : 0 < m) (h1 : m < 2 ^ 400) : m.natAbs.log2 < 9000 := by
  have h : m.natAbs < 2 ^ 400 := by
    have e : ((2 : Int) ^ 400) = ((2 ^ 400 : Nat) : Int) := by norm_cast
    rw [e] at h1
    omega
  exact Nat.lt_of_lt_of_le (PySem.Flt.log2_lt_of (by decide) h) (by decide)
/-- signed value, outcome -/
def sv (wd x : Int) : Int := if (2 : Int) ^ (wd - 1).toNat ≤ x then x - 2 ^ wd.toNat else x
def oc (wd x y : Int) : Str := if x = y then "E" else if sv wd x < sv wd y then (if x < y then "LB" else "LA") else (if x < y then "GB" else "GA")
theorem oc_short (wd x y : Int) : (oc wd x y).length ≤ 2 := by
  unfold oc
  split
  · decide +kernel
  · split <;> split <;> decide +kernel
theorem ints_all {K : PySem.W.Frag} {H : Hp} : ∀ xs : List Int, DpAll K H (xs.map V.int) (xs.map PyData.int)
  | [] => .nil
  | x :: r => .cons (.int x) (ints_all r)
theorem ints_lay : ∀ xs : List Int, PyData.canLayAll0 (xs.map PyData.int) = true ∧ PyData.depthAll (xs.map PyData.int) = 0
  | [] => ⟨rfl, rfl⟩
  | x :: r => by
    obtain ⟨h1, h2⟩ := ints_lay r
    refine ⟨?_, ?_⟩
    · show (PyData.canLay0 (.int x) && PyData.canLayAll0 (r.map PyData.int)) = true
      rw [h1]
      rfl
    · show max (PyData.depth (.int x)) (PyData.depthAll (r.map PyData.int)) = 0
      rw [h2]
      rfl
theorem ints_shaped (xs : List Int) : SeqAt.shaped (.list (xs.map PyData.int)) = true := by
  obtain ⟨h1, h2⟩ := ints_lay xs
  unfold SeqAt.shaped
  show (PyData.canLayAll0 (xs.map PyData.int) && decide (PyData.depthAll (xs.map PyData.int) + 1 ≤ 64)) = true
  rw [h1, h2]
  rfl
/-- what is small enough to be shown -/
def Tame (m : Int) : Prop := m.natAbs.log2 < 1920
theorem Tame.of {m : Int} {k : Nat} (k0 : 0 < k) (hk : k ≤ 1900) (h0 : -(2 ^ k) < m) (h1 : m < 2 ^ k) : Tame m := by
  have e : ((2 : Int) ^ k) = ((2 ^ k : Nat) : Int) := by norm_cast
  rw [e] at h0 h1
  have h : m.natAbs < 2 ^ k := by omega
  exact Nat.lt_of_lt_of_le (PySem.Flt.log2_lt_of k0 h) (by omega)
theorem tame_short {m : Int} (h : Tame m) : (PyData.shown (.int m)).length ≤ 1921 := int_text_len_1921 h
theorem tame_weight {m : Int} (h : Tame m) : (PyData.int m).weight ≤ 1920 := by
  show (if m == 0 then 0 else m.natAbs.log2 + 1) ≤ 1920
  have := show m.natAbs.log2 < 1920 from h
  split <;> omega
theorem oc_is (wd x y : Int) : oc wd x y = "E" ∨ oc wd x y = "LB" ∨ oc wd x y = "LA" ∨ oc wd x y = "GB" ∨ oc wd x y = "GA" := by
  unfold oc
  split
  · exact .inl rfl
  · split <;> split <;> simp
theorem sv_tame {wd x : Int} (h1 : 1 ≤ wd) (h2 : wd ≤ 300) (h : 0 ≤ x ∧ x < 2 ^ wd.toNat) : Tame (sv wd x) := by
  have p := pow_pos wd.toNat
  refine Tame.of (k := wd.toNat + 1) (by omega) (by omega) ?_ ?_
  · have q : (2 : Int) ^ (wd.toNat + 1) = 2 ^ wd.toNat * 2 := Int.pow_succ ..
    unfold sv
    split <;> omega
  · have q : (2 : Int) ^ (wd.toNat + 1) = 2 ^ wd.toNat * 2 := Int.pow_succ ..
    unfold sv
    split <;> omega
theorem shown_small {d : PyData} (h : d.leavesShort 1921 = true) (hw : d.weight ≤ 8000) : d.shown.length ≤ sizeLine := by
  have e := PyData.shown_le 1921 (by decide) d h
  have : (1921 + 2) * d.weight ≤ (1921 + 2) * 8000 := Nat.mul_le_mul_left _ hw
  exact Nat.le_trans e (Nat.le_trans (Nat.add_le_add_right this _) (by decide))
theorem shown_ok {wd x y : Int} (h1 : 1 ≤ wd) (h2 : wd ≤ 300) (h3 : 0 ≤ x ∧ x < 2 ^ wd.toNat) (h4 : 0 ≤ y ∧ y < 2 ^ wd.toNat) :
    (PyData.list [.int (sv wd x), .str (oc wd x y)]).showable = true ∧ (PyData.list [.int (sv wd x), .str (oc wd x y)]).hasDict = false ∧ (PyData.list [.int (sv wd x), .str (oc wd x y)]).depth ≤ 60 ∧
      (PyData.list [.int (sv wd x), .str (oc wd x y)]).shown.length ≤ sizeLine := by
  have t := sv_tame h1 h2 h3
  have a1 := tame_short t
  have a2 := tame_weight t
  have b : (PyData.str (oc wd x y)).leavesShort 1921 = true ∧ (PyData.str (oc wd x y)).weight ≤ 2 := by
    rcases oc_is wd x y with e | e | e | e | e <;> rw [e] <;> exact ⟨by decide +kernel, by decide +kernel⟩
  refine ⟨?_, rfl, ?_, shown_small ?_ ?_⟩
  · show (decide ((sv wd x).natAbs.log2 < 1920) && (true && true)) = true
    rw [decide_eq_true (show (sv wd x).natAbs.log2 < 1920 from t)]
    rfl
  · show max 0 (max 0 0) + 1 ≤ 60
    decide
  · show (decide ((PyData.shown (.int (sv wd x))).length ≤ 1921) && ((PyData.str (oc wd x y)).leavesShort 1921 && true)) = true
    rw [decide_eq_true a1, b.1]
    rfl
  · show (PyData.int (sv wd x)).weight + 1 + ((PyData.str (oc wd x y)).weight + 1 + 0) ≤ 8000
    omega
theorem laps_of {n : Nat} {t : Int} (ht : 1 ≤ t) : ∃ m : Nat, (m : Int) ≤ t ∧ (if (if (n : Int) < t then (n : Int) else t) > 1 then (if (n : Int) < t then (n : Int) else t) else 1) = (m : Int) := by
  by_cases h : (n : Int) < t
  · rw [if_pos h]
    by_cases h1 : (n : Int) > 1
    · rw [if_pos h1]; exact ⟨n, by omega, rfl⟩
    · rw [if_neg h1]; exact ⟨1, by omega, rfl⟩
  · rw [if_neg h]
    refine ⟨t.toNat, by omega, ?_⟩
    split <;> omega
end BR

namespace BR
open PySem PySem.Spec PyProof.Rows L2
/-! ### words changed; comprehensions over ints -/
def fl (wd x : Int) : Int := if x < 2 ^ (wd - 1).toNat then x + 2 ^ (wd - 1).toNat else x - 2 ^ (wd - 1).toNat
def iv (wd x : Int) : Int := 2 ^ wd.toNat - 1 - x
def ex (wd wi x : Int) : Int := if (2 : Int) ^ (wd - 1).toNat ≤ x then x + (2 ^ wi.toNat - 2 ^ wd.toNat) else x
theorem two_half {wd : Int} (h : 1 ≤ wd) : (2 : Int) ^ wd.toNat = 2 * 2 ^ (wd - 1).toNat := by
  have e : wd.toNat = (wd - 1).toNat + 1 := by omega
  rw [e, Int.pow_succ, Int.mul_comm]
theorem pow_le {a b : Nat} (h : a ≤ b) : (2 : Int) ^ a ≤ 2 ^ b := by
  have h1 : (2 : Int) ^ a = ((2 ^ a : Nat) : Int) := by norm_cast
  have h2 : (2 : Int) ^ b = ((2 ^ b : Nat) : Int) := by norm_cast
  have h3 : 2 ^ a ≤ 2 ^ b := Nat.pow_le_pow_right (by decide) h
  rw [h1, h2]
  omega
theorem nat_cast_pow (n : Nat) : (2 : Int) ^ n = ((2 ^ n : Nat) : Int) := by norm_cast
theorem fl_word {wd x : Int} (h : 1 ≤ wd) (hx : 0 ≤ x ∧ x < 2 ^ wd.toNat) : 0 ≤ fl wd x ∧ fl wd x < 2 ^ wd.toNat := by
  have e := two_half h
  have p := pow_pos (wd - 1).toNat
  unfold fl
  split <;> omega
theorem fl_fl {wd x : Int} (h : 1 ≤ wd) (hx : 0 ≤ x ∧ x < 2 ^ wd.toNat) : fl wd (fl wd x) = x := by
  have e := two_half h
  have p := pow_pos (wd - 1).toNat
  unfold fl
  split <;> split <;> omega
theorem iv_word {wd x : Int} (hx : 0 ≤ x ∧ x < 2 ^ wd.toNat) : 0 ≤ iv wd x ∧ iv wd x < 2 ^ wd.toNat := by
  unfold iv
  omega
theorem iv_iv (wd x : Int) : iv wd (iv wd x) = x := by
  unfold iv
  omega
theorem ex_word {wd wi x : Int} (h1 : 1 ≤ wd) (h2 : wd ≤ wi) (hx : 0 ≤ x ∧ x < 2 ^ wd.toNat) : 0 ≤ ex wd wi x ∧ ex wd wi x < 2 ^ wi.toNat := by
  have q := pow_le (a := wd.toNat) (b := wi.toNat) (by omega)
  unfold ex
  split <;> omega
theorem sv_ex {wd wi x : Int} (h1 : 1 ≤ wd) (h2 : wd ≤ wi) (hx : 0 ≤ x ∧ x < 2 ^ wd.toNat) : sv wi (ex wd wi x) = sv wd x := by
  have q := pow_le (a := (wd - 1).toNat) (b := (wi - 1).toNat) (by omega)
  have e1 := two_half h1
  have e2 := two_half (show 1 ≤ wi by omega)
  have p := pow_pos (wd - 1).toNat
  unfold sv ex
  split <;> split <;> omega
theorem and_bit {n a : Nat} (h : a < 2 ^ (n + 1)) : a &&& 2 ^ n = if a < 2 ^ n then 0 else 2 ^ n := by
  apply Nat.eq_of_testBit_eq
  intro i
  rw [Nat.testBit_and, Nat.testBit_two_pow]
  by_cases c : a < 2 ^ n
  · rw [if_pos c]
    by_cases e : n = i
    · subst e
      rw [Nat.testBit_lt_two_pow c]
      simp
    · simp [e]
  · rw [if_neg c, Nat.testBit_two_pow]
    by_cases e : n = i
    · subst e
      have hk : 2 ^ (n + 1) = 2 ^ n * 2 := Nat.pow_succ ..
      have z : a / 2 ^ n = 1 := by
        have p : 0 < 2 ^ n := Nat.two_pow_pos n
        have h1 : 1 ≤ a / 2 ^ n := (Nat.le_div_iff_mul_le p).mpr (by omega)
        have h2 : a / 2 ^ n < 2 := (Nat.div_lt_iff_lt_mul p).mpr (by omega)
        omega
      have t : a.testBit n = true := by
        rw [Nat.testBit_eq_decide_div_mod_eq, z]
        rfl
      simp [t]
    · simp [e]
theorem xor_half {wd x : Int} (h : 1 ≤ wd) (hx : 0 ≤ x ∧ x < 2 ^ wd.toNat) : Builtin.bitXor x (2 ^ (wd - 1).toNat) = fl wd x := by
  have e := two_half h
  have p := pow_pos (wd - 1).toNat
  rw [Bits.bitXor_pp hx.1 (by omega)]
  rw [nat_cast_pow] at p e ⊢
  unfold fl
  rw [nat_cast_pow]
  generalize (wd - 1).toNat = n at p e ⊢
  obtain ⟨a, rfl⟩ := Int.eq_ofNat_of_zero_le hx.1
  rw [Int.toNat_natCast, Int.toNat_natCast]
  have k := Bits.nat_xor_add_and a (2 ^ n)
  have b1 : (a : Int) < 2 * 2 ^ n := by rw [← e]; exact hx.2
  have p2 : ((2 ^ n : Nat) : Int) = 2 ^ n := (nat_cast_pow n).symm
  have hk : 2 ^ (n + 1) = 2 ^ n * 2 := Nat.pow_succ ..
  rw [and_bit (n := n) (a := a) (by omega)] at k
  by_cases c : a < 2 ^ n
  · rw [if_pos c] at k
    rw [if_pos (by omega)]
    omega
  · rw [if_neg c] at k
    rw [if_neg (by omega)]
    omega
theorem xor_all {wd x : Int} (hx : 0 ≤ x ∧ x < 2 ^ wd.toNat) : Builtin.bitXor x (2 ^ wd.toNat - 1) = iv wd x := by
  have p := pow_pos wd.toNat
  rw [Bits.bitXor_pp hx.1 (by omega)]
  unfold iv
  have b1 := hx.2
  rw [nat_cast_pow] at p b1 ⊢
  generalize wd.toNat = n at p b1 ⊢
  obtain ⟨a, rfl⟩ := Int.eq_ofNat_of_zero_le hx.1
  have et : (((2 ^ n : Nat) : Int) - 1).toNat = 2 ^ n - 1 := by omega
  rw [Int.toNat_natCast, et]
  have k := Bits.nat_xor_add_and a (2 ^ n - 1)
  rw [Nat.and_two_pow_sub_one_eq_mod, Nat.mod_eq_of_lt (by omega)] at k
  omega
theorem map_take_succ {f : Int → Int} {xs : List Int} {i : Nat} {z : Int} (h : xs[i]? = some z) : ((xs.take (i + 1)).map f).map V.int = ((xs.take i).map f).map V.int ++ [V.int (f z)] := by
  have e : xs.take (i + 1) = xs.take i ++ [z] := by
    rw [List.take_add_one, h]
    rfl
  rw [e, List.map_append, List.map_append]
  rfl
/-- [e for x in t], t a tuple of ints, e an int of x alone -/
theorem lc_ints {K : PySem.W.Frag} {a : Addr} {xs : List Int} {j : Nat} {te : TE} {vs : List Nat} {σ : L2.St} {H1 : Hp} {D : Addr} {Qd : Hp → Prop} (f : Int → Int) (hT : SqT K H1 a (xs.map V.int)) (hz : xs.length ≤ 1000) (hD : H1 D = none)
    (hw : ∀ x : V, wipe ((wipe σ vs).set j (some x)) vs = wipe σ vs)
    (he : ∀ (x : Int) (H2 : Hp) (Q : VK), x ∈ xs → Same H1 H2 → (∀ H3, Same H2 H3 → Q (.int (f x)) H3) → te ((wipe σ vs).set j (some (.int x))) H2 Q)
    (hd : ∀ H, Same H1 H → H D = some (.lst ((xs.map f).map V.int)) → Qd H) :
    ∃ W : Nat → Nat → Hp → Prop, (∃ m, W 0 m (L2.upd H1 D (.lst []))) ∧ ∀ i m H, W i m H →
      ((Itt K a).stop i H ∧ Qd H) ∨ ((Itt K a).go i H ∧ ∃ Nx : Hp → Prop, (∀ H', Nx H' → ∃ m', m' < m ∧ W (i + 1) m' H') ∧ ∀ x H', (Itt K a).yld i H x H' → gName j x (wipe σ vs) H' fun σ2 H2 => wipe σ2 vs = wipe σ vs ∧ tYes σ2 H2 fun b H3 =>
        if b = true then te σ2 H3 fun y H4 => ∃ acc, H4 D = some (.lst acc) ∧ acc.length < sizeLine ∧ Nx (L2.upd H4 D (.lst (acc ++ [y]))) else Nx H3) := by
  refine lc_tup (xs := xs.map V.int) (fun i H => Same H1 H ∧ H D = some (.lst (((xs.take i).map f).map V.int))) ⟨sameNew hD, upd_same⟩ (fun i H _ p => sameT p.1 hT) ?_ ?_
  · rintro i x H hx ⟨s, hH⟩
    obtain ⟨z, hz1, rfl⟩ := map_at hx
    refine ⟨hw _, ?_⟩
    show te ((wipe σ vs).set j (some (V.int z))) H _
    refine he z H _ (List.mem_of_getElem? hz1) s fun H3 s3 => ?_
    refine ⟨_, s3 _ _ hH, small1000 (by rw [List.length_map, List.length_map, List.length_take]; omega), ?_, ?_⟩
    · intro b o e
      rw [upd_ne (ne_of_none e hD)]
      exact s3 _ _ (s _ _ e)
    · rw [upd_same, map_take_succ hz1]
  · rintro H ⟨s, hH⟩
    rw [List.length_map, List.take_length] at hH
    exact hd H s hH
end BR
namespace BR
open PySem PySem.Spec PyProof.Rows L2
/-! ### what tuples of words look like when they are shown -/
theorem ints_show : ∀ {ys : List Int}, (∀ y ∈ ys, 0 ≤ y ∧ y < 2 ^ 300) → PyData.showableAll (ys.map PyData.int) = true ∧ PyData.hasDictAll (ys.map PyData.int) = false ∧ PyData.leavesShortAll 301 (ys.map PyData.int) = true ∧ PyData.weightAll (ys.map PyData.int) ≤ 301 * ys.length
  | [], _ => ⟨rfl, rfl, rfl, Nat.zero_le _⟩
  | y :: r, h => by
    obtain ⟨h1, h2, h3, h4⟩ := ints_show (ys := r) fun z m => h z (List.mem_cons_of_mem _ m)
    have hy := h y List.mem_cons_self
    have n : y.natAbs < 2 ^ 300 := by
      have e := nat_cast_pow 300
      have b := hy.2
      rw [e] at b
      omega
    have l := PySem.Flt.log2_lt_of (k := 300) (by decide) n
    refine ⟨?_, ?_, ?_, ?_⟩
    · show (decide (y.natAbs.log2 < 1920) && PyData.showableAll (r.map PyData.int)) = true
      rw [h1, decide_eq_true (by omega)]
      rfl
    · show (false || PyData.hasDictAll (r.map PyData.int)) = false
      rw [h2]
      rfl
    · show (decide ((PyData.shown (.int y)).length ≤ 301) && PyData.leavesShortAll 301 (r.map PyData.int)) = true
      have e : (PyData.shown (.int y)).length ≤ 301 := by
        show (PySem.Str.ofString (toString y)).length ≤ 301
        rw [PySem.ofString_length]
        exact PySem.int_text_length_le (k := 300) (by decide) l
      rw [h3, decide_eq_true e]
      rfl
    · show (if y == 0 then 0 else y.natAbs.log2 + 1) + 1 + PyData.weightAll (r.map PyData.int) ≤ 301 * (r.length + 1)
      split <;> omega
theorem shown_tup {ys : List Int} (h : ∀ y ∈ ys, 0 ≤ y ∧ y < 2 ^ 300) (hz : ys.length ≤ 41) :
    (PyData.tuple (ys.map PyData.int)).showable = true ∧ (PyData.tuple (ys.map PyData.int)).hasDict = false ∧ (PyData.tuple (ys.map PyData.int)).depth ≤ 60 ∧ (PyData.tuple (ys.map PyData.int)).shown.length ≤ sizeLine := by
  obtain ⟨h1, h2, h3, h4⟩ := ints_show h
  obtain ⟨_, h6⟩ := ints_lay ys
  refine ⟨h1, h2, ?_, ?_⟩
  · show PyData.depthAll (ys.map PyData.int) + 1 ≤ 60
    omega
  · have e := PyData.shown_le 301 (by decide) (.tuple (ys.map PyData.int)) h3
    have w : (PyData.tuple (ys.map PyData.int)).weight ≤ 12341 := by
      show PyData.weightAll (ys.map PyData.int) ≤ 12341
      omega
    have : (301 + 2) * (PyData.tuple (ys.map PyData.int)).weight ≤ (301 + 2) * 12341 := Nat.mul_le_mul_left _ w
    exact Nat.le_trans e (Nat.le_trans (Nat.add_le_add_right this _) (by decide))
theorem shown_two {ys : List Int} (h : ∀ y ∈ ys, 0 ≤ y ∧ y < 2 ^ 300) (hz : ys.length ≤ 41) :
    (PyData.list [.tuple (ys.map PyData.int), .tuple (ys.map PyData.int)]).showable = true ∧ (PyData.list [.tuple (ys.map PyData.int), .tuple (ys.map PyData.int)]).hasDict = false ∧
      (PyData.list [.tuple (ys.map PyData.int), .tuple (ys.map PyData.int)]).depth ≤ 60 ∧ (PyData.list [.tuple (ys.map PyData.int), .tuple (ys.map PyData.int)]).shown.length ≤ sizeLine := by
  obtain ⟨h1, h2, h3, h4⟩ := ints_show h
  obtain ⟨_, h6⟩ := ints_lay ys
  refine ⟨?_, ?_, ?_, ?_⟩
  · show (PyData.showableAll (ys.map PyData.int) && (PyData.showableAll (ys.map PyData.int) && true)) = true
    rw [h1]
    rfl
  · show (PyData.hasDictAll (ys.map PyData.int) || (PyData.hasDictAll (ys.map PyData.int) || false)) = false
    rw [h2]
    rfl
  · show max (PyData.depthAll (ys.map PyData.int) + 1) (max (PyData.depthAll (ys.map PyData.int) + 1) 0) + 1 ≤ 60
    omega
  · have e := PyData.shown_le 301 (by decide) (.list [.tuple (ys.map PyData.int), .tuple (ys.map PyData.int)]) (by
      show (PyData.leavesShortAll 301 (ys.map PyData.int) && (PyData.leavesShortAll 301 (ys.map PyData.int) && true)) = true
      rw [h3]
      rfl)
    have w : (PyData.list [.tuple (ys.map PyData.int), .tuple (ys.map PyData.int)]).weight ≤ 24684 := by
      show PyData.weightAll (ys.map PyData.int) + 1 + (PyData.weightAll (ys.map PyData.int) + 1 + 0) ≤ 24684
      omega
    have : (301 + 2) * (PyData.list [.tuple (ys.map PyData.int), .tuple (ys.map PyData.int)]).weight ≤ (301 + 2) * 24684 := Nat.mul_le_mul_left _ w
    exact Nat.le_trans e (Nat.le_trans (Nat.add_le_add_right this _) (by decide))
theorem tup_shaped (xs : List Int) : SeqAt.shaped (.tuple (xs.map PyData.int)) = true := by
  obtain ⟨h1, h2⟩ := ints_lay xs
  unfold SeqAt.shaped
  show (PyData.canLayAll0 (xs.map PyData.int) && decide (PyData.depthAll (xs.map PyData.int) + 1 ≤ 64)) = true
  rw [h1, h2]
  rfl
theorem eqv_tup (xs : List Int) : PyData.eqv (.tuple (xs.map PyData.int)) (.tuple (xs.map PyData.int)) = true := SeqAt.eqv_refl _ (SeqAt.canLay_of_shaped (tup_shaped xs))
theorem eqv_lst (xs : List Int) : PyData.eqv (.list (xs.map PyData.int)) (.list (xs.map PyData.int)) = true := SeqAt.eqv_refl _ (SeqAt.canLay_of_shaped (ints_shaped xs))
end BR

namespace BR
open PySem PySem.Spec PyProof.Rows L2
/-! ### outcomes told by a cut -/
def ocut (c x y : Int) : Str := if x = y then "E" else if x < y then (if (decide (x < c) != decide (y < c)) = true then "GB" else "LB") else (if (decide (x < c) != decide (y < c)) = true then "LA" else "GA")
theorem mixed_is (a b : Bool) : (!decide (V.bl a = V.bl b)) = (a != b) := by
  cases a <;> cases b <;> rfl
theorem oc_cut {wd x y : Int} (h : 1 ≤ wd) (hx : 0 ≤ x ∧ x < 2 ^ wd.toNat) (hy : 0 ≤ y ∧ y < 2 ^ wd.toNat) : ocut (2 ^ (wd - 1).toNat) x y = oc wd x y := by
  have e := two_half h
  have p := pow_pos (wd - 1).toNat
  unfold ocut oc
  by_cases c : x = y
  · rw [if_pos c, if_pos c]
  rw [if_neg c, if_neg c]
  by_cases cx : x < 2 ^ (wd - 1).toNat
  · have sx : sv wd x = x := by unfold sv; rw [if_neg (by omega)]
    by_cases cy : y < 2 ^ (wd - 1).toNat
    · have sy : sv wd y = y := by unfold sv; rw [if_neg (by omega)]
      rw [sx, sy, decide_eq_true cx, decide_eq_true cy, if_neg (show ¬ ((true != true) = true) by decide), if_neg (show ¬ ((true != true) = true) by decide)]
      by_cases l : x < y
      · rw [if_pos l, if_pos l, if_pos l]
      · rw [if_neg l, if_neg l, if_neg l]
    · have sy : sv wd y = y - 2 ^ wd.toNat := by unfold sv; rw [if_pos (by omega)]
      rw [sx, sy, decide_eq_true cx, decide_eq_false cy, if_pos (show (true != false) = true by decide), if_pos (show (true != false) = true by decide)]
      rw [if_pos (show x < y by omega), if_neg (show ¬ x < y - 2 ^ wd.toNat by omega), if_pos (show x < y by omega)]
  · have sx : sv wd x = x - 2 ^ wd.toNat := by unfold sv; rw [if_pos (by omega)]
    by_cases cy : y < 2 ^ (wd - 1).toNat
    · have sy : sv wd y = y := by unfold sv; rw [if_neg (by omega)]
      rw [sx, sy, decide_eq_false cx, decide_eq_true cy, if_pos (show (false != true) = true by decide), if_pos (show (false != true) = true by decide)]
      rw [if_neg (show ¬ x < y by omega), if_pos (show x - 2 ^ wd.toNat < y by omega), if_neg (show ¬ x < y by omega)]
    · have sy : sv wd y = y - 2 ^ wd.toNat := by unfold sv; rw [if_pos (by omega)]
      rw [sx, sy, decide_eq_false cx, decide_eq_false cy, if_neg (show ¬ ((false != false) = true) by decide), if_neg (show ¬ ((false != false) = true) by decide)]
      by_cases l : x < y
      · rw [if_pos l, if_pos (show x - 2 ^ wd.toNat < y - 2 ^ wd.toNat by omega), if_pos l]
      · rw [if_neg l, if_neg (show ¬ x - 2 ^ wd.toNat < y - 2 ^ wd.toNat by omega), if_neg l]
end BR

/-! ### own errors held as values: made by position and by keyword -/
namespace PySem
namespace BRX
open PySem.W PySem.Calls PyProof.Rows PySem.HandSPX
section
variable {M : Model} {prog : Program} {w : World} {A : Around} {E : Value → Shared → Prop} {R : Result → Shared → Prop} {h : Heap} {g : Array GenState} {d : Drawn} {t : Nat} {os : OsState}
variable {nm q : Str} {C N : Addr} {bs bm bmB : List Value} {hd0 : Bool} {sn : List Str} {sub : List Value} {ab : Bool} {col : Option Bool} {dd : Option Addr} {k0 k1 k2 k3 k5 : Option Value} {B newId initId : String} {kw : List (Str × Value)}
theorem check_newK (F : ExcBaseFacts B newId initId bmB) (hT : ∀ X : String, bm.contains (.type X) = bmB.contains (.type X)) {Q : Unit → Shared → Prop}
    (cl : h.get? C = some (excClassObj nm q C N bs bm hd0 sn sub ab col dd k0 k1 k2 k3 k5 newId)) (go : Q () ⟨h, g, d, t, os⟩) : wpAny M A (checkBuiltinCall newId ⟨[.ref C], kw⟩) Q E ⟨h, g, d, t, os⟩ := by
  have inB : (Value.ref C :: bm).contains (.type B) = true := by rw [List.contains_cons, hT, F.hasB, Bool.or_true]
  have star := F.noStar
  simp only [checkBuiltinCall, F.newKind, F.newSplit, F.newRow]
  repeat (first | refine wpAny_loadPart_at cl ?_ | (refine wpAny_isSubtype_exc cl ?_; rw [inB]) | refine wpAny_staticBase_exc cl ?_ | refine wpAny_madeBy_exc cl ?_ | simp only [bne_self_eq_false, Bool.false_eq_true, if_false] | wp_step)
  exact go
theorem newK (F : ExcBaseFacts B newId initId bmB) (hT : ∀ X : String, bm.contains (.type X) = bmB.contains (.type X))
    (cl : h.get? C = some (excClassObj nm q C N bs bm hd0 sn sub ab col dd k0 k1 k2 k3 k5 newId))
    (go : R (.ok (.ret (.ref (h.objs.size + 1)))) ⟨(h.push { cls := .type "tuple", data := .seq #[] }).push { cls := .ref C, data := .fields #[.ref h.objs.size, .none, .none, .none, .bool false, .none] }, g, d, t, os⟩) :
    codeAny (model prog w) A (.builtin newId ⟨[.ref C], kw⟩) R ⟨h, g, d, t, os⟩ := by
  have ends := F.ends
  have inB : (Value.ref C :: bm).contains (.type B) = true := by rw [List.contains_cons, hT, F.hasB, Bool.or_true]
  have inA : (Value.ref C :: bm).contains (.type "AttributeError") = false := by rw [List.contains_cons, hT, F.noAttr]; rfl
  have inN : (Value.ref C :: bm).contains (.type "NameError") = false := by rw [List.contains_cons, hT, F.noName]; rfl
  refine codeAny_builtinAt F.entry ?_
  unfold Builtin.«BaseException.__new__»
  refine wpAt_bind ?_
  show wpAt _ _ _ (stack >>= _) _ _ _
  refine wpAt_bind (wpAt_stack fun p below => wpAt_of_wpAny ?_)
  wp_walk
  refine wpAt_of_wpAny ?_
  rw [F.owner]
  repeat (first | with_reducible refine wpAny_madeHere_exc F.canon cl ?_ | with_reducible refine wpAny_loadPart_at cl ?_ | (with_reducible refine wpAny_isSubtype_exc cl ?_; first | rw [inB] | rw [inA] | rw [inN]) | wp_step)
  show R _ _
  rw [Heap.size_push]
  exact go
theorem type_callK (F : ExcBaseFacts B newId initId bmB) (hT : ∀ X : String, bm.contains (.type X) = bmB.contains (.type X)) {fI : Addr} {Q : Fin → Shared → Prop}
    (cl : h.get? C = some (excClassObj nm q C N bs bm hd0 sn sub ab col dd k0 k1 k2 k3 k5 newId))
    (li : W.Looks (model prog w) h (typeLookup (.ref C) "__init__") (some (.ref fI))) (lb : ∀ self, W.Looks (model prog w) h (bindSpecial (.ref fI) self) (.ref fI, [self]))
    (go : codeAny (model prog w) A (.call (.ref fI) ⟨[.ref (h.objs.size + 1)], kw⟩) (fun r s' => match r with | .ok (.ret v) => v = .none ∧ Q (.done (.ret (.ref (h.objs.size + 1)))) s' | .ok _ => False | .error e => E e s')
      ⟨(h.push (W.kdv_tup [])).push (excO C h.objs.size), g, d, t, os⟩) : wpAny (model prog w) A (Builtin.«type.__call__» ⟨[.ref C], kw⟩) Q E ⟨h, g, d, t, os⟩ := by
  repeat (first | with_reducible refine wpAny_loadPart_at cl ?_ | with_reducible refine wpAny_madeBy_exc cl ?_ | wp_step)
  refine codeAny_call_builtin_code (Code.quiet_builtin _ F.quiet) (check_newK F hT cl ?_)
  refine newK F hT cl ?_
  show wpAny _ _ _ _ _ _
  have kp : ∀ b o, h.get? b = some o → ((h.push (W.kdv_tup [])).push (excO C h.objs.size)).get? b = some o := fun b o e => Heap.get?_push_of_some _ (Heap.get?_push_of_some _ e)
  have cl1 := kp _ _ cl
  have new : ((h.push (W.kdv_tup [])).push (excO C h.objs.size)).get? (h.objs.size + 1) = some (excO C h.objs.size) := by heap_get
  have inC : (Value.ref C :: bm).contains (.ref C) = true := by simp
  have i1 := li.keeps kp
  have b1 := (lb (.ref (h.objs.size + 1))).keeps kp
  unfold isInstance
  repeat (first | with_reducible refine wpAny_loadPart_at new ?_ | (with_reducible refine wpAny_isSubtype_exc cl1 ?_; rw [inC]) | wp_step)
  show wpAny _ _ (typeLookup (.ref C) _) _ _ _
  refine i1.at ?_
  refine wpAny_holding (wpAny_bind (b1.at ?_))
  refine wpAny_bind (wpAny_call (codeAny_mono go fun r s' z => ?_))
  rcases r with e | (v | _ | _ | _) <;> first | exact z | exact z.elim | skip
  obtain ⟨rfl, z⟩ := z
  first
    | exact wpAny_pure (wpAny_pure z)
    | (wp_walk; exact z)
theorem call_ownK (F : ExcBaseFacts B newId initId bmB) (hT : ∀ X : String, bm.contains (.type X) = bmB.contains (.type X)) {fI : Addr}
    (cl : h.get? C = some (excClassObj nm q C N bs bm hd0 sn sub ab col dd k0 k1 k2 k3 k5 newId))
    (li : W.Looks (model prog w) h (typeLookup (.ref C) "__init__") (some (.ref fI))) (lb : ∀ self, W.Looks (model prog w) h (bindSpecial (.ref fI) self) (.ref fI, [self]))
    (go : codeAny (model prog w) (A.under (.builtin "type.__call__" ⟨[.ref C], kw⟩)) (.call (.ref fI) ⟨[.ref (h.objs.size + 1)], kw⟩) (W.InitBack (h.objs.size + 1) R) ⟨(h.push (W.kdv_tup [])).push (excO C h.objs.size), g, d, t, os⟩) :
    codeAny (model prog w) A (.call (.ref C) ⟨[], kw⟩) R ⟨h, g, d, t, os⟩ := by
  have f1 := tc_lookup
  have f2 := tc_bind (.ref C)
  have isTy : (⟨h, g, d, t, os⟩ : Shared).TypeIs (.ref C) "type" := ⟨_, cl, rfl⟩
  refine codeAny_of_tree ?_
  show wpAny _ _ (callAny (.ref C) _) _ _ _
  repeat (any_goals (first | assumption | with_reducible refine wpAny_loadPart_at cl ?_ | wp_step))
  refine ⟨rfl, ?_⟩
  refine codeAny_call_builtin_at (Code.quiet_builtin _ (by decide +kernel)) entry_typeCall (wpAny_check_type_call_sub cl (type_callK F hT cl li lb ?_))
  refine codeAny_mono go fun r s' z => ?_
  rcases r with e | (v | _ | _ | _) <;> exact z
end
end BRX
end PySem

namespace BR
open PySem PySem.Spec PyProof.Rows L2
/-! ### C(e), C(value = e): a new error, held as a value -/
def tOexV (C : Addr) (sp : Sp) (ta : TA) : TE := fun σ H Q => ta σ H fun vs H1 => vs.length ≤ 1000 ∧ ∀ e, H1 e = none → sp (.ref e :: vs) (L2.upd H1 e (exo e C none)) (fun v H2 => v = .non ∧ Q (.ref e) H2) fun _ _ _ => False
section
variable {X : Cx} {CX : CXT} {k : Nat} {fI C : Addr} {fd : FuncData} {ps : List Str} {sp : Sp} {x : Str} {p pos kpos : Pos} {e : Expr} {es : List Expr} {ta : TA} {te : TE}
theorem pe_oexV (T : OexC X.K C) (iC : PySem.W.findIn X.K (.ref C) "__init__" = some (some (.ref fI))) (tI : PySem.W.typeIn X.K (.ref fI) = some (.type "function"))
    (F1 : FnOk X.prog X.w X.K X.mg X.base CX k fI fd ps sp) (room : Room (k + 1) X.A) (b : Binds X.K fd ps []) (hx : Passes CX X (fun _ _ _ => False)) (hg : Gl X x) (hm : X.mg x = some (.ref C)) (args : PA X (e :: es) ta)
    (nodb : (x == ("__debug__" : Str)) = false := by decide) (st1 : starEach (e :: es) X.env = (false, eval e X.env) :: starEach es X.env := by rfl) (st2 : (backTo pos (starEach es X.env)).any (·.1) = false := by rfl) :
    PE X (.Call (.Name x p) (e :: es) [] pos) (tOexV C sp ta) := by
  refine ⟨fun pins s σ H Q I0 hh => ?_⟩
  obtain ⟨nm, q, N, bs, bm, sn, sub, ab, col, dd, k0, k1, k2, k3, k5, hC, hbm⟩ := T.cls
  refine wpAny_Call_Name_kw (ld_glob I0 hg hm ?_ nodb)
  refine PySem.W.callWith_K (h₀ := X.base) I0.ok.mod.kin T.kC (thn (args.run pos pins s σ H _ I0 hh) ?_) st1 st2
  rintro us s1 ⟨vs, H1, I1, r1, hz, q1⟩
  refine ⟨I1.kIn, ?_⟩
  show wpAny _ _ (call (.ref C) us) _ _ _
  obtain ⟨hp, g, dr, tk, os⟩ := s1
  have le1 : hp.objs.size ≤ hp.objs.size + 1 := Nat.le_succ _
  have free : H1 (hp.objs.size + 1) = none := I1.hok.fresh le1
  have hq := q1 (hp.objs.size + 1) free
  have kp : ∀ b o, hp.get? b = some o → ((hp.push (PySem.W.kdv_tup us)).push (PySem.HandSPX.excO C hp.objs.size)).get? b = some o := fun b o z => Heap.get?_push_of_some _ (Heap.get?_push_of_some _ z)
  have new : ((hp.push (PySem.W.kdv_tup us)).push (PySem.HandSPX.excO C hp.objs.size)).get? (hp.objs.size + 1) = some (PySem.HandSPX.excO C hp.objs.size) := by heap_get
  have I2 := I1.laid (t' := tk) (a := hp.objs.size + 1) (o := exo (hp.objs.size + 1) C none) kp le1 (exo_ok new)
  have r2 : Vals (V.ref (hp.objs.size + 1) :: vs) (Value.ref (hp.objs.size + 1) :: us) := .cons rfl r1
  have hl : (Value.ref (hp.objs.size + 1) :: us).length = ps.length := r2.length.symm.trans (F1.len _ _ _ _ hq)
  have lus : us.length ≤ sizeLine := by
    rw [← Paired.length r1, sizeLine_eq]
    omega
  have bd := b _ (Value.ref (hp.objs.size + 1) :: us) I2.kIn (by rw [List.append_nil]; exact hl)
  rw [List.append_nil] at bd
  refine wpAny_call (PySem.HandSPX.call_own F.excBase_ValueError (fun Y => PySem.HandSPX.refsVE_contains Y bm hbm) (I1.kIn _ _ hC) (PySem.W.looks_findIn I1.kIn iC) (fun self => PySem.W.bind_fn I1.kIn self tI) lus ?_)
  refine codeAny_mono (F1.run _ X.stack _ _ ⟨Value.ref (hp.objs.size + 1) :: us, []⟩ (Value.ref (hp.objs.size + 1) :: us) _ _ (fun _ _ _ => False) (room.make C us []) (I2.env0.make C us []) bd r2 hq) fun r s' hq' => ?_
  cases r with
  | error er => exact hx pins σ _ _ er s' I2 hq'
  | ok flw =>
    cases flw with
    | ret u =>
      obtain ⟨v, H2, I3, rv, ev, q2⟩ := I2.after hq'
      subst ev
      exact ⟨rv, ⟨.ref (hp.objs.size + 1), H2, I3, rfl, q2⟩⟩
    | next => exact hq'.elim
    | brk => exact hq'.elim
    | cont => exact hq'.elim
theorem pe_oexK {nk : Str} (T : OexC X.K C) (iC : PySem.W.findIn X.K (.ref C) "__init__" = some (some (.ref fI))) (tI : PySem.W.typeIn X.K (.ref fI) = some (.type "function"))
    (F1 : FnOk X.prog X.w X.K X.mg X.base CX k fI fd ps sp) (room : Room (k + 1) X.A) (b : ∀ (s : Shared) (u v : Value), BindsTo s fd ⟨[u], [(nk, v)]⟩ (ps.zip [u, v])) (l2 : ps.length = 2) (hx : Passes CX X (fun _ _ _ => False)) (hg : Gl X x) (hm : X.mg x = some (.ref C)) (he : PE X e te)
    (all1 : (backToKw pos (keywordEach [⟨some nk, e, kpos⟩] X.env)).all (·.1.isSome) = true := by rfl) (nms : (backToKw pos (keywordEach [⟨some nk, e, kpos⟩] X.env)).filterMap (·.1) = [nk] := by rfl)
    (nodb : (x == ("__debug__" : Str)) = false := by decide) (pl : ((backTo pos (starEach [] X.env)).any (·.1) || (backToKw pos (keywordEach [⟨some nk, e, kpos⟩] X.env)).any (·.1.isNone)) = false := by rfl) :
    PE X (.Call (.Name x p) [] [⟨some nk, e, kpos⟩] pos) (tOexV C sp (tCons te tNil)) := by
  refine ⟨fun pins s σ H Q I0 hh => ?_⟩
  obtain ⟨nm, q, N, bs, bm, sn, sub, ab, col, dd, k0, k1, k2, k3, k5, hC, hbm⟩ := T.cls
  refine wpAny_Call_Name_kw (ld_glob I0 hg hm ?_ nodb)
  refine PySem.W.callWith_KW0 (h₀ := X.base) I0.ok.mod.kin T.kC all1 (thn ((pk_cons he pk_nil).run pos pins s σ H _ I0 hh) ?_) pl
  rintro us s1 ⟨vs, H1, I1, r1, hz, q1⟩
  refine ⟨I1.kIn, ?_⟩
  rw [nms]
  obtain ⟨hp, g, dr, tk, os⟩ := s1
  have le1 : hp.objs.size ≤ hp.objs.size + 1 := Nat.le_succ _
  have free : H1 (hp.objs.size + 1) = none := I1.hok.fresh le1
  have hq := q1 (hp.objs.size + 1) free
  have hlv : vs.length + 1 = 2 := by
    have z := F1.len _ _ _ _ hq
    rw [l2] at z
    exact z
  obtain ⟨v1, rfl⟩ : ∃ v1, vs = [v1] := by
    match vs, hlv with
    | [v1], _ => exact ⟨v1, rfl⟩
  cases r1 with
  | @cons _ u1 _ _ ru rr =>
  cases rr
  show wpAny _ _ (call (.ref C) [] [(nk, u1)]) _ _ _
  have kp : ∀ b o, hp.get? b = some o → ((hp.push (PySem.W.kdv_tup [])).push (PySem.HandSPX.excO C hp.objs.size)).get? b = some o := fun b o z => Heap.get?_push_of_some _ (Heap.get?_push_of_some _ z)
  have new : ((hp.push (PySem.W.kdv_tup [])).push (PySem.HandSPX.excO C hp.objs.size)).get? (hp.objs.size + 1) = some (PySem.HandSPX.excO C hp.objs.size) := by heap_get
  have I2 := I1.laid (t' := tk) (a := hp.objs.size + 1) (o := exo (hp.objs.size + 1) C none) kp le1 (exo_ok new)
  have r2 : Vals [V.ref (hp.objs.size + 1), v1] [Value.ref (hp.objs.size + 1), u1] := .cons rfl (.cons ru .nil)
  refine wpAny_call (PySem.BRX.call_ownK F.excBase_ValueError (fun Y => PySem.HandSPX.refsVE_contains Y bm hbm) (I1.kIn _ _ hC) (PySem.W.looks_findIn I1.kIn iC) (fun self => PySem.W.bind_fn I1.kIn self tI) ?_)
  refine codeAny_mono (F1.run _ X.stack _ _ ⟨[Value.ref (hp.objs.size + 1)], [(nk, u1)]⟩ [Value.ref (hp.objs.size + 1), u1] _ _ (fun _ _ _ => False) (room.make C [] [(nk, u1)]) (I2.env0.make C [] [(nk, u1)]) (b _ _ _) r2 hq) fun r s' hq' => ?_
  cases r with
  | error er => exact hx pins σ _ _ er s' I2 hq'
  | ok flw =>
    cases flw with
    | ret u =>
      obtain ⟨v, H2, I3, rv, ev, q2⟩ := I2.after hq'
      subst ev
      exact ⟨rv, ⟨.ref (hp.objs.size + 1), H2, I3, rfl, q2⟩⟩
    | next => exact hq'.elim
    | brk => exact hq'.elim
    | cont => exact hq'.elim
end
/-! ### e.value -/
/-- an error of the class at C stands at a; its one field f holds v -/
def ErrAt (H : Hp) (a C : Addr) (f : Str) (v : V) : Prop := ∃ d, H a = some (exo a C (some d)) ∧ H d = some (exd d [(f, v)])
theorem ErrAt.same {H H' : Hp} {a C : Addr} {f : Str} {v : V} (h : ErrAt H a C f v) (s : Same H H') : ErrAt H' a C f v := by
  obtain ⟨d, h1, h2⟩ := h
  exact ⟨d, s _ _ h1, s _ _ h2⟩
def tErrF (K : PySem.W.Frag) (f : Str) (te : TE) : TE := fun σ H Q => te σ H fun x H1 => ∃ a C v, x = .ref a ∧ ErrAt H1 a C f v ∧ XfC K C ∧ PySem.W.findIn K (.ref C) f = some none ∧ Q v H1
theorem err_inst {X : Cx} {pins : List (Addr × Obj)} {σ : L2.St} {H : Hp} {s : Shared} {a C : Addr} {f : Str} {v : V} (I : Inv X pins σ H s) (h : ErrAt H a C f v) :
    ∃ (ox od : Obj) (u : Value), PySem.W.InstAt s.heap a ox C (some od) ∧ RelV v u ∧ PySem.W.lookIn f od = some (some u) := by
  obtain ⟨d, h1, h2⟩ := h
  obtain ⟨t1, e1⟩ := exo_at I.hok h1
  obtain ⟨mA, hns, hr⟩ := exd_at I.hok h2
  obtain ⟨od, ho, hl⟩ := lookIn_ns hns
  have l : List.lookup f [(f, v)] = some v := by simp [List.lookup]
  obtain ⟨u, hu, ru⟩ := RelO.some_of (v := v) (o := mA f) (by rw [← l]; exact hr f)
  exact ⟨_, od, u, ⟨e1, rfl, rfl, ho⟩, ru, by rw [hl, hu]⟩
theorem pe_errF {X : Cx} {e : Expr} {te : TE} {pos : Pos} {n : Str} (he : PE X e te) (hb : attributeBase e n X.env (eval e X.env) = eval e X.env := by rfl) : PE X (.Attribute e n pos) (tErrF X.K n te) := by
  refine ⟨fun pins s σ H Q I h => ?_⟩
  refine attr_of hb (thn (he.run pins s σ H _ I h) fun u s1 hh => ?_)
  obtain ⟨x, H1, I1, rx, a, C, v, rfl, ea, T, no, q⟩ := hh
  obtain rfl : u = Value.ref a := rx
  obtain ⟨ox, od, u, J, ru, hl⟩ := err_inst I1 ea
  exact HandSPX.exc_get I1.kIn J T.ga T.gg T.exC (PySem.W.findObj_own T.hdC no rfl hl) (handed_of ru) ⟨v, H1, I1.tok _, ru, q⟩
/-! ### isinstance(e, c), e such an error -/
def rIsErr (K : PySem.W.Frag) : List V → Hp → VK → Prop := fun xs H Q => ∃ a C f v c u b, xs = [.ref a, c] ∧ ErrAt H a C f v ∧ ExcC K C ∧ ClsV c u ∧ PySem.W.kitOne K (.ref C) u = some b ∧ Q (.bl b) H
theorem call_isErr {X : Cx} : CallR X (.builtin "isinstance") (rIsErr X.K) := by
  rintro pins s σ H xs us Q I r ⟨a, C, f, v, c, u, b, rfl, ea, T, kc, ek, q⟩
  obtain ⟨u1, u2, rfl, r1, r2⟩ := vals2 r
  obtain rfl : u1 = Value.ref a := r1
  have e2 := kc.eq r2
  subst e2
  obtain ⟨ox, od, w, J, _, _⟩ := err_inst I ea
  have hcl : (PySem.W.clsIn X.K C).isSome = true := by
    have := T.hd
    unfold PySem.W.hasDictIn at this
    cases z : PySem.W.clsIn X.K C with
    | none => rw [z] at this; exact absurd this (by decide)
    | some y => rfl
  exact PySem.W.kia_one (PySem.W.kitx_exc hcl T.hg T.hk T.hs T.ha T.hn T.ht T.hm) I.kIn J ek (fun z => nomatch z) fun tk => ⟨.bl b, H, I.kept (t' := tk) fun _ _ z => z, rfl, q⟩
def rIsExO (K : PySem.W.Frag) : List V → Hp → VK → Prop := fun xs H Q => ∃ a C c u b, xs = [.ref a, c] ∧ H a = some (ExO (.ref C) a) ∧ ExcC K C ∧ ClsV c u ∧ PySem.W.kitOne K (.ref C) u = some b ∧ Q (.bl b) H
/-- either kind -/
def rIsX (K : PySem.W.Frag) : List V → Hp → VK → Prop := fun xs H Q => rIsErr K xs H Q ∨ rIsExO K xs H Q
theorem call_isX {X : Cx} : CallR X (.builtin "isinstance") (rIsX X.K) := by
  rintro pins s σ H xs us Q I r (h | ⟨a, C, c, u, b, rfl, ea, T, kc, ek, q⟩)
  · exact call_isErr pins s σ H xs us Q I r h
  obtain ⟨u1, u2, rfl, r1, r2⟩ := vals2 r
  obtain rfl : u1 = Value.ref a := r1
  have e2 := kc.eq r2
  subst e2
  obtain ⟨⟨oe, vs, ho, hz, hd, _⟩, _, _⟩ := I.hok a _ ea
  have J : PySem.W.InstAt s.heap a oe C none := by
    obtain ⟨oc, od, oda, osl⟩ := oe
    obtain ⟨h1, h2⟩ := hz
    dsimp only at h1 h2 hd
    subst h1 h2 hd
    exact ⟨ho, rfl, rfl, trivial⟩
  exact PySem.W.kia_one (PySem.W.handS_kitx_exc T.hg T.hk T.hs T.hd T.ha T.hn T.ht T.hm) I.kIn J ek (fun z => nomatch z) fun tk => ⟨.bl b, H, I.kept (t' := tk) fun _ _ z => z, rfl, q⟩
/-! ### repr of None, a text, an int, or data -/
def rReprA (K : PySem.W.Frag) : List V → Hp → VK → Prop := fun xs H Q => ∃ x d, xs = [x] ∧ Dp K H x d ∧ d.showable = true ∧ d.hasDict = false ∧ d.depth ≤ 60 ∧ d.shown.length ≤ sizeLine ∧ Q (.str d.shown) H
theorem call_reprA {X : Cx} (gg : X.A.guards = some []) (hu : X.A.units + 64 < cLine) : CallR X (.builtin "repr") (rReprA X.K) := by
  rintro pins s σ H xs us Q I r ⟨x, d, rfl, hd, h1, h2, h3, h4, q⟩
  obtain ⟨u, rfl, ru⟩ := vals1 r
  cases hd with
  | non =>
    obtain rfl : u = Value.none := ru
    exact PySem.P.repr_of_none ⟨.str _, H, I.tok _, ⟨_, rfl⟩, q⟩
  | bl b =>
    obtain rfl : u = Value.bool b := ru
    exact PySem.P.repr_of_bool ⟨.str _, H, I.tok _, ⟨_, rfl⟩, q⟩
  | int i =>
    obtain ⟨t, rfl⟩ := ru
    exact PySem.P.repr_of_int (of_decide_eq_true h1) ⟨.str _, H, I.tok _, ⟨_, rfl⟩, q⟩
  | str y =>
    obtain ⟨t, rfl⟩ := ru
    exact PySem.P.repr_of_str ⟨.str _, H, I.tok _, ⟨_, rfl⟩, q⟩ h4
  | lst hs ha => exact call_reprD gg hu pins s σ H _ _ Q I r ⟨_, _, rfl, .lst hs ha, h1, h2, h3, h4, q⟩
  | tup hs ha => exact call_reprD gg hu pins s σ H _ _ Q I r ⟨_, _, rfl, .tup hs ha, h1, h2, h3, h4, q⟩
end BR

namespace BR
open PySem PySem.Spec PyProof.Rows L2
/-- what the top says of an error class whose __init__ stores value -/
structure ErrTxt (K : PySem.W.Frag) (C fI : Addr) : Prop where
  ox : OexC K C
  ec : ExcC K C
  no : PySem.W.findIn K (.ref C) "value" = some none
  ii : PySem.W.findIn K (.ref C) "__init__" = some (some (.ref fI))
  ti : PySem.W.typeIn K (.ref fI) = some (.type "function")
theorem xf_of {K : PySem.W.Frag} {C : Addr} (e : ExcC K C) : XfC K C := ⟨e.hg, e.hk, e.hs, e.hd⟩
def sp_err (C : Addr) : Sp := fun vs H Q _ => ∃ (a : Addr) (v : V), vs = [.ref a, v] ∧ H a = some (exo a C none) ∧ ∀ d, H d = none → d ≠ a → Q .non (L2.upd (L2.upd H d (exd d [("value", v)])) a (exo a C (some d)))
theorem oex_var {C : Addr} {i : Nat} {v : V} {σ : L2.St} {H : Hp} {Q : VK} (hv : σ[i]? = some (some v)) (k : ∀ e H', H e = none → Same H H' → ErrAt H' e C "value" v → Q (.ref e) H') : tOexV C (sp_err C) (tCons (tVar i) tNil) σ H Q := by
  refine ⟨v, hv, (by show 1 ≤ 1000; decide), fun e he => ⟨e, v, rfl, upd_same, fun d hd ne => ⟨rfl, ?_⟩⟩⟩
  rw [upd_ne ne] at hd
  refine k e _ he (fun b o z => ?_) ⟨d, upd_same, ?_⟩
  · rw [upd_ne (ne_of_none z he), upd_ne (ne_of_none z hd), upd_ne (ne_of_none z he)]
    exact z
  · rw [upd_ne ne, upd_same]
/-- two errors of the class at C in a tuple at t -/
def PairAt (H : Hp) (t C : Addr) (v : V) : Prop := ∃ e1 e2, H t = some (.tup [.ref e1, .ref e2]) ∧ ErrAt H e1 C "value" v ∧ ErrAt H e2 C "value" v
theorem PairAt.same {H H' : Hp} {t C : Addr} {v : V} (h : PairAt H t C v) (s : Same H H') : PairAt H' t C v := by
  obtain ⟨e1, e2, h1, h2, h3⟩ := h
  exact ⟨e1, e2, s _ _ h1, h2.same s, h3.same s⟩
theorem ErrAt.but {H H' : Hp} {a C l : Addr} {f : Str} {v : V} {xs : List V} (h : ErrAt H a C f v) (hl : H l = some (.lst xs)) (s : But l H H') : ErrAt H' a C f v := by
  obtain ⟨d, h1, h2⟩ := h
  refine ⟨d, s _ _ (fun z => ?_) h1, s _ _ (fun z => ?_) h2⟩
  · rw [z, hl] at h1
    cases (show HO.lst xs = HO.ext _ from Option.some.inj h1)
  · rw [z, hl] at h2
    cases (show HO.lst xs = HO.ext _ from Option.some.inj h2)
theorem PairAt.but {H H' : Hp} {t C l : Addr} {v : V} {xs : List V} (h : PairAt H t C v) (hl : H l = some (.lst xs)) (s : But l H H') : PairAt H' t C v := by
  obtain ⟨e1, e2, h1, h2, h3⟩ := h
  refine ⟨e1, e2, s _ _ (fun z => ?_) h1, h2.but hl s, h3.but hl s⟩
  rw [z, hl] at h1
  cases h1
theorem rdTup {ta : TA} {σ : L2.St} {H : Hp} {Q : VK} (h : ta σ H fun xs H1 => xs.length ≤ sizeLine ∧ ∀ p, H1 p = none → Q (.ref p) (L2.upd H1 p (.tup xs))) : tTup ta σ H Q := h
theorem rdLst {ta : TA} {σ : L2.St} {H : Hp} {Q : VK} (h : ta σ H fun xs H1 => xs.length ≤ sizeLine ∧ ∀ p, H1 p = none → Q (.ref p) (L2.upd H1 p (.lst xs))) : tLst ta σ H Q := h
theorem rdCons {te : TE} {t : TA} {σ : L2.St} {H : Hp} {Q : List V → Hp → Prop} (h : te σ H fun x H1 => t σ H1 fun xs H2 => Q (x :: xs) H2) : tCons te t σ H Q := h
theorem rdSeq {t u : TS} {D : Ends} {σ : L2.St} {H : Hp} (h : t { D with nx := u D } σ H) : tSeq t u D σ H := h
theorem rdAsg {te : TE} {i : Nat} {D : Ends} {σ : L2.St} {H : Hp} (h : te σ H fun v H1 => D.nx (σ.set i (some v)) H1) : tAsg te (gName i) D σ H := h
theorem rdNil {σ : L2.St} {H : Hp} {Q : List V → Hp → Prop} (h : Q [] H) : tNil σ H Q := h
abbrev tPairE (C : Addr) : TE := tTup (tCons (tOexV C (sp_err C) (tCons (tVar 0) tNil)) (tCons (tOexV C (sp_err C) (tCons (tVar 0) tNil)) tNil))
theorem pair_made {C : Addr} {v : V} {σ : L2.St} {H : Hp} {Q : VK} (hv : σ[0]? = some (some v)) (k : ∀ t H', H t = none → Same H H' → PairAt H' t C v → Q (.ref t) H') : tPairE C σ H Q := by
  refine rdTup (rdCons (oex_var hv fun e1 H1 f1 s1 r1 => rdCons (oex_var hv fun e2 H2 f2 s2 r2 => rdNil ?_)))
  refine ⟨(by show 2 ≤ sizeLine; decide), fun t ht => ?_⟩
  have s3 := sameNew ht (o := .tup [.ref e1, .ref e2])
  exact k t _ ((s1.trans s2).free ht) (s1.trans (s2.trans s3)) ⟨e1, e2, upd_same, r1.same (s2.trans s3), r2.same s3⟩
/-- the list at l: a pair of errors for each class -/
def MadeAt (H : Hp) (l : Addr) (Cs : List Addr) (v : V) : Prop := ∃ ts : List Addr, H l = some (.lst (ts.map V.ref)) ∧ ts.length = Cs.length ∧ ∀ (j : Nat) (t C : Addr), ts[j]? = some t → Cs[j]? = some C → PairAt H t C v
theorem app_pair {K : PySem.W.Frag} {C l : Addr} {Cs : List Addr} {v : V} {σ : L2.St} {H : Hp} {D : Ends} (hv : σ[0]? = some (some v)) (hl : σ[1]? = some (some (.ref l))) (m : MadeAt H l Cs v) (hz : Cs.length ≤ 100)
    (k : ∀ H', But l H H' → MadeAt H' l (Cs ++ [C]) v → D.nx σ H') : tDrop (tBM K "list" rAppend (tVar 1) (tCons (tPairE C) tNil)) D σ H := by
  obtain ⟨ts, h1, h2, h3⟩ := m
  refine ⟨_, hl, .inl ⟨rfl, _, SqL.of h1⟩, ?_⟩
  refine rdCons (pair_made hv fun t H1 ht s1 p => rdNil ?_)
  have h1' := s1 _ _ h1
  refine ⟨l, _, _, rfl, rfl, h1', small1000 (by rw [List.length_map]; omega), ?_⟩
  have b : But l H1 (L2.upd H1 l (.lst (ts.map V.ref ++ [V.ref t]))) := But.upd
  refine k _ ((But.of s1).trans b) ⟨ts ++ [t], ?_, by rw [List.length_append, List.length_append, h2]; rfl, fun j u C' hj hC => ?_⟩
  · rw [upd_same, List.map_append]
    rfl
  · by_cases hjl : j < ts.length
    · rw [List.getElem?_append_left hjl] at hj
      rw [List.getElem?_append_left (by omega)] at hC
      exact ((h3 j u C' hj hC).same s1).but h1' b
    · rw [List.getElem?_append_right (by omega)] at hj hC
      have e : j - ts.length = 0 := by
        have := (List.getElem?_eq_some_iff.mp hj).1
        simp at this
        omega
      rw [e] at hj
      rw [show j - Cs.length = 0 by omega] at hC
      cases hj
      cases hC
      exact p.but h1' b
/-! ### isinstance, class by class -/
def kitTab (K : PySem.W.Frag) (Cs : List Addr) (B : Addr) : Bool :=
  (Cs.zipIdx.all fun p => Cs.zipIdx.all fun q => decide (PySem.W.kitOne K (.ref p.1) (.ref q.1) = some (decide (p.2 = q.2)))) &&
    Cs.all fun c => decide (PySem.W.kitOne K (.ref c) (.ref B) = some true) && decide (PySem.W.kitOne K (.ref c) (.type "ValueError") = some true) && decide (PySem.W.kitOne K (.ref B) (.ref c) = some false)
section
variable {K : PySem.W.Frag} {Cs : List Addr} {B : Addr}
theorem kit_ij (h : kitTab K Cs B = true) {i j : Nat} {c d : Addr} (hi : Cs[i]? = some c) (hj : Cs[j]? = some d) : PySem.W.kitOne K (.ref c) (.ref d) = some (decide (i = j)) := by
  have h1 := (Bool.and_eq_true_iff.mp h).1
  have h2 := List.all_eq_true.mp h1 (c, i) (List.mk_mem_zipIdx_iff_getElem?.mpr hi)
  have h3 := List.all_eq_true.mp h2 (d, j) (List.mk_mem_zipIdx_iff_getElem?.mpr hj)
  exact of_decide_eq_true h3
theorem kit_b (h : kitTab K Cs B = true) {i : Nat} {c : Addr} (hi : Cs[i]? = some c) : PySem.W.kitOne K (.ref c) (.ref B) = some true ∧ PySem.W.kitOne K (.ref c) (.type "ValueError") = some true ∧ PySem.W.kitOne K (.ref B) (.ref c) = some false := by
  have h1 := (Bool.and_eq_true_iff.mp h).2
  have h2 := List.all_eq_true.mp h1 c (List.mem_of_getElem? hi)
  have h3 := Bool.and_eq_true_iff.mp h2
  have h4 := Bool.and_eq_true_iff.mp h3.1
  exact ⟨of_decide_eq_true h4.1, of_decide_eq_true h4.2, of_decide_eq_true h3.2⟩
end
/-! ### lists of bools -/
theorem bls_all {K : PySem.W.Frag} {H : Hp} : ∀ bs : List Bool, DpAll K H (bs.map V.bl) (bs.map PyData.bool)
  | [] => .nil
  | b :: r => .cons (.bl b) (bls_all r)
theorem bls_lay : ∀ bs : List Bool, PyData.canLayAll0 (bs.map PyData.bool) = true ∧ PyData.depthAll (bs.map PyData.bool) = 0
  | [] => ⟨rfl, rfl⟩
  | b :: r => by
    obtain ⟨h1, h2⟩ := bls_lay r
    refine ⟨?_, ?_⟩
    · show (PyData.canLay0 (.bool b) && PyData.canLayAll0 (r.map PyData.bool)) = true
      rw [h1]
      rfl
    · show max (PyData.depth (.bool b)) (PyData.depthAll (r.map PyData.bool)) = 0
      rw [h2]
      rfl
theorem bls_shaped (bs : List Bool) : SeqAt.shaped (.list (bs.map PyData.bool)) = true := by
  obtain ⟨h1, h2⟩ := bls_lay bs
  unfold SeqAt.shaped
  show (PyData.canLayAll0 (bs.map PyData.bool) && decide (PyData.depthAll (bs.map PyData.bool) + 1 ≤ 64)) = true
  rw [h1, h2]
  rfl
theorem eqv_bls (bs : List Bool) : PyData.eqv (.list (bs.map PyData.bool)) (.list (bs.map PyData.bool)) = true := SeqAt.eqv_refl _ (SeqAt.canLay_of_shaped (bls_shaped bs))
theorem seq0 {n : Nat} (h : 0 < n) : seqIndex? 0 n = some 0 := by
  unfold seqIndex?
  simp
  omega
/-- [e for x in range(15)] and its like: bools -/
theorem lc_bools {n : Nat} {j : Nat} {te : TE} {vs : List Nat} {σ : L2.St} {H1 : Hp} {D : Addr} {Qd : Hp → Prop} (f : Nat → Bool) (hz : n ≤ 1000) (hD : H1 D = none)
    (hw : ∀ x : V, wipe ((wipe σ vs).set j (some x)) vs = wipe σ vs)
    (he : ∀ (i : Nat) (H2 : Hp) (Q : VK), Same H1 H2 → (∀ H3, Same H2 H3 → Q (.bl (f i)) H3) → te ((wipe σ vs).set j (some (.int (0 + (i : Nat))))) H2 Q)
    (hd : ∀ H, Same H1 H → H D = some (.lst (((List.range n).map f).map V.bl)) → Qd H) :
    ∃ W : Nat → Nat → Hp → Prop, (∃ m, W 0 m (L2.upd H1 D (.lst []))) ∧ ∀ i m H, W i m H →
      ((Itr 0 n).stop i H ∧ Qd H) ∨ ((Itr 0 n).go i H ∧ ∃ Nx : Hp → Prop, (∀ H', Nx H' → ∃ m', m' < m ∧ W (i + 1) m' H') ∧ ∀ x H', (Itr 0 n).yld i H x H' → gName j x (wipe σ vs) H' fun σ2 H2 => wipe σ2 vs = wipe σ vs ∧ tYes σ2 H2 fun b H3 =>
        if b = true then te σ2 H3 fun y H4 => ∃ acc, H4 D = some (.lst acc) ∧ acc.length < sizeLine ∧ Nx (L2.upd H4 D (.lst (acc ++ [y]))) else Nx H3) := by
  refine lc_range (lo := 0) (n := n) (fun i H => Same H1 H ∧ H D = some (.lst (((List.range i).map f).map V.bl)) ∧ i ≤ n) ⟨sameNew hD, upd_same, Nat.zero_le _⟩ ?_ (fun H p => hd H p.1 p.2.1)
  rintro i H hi ⟨s, hH, _⟩
  refine ⟨hw _, ?_⟩
  show te ((wipe σ vs).set j (some (.int (0 + (i : Nat))))) H _
  refine he i H _ s fun H3 s3 => ?_
  refine ⟨_, s3 _ _ hH, small1000 (by rw [List.length_map, List.length_map, List.length_range]; omega), fun b o e => ?_, ?_, hi⟩
  · rw [upd_ne (ne_of_none e hD)]
    exact s3 _ _ (s _ _ e)
  · rw [upd_same, List.range_succ, List.map_append, List.map_append]
    rfl
/-- what is handed to the errors -/
structure Shows (K : PySem.W.Frag) (H : Hp) (v : V) (d : PyData) : Prop where
  dp : ∀ H', Same H H' → Dp K H' v d
  o1 : d.showable = true
  o2 : d.hasDict = false
  o3 : d.depth ≤ 60
  o4 : d.shown.length ≤ sizeLine
/-! ### the bag -/
abbrev bagK (l : Addr) (left turn blend : Int) : List (Key × V) := [(.inr "great", .ref l), (.inr "left", .int left), (.inr "turn", .int turn), (.inr "blend", .int blend)]
theorem bag_left (l : Addr) (a b c : Int) : valV (bagK l a b c) (.inr "left" : Key) = some (.int a) := rfl
theorem bag_great (l : Addr) (a b c : Int) : valV (bagK l a b c) (.inr "great" : Key) = some (.ref l) := rfl
theorem bag_turn (l : Addr) (a b c : Int) : valV (bagK l a b c) (.inr "turn" : Key) = some (.int b) := rfl
theorem bag_blend (l : Addr) (a b c : Int) : valV (bagK l a b c) (.inr "blend" : Key) = some (.int c) := rfl
theorem bag_put_left (l : Addr) (a b c z : Int) : putK (bagK l a b c) (.inr "left" : Key) (.int z) = bagK l z b c := rfl
theorem bag_put_turn (l : Addr) (a b c z : Int) : putK (bagK l a b c) (.inr "turn" : Key) (.int z) = bagK l a z c := rfl
theorem bag_merge (l : Addr) (a b c : Int) : mergeK [] (bagK l a b c) = bagK l a b c := rfl
end BR

/-! ### try: .. except x as n: suite, where the error is kept behind the suite -/
namespace BR
open PySem PySem.Spec PyProof.Rows L2
/-- an error of the class cls, its dict at d, stands at a -/
def exk (a : Addr) (cls : Value) (d : Option Addr) : HO := .ext fun h => ∃ (oe : Obj) (vs : Array Value), h.get? a = some oe ∧ Zc cls d oe ∧ oe.data = .fields vs
theorem exk_ok {P : Program} {w : World} {H : Hp} {h : Heap} {a : Addr} {cls : Value} {d : Option Addr} {oe : Obj} {vs : Array Value} (e : h.get? a = some oe) (z : Zc cls d oe) (dd : oe.data = .fields vs) : ObjOk P w H h a (exk a cls d) :=
  ⟨⟨oe, vs, e, z, dd⟩, ⟨oe, e⟩, fun h1 h2 q k => by
    obtain ⟨o1, v1, q1, q2, q3⟩ := q
    exact ⟨o1, v1, k _ q1, q2, q3⟩⟩
section
variable {X : Cx} {pins : List (Addr × Obj)} {σ : L2.St} {H : Hp} {s : Shared} {a : Addr} {o : Obj} {ob : HO}
/-- what is pinned becomes a thing of the abstract heap -/
theorem inv_track (I : Inv X ((a, o) :: pins) σ H s) (new : X.s_0.heap.get? a = none) (apart : ∀ p ∈ X.pn ++ pins, p.1 ≠ a) (is : ObjOk X.prog X.w (L2.upd H a ob) s.heap a ob) : Inv X pins σ (L2.upd H a ob) s := by
  obtain ⟨ha, hn, nL, nF, nc⟩ := I.pin (a, o) (List.mem_append_right _ List.mem_cons_self)
  have old : ∀ {b : Addr} {u : Obj}, X.s_0.heap.get? b = some u → b ≠ a := fun {b u} q e => by
    rw [e, new] at q
    cases q
  refine ⟨I.ok, I.os, I.bare, { keep := I.base.keep, slot := I.base.slot, there := I.base.there, free := fun b u q n x => ?_, tups := fun b xs q => ?_, frzs := fun b u v q => ?_, tbls := fun b ps q => ?_ }, I.loc, I.cell, ?_, fun x c q => ?_, fun p hp => ?_, fun b u q => ?_, I.len⟩
  · rw [upd_ne (old q)]
    exact I.base.free b u q n x
  · have z := I.base.tups b xs q
    rw [upd_ne (ne_of_none z hn)]
    exact z
  · have z := I.base.frzs b u v q
    rw [upd_ne (ne_of_none z hn)]
    exact z
  · obtain ⟨m, z⟩ := I.base.tbls b ps q
    exact ⟨m, by rw [upd_ne (ne_of_none z hn)]; exact z⟩
  · rw [upd_ne (Ne.symm nL)]
    exact I.free
  · obtain ⟨v, u, q1, q2⟩ := I.cell x c q
    have ca : c ≠ a := fun e => by
      rw [e] at q1
      rw [ha] at q1
      cases q1
      exact nc v q2
    rw [upd_ne ca]
    exact I.freeC x c q
  · have ne := apart p hp
    have mem : p ∈ X.pn ++ (a, o) :: pins := by
      rcases List.mem_append.mp hp with z | z
      · exact List.mem_append_left _ z
      · exact List.mem_append_right _ (List.mem_cons_of_mem _ z)
    obtain ⟨y1, y2, y3, y4, y5⟩ := I.pin p mem
    exact ⟨y1, by rw [upd_ne ne]; exact y2, y3, y4, y5⟩
  · by_cases e : b = a
    · subst e
      rw [upd_same] at q
      cases q
      exact is
    · rw [upd_ne e] at q
      exact (I.hok b u q).stay (fun c v _ y => y) (fun c y => by rw [upd_ne (ne_of_none y hn)]; exact y) fun c xs y => by rw [upd_ne (ne_of_none y hn)]; exact y
/-- behind the suite: the error is a pin of the frame's own -/
theorem inv_outSuite (I : Inv (X.suite a ((a, o) :: (X.pn ++ pins))) [] σ H s) (ok : X.Ok) : Inv X ((a, o) :: pins) σ H s :=
  ⟨ok, I.os, I.bare, I.base, I.loc, I.cell, I.free, I.freeC, fun p hp => I.pin p (by
    refine List.mem_append_left _ ?_
    rcases List.mem_append.mp hp with z | z
    · exact List.mem_cons_of_mem _ (List.mem_append_left _ z)
    · rcases List.mem_cons.mp z with z | z
      · rw [z]
        exact List.mem_cons_self
      · exact List.mem_cons_of_mem _ (List.mem_append_right _ z)), I.hok, I.len⟩
end
/-- what is wished of an error that the body lets out -/
def wKept (K : PySem.W.Frag) (c : Value) (i : Nat) (ts : Addr → Value → Option Addr → TS) (D : Ends) : WX := fun cls d σ H =>
  PySem.W.exmOne K cls c = some true ∧ ∀ a, H a = none → ts a cls d { nx := fun σ1 H1 => H1 a = none → D.nx (σ1.set i none) (L2.upd H1 a (exk a cls d)), rt := fun _ _ => False } (σ.set i (some (.ref a))) H
section
variable {X : Cx} {x n : Str} {c : Value} {i : Nat} {body suite : List Stmt} {st0 : Stmt} {np pos hpos : Pos} {tb : WX → TS} {ts : Addr → Value → Option Addr → TS}
theorem ps_try_kept (stk : X.stack = X.env :: X.outer) (lf : X.env.frame = some X.env.locals) (ex0 : X.ex = []) (nd : X.N.Nodup) (ix : X.N[i]? = some n) (kl : X.env.kindOf n = some .local) (nc : Names X x c)
    (bodyOk : ∀ (W : WX) (pn : List (Addr × Obj)) (xe : Value → Shared → Prop), Takes (X.tr pn xe) W → PassesOwn (model X.prog X.w) X.A X.env xe → PSs (X.tr pn xe) body (tb W))
    (suiteOk : ∀ (a : Addr) (oe : Obj) (cls : Value) (d : Option Addr) (pn : List (Addr × Obj)), Zc cls d oe → (∃ vs, oe.data = .fields vs) → PSs (X.suite a ((a, oe) :: pn)) (st0 :: suite) (ts a cls d)) :
    PS X (.Try body [.ExceptHandler (some (.Name x np)) (some n) (st0 :: suite) hpos] [] [] pos) (fun D σ H => tb (wKept X.K c i ts D) D σ H) := by
  refine ⟨fun pins s σ H D I0 wish => ?_⟩
  have okX := I0.ok
  have frames : X.A.frames = some (X.env :: X.outer) := okX.frames.trans (by rw [stk])
  refine wpAny_Try_except (wpAny_mono ((bodyOk (wKept X.K c i ts D) (X.pn ++ pins) (fun er s1 => wpAny (model X.prog X.w) X.A (noteFrame er X.env) (fun _ s2 => wpAny (model X.prog X.w) X.A (setFlight er none)
    (fun _ s3 => wpAny (model X.prog X.w) X.A (handleBy er X.env [.ExceptHandler (some (.Name x np)) (some n) (st0 :: suite) hpos]) (SP X pins D) X.xe s3) X.xe s2) X.xe s1) ?caught PassesOwn.looking).run [] s σ H D (I0.toTry _) wish) ?through fun _ _ z => z)
  case through =>
    intro fl s1 sp
    cases fl with
    | next =>
      obtain ⟨σ1, H1, J, q⟩ := sp
      exact wpAny_execs_nil ⟨σ1, H1, J.ofTry okX, q⟩
    | ret v =>
      obtain ⟨v1, σ1, H1, J, r, q⟩ := sp
      exact ⟨v1, σ1, H1, J.ofTry okX, r, q⟩
    | brk =>
      obtain ⟨σ1, H1, J, q⟩ := sp
      exact ⟨σ1, H1, J.ofTry okX, q⟩
    | cont =>
      obtain ⟨σ1, H1, J, q⟩ := sp
      exact ⟨σ1, H1, J.ofTry okX, q⟩
  case caught =>
    rintro u s1 ⟨a, B, sI, pins1, σ1, H1, cls, d, rfl, J0, nb, up, sky, na, os1, bare1, match1, wish1⟩
    have J : Inv X pins σ1 H1 sI := J0.ofTry okX
    have sky1 : Sky B (X.env :: X.outer) a (Zc cls d) X.env.locals s1.heap := by
      rw [← stk]
      exact sky
    have fresh : B.get? a = none := by
      rcases sky1 with ⟨_, z, _⟩ | ⟨_, z, _⟩ | ⟨_, z, _⟩ <;> exact z
    show wpAny (model X.prog X.w) X.A (noteFrame (.ref a) X.env) _ _ _
    refine Sky.land Zc.steady frames lf sky1 fun h2 fly2 up2 => ?_
    obtain ⟨oe2, vs2, at2, z2, d2⟩ := fly2.there
    have noFrame : a ∉ frs (X.env :: X.outer) := fun m => by
      obtain ⟨_, o', e', nf⟩ := fly2.2.2.1.mem m
      rw [at2] at e'
      cases e'
      exact nf _ d2
    have noI : sI.heap.get? a = none := by
      cases z : sI.heap.get? a with
      | none => rfl
      | some o =>
        have y := nb a o z (by rw [stk]; exact noFrame)
        rw [fresh] at y
        cases y
    have new0 : X.s_0.heap.get? a = none := by
      cases z : X.s_0.heap.get? a with
      | none => rfl
      | some o =>
        obtain ⟨o', y⟩ := J.base.there a o z (by rw [ex0]; simp)
        rw [noI] at y
        cases y
    have apart : ∀ p ∈ X.pn ++ pins, p.1 ≠ a := fun p hp e => by
      have y := (J.pin p hp).1
      rw [e, noI] at y
      cases y
    have nL : a ≠ X.env.locals := fun e => noFrame (List.mem_filterMap.mpr ⟨X.env, List.mem_cons_self, by rw [lf, e]⟩)
    have nF : a ∉ X.fs := fun m => by
      obtain ⟨en, hen, q⟩ := List.mem_filterMap.mp m
      exact noFrame (List.mem_filterMap.mpr ⟨en, List.mem_cons_of_mem _ hen, q⟩)
    have J2 : Inv X pins σ1 H1 { s1 with heap := h2 } := J.landed nb fly2.1 (up.trans up2) os1 bare1
    have S2 := J2.suite at2 d2 na nL nF
    refine wpAny_handleBy_cons (codeAny_handlers_test ?_) (by intro q; cases q)
    have ty : PySem.W.Looks (model X.prog X.w) h2 (typeOf (.ref a)) cls := fun A Q E s k q => wpAny_typeOf_ref (k _ _ at2) (by rw [z2.1]; exact q)
    have named : ∀ {Q : Value → Shared → Prop} {E : Value → Shared → Prop}, Q c { s1 with heap := h2 } → wpAny (model X.prog X.w) (X.A.mark (some (.ref a))) (eval (.Name x np) X.env) Q E { s1 with heap := h2 } := fun {Q E} q => by
      obtain ⟨g1, g2, g3⟩ := nc
      rcases g3 with g3 | ⟨g3, g4, g5⟩
      · exact ld_glob (X := X.suite a ((a, oe2) :: (X.pn ++ pins))) S2 g1 g3 q g2
      · exact ld_blt (X := X.suite a ((a, oe2) :: (X.pn ++ pins))) S2 g1 g3 g4 q g5 g2
    refine named ((PySem.W.exm_one (M := model X.prog X.w) J2.kIn ty match1).here (codeAny_handlers_suite_as (HandSPX.lands_againZ fly2 fun h3 fly3 up3 => ?_)))
    obtain ⟨oe3, vs3, at3, z3, d3⟩ := fly3.there
    have J3 : Inv X pins σ1 H1 { s1 with heap := h3 } := J.landed nb fly3.1 ((up.trans up2).trans up3) os1 bare1
    refine store_ok (X := X.suite a ((a, oe3) :: (X.pn ++ pins))) (v := .ref a) (J3.suite at3 d3 na nL nF) nd ix (.inl kl) rfl (fun s4 S4 => ?_) (.inr kl)
    refine wpAny_mono ((suiteOk a oe3 cls d (X.pn ++ pins) z3 ⟨_, d3⟩).run [] s4 _ H1 _ S4 (wish1 a na)) (fun fl s5 sp => ?_) fun _ _ z => False.elim z
    cases fl with
    | next =>
      obtain ⟨σ5, H5, S5, q5⟩ := sp
      refine gone_ok (inv_outSuite S5 okX) nd ix kl fun s6 J6 => ?_
      obtain ⟨at6, n6, _⟩ := J6.pin (a, oe3) (List.mem_append_right _ List.mem_cons_self)
      exact ⟨_, _, inv_track J6 new0 apart (exk_ok at6 z3 d3), q5 n6⟩
    | brk =>
      obtain ⟨_, _, _, z⟩ := sp
      exact z.elim
    | cont =>
      obtain ⟨_, _, _, z⟩ := sp
      exact z.elim
    | ret v =>
      obtain ⟨_, _, _, _, _, z⟩ := sp
      exact z.elim
end
end BR

/-! ### an error that was caught and kept: its field, isinstance -/
namespace BR
open PySem PySem.Spec PyProof.Rows L2
/-- an error of the class at C that was caught stands at a; its one field f holds v -/
def ErrK (H : Hp) (a C : Addr) (f : Str) (v : V) : Prop := ∃ d, H a = some (exk a (.ref C) (some d)) ∧ H d = some (.xd [(f, v)])
theorem ErrK.same {H H' : Hp} {a C : Addr} {f : Str} {v : V} (h : ErrK H a C f v) (s : Same H H') : ErrK H' a C f v := by
  obtain ⟨d, h1, h2⟩ := h
  exact ⟨d, s _ _ h1, s _ _ h2⟩
theorem errK_inst {X : Cx} {pins : List (Addr × Obj)} {σ : L2.St} {H : Hp} {s : Shared} {a C : Addr} {f : Str} {v : V} (I : Inv X pins σ H s) (h : ErrK H a C f v) :
    ∃ (ox od : Obj) (u : Value), PySem.W.InstAt s.heap a ox C (some od) ∧ RelV v u ∧ PySem.W.lookIn f od = some (some u) := by
  obtain ⟨d, h1, h2⟩ := h
  have x : ObjOk X.prog X.w H s.heap a (.ext fun h => ∃ (oe : Obj) (vs : Array Value), h.get? a = some oe ∧ Zc (.ref C) (some d) oe ∧ oe.data = .fields vs) := I.hok a _ h1
  obtain ⟨⟨oe, vs, e1, z, hd⟩, _, _⟩ := x
  have y : ObjOk X.prog X.w H s.heap d (.xd [(f, v)]) := I.hok d _ h2
  obtain ⟨mA, hns, hr⟩ := y
  obtain ⟨od, ho, hl⟩ := lookIn_ns hns
  have l : List.lookup f [(f, v)] = some v := by simp [List.lookup]
  obtain ⟨u, hu, ru⟩ := RelO.some_of (v := v) (o := mA f) (by rw [← l]; exact hr f)
  exact ⟨oe, od, u, ⟨e1, z.1, by unfold PySem.W.notCls; rw [hd] <;> rfl, by rw [z.2]; exact ho⟩, ru, by rw [hl, hu]⟩
def tErrK (K : PySem.W.Frag) (f : Str) (te : TE) : TE := fun σ H Q => te σ H fun x H1 => ∃ a C v, x = .ref a ∧ ErrK H1 a C f v ∧ XfC K C ∧ PySem.W.findIn K (.ref C) f = some none ∧ Q v H1
theorem pe_errK {X : Cx} {e : Expr} {te : TE} {pos : Pos} {n : Str} (he : PE X e te) (hb : attributeBase e n X.env (eval e X.env) = eval e X.env := by rfl) : PE X (.Attribute e n pos) (tErrK X.K n te) := by
  refine ⟨fun pins s σ H Q I h => attr_of hb (thn (he.run pins s σ H _ I h) ?_)⟩
  rintro u s1 ⟨x, H1, I1, rx, a, C, v, rfl, ea, T, no, q⟩
  obtain rfl : u = Value.ref a := rx
  obtain ⟨ox, od, w, J, ru, hl⟩ := errK_inst I1 ea
  exact HandSPX.exc_get I1.kIn J T.ga T.gg T.exC (PySem.W.findObj_own T.hdC no rfl hl) (handed_of ru) ⟨v, H1, I1.tok _, ru, q⟩
theorem cls_of {K : PySem.W.Frag} {C : Addr} (T : ExcC K C) : (PySem.W.clsIn K C).isSome = true := by
  have z := T.hd
  unfold PySem.W.hasDictIn at z
  cases y : PySem.W.clsIn K C with
  | none =>
    rw [y] at z
    exact absurd z (by decide)
  | some c => rfl
/-- isinstance(e, c) -/
def rIsK1 (K : PySem.W.Frag) : List V → Hp → VK → Prop := fun xs H Q => ∃ a C f v c u b, xs = [.ref a, c] ∧ ErrK H a C f v ∧ ExcC K C ∧ ClsV c u ∧ PySem.W.kitOne K (.ref C) u = some b ∧ Q (.bl b) H
/-- isinstance(e, (c, ..)) -/
def rIsKT (K : PySem.W.Frag) : List V → Hp → VK → Prop := fun xs H Q => ∃ a C f v tp cs us b, xs = [.ref a, .ref tp] ∧ ErrK H a C f v ∧ ExcC K C ∧ H tp = some (.tup cs) ∧ Paired ClsV cs us ∧ PySem.W.kitAny K (.ref C) us = some b ∧ Q (.bl b) H
def rIsK (K : PySem.W.Frag) : List V → Hp → VK → Prop := fun xs H Q => rIsK1 K xs H Q ∨ rIsKT K xs H Q
theorem call_isK {X : Cx} : CallR X (.builtin "isinstance") (rIsK X.K) := by
  rintro pins s σ H xs us Q I r (⟨a, C, f, v, c, u, b, rfl, ea, T, kc, ek, q⟩ | ⟨a, C, f, v, tp, cs, ws, b, rfl, ea, T, ht, kc, ek, q⟩)
  · obtain ⟨u1, u2, rfl, r1, r2⟩ := vals2 r
    obtain rfl : u1 = Value.ref a := r1
    have e2 := kc.eq r2
    subst e2
    obtain ⟨ox, od, w, J, _, _⟩ := errK_inst I ea
    exact PySem.W.kia_one (PySem.W.kitx_exc (cls_of T) T.hg T.hk T.hs T.ha T.hn T.ht T.hm) I.kIn J ek (fun z => nomatch z) fun tk => ⟨.bl b, H, I.kept (t' := tk) fun _ _ z => z, rfl, q⟩
  · obtain ⟨u1, u2, rfl, r1, r2⟩ := vals2 r
    obtain rfl : u1 = Value.ref a := r1
    obtain rfl : u2 = Value.ref tp := r2
    obtain ⟨ox, od, w, J, _, _⟩ := errK_inst I ea
    have y : ObjOk X.prog X.w H s.heap tp (.tup cs) := I.hok tp _ ht
    obtain ⟨_, its, rv, o, g1, g2, n, g3⟩ := y
    obtain rfl := ClsV.all kc rv
    obtain ⟨oc, odi, oda, osl⟩ := o
    dsimp only at g2 g3
    subst g2 g3
    exact PySem.W.kia_tup (PySem.W.kitx_exc (cls_of T) T.hg T.hk T.hs T.ha T.hn T.ht T.hm) I.kIn J g1 ek (fun z => nomatch z) fun tk => ⟨.bl b, H, I.kept (t' := tk) fun _ _ z => z, rfl, q⟩
end BR

/-! ### raise C(v): what is left; l.count(x) over data -/
namespace BR
open PySem PySem.Spec PyProof.Rows L2
/-- the end of a reading of «raise C(v)»: its own dict, new, holds v -/
theorem mkO_end {C : Addr} {v : V} {H1 : Hp} {Q : XK} (h : ∀ d, H1 d = none → Q (.ref C) (some d) (L2.upd H1 d (.xd [("value", v)]))) :
    [v].length ≤ 1000 ∧ ∀ a, H1 a = none → sp_err C (.ref a :: ([v] ++ [])) (L2.upd H1 a (exo a C none))
      (fun w H2 => w = .non ∧ ∃ (d : Addr) (fs : List (Str × V)), H2 a = some (exo a C (some d)) ∧ H2 d = some (exd d fs) ∧ H1 d = none ∧ Q (.ref C) (some d) (L2.upd (del H2 a) d (.xd fs))) (fun _ _ _ => False) := by
  refine ⟨(by show 1 ≤ 1000; decide), fun a ha => ⟨a, v, rfl, upd_same, fun d hd ne => ⟨rfl, d, [("value", v)], upd_same, ?_, ?_, ?_⟩⟩⟩
  · rw [upd_ne ne, upd_same]
  · rw [upd_ne ne] at hd
    exact hd
  · have hd1 : H1 d = none := by
      rw [upd_ne ne] at hd
      exact hd
    have e : L2.upd (del (L2.upd (L2.upd (L2.upd H1 a (exo a C none)) d (exd d [("value", v)])) a (exo a C (some d))) a) d (.xd [("value", v)]) = L2.upd H1 d (.xd [("value", v)]) := by
      funext b
      by_cases hb : b = d
      · rw [hb, upd_same, upd_same]
      · rw [upd_ne hb, upd_ne hb]
        by_cases hc : b = a
        · rw [hc, del_same, ha]
        · rw [del_ne hc, upd_ne hc, upd_ne hb, upd_ne hc]
    rw [e]
    exact h d hd1
def rCountD (K : PySem.W.Frag) : V → List V → Hp → VK → Prop := fun x xs H Q => ∃ (a : Addr) (y : V) (d : PyData) (ds : List PyData), x = .ref a ∧ xs = [y] ∧ Dp K H (.ref a) (.list ds) ∧ Dp K H y d ∧
  PyData.plainAll ds = true ∧ d.plain = true ∧ PyData.depthAll ds ≤ 60 ∧ Q (.int ((ds.countP fun z => PyData.eqv z d : Nat) : Int)) H
theorem mt_countD {X : Cx} (hu : X.A.units + 65 < cLine) : MtR X "list.count" (rCountD X.K) := by
  rintro pins s σ H x xs v us Q I rx rxs ⟨a, y, d, ds, rfl, rfl, hl, hy, pl, pd, dep, q⟩
  cases rx
  obtain ⟨u, rfl, ru⟩ := rxs.one
  obtain ⟨bs, r1⟩ := Dp.reads I d y u hy ru
  cases hl with
  | lst hs ha =>
    obtain ⟨its, rv, ⟨⟨cls, dd, data, sl⟩, n, ho, hc, hdn, hdt⟩, hlen⟩ := I.list hs
    simp only at hc hdt
    subst hc hdt
    obtain ⟨as, h4⟩ := Dp.readsAll I ds _ its ha rv
    refine SeqAt.count_list_data (vs := its.toArray) ⟨_, ho, rfl, n, rfl⟩ (by simpa using h4) r1 pl pd (by omega) ?_
    exact ⟨.int _, H, I.tok _, ⟨_, rfl⟩, q⟩
end BR

namespace BR
open PySem PySem.Spec PyProof.Rows L2
/-! ### dicts of the module with text keys: walked by items, asked by get -/
/-- the pairs of a written dict, as the layer's values -/
structure KTab (K : PySem.W.Frag) (P : Program) (w : World) (d : Addr) (kvs : List (Str × V)) : Prop where
  ex : ∃ (es : Array DictEntry) (n : Nat) (us : List (Str × Value)), K.lookup d = some ⟨.type "dict", none, .dict es n, #[]⟩ ∧ PySem.W.KeysLit w.params es.toList ∧ Pairs (strKind P w) es.toList us ∧ (us.map (·.1)).Nodup ∧
    KV kvs us
  low : (d == sysModules) = false
theorem KTab.at {K : PySem.W.Frag} {P : Program} {w : World} {d : Addr} {kvs : List (Str × V)} (T : KTab K P w d kvs) {h : Heap} (X : K.In h) :
    ∃ (us : List (Str × Value)) (n : Nat), h.DictAt (strKind P w) d us n ∧ KV kvs us := by
  obtain ⟨es, n, us, lk, lit, ps, nd, rel⟩ := T.ex
  refine ⟨us, n, ⟨_, es, X _ _ lk, ⟨rfl, rfl, rfl⟩, rfl, fun e he => ?_, ps, nd⟩, rel⟩
  obtain ⟨x, t, e1, e2⟩ := lit.all e (Array.mem_toList_iff.mpr he)
  exact ⟨x, by rw [e1]; exact strKind_is P w x t, e2⟩
/-- a new pair of key and value, turn by turn -/
def ItK (kvs : List (Str × V)) : It :=
  ⟨fun i _ => i < kvs.length, fun i H v H' => ∃ T k x, v = .ref T ∧ H T = none ∧ H' = L2.upd H T (.tup [.str k, x]) ∧ kvs[i]? = some (k, x), fun i _ => kvs.length ≤ i⟩
theorem turn_itemsK {P : Program} {w : World} {K : PySem.W.Frag} {elts : List Expr} {kk : Nat} {tpos : Pos} {d : Addr} {kvs : List (Str × V)} {us : List (Str × Value)} {n : Nat} (it : Addr)
    (hm : ∀ h : Heap, K.In h → h.DictAt (strKind P w) d us n) (rel : KV kvs us) :
    Turn P w K (.Tuple elts kk tpos) (ItK kvs) [it] it (fun i h => ∃ ok ov, IsItemIter h it d i us.length n ok ov) where
  mem := by simp
  obj := by
    rintro i h ⟨ok, ov, e⟩ b hb
    obtain rfl : b = it := by simpa using hb
    exact ⟨_, e, fun v z => nomatch z⟩
  keep := by
    rintro i h h' ⟨ok, ov, e⟩ kp
    exact ⟨ok, ov, kp it (by simp) _ e⟩
  item := by
    intro X hP hw hK hc i pins s σ H E I hf st hg
    subst hP hw hK
    have lz : kvs.length = us.length := Paired.length rel
    have hi : i < kvs.length := hg
    obtain ⟨⟨k, x⟩, hp⟩ : ∃ p, kvs[i]? = some p := ⟨kvs[i], List.getElem?_eq_getElem hi⟩
    obtain ⟨u, hq, ru⟩ := kv_get rel hp
    obtain ⟨ok, ov, he⟩ := st
    have below : it < s.heap.objs.size := Heap.lt_size he
    refine wpAny_pyNext_items_item he (hm _ I.kIn) hq fun key h1 hkey ho hT hz kp => ?_
    obtain ⟨tk, rfl⟩ := Value.isStrOf_shape hkey
    refine ⟨_, rfl, wpAny_letOwnedTupleGo_items (s := { s with heap := h1 }) ho fun h2 he2 sb => ?_⟩
    have hT2 := (sb.2 _ (Nat.ne_of_gt below)).trans hT
    have new : ObjOk X.prog X.w (L2.upd H s.heap.objs.size (.tup [.str k, x])) h2 s.heap.objs.size (.tup [.str k, x]) :=
      ⟨by show 2 ≤ sizeLine; decide, [.str k tk, u], .cons ⟨_, rfl⟩ (.cons ru .nil), ⟨_, hT2, rfl, _, rfl⟩⟩
    have J := I.turnedNew (t' := s.toks) (ch := [it]) (h' := h2) (fun b ob hb z => (sb.2 b (by simpa using hb)).trans (kp b ob (by simpa using hb) z)) hf (Nat.le_refl _) new
    refine ⟨.ref s.heap.objs.size, _, J, rfl, ⟨_, k, x, rfl, I.hok.fresh (Nat.le_refl _), rfl, hp⟩, ⟨_, _, he2⟩, fun b hb => ?_⟩
    obtain rfl : b = it := by simpa using hb
    rw [upd_ne (Nat.ne_of_lt below)]
    exact (hf b hb).1
  done := by
    intro X hP hw hK hc i pins s σ H E I hf st hg
    subst hP hw hK
    have lz : kvs.length = us.length := Paired.length rel
    have hge : kvs.length ≤ i := hg
    obtain ⟨f0, f1, f2, f3, f4, f5⟩ := hf it (by simp)
    obtain ⟨ok, ov, he⟩ := st
    exact wpAny_pyNext_items_end (I.ok.hd hc) he (hm _ I.kIn) (List.getElem?_eq_none (by omega)) fun h' eb => ⟨rfl, I.turned (t' := s.toks) (fun b o hb z => eb b o hb z) f0 f1 f3 f4 f5⟩
  self := fun A i s Q E st h => let ⟨_, _, e⟩ := st; PySem.W.kcp_self e h
def iItemsK (K : PySem.W.Frag) (P : Program) (w : World) (td : TE) : TI := fun σ H R => td σ H fun x H1 => ∃ d kvs, x = .ref d ∧ KTab K P w d kvs ∧ R (ItK kvs) H1
theorem pi_itemsK {X : Cx} {e : Expr} {td : TE} {apos cpos tpos : Pos} {elts : List Expr} {kk : Nat} (he : PE X e td) (hb : attributeBase e "items" X.env (eval e X.env) = eval e X.env := by rfl) (hl : (apos.endLine == cpos.line) = true := by rfl) :
    PI X (.Tuple elts kk tpos) (.Call (.Attribute e "items" apos) [] [] cpos) (iItemsK X.K X.prog X.w td) := by
  refine ⟨fun pins s σ H R I h => ?_⟩
  refine wpAny_Call_method (T := "dict") (id := "dict.items") hb rfl hl F.plainAttrs_dict F.slot_dict_items F.type_dict_items (thn (he.run pins s σ H _ I h) ?_)
  rintro u s1 ⟨x, H1, I1, rx, d, kvs, rfl, T, q⟩
  obtain rfl : u = Value.ref d := rx
  obtain ⟨es, n, us, lk, lit, ps, nd, rel⟩ := T.ex
  have hm : ∀ h : Heap, X.K.In h → h.DictAt (strKind X.prog X.w) d us n := fun h XK => ⟨_, es, XK _ _ lk, ⟨rfl, rfl, rfl⟩, rfl, fun e he => by
    obtain ⟨x, t, e1, e2⟩ := lit.all e (Array.mem_toList_iff.mpr he)
    exact ⟨x, by rw [e1]; exact strKind_is X.prog X.w x t, e2⟩, ps, nd⟩
  have hm1 := hm _ I1.kIn
  refine ⟨hm1.dictOf.typeIs, hm1.dictOf.mapOf.noDict, ?_⟩
  have I2 : Inv X pins σ H1 { s1 with heap := s1.heap.push { cls := .type "dict_items", data := .fields #[.ref d] } } := I1.kept (t' := s1.toks) fun b ob z => Heap.get?_push_of_some _ z
  have fin : wpAny (model X.prog X.w) X.A (pyIter (.ref s1.heap.objs.size)) (PIE X pins σ (.Tuple elts kk tpos) R) X.xe { s1 with heap := s1.heap.push { cls := .type "dict_items", data := .fields #[.ref d] } } := by
    refine wpAny_pyIter_items (d := d) (knd := strKind X.prog X.w) ⟨_, Heap.get?_push_size _ rfl, rfl, rfl⟩ (hm _ I2.kIn) (pi_one (tk := s1.toks) I2 _ (turn_itemsK _ hm rel) ⟨.none, .none, ?_⟩ q)
    exact Heap.get?_push_size _ rfl
  show wpAny _ _ (callWith cpos (.builtin "dict.items") [.ref d] [] []) _ X.xe s1
  exact method_meetsIn F.slot_dict_items F.entry_dict_items rfl (PySem.evalArgs_none ⟨rfl, hm1.dictOf.typeIs, F.args_dict_items_1 _, _, meets_dict_items (strKind X.prog X.w) d T.low, ⟨us, hm1.dictOf⟩, fin⟩)
theorem walk_itemsK {kvs : List (Str × V)} : L2.Walk (ItK kvs) kvs.length (fun _ => True) (YPair (fun i => kvs[i]?.map fun p => .str p.1) (fun i => kvs[i]?.map Prod.snd)) := by
  refine ⟨fun _ _ hi _ => hi, fun _ _ => Nat.le_refl _, ?_⟩
  rintro i H v H' _ _ ⟨T, k, x, h1, h2, h3, h4⟩
  exact ⟨T, .str k, x, h1, h2, h3, by simp [h4], by simp [h4]⟩
/-! in, not in, [], get with a default -/
section
variable {X : Cx}
theorem KTab.map {P : Program} {w : World} {K : PySem.W.Frag} {d : Addr} {kvs : List (Str × V)} (T : KTab K P w d kvs) {h : Heap} (X : K.In h) (z : Str) : ∃ f : Str → Option Value, h.MapOf (strKind P w) d f ∧ RelO (valV kvs z) (f z) := by
  obtain ⟨us, n, hm, rel⟩ := T.at X
  exact ⟨_, hm.dictOf.mapOf, rel.val z⟩
def rInK (K : PySem.W.Frag) (P : Program) (w : World) (neg : Bool) : R2 := fun x y H Q => ∃ z d kvs, x = .str z ∧ y = .ref d ∧ KTab K P w d kvs ∧ Q (.bl (if neg then !(valV kvs z).isSome else (valV kvs z).isSome)) H
theorem op_inT : OpR X (compareOp .In) (rInK X.K X.prog X.w false) := by
  rintro pins s σ H x y v u Q I rx ry ⟨z, d, kvs, rfl, rfl, T, q⟩
  obtain ⟨t, rfl⟩ := rx
  cases ry
  obtain ⟨f, hm, rel⟩ := T.map I.kIn z
  refine wpAny_in_of (strKind_is X.prog X.w z t) T.low hm ?_
  rw [← rel.isSome_eq]
  exact ⟨.bl (valV kvs z).isSome, H, I.tok _, rfl, q⟩
theorem op_notInT : OpR X (compareOp .NotIn) (rInK X.K X.prog X.w true) := by
  rintro pins s σ H x y v u Q I rx ry ⟨z, d, kvs, rfl, rfl, T, q⟩
  obtain ⟨t, rfl⟩ := rx
  cases ry
  obtain ⟨f, hm, rel⟩ := T.map I.kIn z
  refine wpAny_notIn_of (strKind_is X.prog X.w z t) T.low hm ?_
  rw [← rel.isSome_eq]
  exact ⟨.bl (!(valV kvs z).isSome), H, I.tok _, rfl, q⟩
def rIxT2 (K : PySem.W.Frag) (P : Program) (w : World) : R2 := fun x y H Q => ∃ d z v kvs, x = .ref d ∧ y = .str z ∧ KTab K P w d kvs ∧ valV kvs z = some v ∧ Q v H
theorem ix_tab : IxR X (rIxT2 X.K X.prog X.w) := by
  rintro value slice pins s σ H x y v u Q I rx ry ⟨d, z, r, kvs, rfl, rfl, T, ev, q⟩ hs
  obtain rfl : v = Value.ref d := rx
  obtain ⟨t, rfl⟩ := ry
  obtain ⟨f, hm, rel⟩ := T.map I.kIn z
  rw [ev] at rel
  obtain ⟨u0, e, ru⟩ := RelO.some_of rel
  exact tail_any hm.typeIs slot_dict_getitem.lookup (wpAny_getItem_of (strKind_is X.prog X.w z t) hm e ⟨r, H, I.tok _, ru, q⟩) hs
def tGetT (K : PySem.W.Frag) (P : Program) (w : World) (td ty tx : TE) : TE := fun σ H Q => td σ H fun x H1 => ∃ d kvs, x = .ref d ∧ KTab K P w d kvs ∧ ty σ H1 fun y H2 => tx σ H2 fun z H3 => ∃ k, y = .str k ∧ Q ((valV kvs k).getD z) H3
theorem pe_getT {o e f : Expr} {td ty tx : TE} {apos cpos : Pos} (ho : PE X o td) (he : PE X e ty) (hf : PE X f tx) (m : M2 X o "get" apos e f cpos) : PE X (.Call (.Attribute o "get" apos) [e, f] [] cpos) (tGetT X.K X.prog X.w td ty tx) := by
  refine ⟨fun pins s σ H Q I h => ?_⟩
  refine wpAny_Call_method m.base m.few m.line PySem.F.plainAttrs_dict PySem.F.slot_dict_get PySem.F.type_dict_get (thn (ho.run pins s σ H _ I h) ?_)
  rintro u s1 ⟨x, H1, I1, rx, d, kvs, rfl, T, q1⟩
  obtain rfl : u = Value.ref d := rx
  obtain ⟨us, n, dm, _⟩ := T.at I1.kIn
  refine ⟨dm.dictOf.typeIs, dm.dictOf.mapOf.noDict, ?_⟩
  rw [m.trees]
  refine Calls.callWith_builtin rfl (Calls.evalArgs_plain (Calls.spliced_cons (thn (he.run pins s1 σ H1 _ I1 q1) ?_)))
  rintro iv s2 ⟨y, H2, I2, ry, q2⟩
  refine Calls.spliced_cons (thn (hf.run pins s2 σ H2 _ I2 q2) ?_)
  rintro fv s3 ⟨z, H3, I3, rz, k, rfl, q3⟩
  refine Calls.spliced_nil ?_
  obtain ⟨t, rfl⟩ := (show ∃ t, iv = Value.str k t from ry)
  obtain ⟨g, hm, rel⟩ := T.map I3.kIn k
  refine call_meetsIn PySem.F.slot_dict_get hm.typeIs PySem.F.entry_dict_get (PySem.F.args_dict_get_3 _ _ _) (meets_dict_get_default (strKind X.prog X.w) d (strKind_is X.prog X.w k t) T.low fv) ⟨_, hm, ?_⟩
  exact ⟨_, H3, I3.tok _, rel.getD rz, q3⟩
end
end BR

/-! ### a module's dict with text keys, out of what the head answers -/
namespace BR
open PySem PySem.Spec PyProof.Rows L2
theorem pairs_of {P : Program} {w : World} : ∀ {es : List DictEntry} {kus : List (Str × Value)}, es.map He.keyOf = He.keysIn w.params (kus.map (·.1)) → es.map (·.val) = kus.map (·.2) → Pairs (strKind P w) es kus
  | [], [], _, _ => .nil
  | [], _ :: _, h, _ => by cases h
  | _ :: _, [], h, _ => by cases h
  | e :: es, (k, u) :: kus, h, g => by
    have h1 : He.keyOf e :: es.map He.keyOf = some (k, PyData.keyHash w.params k) :: He.keysIn w.params (kus.map (·.1)) := h
    injection h1 with h2 h3
    have g1 : e.val :: es.map (·.val) = u :: kus.map (·.2) := g
    injection g1 with g2 g3
    refine .cons ?_ g2 (pairs_of h3 g3)
    unfold He.keyOf at h2
    split at h2
    · rename_i x t q
      obtain ⟨y1, y2⟩ := Prod.mk.inj (Option.some.inj h2)
      show (strKind P w).is k e.key = true
      rw [q, ← y1]
      exact strKind_is P w x t
    · cases h2
theorem ktab_of {K : PySem.W.Frag} {P : Program} {w : World} {d : Addr} {es : Array DictEntry} {n : Nat} {kus : List (Str × Value)} {kvs : List (Str × V)} (lk : K.lookup d = some ⟨.type "dict", none, .dict es n, #[]⟩)
    (kk : es.toList.map He.keyOf = He.keysIn w.params (kus.map (·.1))) (vv : es.toList.map (·.val) = kus.map (·.2)) (rel : KV kvs kus) (nd : (kus.map (·.1)).Nodup) (low : (d == sysModules) = false) : KTab K P w d kvs :=
  ⟨⟨es, n, kus, lk, He.keysLit_of kk, pairs_of kk vv, nd, rel⟩, low⟩
end BR

/-! ### a module's tuple of texts -/
namespace BR
open PySem PySem.Spec PyProof.Rows L2
def strV (u : Value) : Option Str := match u with
  | .str x _ => some x
  | _ => none
theorem vals_strV : ∀ {us : List Value} {xs : List Str}, us.map strV = xs.map some → Vals (xs.map V.str) us
  | [], [], _ => .nil
  | [], _ :: _, h => by cases h
  | _ :: _, [], h => by cases h
  | u :: us, x :: xs, h => by
    have h1 : strV u :: us.map strV = some x :: xs.map some := h
    injection h1 with h2 h3
    refine .cons ?_ (vals_strV h3)
    unfold strV at h2
    split at h2
    · rename_i y t
      rw [Option.some.inj h2]
      exact ⟨t, rfl⟩
    · cases h2
/-- the texts xs stand in a written tuple at p -/
structure TupK (K : PySem.W.Frag) (p : Addr) (xs : List Str) : Prop where
  ex : ∃ (o : Obj) (its : Array Value) (n : Nat), K.lookup p = some o ∧ o.cls = .type "tuple" ∧ o.data = .seq its n ∧ its.size ≤ sizeLine ∧ Vals (xs.map V.str) its.toList
theorem TupK.sq {K : PySem.W.Frag} {p : Addr} {xs : List Str} (T : TupK K p xs) {H : Hp} : SqT K H p (xs.map V.str) := .inr T.ex
theorem tupK_of {K : PySem.W.Frag} {p : Addr} {o : Obj} {its : Array Value} {n : Nat} {xs : List Str} (l : K.lookup p = some o) (c : o.cls = .type "tuple") (d : o.data = .seq its n) (e : its.toList.map strV = xs.map some) (z : xs.length ≤ 1000 := by decide) : TupK K p xs := by
  refine ⟨o, its, n, l, c, d, ?_, vals_strV e⟩
  have y := congrArg List.length e
  rw [List.length_map, List.length_map, Array.length_toList] at y
  rw [sizeLine_eq]
  omega
end BR

/-! ### tables of the module, asked -/
namespace BR
open PySem PySem.Spec PyProof.Rows L2
theorem inV_str {z : Str} : ∀ {xs : List Str}, inV (.str z) (xs.map V.str) = decide (z ∈ xs)
  | [] => rfl
  | x :: xs => by
    have ih := inV_str (z := z) (xs := xs)
    unfold inV at ih ⊢
    rw [List.map_cons, List.any_cons, ih]
    have e : eqV (.str x) (.str z) = decide (z = x) := by
      show (x == z) = decide (z = x)
      by_cases h : z = x
      · rw [h]; simp
      · have h2 : ¬ x = z := fun e => h e.symm
        simp [h, h2]
    rw [e]
    simp
theorem flat_strs : ∀ {xs : List Str}, (xs.map V.str).all flatV = true
  | [] => rfl
  | _ :: xs => flat_strs (xs := xs)
/-- each key's value is a written tuple of texts -/
def TabRel (K : PySem.W.Frag) : List (Str × V) → List (Str × List Str) → Prop := Paired fun p q => p.1 = q.1 ∧ ∃ a, p.2 = .ref a ∧ TupK K a q.2
theorem look_cons {α : Type} {k z : Str} {v : α} {l : List (Str × α)} : List.lookup z ((k, v) :: l) = if z = k then some v else List.lookup z l := by
  by_cases h : z = k
  · rw [if_pos h, h]
    simp [List.lookup]
  · rw [if_neg h]
    have e : (z == k) = false := by simpa using h
    simp [List.lookup, e]
theorem valV_cons {k z : Str} {v : V} {l : List (Str × V)} : valV ((k, v) :: l) z = if z = k then some v else valV l z := by
  unfold valV
  by_cases h : z = k
  · rw [if_pos h, h]
    simp
  · rw [if_neg h]
    have e : ¬ k = z := fun y => h y.symm
    simp [List.find?, e]
theorem tab_find {K : PySem.W.Frag} {z : Str} : ∀ {kvs : List (Str × V)} {tab : List (Str × List Str)}, TabRel K kvs tab → (tab.lookup z = none ∧ valV kvs z = none) ∨ ∃ os a, tab.lookup z = some os ∧ valV kvs z = some (.ref a) ∧ TupK K a os
  | _, _, .nil => .inl ⟨rfl, rfl⟩
  | (k, v) :: kvs, (k2, os) :: tab, .cons h r => by
    obtain ⟨h1, a, h2, h3⟩ := h
    dsimp only at h1 h2 h3
    subst h1 h2
    rw [look_cons, valV_cons]
    by_cases c : z = k
    · rw [if_pos c, if_pos c]
      exact .inr ⟨os, a, rfl, rfl, h3⟩
    · rw [if_neg c, if_neg c]
      exact tab_find r
theorem txt_find {z : Str} : ∀ {l : List (Str × Str)}, valV (l.map fun p => (p.1, V.str p.2)) z = (l.lookup z).map V.str
  | [] => rfl
  | (k, v) :: l => by
    rw [List.map_cons, valV_cons, look_cons]
    by_cases c : z = k
    · rw [if_pos c, if_pos c]
      rfl
    · rw [if_neg c, if_neg c]
      exact txt_find
end BR

namespace BR
open PySem PySem.Spec PyProof.Rows L2
theorem pick_succ {p : Str → Bool} {xs : List Str} {i : Nat} {z : Str} (h : xs[i]? = some z) : (xs.take (i + 1)).filter p = (xs.take i).filter p ++ (if p z then [z] else []) := by
  have e : xs.take (i + 1) = xs.take i ++ [z] := by
    rw [List.take_add_one, h]
    rfl
  rw [e, List.filter_append]
  congr 1
  cases c : p z <;> simp [List.filter, c]
theorem mapS_at {xs : List Str} {i : Nat} {x : V} (h : (xs.map V.str)[i]? = some x) : ∃ z, xs[i]? = some z ∧ x = .str z := by
  rw [List.getElem?_map] at h
  cases e : xs[i]? with
  | none =>
    rw [e] at h
    cases h
  | some z =>
    rw [e] at h
    cases h
    exact ⟨z, rfl, rfl⟩
/-- [x for x in t if c], t a tuple of texts, c told by x alone -/
theorem lc_pick {K : PySem.W.Frag} {a : Addr} {xs : List Str} {j : Nat} {tt : TT} {te : TE} {vs : List Nat} {σ : L2.St} {H1 : Hp} {D : Addr} {Qd : Hp → Prop} (p : Str → Bool) (hT : SqT K H1 a (xs.map V.str)) (hz : xs.length ≤ 1000) (hD : H1 D = none)
    (hw : ∀ x : V, wipe ((wipe σ vs).set j (some x)) vs = wipe σ vs)
    (ht : ∀ (x : Str) (H2 : Hp) (Q : Bool → Hp → Prop), x ∈ xs → Same H1 H2 → Q (p x) H2 → tt ((wipe σ vs).set j (some (.str x))) H2 Q)
    (he : ∀ (x : Str) (H2 : Hp) (Q : VK), x ∈ xs → Same H1 H2 → Q (.str x) H2 → te ((wipe σ vs).set j (some (.str x))) H2 Q)
    (hd : ∀ H, Same H1 H → H D = some (.lst ((xs.filter p).map V.str)) → Qd H) :
    ∃ W : Nat → Nat → Hp → Prop, (∃ m, W 0 m (L2.upd H1 D (.lst []))) ∧ ∀ i m H, W i m H →
      ((Itt K a).stop i H ∧ Qd H) ∨ ((Itt K a).go i H ∧ ∃ Nx : Hp → Prop, (∀ H', Nx H' → ∃ m', m' < m ∧ W (i + 1) m' H') ∧ ∀ x H', (Itt K a).yld i H x H' → gName j x (wipe σ vs) H' fun σ2 H2 => wipe σ2 vs = wipe σ vs ∧ tt σ2 H2 fun b H3 =>
        if b = true then te σ2 H3 fun y H4 => ∃ acc, H4 D = some (.lst acc) ∧ acc.length < sizeLine ∧ Nx (L2.upd H4 D (.lst (acc ++ [y]))) else Nx H3) := by
  refine lc_tup (xs := xs.map V.str) (fun i H => Same H1 H ∧ H D = some (.lst (((xs.take i).filter p).map V.str))) ⟨sameNew hD, upd_same⟩ (fun i H _ p => sameT p.1 hT) ?_ ?_
  · rintro i x H hx ⟨s, hH⟩
    obtain ⟨z, hz1, rfl⟩ := mapS_at hx
    have mem := List.mem_of_getElem? hz1
    refine ⟨hw _, ?_⟩
    refine ht z H _ mem s ?_
    have step := pick_succ (p := p) hz1
    cases c : p z with
    | false =>
      rw [c] at step
      refine (if_neg (by decide)).mpr ?_
      refine ⟨s, ?_⟩
      rw [step]
      simpa using hH
    | true =>
      rw [c] at step
      refine (if_pos rfl).mpr ?_
      refine he z H _ mem s ?_
      refine ⟨_, hH, small1000 ?_, ?_, ?_⟩
      · have l1 := List.length_filter_le p (xs.take i)
        rw [List.length_take] at l1
        rw [List.length_map]
        omega
      · intro b o e
        rw [upd_ne (ne_of_none e hD)]
        exact s _ _ e
      · rw [upd_same, step, List.map_append]
        rfl
  · rintro H ⟨s, hH⟩
    rw [List.length_map, List.take_length] at hH
    exact hd H s hH
end BR

/-! ### tuples of texts as data -/
namespace BR
open PySem PySem.Spec PyProof.Rows L2
theorem strs_all {K : PySem.W.Frag} {H : Hp} : ∀ xs : List Str, DpAll K H (xs.map V.str) (xs.map PyData.str)
  | [] => .nil
  | x :: r => .cons (.str x) (strs_all r)
theorem strs_lay : ∀ xs : List Str, (∀ x ∈ xs, PyData.strOk x = true) → PyData.canLayAll0 (xs.map PyData.str) = true ∧ PyData.depthAll (xs.map PyData.str) = 0
  | [], _ => ⟨rfl, rfl⟩
  | x :: r, ok => by
    obtain ⟨h1, h2⟩ := strs_lay r fun y m => ok y (List.mem_cons_of_mem _ m)
    refine ⟨?_, ?_⟩
    · show (PyData.canLay0 (.str x) && PyData.canLayAll0 (r.map PyData.str)) = true
      rw [h1, Bool.and_true]
      exact ok x List.mem_cons_self
    · show max (PyData.depth (.str x)) (PyData.depthAll (r.map PyData.str)) = 0
      rw [h2]
      rfl
theorem strs_shapedT {xs : List Str} (ok : ∀ x ∈ xs, PyData.strOk x = true) : SeqAt.shaped (.tuple (xs.map PyData.str)) = true := by
  obtain ⟨h1, h2⟩ := strs_lay xs ok
  unfold SeqAt.shaped
  show (PyData.canLayAll0 (xs.map PyData.str) && decide (PyData.depthAll (xs.map PyData.str) + 1 ≤ 64)) = true
  rw [h1, h2]
  rfl
theorem strs_eqvA : ∀ xs ys : List Str, PyData.eqvAll (xs.map PyData.str) (ys.map PyData.str) = decide (xs = ys)
  | [], [] => rfl
  | [], _ :: _ => rfl
  | _ :: _, [] => rfl
  | x :: xs, y :: ys => by
    show (x == y && PyData.eqvAll (xs.map PyData.str) (ys.map PyData.str)) = decide (x :: xs = y :: ys)
    rw [strs_eqvA xs ys]
    by_cases h : x = y
    · by_cases g : xs = ys <;> simp [h, g]
    · simp [h]
theorem strs_eqv (xs ys : List Str) : PyData.eqv (.tuple (xs.map PyData.str)) (.tuple (ys.map PyData.str)) = decide (xs = ys) := strs_eqvA xs ys
theorem dp_strsT {K : PySem.W.Frag} {H : Hp} {a : Addr} {xs : List Str} (h : SqT K H a (xs.map V.str)) : Dp K H (.ref a) (.tuple (xs.map PyData.str)) := .tup h (strs_all xs)
theorem tab_at {K : PySem.W.Frag} : ∀ {kvs : List (Str × V)} {tab : List (Str × List Str)}, TabRel K kvs tab → ∀ {i : Nat} {k : Str} {x : V}, kvs[i]? = some (k, x) → ∃ os a, tab[i]? = some (k, os) ∧ x = .ref a ∧ TupK K a os
  | _, _, .nil, i, k, x, h => by cases i <;> cases h
  | (k1, v1) :: kvs, (k2, os) :: tab, .cons h r, i, k, x, e => by
    obtain ⟨h1, a, h2, h3⟩ := h
    dsimp only at h1 h2 h3
    subst h1 h2
    cases i with
    | zero =>
      cases e
      exact ⟨os, a, rfl, rfl, h3⟩
    | succ i => exact tab_at r (i := i) e
theorem find_at {α : Type} {p : α → Bool} : ∀ {l : List α} {i : Nat} {x : α}, l[i]? = some x → p x = true → (∀ (j : Nat) (y : α), j < i → l[j]? = some y → p y = false) → l.find? p = some x
  | [], i, x, h, _, _ => by cases i <;> cases h
  | a :: l, 0, x, h, hp, _ => by
    cases h
    simp [List.find?, hp]
  | a :: l, i + 1, x, h, hp, hn => by
    have ha := hn 0 a (Nat.succ_pos i) rfl
    have ih := find_at (l := l) (i := i) (x := x) h hp fun j y hj hy => hn (j + 1) y (Nat.succ_lt_succ hj) hy
    simp [List.find?, ha, ih]
theorem find_no {α : Type} {p : α → Bool} {l : List α} (h : ∀ (j : Nat) (y : α), l[j]? = some y → p y = false) : l.find? p = none := by
  rw [List.find?_eq_none]
  intro x hx
  obtain ⟨j, hj, e⟩ := List.mem_iff_getElem.mp hx
  rw [h j x (by rw [List.getElem?_eq_getElem hj, e])]
  decide
end BR

/-! ### calls without arguments where no repr runs; comprehensions that choose, over lists; heaps -/
namespace BR
open PySem PySem.Spec PyProof.Rows L2
section
variable {X : Cx} {CX : CXT} {k : Nat} {f : Addr} {fd : FuncData} {ps : List Str} {sp : Sp} {E : XK} {x : Str} {ds : List Value} {dvs : List V} {p pos : Pos}
theorem pe_callG0 (F : FnG X.prog X.w X.K X.mg X.base CX k f fd ps sp) (gg : X.A.guards = some []) (room : Room k X.A) (hg : Gl X x) (hm : X.mg x = some (.ref f)) (kp : PySem.W.keepIn X.K (.ref f) = true)
    (b : Binds X.K fd ps ds) (hd : Vals dvs ds) (hx : Passes CX X E) (nodb : (x == ("__debug__" : Str)) = false := by decide) : PE X (.Call (.Name x p) [] [] pos) (tCall sp dvs E tNil) := by
  refine ⟨fun pins s σ H Q I0 hh => ?_⟩
  refine wpAny_Call_Name_kw (ld_glob I0 hg hm ?_ nodb)
  have r2 : Vals ([] ++ dvs) ([] ++ ds) := hd
  have hl : ([] ++ ds).length = ps.length := by rw [← r2.length]; exact F.ln _ _ _ _ hh
  refine PySem.W.callWith_K0 I0.kIn kp ?_
  refine wpAny_call (codeAny_mono (F.go X.A X.stack s H ⟨[], []⟩ ([] ++ ds) ([] ++ dvs) Q E gg room I0.env0 (b s [] I0.kIn hl) r2 hh) fun res s' hq => ?_)
  cases res with
  | error e => exact hx pins σ H s e s' I0 hq
  | ok fl =>
    cases fl with
    | ret u => exact I0.after hq
    | next => exact hq.elim
    | brk => exact hq.elim
    | cont => exact hq.elim
end
section
variable {X : Cx} {T id : String} {name : Str} {r : V → List V → Hp → VK → Prop} {o e : Expr} {es : List Expr} {to : TE} {t : TA} {apos cpos : Pos} {K : PySem.W.Frag}
/-- a method's call where each side condition is written -/
theorem pe_bmX (hK : X.K = K) (pa : PlainAttrs T) (slot : Slot T name id) (hty : typeOf (.builtin id) = pure (.type "method_descriptor")) (hm : MtR X id r) (ho : PE X o to) (ha : PA X (e :: es) t)
    (c1 : attributeBase o name X.env (eval o X.env) = eval o X.env)
    (c2 : ((backTo cpos (starEach (e :: es) X.env)).all (fun x => !x.1) && (backToKw cpos (keywordEach [] X.env)).all (fun x => x.1.isSome) && decide ((e :: es).length + ([] : List Keyword).length + (if ([] : List Keyword).isEmpty then 0 else 1) < 30)) = true)
    (c3 : (apos.endLine == cpos.line) = true) (c4 : starEach (e :: es) X.env = (false, eval e X.env) :: starEach es X.env) (c5 : (backTo cpos (starEach es X.env)).any (·.1) = false) :
    PE X (.Call (.Attribute o name apos) (e :: es) [] cpos) (tBM K T r to t) := by
  subst hK
  exact pe_bm pa slot hty hm ho ha c1 c2 c3 c4 c5
end
theorem sameUp {H H1 : Hp} {p : Addr} {o : HO} (s : Same H H1) (hp : H p = none) : Same H (upd H1 p o) := fun b u e => by
  rw [upd_ne (ne_of_none e hp)]
  exact s b u e
theorem sameL {K : PySem.W.Frag} {H H' : Hp} {a : Addr} {xs : List V} (e : Same H H') (h : H a = some (.lst xs)) : SqL K H' a xs := SqL.of (e _ _ h)
/-- [x for x in l if c], l a list of texts, c told by x alone -/
theorem lc_pickL {K : PySem.W.Frag} {a : Addr} {xs : List Str} {j : Nat} {tt : TT} {te : TE} {vs : List Nat} {σ : L2.St} {H1 : Hp} {D : Addr} {Qd : Hp → Prop} (p : Str → Bool) (hL : H1 a = some (.lst (xs.map V.str))) (hz : xs.length ≤ 1000) (hD : H1 D = none)
    (hw : ∀ x : V, wipe ((wipe σ vs).set j (some x)) vs = wipe σ vs)
    (ht : ∀ (x : Str) (H2 : Hp) (Q : Bool → Hp → Prop), x ∈ xs → Same H1 H2 → (∀ H3, Same H2 H3 → Q (p x) H3) → tt ((wipe σ vs).set j (some (.str x))) H2 Q)
    (he : ∀ (x : Str) (H2 : Hp) (Q : VK), x ∈ xs → Same H1 H2 → Q (.str x) H2 → te ((wipe σ vs).set j (some (.str x))) H2 Q)
    (hd : ∀ H, Same H1 H → H D = some (.lst ((xs.filter p).map V.str)) → Qd H) :
    ∃ W : Nat → Nat → Hp → Prop, (∃ m, W 0 m (L2.upd H1 D (.lst []))) ∧ ∀ i m H, W i m H →
      ((Itl K a).stop i H ∧ Qd H) ∨ ((Itl K a).go i H ∧ ∃ Nx : Hp → Prop, (∀ H', Nx H' → ∃ m', m' < m ∧ W (i + 1) m' H') ∧ ∀ x H', (Itl K a).yld i H x H' → gName j x (wipe σ vs) H' fun σ2 H2 => wipe σ2 vs = wipe σ vs ∧ tt σ2 H2 fun b H3 =>
        if b = true then te σ2 H3 fun y H4 => ∃ acc, H4 D = some (.lst acc) ∧ acc.length < sizeLine ∧ Nx (L2.upd H4 D (.lst (acc ++ [y]))) else Nx H3) := by
  refine lc_list (xs := xs.map V.str) (fun i H => Same H1 H ∧ H D = some (.lst (((xs.take i).filter p).map V.str))) ⟨sameNew hD, upd_same⟩ (fun i H _ q => sameL q.1 hL) ?_ ?_
  · rintro i x H hx ⟨s, hH⟩
    obtain ⟨z, hz1, rfl⟩ := mapS_at hx
    have mem := List.mem_of_getElem? hz1
    refine ⟨hw _, ?_⟩
    refine ht z H _ mem s fun H3 s3 => ?_
    have step := pick_succ (p := p) hz1
    cases c : p z with
    | false =>
      rw [c] at step
      refine (if_neg (by decide)).mpr ?_
      refine ⟨s.trans s3, ?_⟩
      rw [step]
      simpa using s3 _ _ hH
    | true =>
      rw [c] at step
      refine (if_pos rfl).mpr ?_
      refine he z H3 _ mem (s.trans s3) ?_
      refine ⟨_, s3 _ _ hH, small1000 ?_, ?_, ?_⟩
      · have l1 := List.length_filter_le p (xs.take i)
        rw [List.length_take] at l1
        rw [List.length_map]
        omega
      · exact sameUp (s.trans s3) hD
      · rw [upd_same, step, List.map_append]
        rfl
  · rintro H ⟨s, hH⟩
    rw [List.length_map, List.take_length] at hH
    exact hd H s hH
theorem valV_mapS {α : Type} {f : α → V} {z : Str} : ∀ {l : List (Str × α)}, valV (l.map fun q => ((.inr q.1 : Key), f q.2)) (.inr z : Key) = (l.lookup z).map f
  | [] => rfl
  | (k, v) :: l => by
    have ih := valV_mapS (f := f) (z := z) (l := l)
    rw [List.map_cons]
    by_cases c : k = z
    · subst c
      rw [valV_pos rfl]
      simp [List.lookup]
    · rw [valV_neg (fun q => c (Sum.inr.inj q)), ih]
      have e : (z == k) = false := by simpa using fun q : z = k => c q.symm
      simp [List.lookup, e]
theorem putK_le {κ : Type} [DecidableEq κ] (c : List (κ × V)) (k : κ) (x : V) : (putK c k x).length ≤ c.length + 1 := by
  unfold putK
  split <;> simp
theorem dget_of {H : Hp} {a : Addr} {kvs : List (Key × V)} {z : Str} {v : V} (e : H a = some (.dK kvs)) (h : valV kvs (.inr z : Key) = some v) : DGet H a (.str z) (some v) := by
  rw [← h]
  exact DGet.k (k := .inr z) e
theorem yesR {σ : L2.St} {H : Hp} {k : Bool → Hp → Prop} (h : k true H) : tYes σ H k := h
theorem dput_new {H : Hp} {a : Addr} {kvs : List (Key × V)} {z : Str} {v : V} (e : H a = some (.dK kvs)) (hl : kvs.length ≤ 1000) (hn : valV kvs (.inr z : Key) = none) : DPut H a (.str z) v (L2.upd H a (.dK (kvs ++ [(.inr z, v)]))) := by
  have g := DPut.k (k := (.inr z : Key)) (v := v) e (small1000 hl)
  rw [putK_new v hn] at g
  exact g
theorem int_dec (x y : Int) : decide (V.int x = V.int y) = decide (x = y) := decide_eq_decide.mpr ⟨V.int.inj, fun e => congrArg V.int e⟩
theorem bl_dec (x y : Bool) : decide (V.bl x = V.bl y) = decide (x = y) := decide_eq_decide.mpr ⟨V.bl.inj, fun e => congrArg V.bl e⟩
end BR

/-! ### the conditions and the outcomes of words -/
namespace BR
open PySem PySem.Spec PyProof.Rows L2
def outs : List Str := ["E", "LB", "GA", "GB", "LA"]
def tabC : List (Str × List Str) := [("e", ["E"]), ("ne", ["LB", "GA", "GB", "LA"]), ("l", ["LB", "LA"]), ("le", ["E", "LB", "LA"]), ("g", ["GA", "GB"]), ("ge", ["E", "GA", "GB"]), ("b", ["LB", "GB"]), ("be", ["E", "LB", "GB"]), ("a", ["GA", "LA"]), ("ae", ["E", "GA", "LA"]), ("same", ["E", "LB", "GA"]), ("mixed", ["GB", "LA"])]
def mixedO (z : Str) : Bool := decide (z ∈ (["GB", "LA"] : List Str))
def compOuts (a b : Str) : List Str := if a = "E" then [b] else if b = "E" then [a] else if mixedO a != mixedO b then (if mixedO a then [a] else [b]) else if a ≠ b then ["E", "LB", "GA"] else if mixedO a then [] else [a]
def Wd (wd x : Int) : Prop := 0 ≤ x ∧ x < 2 ^ wd.toNat
/-- how two words stand -/
inductive Ord5 (wd x y : Int) : Str → Prop
  | e : x = y → sv wd x = sv wd y → (sv wd x < 0 ↔ sv wd y < 0) → Ord5 wd x y "E"
  | lb : x < y → sv wd x < sv wd y → (sv wd x < 0 ↔ sv wd y < 0) → Ord5 wd x y "LB"
  | ga : y < x → sv wd y < sv wd x → (sv wd x < 0 ↔ sv wd y < 0) → Ord5 wd x y "GA"
  | gb : x < y → sv wd y < sv wd x → ¬ sv wd x < 0 → sv wd y < 0 → Ord5 wd x y "GB"
  | la : y < x → sv wd x < sv wd y → sv wd x < 0 → ¬ sv wd y < 0 → Ord5 wd x y "LA"
theorem ord5 {wd x y : Int} (h : 1 ≤ wd) (hx : Wd wd x) (hy : Wd wd y) : Ord5 wd x y (oc wd x y) := by
  have e := two_half h
  have p := pow_pos (wd - 1).toNat
  obtain ⟨x0, x1⟩ := hx
  obtain ⟨y0, y1⟩ := hy
  unfold oc
  by_cases c : x = y
  · rw [if_pos c]
    subst c
    exact .e rfl rfl Iff.rfl
  rw [if_neg c]
  by_cases d : sv wd x < sv wd y
  · rw [if_pos d]
    by_cases f : x < y
    · rw [if_pos f]
      refine .lb f d ?_
      unfold sv at d ⊢
      split at d <;> split at d <;> constructor <;> intro _ <;> omega
    · rw [if_neg f]
      refine .la (by omega) d ?_ ?_ <;> (unfold sv at d ⊢; split at d <;> split at d <;> omega)
  · rw [if_neg d]
    by_cases f : x < y
    · rw [if_pos f]
      refine .gb f ?_ ?_ ?_ <;> (unfold sv at d ⊢; split at d <;> split at d <;> omega)
    · rw [if_neg f]
      refine .ga (by omega) ?_ ?_
      · unfold sv at d ⊢; split at d <;> split at d <;> omega
      · unfold sv at d ⊢; split at d <;> split at d <;> constructor <;> intro _ <;> omega
theorem oc_in {wd x y : Int} (h : 1 ≤ wd) (hx : Wd wd x) (hy : Wd wd y) : oc wd x y ∈ outs := by
  have o := ord5 h hx hy
  generalize oc wd x y = z at o
  cases o <;> decide +kernel
theorem comp_ok {wd x y z : Int} (h : 1 ≤ wd) (hx : Wd wd x) (hy : Wd wd y) (hz : Wd wd z) : oc wd x z ∈ compOuts (oc wd x y) (oc wd y z) := by
  have o1 := ord5 h hx hy
  have o2 := ord5 h hy hz
  have o3 := ord5 h hx hz
  generalize oc wd x y = a at o1
  generalize oc wd y z = b at o2
  generalize oc wd x z = c at o3
  cases o1 <;> cases o2 <;> cases o3 <;> first | decide +kernel | (exfalso; omega)
/-- the truth of a condition by its meaning -/
def truV (wd x y : Int) : List (Str × Bool) := [("e", decide (x = y)), ("ne", !decide (x = y)), ("l", decide (sv wd x < sv wd y)), ("le", decide (sv wd x ≤ sv wd y)), ("g", decide (sv wd x > sv wd y)),
  ("ge", decide (sv wd x ≥ sv wd y)), ("b", decide (x < y)), ("be", decide (x ≤ y)), ("a", decide (x > y)), ("ae", decide (x ≥ y)), ("same", decide (decide (sv wd x < 0) = decide (sv wd y < 0))), ("mixed", !decide (decide (sv wd x < 0) = decide (sv wd y < 0)))]
theorem tab_cases {z : Str} {os : List Str} (h : tabC.lookup z = some os) : (z = "e" ∧ os = (["E"] : List Str)) ∨ (z = "ne" ∧ os = (["LB", "GA", "GB", "LA"] : List Str)) ∨ (z = "l" ∧ os = (["LB", "LA"] : List Str)) ∨ (z = "le" ∧ os = (["E", "LB", "LA"] : List Str)) ∨ (z = "g" ∧ os = (["GA", "GB"] : List Str)) ∨ (z = "ge" ∧ os = (["E", "GA", "GB"] : List Str)) ∨ (z = "b" ∧ os = (["LB", "GB"] : List Str)) ∨ (z = "be" ∧ os = (["E", "LB", "GB"] : List Str)) ∨ (z = "a" ∧ os = (["GA", "LA"] : List Str)) ∨ (z = "ae" ∧ os = (["E", "GA", "LA"] : List Str)) ∨ (z = "same" ∧ os = (["E", "LB", "GA"] : List Str)) ∨ (z = "mixed" ∧ os = (["GB", "LA"] : List Str)) := by
  have key : ∀ {l : List (Str × List Str)}, l.lookup z = some os → (z, os) ∈ l := by
    intro l
    induction l with
    | nil => intro h; cases h
    | cons p l ih =>
      obtain ⟨k, v⟩ := p
      intro h
      by_cases c : z = k
      · subst c
        simp [List.lookup] at h
        subst h
        exact List.mem_cons_self
      · have e : (z == k) = false := by simpa using c
        simp only [List.lookup, e] at h
        exact List.mem_cons_of_mem _ (ih h)
  have m := key h
  simpa [tabC] using m
theorem truV_ok {wd x y : Int} {z : Str} {os : List Str} (h : 1 ≤ wd) (hx : Wd wd x) (hy : Wd wd y) (hz : tabC.lookup z = some os) : (truV wd x y).lookup z = some (decide (oc wd x y ∈ os)) := by
  have o1 := ord5 h hx hy
  generalize oc wd x y = a at o1
  have tr : ∀ {p : Prop} [Decidable p] {b : Bool}, (p ↔ b = true) → decide p = b := fun {p} _ {b} h => by
    cases b
    · exact decide_eq_false fun q => absurd (h.mp q) (by decide)
    · exact decide_eq_true (h.mpr rfl)
  rcases tab_cases hz with ⟨rfl, rfl⟩ | ⟨rfl, rfl⟩ | ⟨rfl, rfl⟩ | ⟨rfl, rfl⟩ | ⟨rfl, rfl⟩ | ⟨rfl, rfl⟩ | ⟨rfl, rfl⟩ | ⟨rfl, rfl⟩ | ⟨rfl, rfl⟩ | ⟨rfl, rfl⟩ | ⟨rfl, rfl⟩ | ⟨rfl, rfl⟩
  · refine congrArg some ((?_ : decide (x = y) = _)); cases o1 <;> first | exact (decide_eq_true (by omega)).trans (by decide +kernel) | exact (decide_eq_false (by omega)).trans (by decide +kernel)
  · refine congrArg some ((?_ : (!decide (x = y)) = _)); cases o1 <;> first | exact (congrArg not (decide_eq_true (by omega))).trans (by decide +kernel) | exact (congrArg not (decide_eq_false (by omega))).trans (by decide +kernel)
  · refine congrArg some ((?_ : decide (sv wd x < sv wd y) = _)); cases o1 <;> first | exact (decide_eq_true (by omega)).trans (by decide +kernel) | exact (decide_eq_false (by omega)).trans (by decide +kernel)
  · refine congrArg some ((?_ : decide (sv wd x ≤ sv wd y) = _)); cases o1 <;> first | exact (decide_eq_true (by omega)).trans (by decide +kernel) | exact (decide_eq_false (by omega)).trans (by decide +kernel)
  · refine congrArg some ((?_ : decide (sv wd x > sv wd y) = _)); cases o1 <;> first | exact (decide_eq_true (by omega)).trans (by decide +kernel) | exact (decide_eq_false (by omega)).trans (by decide +kernel)
  · refine congrArg some ((?_ : decide (sv wd x ≥ sv wd y) = _)); cases o1 <;> first | exact (decide_eq_true (by omega)).trans (by decide +kernel) | exact (decide_eq_false (by omega)).trans (by decide +kernel)
  · refine congrArg some ((?_ : decide (x < y) = _)); cases o1 <;> first | exact (decide_eq_true (by omega)).trans (by decide +kernel) | exact (decide_eq_false (by omega)).trans (by decide +kernel)
  · refine congrArg some ((?_ : decide (x ≤ y) = _)); cases o1 <;> first | exact (decide_eq_true (by omega)).trans (by decide +kernel) | exact (decide_eq_false (by omega)).trans (by decide +kernel)
  · refine congrArg some ((?_ : decide (x > y) = _)); cases o1 <;> first | exact (decide_eq_true (by omega)).trans (by decide +kernel) | exact (decide_eq_false (by omega)).trans (by decide +kernel)
  · refine congrArg some ((?_ : decide (x ≥ y) = _)); cases o1 <;> first | exact (decide_eq_true (by omega)).trans (by decide +kernel) | exact (decide_eq_false (by omega)).trans (by decide +kernel)
  · have g : ∀ b, ((sv wd x < 0 ↔ sv wd y < 0) ↔ b = true) → decide (decide (sv wd x < 0) = decide (sv wd y < 0)) = b := fun b hb => tr ⟨fun q => hb.mp (decide_eq_decide.mp q), fun q => decide_eq_decide.mpr (hb.mpr q)⟩
    refine congrArg some ((?_ : decide (decide (sv wd x < 0) = decide (sv wd y < 0)) = _))
    refine g _ ?_
    cases o1 <;> first | exact ⟨fun _ => by decide +kernel, fun _ => by omega⟩ | exact ⟨fun q => by exfalso; omega, fun q => absurd q (by decide +kernel)⟩
  · have g : ∀ b, ((sv wd x < 0 ↔ sv wd y < 0) ↔ b = false) → (!decide (decide (sv wd x < 0) = decide (sv wd y < 0))) = b := fun b hb => by
      cases b
      · rw [tr (b := true) ⟨fun q => rfl, fun q => decide_eq_decide.mpr (hb.mpr rfl)⟩]
        rfl
      · rw [tr (b := false) ⟨fun q => absurd (hb.mp (decide_eq_decide.mp q)) (by decide), fun q => absurd q (by decide)⟩]
        rfl
    refine congrArg some ((?_ : (!decide (decide (sv wd x < 0) = decide (sv wd y < 0))) = _))
    refine g _ ?_
    cases o1 <;> first | exact ⟨fun _ => by decide +kernel, fun _ => by omega⟩ | exact ⟨fun q => by exfalso; omega, fun q => absurd q (by decide +kernel)⟩
/-! sets of outcomes -/
def allSets : List (List Str) := outs.foldr (fun x r => r.map (x :: ·) ++ r) [[]]
theorem pick_mem (f : Str → Bool) : outs.filter f ∈ allSets := by
  have g : ∀ l : List Str, l.filter f ∈ l.foldr (fun x r => r.map (x :: ·) ++ r) [[]] := by
    intro l
    induction l with
    | nil => exact List.mem_singleton.mpr rfl
    | cons x l ih =>
      rw [List.foldr_cons, List.filter_cons]
      cases f x
      · exact List.mem_append_right _ ih
      · exact List.mem_append_left _ (List.mem_map.mpr ⟨_, ih, rfl⟩)
  exact g outs
def conds : List Str := ["e", "ne", "l", "le", "g", "ge", "b", "be", "a", "ae", "same", "mixed"]
def outsOf (z : Str) : List Str := (tabC.lookup z).getD []
def dueOf (s : List Str) : List Str := conds.filter fun c => decide (outsOf c = s)
theorem due_ok (f : Str → Bool) : (dueOf (outs.filter f)).length ≤ 1 ∧ (tabC.find? fun q => decide (q.2 = outs.filter f)).map (·.1) = (dueOf (outs.filter f)).head? := by
  have : ∀ s ∈ allSets, (dueOf s).length ≤ 1 ∧ (tabC.find? fun q => decide (q.2 = s)).map (·.1) = (dueOf s).head? := by decide +kernel
  exact this _ (pick_mem f)
theorem cond_back : ∀ c ∈ conds, ((tabC.find? fun q => decide (q.2 = outs.filter fun o => decide (o ∈ outsOf c))).isSome = true) ∧ tabC.lookup c = some (outsOf c) ∧ (∀ z ∈ outsOf c, z ∈ outs) ∧ (outsOf c).length ≤ 5 := by decide +kernel
/-! all triples of words of three bits -/
def lsOf (n : Nat) (a b : Str) : List Str := (List.range n).filterMap fun i => if oc 3 ((i / 64 : Nat) : Int) ((i / 8 % 8 : Nat) : Int) = a ∧ oc 3 ((i / 8 % 8 : Nat) : Int) ((i % 8 : Nat) : Int) = b then some (oc 3 ((i / 64 : Nat) : Int) ((i % 8 : Nat) : Int)) else none
theorem ls_all : ∀ a ∈ outs, ∀ b ∈ outs, (outs.filter fun o => decide (o ∈ lsOf 512 a b)) = compOuts a b := by decide +kernel
theorem ls_len (n : Nat) (a b : Str) : (lsOf n a b).length ≤ n := by
  unfold lsOf
  exact Nat.le_trans (List.length_filterMap_le _ _) (by simp)
theorem idx_ok : ∀ z ∈ outs, (outs.map V.str)[outs.idxOf z]? = some (.str z) ∧ ∀ (m : Nat) (z' : V), m < outs.idxOf z → (outs.map V.str)[m]? = some z' → eqV z' (.str z) = false := by
  intro z hz
  have : z = "E" ∨ z = "LB" ∨ z = "GA" ∨ z = "GB" ∨ z = "LA" := by simpa [outs] using hz
  rcases this with rfl | rfl | rfl | rfl | rfl
  · exact ⟨rfl, fun m z' h => absurd h (Nat.not_lt_zero m)⟩
  · refine ⟨rfl, fun m z' h e => ?_⟩
    have h' : m < 1 := h
    obtain rfl : m = 0 := by omega
    cases e
    decide +kernel
  · refine ⟨rfl, fun m z' h e => ?_⟩
    have h' : m < 2 := h
    have : m = 0 ∨ m = 1 := by omega
    rcases this with rfl | rfl <;> cases e <;> decide +kernel
  · refine ⟨rfl, fun m z' h e => ?_⟩
    have h' : m < 3 := h
    have : m = 0 ∨ m = 1 ∨ m = 2 := by omega
    rcases this with rfl | rfl | rfl <;> cases e <;> decide +kernel
  · refine ⟨rfl, fun m z' h e => ?_⟩
    have h' : m < 4 := h
    have : m = 0 ∨ m = 1 ∨ m = 2 ∨ m = 3 := by omega
    rcases this with rfl | rfl | rfl | rfl <;> cases e <;> decide +kernel
theorem spots_up : ∀ c ∈ conds, ((outsOf c).map fun z => ((outs.idxOf z : Nat) : Int)).Pairwise (· ≤ ·) := by decide +kernel
end BR

/-! ### sets of ints out of a tuple, how many there are, max of a tuple of two -/
namespace BR
open PySem PySem.Spec PyProof.Rows L2
def rSetOf (K : PySem.W.Frag) (w : World) : List V → Hp → VK → Prop := fun xs H Q => ∃ (a : Addr) (ns : List Int), xs = [.ref a] ∧ SqT K H a (ns.map V.int) ∧ ns.length ≤ 1000 ∧
  ∀ (p : Addr) (n : Nat) (ks : List Int), H p = none → ks.Nodup → (∀ k, k ∈ ks ↔ k ∈ ns) → ks.length = n → Q (.ref p) (L2.upd H p (SetO w p (fun j => decide (j ∈ ns)) n))
section
variable {X : Cx}
theorem cr_setOf (hc : X.calm = true) : CallR X (.type "set") (rSetOf X.K X.w) := by
  intro pins s σ H xs us Q I r h
  obtain ⟨a, ns, rfl, hq, hz, q⟩ := h
  rw [Vals.ref1 r]
  obtain ⟨its, rv, pt, _⟩ := I.tuple hq
  refine call_set_tupI ns (I.ok.hd hc) (show s.heap.IsTuple a its.toArray from pt) (by simpa using rv.ints) (by unfold scanBound; omega) fun h' tk c R1 hcn k => ?_
  have ⟨o, es, ep, t, ho, hex, hdt, g, nd, hm2, hb, hf, hn, hr, hl2⟩ := R1
  refine ⟨.ref _, _, I.laid (t' := tk) (fun b u e => k b u e) (Nat.le_refl _) (setO_new R1), rfl, q _ c (es.toList.map keyOf) (I.hok.fresh (Nat.le_refl _)) nd (fun j => ?_) ?_⟩
  · rw [← hm2 j, decide_eq_true_eq]
  · rw [List.length_map, Array.length_toList, hn]
theorem call_len_setO : CallR X (.builtin "len") (fun xs H Q => ∃ (a : Addr) (S : Int → Bool) (n : Nat), xs = [.ref a] ∧ H a = some (SetO X.w a S n) ∧ Q (.int n) H) := by
  intro pins s σ H xs us Q I r h
  obtain ⟨a, S, n, rfl, ha, q⟩ := h
  rw [Vals.ref1 r]
  obtain ⟨o, es, ep, t, ho, hex, hdt, g, nd, hm2, hb, hf, hn, hr, hl2⟩ := setO_get I ha
  refine call_len_set ho hex hdt hf (by unfold scanBound at hb; omega) ⟨.int n, H, I.tok _, ⟨_, by rw [hn]⟩, q⟩
theorem met_nodup (val : Nat → Int) : ∀ i, (firstMet val i).Nodup
  | 0 => by rw [firstMet_zero]; exact List.nodup_nil
  | i + 1 => by
    rw [firstMet_succ]
    unfold step_dedup
    split
    · exact met_nodup val i
    · rename_i h
      refine List.nodup_append.mpr ⟨met_nodup val i, by simp, fun a ha b hb => ?_⟩
      rw [List.mem_singleton] at hb
      subst hb
      intro e
      subst e
      exact h (List.any_eq_true.mpr ⟨_, ha, by simp⟩)
theorem met_mem {ns : List Int} {k : Int} : k ∈ firstMet (fun i => ns.getD i 0) ns.length ↔ k ∈ ns := by
  have e := firstMet_any (fun i => ns.getD i 0) ns.length k
  have e2 : (List.range ns.length).map (fun i => ns.getD i 0) = ns := by
    apply List.ext_getElem?
    intro i
    rw [List.getElem?_map]
    by_cases h : i < ns.length
    · rw [List.getElem?_range h]
      simp [List.getD, h]
    · rw [List.getElem?_eq_none (by simpa using Nat.le_of_not_lt h), List.getElem?_eq_none (Nat.le_of_not_lt h)]
      rfl
  rw [e2] at e
  have m : ∀ l : List Int, l.any (· == k) = true ↔ k ∈ l := fun l => by simp
  rw [← m, ← m, e]
/-- len(set(l)), l a list of ints -/
def tLenSetL (K : PySem.W.Frag) (ta : TE) : TE := fun σ H Q => ta σ H fun x H1 => ∃ (l : Addr) (ns : List Int), x = V.ref l ∧ SqL K H1 l (ns.map V.int) ∧ ns.length < 64 ∧ ∀ (ks : List Int), ks.Nodup → (∀ k, k ∈ ks ↔ k ∈ ns) → Q (.int ks.length) H1
theorem pe_lenSetL {a : Expr} {ta : TE} {p p2 q pos : Pos} {K : PySem.W.Frag} (hK : X.K = K) (hc : X.calm = true) (hg : Gl X "len") (hm : X.mg "len" = none) (hg2 : Gl X "set") (hm2 : X.mg "set" = none) (ha : PE X a ta)
    (na : starEach [a] X.env = (false, eval a X.env) :: starEach [] X.env) : PE X (.Call (.Name "len" p) [.Call (.Name "set" p2) [a] [] q] [] pos) (tLenSetL K ta) := by
  subst hK
  refine ⟨fun pins s σ H Q I h => ?_⟩
  refine Call_ (ld_blt I hg hm PySem.boot_len ?_)
  refine callWith_builtin1 (args_cons ?_ rfl) rfl rfl
  refine Call_ (ld_blt I hg2 hm2 boot_set ?_)
  refine callWith_type1 (args_cons (thn (ha.run pins s σ H _ I h) ?_) na) na rfl
  rintro v s1 ⟨x, H1, I1, r1, l, ns, rfl, hq, hz, q1⟩
  refine args_nil ?_
  cases r1
  obtain ⟨its, r, pl, _⟩ := I1.list hq
  have hl : its.toArray.size = ns.length := by rw [List.size_toArray, ← r.length, List.length_map]
  refine call_set_list (I1.ok.hd hc) pl.isList (ns := ns) (by simpa using r.ints) (by unfold scanBound; omega) fun h' tk hS hk => ?_
  rw [hl] at hS
  refine args_nil ?_
  obtain ⟨o, es, ep, t, ho, hex, hd, _, _, _, hf, hn⟩ := hS
  have I2 : Inv X pins σ H1 { s1 with heap := h', toks := tk } := I1.kept fun b u e => hk b u (Heap.lt_size e) e
  have lz := firstMet_length_le (fun i => ns.getD i 0) ns.length
  refine call_len_set ho hex hd hf (by omega) ⟨.int (firstMet (fun i => ns.getD i 0) ns.length).length, H1, I2.tok _, ⟨_, by rw [hn]⟩, q1 _ (met_nodup _ _) fun k => met_mem⟩
/-- max of a tuple of two ints -/
theorem cr_maxT2 (hc : X.calm = true) (hu : X.A.units + 64 < cLine) : CallR X (.builtin "max") (fun xs H Q => ∃ (a : Addr) (i j : Int), xs = [.ref a] ∧ SqT X.K H a [.int i, .int j] ∧ Q (.int (if i < j then j else i)) H) := by
  intro pins s σ H xs us Q I r h
  obtain ⟨a, i, j, rfl, hq, q⟩ := h
  rw [Vals.ref1 r]
  obtain ⟨its, rv, pt, _⟩ := I.tuple hq
  obtain ⟨as, ra⟩ := Dp.readsAll I [.int i, .int j] _ _ (.cons (.int i) (.cons (.int j) .nil)) rv
  refine PySem.W.max_tuple_data (x := .int i) (xs := [.int j]) (I.ok.hd hc) (show s.heap.IsTuple a its.toArray from pt) (by simpa using ra) (⟨fun x hx y hy => by rcases List.mem_cons.mp hx with rfl | hx <;> rcases List.mem_cons.mp hy with rfl | hy <;> (try rcases List.mem_singleton.mp hx with rfl) <;> (try rcases List.mem_singleton.mp hy with rfl) <;> rfl, fun x hx => by rcases List.mem_cons.mp hx with rfl | hx <;> (try rcases List.mem_singleton.mp hx with rfl) <;> exact fun z => nomatch z⟩) (by show X.A.units + 1 + 0 < cLine; omega) fun k v h' tk bs _ hr hk => ?_
  have e : PySem.W.maxD (.int i) [.int j] = .int (if i < j then j else i) := by
    show (if PySem.W.dataLt (.int i) (.int j) then PyData.int j else .int i) = _
    rw [PySem.W.dataLt_int]
    by_cases c : i < j
    · rw [if_pos c, if_pos (decide_eq_true c)]
    · rw [if_neg c, if_neg (fun z => c (of_decide_eq_true z))]
  rw [e] at hr
  cases hr
  exact ⟨.int _, H, I.kept (t' := tk) hk, ⟨_, rfl⟩, q⟩
end
end BR

/-! ### rankings: the mathematics -/
namespace BR
open PySem PySem.Spec PyProof.Rows L2
def ins1 (x : Int) : List Int → List Int
  | [] => [x]
  | y :: l => if x < y then x :: y :: l else if x = y then y :: l else y :: ins1 x l
def srt : List Int → List Int
  | [] => []
  | x :: l => ins1 x (srt l)
theorem ins1_mem {x k : Int} : ∀ {l : List Int}, k ∈ ins1 x l ↔ k = x ∨ k ∈ l
  | [] => by simp [ins1]
  | y :: l => by
    unfold ins1
    split
    · simp
    · split
      · rename_i h
        subst h
        simp
      · rw [List.mem_cons, ins1_mem (l := l), List.mem_cons]
        constructor <;> (intro h; rcases h with h | h | h <;> simp [h])
theorem ins1_up {x : Int} : ∀ {l : List Int}, l.Pairwise (· < ·) → (ins1 x l).Pairwise (· < ·)
  | [], _ => by simp [ins1]
  | y :: l, h => by
    obtain ⟨h1, h2⟩ := List.pairwise_cons.mp h
    unfold ins1
    split
    · rename_i c
      refine List.pairwise_cons.mpr ⟨fun z hz => ?_, h⟩
      rcases List.mem_cons.mp hz with rfl | hz
      · exact c
      · exact Int.lt_trans c (h1 z hz)
    · split
      · exact h
      · rename_i c d
        refine List.pairwise_cons.mpr ⟨fun z hz => ?_, ins1_up h2⟩
        rcases ins1_mem.mp hz with rfl | hz
        · omega
        · exact h1 z hz
theorem srt_mem {k : Int} : ∀ {l : List Int}, k ∈ srt l ↔ k ∈ l
  | [] => Iff.rfl
  | x :: l => by rw [srt, ins1_mem, srt_mem, List.mem_cons]
theorem srt_up : ∀ l : List Int, (srt l).Pairwise (· < ·)
  | [] => .nil
  | x :: l => ins1_up (srt_up l)
theorem up_nodup {l : List Int} (h : l.Pairwise (· < ·)) : l.Nodup := h.imp fun h => Int.ne_of_lt h
/-- one list alone is in order and has these members -/
theorem up_one {a b : List Int} (ha : a.Pairwise (· < ·)) (hb : b.Pairwise (· < ·)) (h : ∀ k, k ∈ a ↔ k ∈ b) : a = b :=
  PySem.W.lks_uniq ((List.perm_ext_iff_of_nodup (up_nodup ha) (up_nodup hb)).mpr h) (ha.imp fun h => Int.le_of_lt h) (hb.imp fun h => Int.le_of_lt h)
theorem card_one {a b : List Int} (ha : a.Nodup) (hb : b.Nodup) (h : ∀ k, k ∈ a ↔ k ∈ b) : a.length = b.length := ((List.perm_ext_iff_of_nodup ha hb).mpr h).length_eq
def rk (l : List Int) (x : Int) : Nat := (l.filter fun y => decide (y < x)).length
theorem rk_le (l : List Int) (x : Int) : rk l x ≤ l.length := List.length_filter_le _ _
theorem rk_cons {y x : Int} {l : List Int} : rk (y :: l) x = (if y < x then 1 else 0) + rk l x := by
  unfold rk
  rw [List.filter_cons]
  by_cases h : y < x
  · rw [if_pos (decide_eq_true h), if_pos h, List.length_cons, Nat.add_comm]
  · rw [if_neg (fun z => h (of_decide_eq_true z)), if_neg h, Nat.zero_add]
theorem rk_mono {x y : Int} (h : x ≤ y) : ∀ l : List Int, rk l x ≤ rk l y
  | [] => Nat.le_refl _
  | z :: l => by
    have := rk_mono h l
    rw [rk_cons, rk_cons]
    split <;> split <;> omega
theorem rk_lt {x y : Int} (h : x < y) : ∀ {l : List Int}, x ∈ l → rk l x < rk l y
  | z :: l, m => by
    have w := rk_mono (Int.le_of_lt h) l
    rw [rk_cons, rk_cons]
    rcases List.mem_cons.mp m with rfl | m
    · rw [if_neg (Int.lt_irrefl _), if_pos h]
      omega
    · have := rk_lt h m
      split <;> split <;> omega
theorem rk_iff {l : List Int} {x y : Int} (hx : x ∈ l) (hy : y ∈ l) : (x < y ↔ rk l x < rk l y) ∧ (x = y ↔ rk l x = rk l y) := by
  rcases Int.lt_trichotomy x y with h | h | h
  · have := rk_lt h hx
    exact ⟨⟨fun _ => this, fun _ => h⟩, ⟨fun e => by omega, fun e => by omega⟩⟩
  · subst h
    exact ⟨⟨fun e => absurd e (Int.lt_irrefl _), fun e => absurd e (Nat.lt_irrefl _)⟩, ⟨fun _ => rfl, fun _ => rfl⟩⟩
  · have := rk_lt h hy
    exact ⟨⟨fun e => by omega, fun e => by omega⟩, ⟨fun e => by omega, fun e => by omega⟩⟩
theorem rk_cut {l : List Int} {x h : Int} (hx : x ∈ l) : x < h ↔ rk l x < rk l h := by
  constructor
  · exact fun e => rk_lt e hx
  · intro e
    refine Decidable.byContradiction fun n => ?_
    have := rk_mono (show h ≤ x by omega) l
    omega
/-- in a list in order the place is the rank -/
theorem rk_at : ∀ {l : List Int}, l.Pairwise (· < ·) → ∀ {j : Nat} {x : Int}, l[j]? = some x → rk l x = j
  | y :: l, h, 0, x, e => by
    cases e
    obtain ⟨h1, h2⟩ := List.pairwise_cons.mp h
    rw [rk_cons, if_neg (Int.lt_irrefl _), Nat.zero_add]
    unfold rk
    rw [List.filter_eq_nil_iff.mpr fun z hz => by have := h1 z hz; rw [decide_eq_true_eq]; omega]
    rfl
  | y :: l, h, j + 1, x, e => by
    obtain ⟨h1, h2⟩ := List.pairwise_cons.mp h
    have m : x ∈ l := List.mem_of_getElem? (show l[j]? = some x from e)
    rw [rk_cons, if_pos (h1 x m), rk_at h2 (show l[j]? = some x from e), Nat.add_comm]
theorem at_rk {l : List Int} (h : l.Pairwise (· < ·)) {x : Int} (m : x ∈ l) : l[rk l x]? = some x := by
  obtain ⟨j, hj, e⟩ := List.mem_iff_getElem.mp m
  have e2 : l[j]? = some x := by rw [List.getElem?_eq_getElem hj, e]
  rw [rk_at h e2]
  exact e2
/-- the ranks of words, the cut -/
def rks (xs : List Int) : List Int := xs.map fun x => ((rk (srt xs) x : Nat) : Int)
def ct (xs : List Int) (h : Int) : Int := ((rk (srt xs) h : Nat) : Int)
def IsRk (rs : List Int) (m : Nat) : Prop := ∀ k, k ∈ rs ↔ 0 ≤ k ∧ k < (m : Int)
theorem rks_is (xs : List Int) : IsRk (rks xs) (srt xs).length := fun k => by
  unfold rks
  rw [List.mem_map]
  constructor
  · rintro ⟨x, hx, rfl⟩
    have m := srt_mem.mpr hx
    have lt : rk (srt xs) x < (srt xs).length := (List.getElem?_eq_some_iff.mp (at_rk (srt_up xs) m)).1
    omega
  · rintro ⟨h0, h1⟩
    obtain ⟨j, rfl⟩ := Int.eq_ofNat_of_zero_le h0
    have hj : j < (srt xs).length := by omega
    have e : (srt xs)[j]? = some (srt xs)[j] := List.getElem?_eq_getElem hj
    exact ⟨_, srt_mem.mp (List.mem_of_getElem? e), by rw [rk_at (srt_up xs) e]⟩
theorem ct_le (xs : List Int) (h : Int) : 0 ≤ ct xs h ∧ ct xs h ≤ ((srt xs).length : Int) := by
  have := rk_le (srt xs) h
  unfold ct
  omega
/-- the ranks from 0 on -/
def rg (m : Nat) : List Int := (List.range m).map fun i => ((i : Nat) : Int)
theorem rg_up (m : Nat) : (rg m).Pairwise (· < ·) := by
  unfold rg
  rw [List.pairwise_map]
  exact List.pairwise_lt_range.imp fun h => by omega
theorem rg_mem {m : Nat} {k : Int} : k ∈ rg m ↔ 0 ≤ k ∧ k < (m : Int) := by
  unfold rg
  rw [List.mem_map]
  constructor
  · rintro ⟨i, hi, rfl⟩
    have := List.mem_range.mp hi
    omega
  · rintro ⟨h0, h1⟩
    obtain ⟨j, rfl⟩ := Int.eq_ofNat_of_zero_le h0
    exact ⟨j, List.mem_range.mpr (by omega), rfl⟩
theorem rg_len (m : Nat) : (rg m).length = m := by unfold rg; rw [List.length_map, List.length_range]
theorem isRk_srt {rs ks : List Int} {m : Nat} (h : IsRk rs m) (up : ks.Pairwise (· < ·)) (mem : ∀ k, k ∈ ks ↔ k ∈ rs) : ks = rg m := up_one up (rg_up m) fun k => by rw [mem, h k, rg_mem]
theorem isRk_card {rs ks : List Int} {m : Nat} (h : IsRk rs m) (nd : ks.Nodup) (mem : ∀ k, k ∈ ks ↔ k ∈ rs) : ks.length = m := by
  rw [card_one nd (up_nodup (rg_up m)) (fun k => by rw [mem, h k, rg_mem]), rg_len]
/-- as many different integers as lie between two -/
theorem few {l : List Int} {a b : Int} (nd : l.Nodup) (h : ∀ k ∈ l, a ≤ k ∧ k < b) : (l.length : Int) ≤ if a ≤ b then b - a else 0 := by
  by_cases c : a ≤ b
  · rw [if_pos c]
    obtain ⟨n, hn⟩ := Int.eq_ofNat_of_zero_le (show 0 ≤ b - a by omega)
    have p : (l.map fun k => k - a).Nodup := by
      rw [List.Nodup, List.pairwise_map]
      exact nd.imp fun h e => h (by omega)
    have s : ∀ k ∈ l.map (fun k => k - a), k ∈ rg n := fun k hk => by
      obtain ⟨z, hz, rfl⟩ := List.mem_map.mp hk
      have := h z hz
      exact rg_mem.mpr ⟨by omega, by omega⟩
    have q := card_one p ((up_nodup (rg_up n)).filter fun k => decide (k ∈ l.map fun k => k - a)) fun k => by
      rw [List.mem_filter, decide_eq_true_eq]
      exact ⟨fun z => ⟨s k z, z⟩, fun z => z.2⟩
    have u := List.length_filter_le (fun k => decide (k ∈ l.map fun k => k - a)) (rg n)
    rw [← q, List.length_map, rg_len] at u
    omega
  · rw [if_neg c]
    cases l with
    | nil => exact Int.le_refl 0
    | cons x l =>
      have := h x List.mem_cons_self
      omega
theorem ct_bounds {xs : List Int} {h : Int} (h0 : 0 ≤ h) (w : ∀ x ∈ xs, 0 ≤ x ∧ x < 2 * h) : ct xs h ≤ h ∧ ((srt xs).length : Int) - ct xs h ≤ h := by
  have nd := up_nodup (srt_up xs)
  have e1 := few (a := 0) (b := h) (l := (srt xs).filter fun y => decide (y < h)) (nd.filter _) fun k hk => by
    obtain ⟨m, c⟩ := List.mem_filter.mp hk
    exact ⟨(w k (srt_mem.mp m)).1, of_decide_eq_true c⟩
  have e2 := few (a := h) (b := 2 * h) (l := (srt xs).filter fun y => !decide (y < h)) (nd.filter _) fun k hk => by
    obtain ⟨m, c⟩ := List.mem_filter.mp hk
    have := (w k (srt_mem.mp m)).2
    have c2 : decide (k < h) = false := by simpa using c
    have := of_decide_eq_false c2
    omega
  have e3 : ((srt xs).filter fun y => decide (y < h)).length + ((srt xs).filter fun y => !decide (y < h)).length = (srt xs).length := by
    have := List.length_eq_countP_add_countP (fun y => decide (y < h)) (l := srt xs)
    rw [List.countP_eq_length_filter, List.countP_eq_length_filter] at this
    have q : (fun a : Int => decide (¬ (decide (a < h)) = true)) = fun y => !decide (y < h) := by
      funext y
      by_cases c : y < h <;> simp [c]
    rw [q] at this
    omega
  unfold ct rk
  rw [if_pos h0] at e1
  rw [if_pos (show h ≤ 2 * h by omega)] at e2
  omega
/-- the first words -/
def lw (h c r : Int) : Int := if r < c then r else h + r - c
theorem lw_up {h c r s : Int} (hc : c ≤ h) (l : r < s) : lw h c r < lw h c s := by
  unfold lw
  split <;> split <;> omega
theorem lw_inj {h c r s : Int} (hc : c ≤ h) (e : lw h c r = lw h c s) : r = s := by
  rcases Int.lt_trichotomy r s with l | l | l
  · have := lw_up hc l
    omega
  · exact l
  · have := lw_up hc l
    omega
theorem lw_word {h c r : Int} {m : Nat} (h0 : 0 ≤ c) (hc : c ≤ h) (hm : (m : Int) - c ≤ h) (r0 : 0 ≤ r) (r1 : r < m) : 0 ≤ lw h c r ∧ lw h c r < 2 * h := by
  unfold lw
  split <;> omega
theorem lw_cut {h c r : Int} (hc : c ≤ h) : lw h c r < h ↔ r < c := by
  unfold lw
  split <;> constructor <;> intro _ <;> omega
theorem srt_lw {rs : List Int} {m : Nat} {h c : Int} (hc : c ≤ h) (is : IsRk rs m) : srt (rs.map (lw h c)) = (rg m).map (lw h c) := by
  refine up_one (srt_up _) ?_ fun k => ?_
  · rw [List.pairwise_map]
    exact (rg_up m).imp fun l => lw_up hc l
  · rw [srt_mem, List.mem_map, List.mem_map]
    constructor
    · rintro ⟨r, hr, e⟩
      exact ⟨r, rg_mem.mpr ((is r).mp hr), e⟩
    · rintro ⟨r, hr, e⟩
      exact ⟨r, (is r).mpr (rg_mem.mp hr), e⟩
theorem rk_map {h c x : Int} (hc : c ≤ h) : ∀ l : List Int, rk (l.map (lw h c)) (lw h c x) = rk l x
  | [] => rfl
  | y :: l => by
    rw [List.map_cons, rk_cons, rk_cons, rk_map hc l]
    congr 1
    by_cases q : y < x
    · rw [if_pos q, if_pos (lw_up hc q)]
    · rw [if_neg q, if_neg (fun z => by
        rcases Int.lt_trichotomy x y with e | e | e
        · have := lw_up hc e
          omega
        · subst e
          omega
        · exact q e)]
theorem rk_mapc {h c : Int} (hc : c ≤ h) : ∀ l : List Int, rk (l.map (lw h c)) h = rk l c
  | [] => rfl
  | y :: l => by
    rw [List.map_cons, rk_cons, rk_cons, rk_mapc hc l]
    congr 1
    by_cases q : y < c
    · rw [if_pos q, if_pos ((lw_cut hc).mpr q)]
    · rw [if_neg q, if_neg (fun z => q ((lw_cut hc).mp z))]
theorem rk_rg {m : Nat} {c : Int} (h0 : 0 ≤ c) (h1 : c ≤ m) : ((rk (rg m) c : Nat) : Int) = c := by
  obtain ⟨n, rfl⟩ := Int.eq_ofNat_of_zero_le h0
  have e : (rg m).filter (fun y => decide (y < ((n : Nat) : Int))) = rg n := up_one ((rg_up m).filter _) (rg_up n) fun k => by
    rw [List.mem_filter, rg_mem, rg_mem, decide_eq_true_eq]
    omega
  unfold rk
  rw [e, rg_len]
/-- the first words have the ranking -/
theorem rks_lw {rs : List Int} {m : Nat} {h c : Int} (hc : c ≤ h) (c0 : 0 ≤ c) (cm : c ≤ m) (is : IsRk rs m) : rks (rs.map (lw h c)) = rs ∧ ct (rs.map (lw h c)) h = c := by
  have e := srt_lw hc is
  refine ⟨?_, ?_⟩
  · unfold rks
    rw [e, List.map_map]
    have : ∀ r ∈ rs, ((fun x => ((rk ((rg m).map (lw h c)) x : Nat) : Int)) ∘ lw h c) r = r := fun r hr => by
      obtain ⟨r0, r1⟩ := (is r).mp hr
      show ((rk ((rg m).map (lw h c)) (lw h c r) : Nat) : Int) = r
      rw [rk_map hc]
      exact rk_rg r0 (by omega)
    rw [List.map_congr_left this, List.map_id']
  · unfold ct
    rw [e, rk_mapc hc]
    exact rk_rg c0 cm
/-- and no word is less than the first one of its rank -/
theorem lw_least {xs : List Int} {h x : Int} (h0 : 0 ≤ h) (w : ∀ x ∈ xs, 0 ≤ x) (hx : x ∈ xs) : lw h (ct xs h) ((rk (srt xs) x : Nat) : Int) ≤ x := by
  have nd := up_nodup (srt_up xs)
  have m := srt_mem.mpr hx
  have cc := rk_cut (h := h) m
  unfold lw ct
  split
  · rename_i c
    have e := few (a := 0) (b := x) (l := (srt xs).filter fun y => decide (y < x)) (nd.filter _) fun k hk => by
      obtain ⟨m, c⟩ := List.mem_filter.mp hk
      exact ⟨w k (srt_mem.mp m), of_decide_eq_true c⟩
    rw [if_pos (w x hx)] at e
    unfold rk
    omega
  · rename_i c
    have xh : h ≤ x := by
      refine Decidable.byContradiction fun n => c ?_
      have := cc.mp (by omega)
      omega
    have e := few (a := h) (b := x) (l := (srt xs).filter fun y => decide (y < x) && !decide (y < h)) (nd.filter _) fun k hk => by
      obtain ⟨m, c⟩ := List.mem_filter.mp hk
      obtain ⟨c1, c2⟩ := Bool.and_eq_true_iff.mp c
      have c3 : decide (k < h) = false := by simpa using c2
      have := of_decide_eq_false c3
      exact ⟨by omega, of_decide_eq_true c1⟩
    rw [if_pos xh] at e
    have split3 : ∀ l : List Int, rk l x = rk l h + (l.filter fun y => decide (y < x) && !decide (y < h)).length := fun l => by
      induction l with
      | nil => rfl
      | cons y l ih =>
        rw [rk_cons, rk_cons, ih, List.filter_cons]
        by_cases q1 : y < h
        · have q2 : y < x := by omega
          simp only [q1, q2, decide_true, Bool.not_true, Bool.and_false, if_true]
          simp
          omega
        · by_cases q2 : y < x
          · simp [q1, q2]
            omega
          · simp [q1, q2]
    have := split3 (srt xs)
    omega
theorem lex_le {e r : Nat → Bool} {z : Bool} (hz : z = true) (hr : ∀ i, r i = true) : ∀ (k i : Nat), Ob.lexAt e r z i k = true
  | 0, _ => hz
  | k + 1, i => by
    rw [Ob.lexAt_succ]
    split
    · exact lex_le hz hr k (i + 1)
    · exact hr i
/-- outcomes by ranks are those of the words -/
theorem ocut_rk {xs : List Int} {h x y : Int} (hx : x ∈ xs) (hy : y ∈ xs) : ocut (ct xs h) ((rk (srt xs) x : Nat) : Int) ((rk (srt xs) y : Nat) : Int) = ocut h x y := by
  have mx := srt_mem.mpr hx
  have my := srt_mem.mpr hy
  obtain ⟨i1, i2⟩ := rk_iff mx my
  have cx := rk_cut (h := h) mx
  have cy := rk_cut (h := h) my
  unfold ocut ct
  have d1 : decide ((rk (srt xs) x : Int) < (rk (srt xs) h : Int)) = decide (x < h) := decide_eq_decide.mpr (by omega)
  have d2 : decide ((rk (srt xs) y : Int) < (rk (srt xs) h : Int)) = decide (y < h) := decide_eq_decide.mpr (by omega)
  rw [d1, d2]
  by_cases c : x = y
  · rw [if_pos c, if_pos (by have := i2.mp c; omega)]
  · rw [if_neg c, if_neg (fun z => c (i2.mpr (by omega)))]
    by_cases l : x < y
    · rw [if_pos l, if_pos (show (rk (srt xs) x : Int) < (rk (srt xs) y : Int) by have := i1.mp l; omega)]
    · rw [if_neg l, if_neg (show ¬ (rk (srt xs) x : Int) < (rk (srt xs) y : Int) from fun z => l (i1.mpr (by omega)))]
end BR
namespace BR
open PySem PySem.Spec PyProof.Rows L2
/-! ### comprehensions that choose ints; a ranking in the heap -/
theorem filt_succ {p : Int → Bool} {xs : List Int} {i : Nat} {z : Int} (h : xs[i]? = some z) : (xs.take (i + 1)).filter p = (xs.take i).filter p ++ (if p z then [z] else []) := by
  have e : xs.take (i + 1) = xs.take i ++ [z] := by
    rw [List.take_add_one, h]
    rfl
  rw [e, List.filter_append]
  congr 1
  cases c : p z <;> simp [List.filter, c]
section
variable {K : PySem.W.Frag} {a : Addr} {xs : List Int} {j : Nat} {tt : TT} {te : TE} {vs : List Nat} {σ : L2.St} {H1 : Hp} {D : Addr} {Qd : Hp → Prop}
theorem lc_filtL (p : Int → Bool) (hL : SqL K H1 a (xs.map V.int)) (hz : xs.length ≤ 1000) (hD : H1 D = none)
    (hw : ∀ x : V, wipe ((wipe σ vs).set j (some x)) vs = wipe σ vs)
    (ht : ∀ (x : Int) (H2 : Hp) (Q : Bool → Hp → Prop), x ∈ xs → Same H1 H2 → (∀ H3, Same H2 H3 → Q (p x) H3) → tt ((wipe σ vs).set j (some (.int x))) H2 Q)
    (he : ∀ (x : Int) (H2 : Hp) (Q : VK), x ∈ xs → Same H1 H2 → Q (.int x) H2 → te ((wipe σ vs).set j (some (.int x))) H2 Q)
    (hd : ∀ H, Same H1 H → H D = some (.lst ((xs.filter p).map V.int)) → Qd H) :
    ∃ W : Nat → Nat → Hp → Prop, (∃ m, W 0 m (L2.upd H1 D (.lst []))) ∧ ∀ i m H, W i m H →
      ((Itl K a).stop i H ∧ Qd H) ∨ ((Itl K a).go i H ∧ ∃ Nx : Hp → Prop, (∀ H', Nx H' → ∃ m', m' < m ∧ W (i + 1) m' H') ∧ ∀ x H', (Itl K a).yld i H x H' → gName j x (wipe σ vs) H' fun σ2 H2 => wipe σ2 vs = wipe σ vs ∧ tt σ2 H2 fun b H3 =>
        if b = true then te σ2 H3 fun y H4 => ∃ acc, H4 D = some (.lst acc) ∧ acc.length < sizeLine ∧ Nx (L2.upd H4 D (.lst (acc ++ [y]))) else Nx H3) := by
  refine lc_list (xs := xs.map V.int) (fun i H => Same H1 H ∧ H D = some (.lst (((xs.take i).filter p).map V.int))) ⟨sameNew hD, upd_same⟩ (fun i H _ q => q.1.seq hL) ?_ ?_
  · rintro i x H hx ⟨s, hH⟩
    obtain ⟨z, hz1, rfl⟩ := map_at hx
    have mem := List.mem_of_getElem? hz1
    refine ⟨hw _, ?_⟩
    refine ht z H _ mem s fun H3 s3 => ?_
    have step := filt_succ (p := p) hz1
    cases c : p z with
    | false =>
      rw [c] at step
      refine tF rfl ⟨s.trans s3, ?_⟩
      rw [step]
      simpa using s3 _ _ hH
    | true =>
      rw [c] at step
      refine tT rfl (he z H3 _ mem (s.trans s3) ⟨_, s3 _ _ hH, small1000 ?_, sameUp (s.trans s3) hD, ?_⟩)
      · have l1 := List.length_filter_le p (xs.take i)
        rw [List.length_take] at l1
        rw [List.length_map]
        omega
      · rw [upd_same, step, List.map_append]
        rfl
  · rintro H ⟨s, hH⟩
    rw [List.length_map, List.take_length] at hH
    exact hd H s hH
theorem lc_filtT (p : Int → Bool) (hL : SqT K H1 a (xs.map V.int)) (hz : xs.length ≤ 1000) (hD : H1 D = none)
    (hw : ∀ x : V, wipe ((wipe σ vs).set j (some x)) vs = wipe σ vs)
    (ht : ∀ (x : Int) (H2 : Hp) (Q : Bool → Hp → Prop), x ∈ xs → Same H1 H2 → (∀ H3, Same H2 H3 → Q (p x) H3) → tt ((wipe σ vs).set j (some (.int x))) H2 Q)
    (he : ∀ (x : Int) (H2 : Hp) (Q : VK), x ∈ xs → Same H1 H2 → Q (.int x) H2 → te ((wipe σ vs).set j (some (.int x))) H2 Q)
    (hd : ∀ H, Same H1 H → H D = some (.lst ((xs.filter p).map V.int)) → Qd H) :
    ∃ W : Nat → Nat → Hp → Prop, (∃ m, W 0 m (L2.upd H1 D (.lst []))) ∧ ∀ i m H, W i m H →
      ((Itt K a).stop i H ∧ Qd H) ∨ ((Itt K a).go i H ∧ ∃ Nx : Hp → Prop, (∀ H', Nx H' → ∃ m', m' < m ∧ W (i + 1) m' H') ∧ ∀ x H', (Itt K a).yld i H x H' → gName j x (wipe σ vs) H' fun σ2 H2 => wipe σ2 vs = wipe σ vs ∧ tt σ2 H2 fun b H3 =>
        if b = true then te σ2 H3 fun y H4 => ∃ acc, H4 D = some (.lst acc) ∧ acc.length < sizeLine ∧ Nx (L2.upd H4 D (.lst (acc ++ [y]))) else Nx H3) := by
  refine lc_tup (xs := xs.map V.int) (fun i H => Same H1 H ∧ H D = some (.lst (((xs.take i).filter p).map V.int))) ⟨sameNew hD, upd_same⟩ (fun i H _ q => sameT q.1 hL) ?_ ?_
  · rintro i x H hx ⟨s, hH⟩
    obtain ⟨z, hz1, rfl⟩ := map_at hx
    have mem := List.mem_of_getElem? hz1
    refine ⟨hw _, ?_⟩
    refine ht z H _ mem s fun H3 s3 => ?_
    have step := filt_succ (p := p) hz1
    cases c : p z with
    | false =>
      rw [c] at step
      refine tF rfl ⟨s.trans s3, ?_⟩
      rw [step]
      simpa using s3 _ _ hH
    | true =>
      rw [c] at step
      refine tT rfl (he z H3 _ mem (s.trans s3) ⟨_, s3 _ _ hH, small1000 ?_, sameUp (s.trans s3) hD, ?_⟩)
      · have l1 := List.length_filter_le p (xs.take i)
        rw [List.length_take] at l1
        rw [List.length_map]
        omega
      · rw [upd_same, step, List.map_append]
        rfl
  · rintro H ⟨s, hH⟩
    rw [List.length_map, List.take_length] at hH
    exact hd H s hH
end
/-- a ranking (ranks, cut) stands at q -/
def RkAt (H : Hp) (q rt : Addr) (rs : List Int) (c : Int) : Prop := H q = some (.tup [.ref rt, .int c]) ∧ H rt = some (.tup (rs.map V.int))
theorem RkAt.same {H H' : Hp} {q rt : Addr} {rs : List Int} {c : Int} (h : RkAt H q rt rs c) (s : Same H H') : RkAt H' q rt rs c := ⟨s _ _ h.1, s _ _ h.2⟩
theorem rgV_rg (m : Nat) : rgV 0 (m : Int) = (rg m).map V.int := by
  unfold rgV rg
  rw [List.map_map]
  have : ((m : Int) - 0).toNat = m := by omega
  rw [this]
  apply List.map_congr_left
  intro i _
  show V.int (0 + (i : Int)) = V.int (i : Int)
  rw [Int.zero_add]
theorem srt_len : ∀ l : List Int, (srt l).length ≤ l.length
  | [] => Nat.le_refl _
  | x :: l => by
    have h : ∀ (x : Int) (l : List Int), (ins1 x l).length ≤ l.length + 1 := by
      intro x l
      induction l with
      | nil => exact Nat.le_refl _
      | cons y l ih =>
        unfold ins1
        split
        · exact Nat.le_refl _
        · split
          · exact Nat.le_succ _
          · exact Nat.succ_le_succ ih
    exact Nat.le_trans (h x (srt l)) (Nat.succ_le_succ (srt_len l))
/-- a ranking as data -/
def rkD (rs : List Int) (c : Int) : PyData := .tuple [.tuple (rs.map PyData.int), .int c]
theorem RkAt.dp {K : PySem.W.Frag} {H : Hp} {q rt : Addr} {rs : List Int} {c : Int} (h : RkAt H q rt rs c) : Dp K H (.ref q) (rkD rs c) := .tup (SqT.of h.1) (.cons (.tup (SqT.of h.2) (ints_all rs)) (.cons (.int c) .nil))
theorem rkD_ok {rs : List Int} {c : Int} (hr : ∀ r ∈ rs, 0 ≤ r ∧ r < 2 ^ 300) (hc : 0 ≤ c ∧ c < 2 ^ 300) (hz : rs.length ≤ 10) :
    SeqAt.shaped (rkD rs c) = true ∧ (PyData.list [rkD rs c, rkD rs c]).showable = true ∧ (PyData.list [rkD rs c, rkD rs c]).hasDict = false ∧ (PyData.list [rkD rs c, rkD rs c]).depth ≤ 60 ∧ (PyData.list [rkD rs c, rkD rs c]).shown.length ≤ sizeLine := by
  obtain ⟨h1, h2, h3, h4⟩ := ints_show hr
  obtain ⟨g1, g2, g3, g4⟩ := ints_show (ys := [c]) fun y hy => by
    obtain rfl := List.mem_singleton.mp hy
    exact hc
  obtain ⟨l1, l2⟩ := ints_lay rs
  have ic1 : (PyData.int c).showable = true := by simpa [PyData.showableAll] using g1
  have ic3 : (PyData.int c).leavesShort 301 = true := by simpa [PyData.leavesShortAll] using g3
  have ic4 : (PyData.int c).weight + 1 + 0 ≤ 301 * 1 := g4
  refine ⟨?_, ?_, ?_, ?_, ?_⟩
  · unfold SeqAt.shaped
    show ((PyData.canLayAll0 (rs.map PyData.int) && (true && true)) && decide (max (PyData.depthAll (rs.map PyData.int) + 1) (max 0 0) + 1 ≤ 64)) = true
    rw [l1, l2]
    rfl
  · show ((PyData.showableAll (rs.map PyData.int) && ((PyData.int c).showable && true)) && ((PyData.showableAll (rs.map PyData.int) && ((PyData.int c).showable && true)) && true)) = true
    rw [h1, ic1]
    rfl
  · show ((PyData.hasDictAll (rs.map PyData.int) || (false || false)) || ((PyData.hasDictAll (rs.map PyData.int) || (false || false)) || false)) = false
    rw [h2]
    rfl
  · show max (max (PyData.depthAll (rs.map PyData.int) + 1) (max 0 0) + 1) (max (max (PyData.depthAll (rs.map PyData.int) + 1) (max 0 0) + 1) 0) + 1 ≤ 60
    rw [l2]
    decide
  · have e := PyData.shown_le 301 (by decide) (.list [rkD rs c, rkD rs c]) (by
      show ((PyData.leavesShortAll 301 (rs.map PyData.int) && ((PyData.int c).leavesShort 301 && true)) && ((PyData.leavesShortAll 301 (rs.map PyData.int) && ((PyData.int c).leavesShort 301 && true)) && true)) = true
      rw [h3, ic3]
      rfl)
    have w : (PyData.list [rkD rs c, rkD rs c]).weight ≤ 8000 := by
      show (PyData.weightAll (rs.map PyData.int) + 1 + ((PyData.int c).weight + 1 + 0)) + 1 + ((PyData.weightAll (rs.map PyData.int) + 1 + ((PyData.int c).weight + 1 + 0)) + 1 + 0) ≤ 8000
      omega
    have : (301 + 2) * (PyData.list [rkD rs c, rkD rs c]).weight ≤ (301 + 2) * 8000 := Nat.mul_le_mul_left _ w
    exact Nat.le_trans e (Nat.le_trans (Nat.add_le_add_right this _) (by decide))
end BR

/-! ### walks whatever the turn does; max of a tuple; comb -/
namespace BR
open PySem PySem.Spec PyProof.Rows L2
section
variable {K : PySem.W.Frag} {H0 : Hp} {Qd : Hp → Prop} {B : V → Hp → (Hp → Prop) → Prop}
theorem itl_by {a : Addr} {xs : List V} (Pv : Nat → Hp → Prop) (h0 : Pv 0 H0) (hl : ∀ i H, i ≤ xs.length → Pv i H → SqL K H a xs) (hs : ∀ i x H, xs[i]? = some x → Pv i H → B x H (Pv (i + 1))) (hd : ∀ H, Pv xs.length H → Qd H) :
    ∃ W : Nat → Nat → Hp → Prop, (∃ m, W 0 m H0) ∧ ∀ i m H, W i m H → ((Itl K a).stop i H ∧ Qd H) ∨ ((Itl K a).go i H ∧ ∃ Nx : Hp → Prop, (∀ H', Nx H' → ∃ m', m' < m ∧ W (i + 1) m' H') ∧ ∀ x H', (Itl K a).yld i H x H' → B x H' Nx) := by
  refine ⟨fun i m H => m = xs.length - i ∧ i ≤ xs.length ∧ Pv i H, ⟨xs.length, by simp, Nat.zero_le _, h0⟩, fun i m H => ?_⟩
  rintro ⟨rfl, hi, p⟩
  have q := hl i H hi p
  rcases Nat.lt_or_eq_of_le hi with c | c
  · refine .inr ⟨⟨xs, xs[i], q, by simp [c]⟩, Pv (i + 1), fun H' p' => ⟨xs.length - (i + 1), by omega, rfl, c, p'⟩, fun x H' y => ?_⟩
    obtain ⟨e, y⟩ := y
    subst e
    exact hs i x _ (y xs q) p
  · subst c
    exact .inl ⟨⟨xs, q, Nat.le_refl _⟩, hd H p⟩
theorem itt_by {a : Addr} {xs : List V} (Pv : Nat → Hp → Prop) (h0 : Pv 0 H0) (hl : ∀ i H, i ≤ xs.length → Pv i H → SqT K H a xs) (hs : ∀ i x H, xs[i]? = some x → Pv i H → B x H (Pv (i + 1))) (hd : ∀ H, Pv xs.length H → Qd H) :
    ∃ W : Nat → Nat → Hp → Prop, (∃ m, W 0 m H0) ∧ ∀ i m H, W i m H → ((Itt K a).stop i H ∧ Qd H) ∨ ((Itt K a).go i H ∧ ∃ Nx : Hp → Prop, (∀ H', Nx H' → ∃ m', m' < m ∧ W (i + 1) m' H') ∧ ∀ x H', (Itt K a).yld i H x H' → B x H' Nx) := by
  refine ⟨fun i m H => m = xs.length - i ∧ i ≤ xs.length ∧ Pv i H, ⟨xs.length, by simp, Nat.zero_le _, h0⟩, fun i m H => ?_⟩
  rintro ⟨rfl, hi, p⟩
  have q := hl i H hi p
  rcases Nat.lt_or_eq_of_le hi with c | c
  · refine .inr ⟨⟨xs, xs[i], q, by simp [c]⟩, Pv (i + 1), fun H' p' => ⟨xs.length - (i + 1), by omega, rfl, c, p'⟩, fun x H' y => ?_⟩
    obtain ⟨e, y⟩ := y
    subst e
    exact hs i x _ (y xs q) p
  · subst c
    exact .inl ⟨⟨xs, q, Nat.le_refl _⟩, hd H p⟩
theorem itr_by {lo : Int} {n : Nat} (Pv : Nat → Hp → Prop) (h0 : Pv 0 H0) (hs : ∀ i H, i < n → Pv i H → B (.int (lo + i)) H (Pv (i + 1))) (hd : ∀ H, Pv n H → Qd H) :
    ∃ W : Nat → Nat → Hp → Prop, (∃ m, W 0 m H0) ∧ ∀ i m H, W i m H → ((Itr lo n).stop i H ∧ Qd H) ∨ ((Itr lo n).go i H ∧ ∃ Nx : Hp → Prop, (∀ H', Nx H' → ∃ m', m' < m ∧ W (i + 1) m' H') ∧ ∀ x H', (Itr lo n).yld i H x H' → B x H' Nx) := by
  refine ⟨fun i m H => m = n - i ∧ i ≤ n ∧ Pv i H, ⟨n, by simp, Nat.zero_le _, h0⟩, fun i m H => ?_⟩
  rintro ⟨rfl, hi, p⟩
  rcases Nat.lt_or_eq_of_le hi with c | c
  · refine .inr ⟨c, Pv (i + 1), fun H' p' => ⟨n - (i + 1), by omega, rfl, c, p'⟩, fun x H' y => ?_⟩
    obtain ⟨e, y⟩ := y
    subst e y
    exact hs i _ c p
  · subst c
    exact .inl ⟨Nat.le_refl _, hd H p⟩
end
theorem small9000 {n : Nat} (h : n ≤ 9000) : n < sizeLine := by rw [sizeLine_eq]; omega
/-- the greatest of ints -/
def mx : List Int → Int
  | [] => 0
  | x :: xs => xs.foldl (fun a y => if a < y then y else a) x
theorem mx_fold : ∀ (xs : List Int) (x : Int), (x :: xs).foldl (fun a y => if a < y then y else a) x = xs.foldl (fun a y => if a < y then y else a) x := fun xs x => by
  rw [List.foldl_cons, if_neg (Int.lt_irrefl _)]
section
variable {X : Cx}
def rMaxT (K : PySem.W.Frag) : List V → Hp → VK → Prop := fun xs H Q => ∃ (a : Addr) (ns : List Int), xs = [.ref a] ∧ SqT K H a (ns.map V.int) ∧ ns ≠ [] ∧ Q (.int (mx ns)) H
theorem cr_maxT (hc : X.calm = true) (hu : X.A.units + 64 < cLine) : CallR X (.builtin "max") (rMaxT X.K) := by
  intro pins s σ H xs us Q I r h
  obtain ⟨a, ns, rfl, hq, hne, q⟩ := h
  rw [Vals.ref1 r]
  obtain ⟨its, rv, pt, _⟩ := I.tuple hq
  cases ns with
  | nil => exact absurd rfl hne
  | cons x xs =>
    obtain ⟨as, ra⟩ := Dp.readsAll I ((x :: xs).map PyData.int) _ _ (ints_all (x :: xs)) rv
    have al : ∀ d ∈ (x :: xs).map PyData.int, ∃ i, d = .int i := fun d hd => by
      obtain ⟨i, _, e⟩ := List.mem_map.mp hd
      exact ⟨i, e.symm⟩
    refine PySem.W.max_tuple_data (x := .int x) (xs := xs.map .int) (I.ok.hd hc) (show s.heap.IsTuple a its.toArray from pt) (by simpa using ra) ⟨fun d hd e he => ?_, fun d hd => ?_⟩ (by show X.A.units + 1 + PyData.depthAll ((x :: xs).map PyData.int) < cLine; rw [(ints_lay (x :: xs)).2]; omega) fun k v h' tk bs _ hr hk => ?_
    · obtain ⟨i, rfl⟩ := al d hd
      obtain ⟨j, rfl⟩ := al e he
      rfl
    · obtain ⟨i, rfl⟩ := al d hd
      exact fun z => nomatch z
    · have e : ∀ (ys : List Int) (z : Int), PySem.W.maxD (.int z) (ys.map PyData.int) = .int (ys.foldl (fun a y => if a < y then y else a) z) := by
        intro ys
        induction ys with
        | nil => exact fun z => rfl
        | cons y ys ih =>
          intro z
          have st : PySem.W.maxD (.int z) ((y :: ys).map PyData.int) = PySem.W.maxD (if PySem.W.dataLt (.int z) (.int y) then .int y else .int z) (ys.map PyData.int) := rfl
          rw [st, PySem.W.dataLt_int, List.foldl_cons]
          by_cases c : z < y
          · rw [if_pos (decide_eq_true c), if_pos c, ih]
          · rw [if_neg (fun q => c (of_decide_eq_true q)), if_neg c, ih]
      rw [e] at hr
      cases hr
      exact ⟨.int _, H, I.kept (t' := tk) hk, ⟨_, rfl⟩, q⟩
def rLenSq (K : PySem.W.Frag) : List V → Hp → VK → Prop := fun xs H Q => ∃ p ys, xs = [.ref p] ∧ (SqL K H p ys ∨ SqT K H p ys) ∧ Q (.int ys.length) H
theorem cr_lenSq : CallR X (.builtin "len") (rLenSq X.K) := call_len_seq
def rTupOf (K : PySem.W.Frag) : List V → Hp → VK → Prop := fun xs H Q => ∃ p ys, xs = [.ref p] ∧ ((SqL K H p ys ∧ ∀ l, H l = none → Q (.ref l) (L2.upd H l (.tup ys))) ∨ (SqT K H p ys ∧ Q (.ref p) H))
theorem cr_tupOf : CallR X (.type "tuple") (rTupOf X.K) := call_tuple_of
/-- comb(n, k), n below 2^300, k at most 5 -/
def cmb (n : Int) (k : Int) : Int := if n < k then 0 else Builtin.Math.fallingProduct n (min k (n - k)).toNat / Builtin.Math.fallingProduct (min k (n - k)) (min k (n - k)).toNat
theorem cr_comb : CallR X (.builtin "math.comb") (fun xs H Q => ∃ n k : Int, xs = [.int n, .int k] ∧ 0 ≤ n ∧ 0 ≤ k ∧ k ≤ 9000 ∧ (n < k ∨ (Builtin.Math.fallingProduct n (min k (n - k)).toNat / Builtin.Math.fallingProduct (min k (n - k)) (min k (n - k)).toNat).natAbs.log2 < bitsLine) ∧ Q (.int (cmb n k)) H) := by
  intro pins s σ H xs us Q I r h
  obtain ⟨n, k, rfl, n0, k0, k9, sz, q⟩ := h
  obtain ⟨t, u, rfl⟩ := Vals.int2 r
  unfold cmb at q
  by_cases c : n < k
  · rw [if_pos c] at q
    exact call_function_meets PySem.W.MGF.kind_comb PySem.W.MGF.plain_comb PySem.W.MGF.entry_comb (PySem.W.MGF.args_comb _ _) (PySem.W.mc_run_comb0 n t k u (by omega) (by omega) c).meets ⟨.int 0, H, I.tok _, ⟨_, rfl⟩, q⟩
  · rw [if_neg c] at q
    have z := sz.resolve_left c
    refine call_function_meets PySem.W.MGF.kind_comb PySem.W.MGF.plain_comb PySem.W.MGF.entry_comb (PySem.W.MGF.args_comb _ _) (PySem.W.mc_run_comb n t k u (by omega) (by omega) (by omega) ?_ ?_ (by omega) z).meets ⟨.int _, H, I.tok _, ⟨_, rfl⟩, q⟩
    · have : (9000 : Int) < Builtin.Math.maxSsize := by decide +kernel
      omega
    · have : (9000 : Int) ≤ Builtin.Math.manyFactors := by decide +kernel
      omega
end
end BR

/-! ### all rankings -/
namespace BR
open PySem PySem.Spec PyProof.Rows L2
def gapsI (r : List Int) : Int := mx r + 1 - ((srt r).length : Int)
def addR (n : Nat) (r : List Int) : List (List Int) := (List.range n).map fun x => r ++ [((x : Nat) : Int)]
def keepR (n : Nat) (r : List Int) : Bool := decide (gapsI r ≤ (n : Int) - (r.length : Int))
def rowsR (n : Nat) : Nat → List (List Int)
  | 0 => [[]]
  | k + 1 => ((rowsR n k).flatMap (addR n)).filter (keepR n)
def cutsR (r : List Int) : List (List Int × Int) := (List.range (mx r + 2).toNat).map fun c => (r, ((c : Nat) : Int))
def allRk (n : Nat) : List (List Int × Int) := (rowsR n n).flatMap cutsR
def okRk (n : Nat) (p : List Int × Int) : Bool := decide (p.1.length = n) && decide (srt p.1 = rg (srt p.1).length) && decide (0 ≤ p.2) && decide (p.2 ≤ ((srt p.1).length : Int))
theorem rows_small : ∀ n ∈ ([1, 2, 3, 4, 5] : List Nat), ∀ k ∈ List.range n, (rowsR n k).length ≤ 700 ∧ ∀ r ∈ rowsR n k, r.length = k := by decide +kernel
theorem rows_last : ∀ n ∈ ([1, 2, 3, 4, 5] : List Nat), (rowsR n n).length ≤ 700 ∧ (∀ r ∈ rowsR n n, r.length = n ∧ 0 ≤ mx r ∧ mx r ≤ 4) := by decide +kernel
theorem all_len : [1, 2, 3, 4, 5].map (fun n => (allRk n).length) = [2, 8, 44, 308, 2612] := by decide +kernel
theorem all_ok : ∀ n ∈ ([1, 2, 3, 4, 5] : List Nat), (allRk n).all (okRk n) = true := by decide +kernel
theorem five {n : Nat} (h1 : 1 ≤ n) (h2 : n ≤ 5) : n ∈ ([1, 2, 3, 4, 5] : List Nat) := by
  have : n = 1 ∨ n = 2 ∨ n = 3 ∨ n = 4 ∨ n = 5 := by omega
  simpa using this
theorem flat_len {α β : Type} {f : α → List β} {m : Nat} : ∀ {l : List α}, (∀ x ∈ l, (f x).length ≤ m) → (l.flatMap f).length ≤ l.length * m
  | [], _ => Nat.zero_le _
  | x :: l, h => by
    rw [List.flatMap_cons, List.length_append, List.length_cons, Nat.succ_mul]
    have a := h x List.mem_cons_self
    have b := flat_len (f := f) (m := m) (l := l) fun y hy => h y (List.mem_cons_of_mem _ hy)
    omega
/-- refs to tuples of ints -/
def TL (H : Hp) (as : List Addr) (rows : List (List Int)) : Prop := Paired (fun a row => H a = some (.tup (row.map V.int))) as rows
theorem pr_mono {α β : Type} {R S : α → β → Prop} : ∀ {as : List α} {bs : List β}, Paired R as bs → (∀ a b, R a b → S a b) → Paired S as bs
  | _, _, .nil, _ => .nil
  | _, _, .cons h t, m => .cons (m _ _ h) (pr_mono t m)
theorem pr_snoc {α β : Type} {R : α → β → Prop} {a : α} {b : β} : ∀ {as : List α} {bs : List β}, Paired R as bs → R a b → Paired R (as ++ [a]) (bs ++ [b])
  | _, _, .nil, r => .cons r .nil
  | _, _, .cons h t, r => .cons h (pr_snoc t r)
theorem pr_len {α β : Type} {R : α → β → Prop} : ∀ {as : List α} {bs : List β}, Paired R as bs → as.length = bs.length
  | _, _, .nil => rfl
  | _, _, .cons _ t => congrArg Nat.succ (pr_len t)
theorem pr_at {α β : Type} {R : α → β → Prop} : ∀ {as : List α} {bs : List β}, Paired R as bs → ∀ {i : Nat} {a : α}, as[i]? = some a → ∃ b, bs[i]? = some b ∧ R a b
  | _, _, .cons h t, 0, a, e => by
    cases e
    exact ⟨_, rfl, h⟩
  | _, _, .cons h t, i + 1, a, e => pr_at t (i := i) e
theorem pr_at2 {α β : Type} {R : α → β → Prop} : ∀ {as : List α} {bs : List β}, Paired R as bs → ∀ {i : Nat} {b : β}, bs[i]? = some b → ∃ a, as[i]? = some a ∧ R a b
  | _, _, .cons h t, 0, a, e => by
    cases e
    exact ⟨_, rfl, h⟩
  | _, _, .cons h t, i + 1, a, e => pr_at2 t (i := i) e
theorem TL.same {H H' : Hp} {as : List Addr} {rows : List (List Int)} (h : TL H as rows) (s : Same H H') : TL H' as rows := pr_mono h fun a r e => s _ _ e
theorem TL.put {H : Hp} {as : List Addr} {rows : List (List Int)} {D : Addr} {xs : List V} {o : HO} (h : TL H as rows) (e : H D = some (.lst xs)) : TL (L2.upd H D o) as rows := pr_mono h fun a r q => by
  rw [upd_ne (fun z => by rw [z, e] at q; cases q)]
  exact q
/-- refs to rankings -/
def RL (H : Hp) (qs : List Addr) (ps : List (List Int × Int)) : Prop := Paired (fun q p => ∃ rt, RkAt H q rt p.1 p.2) qs ps
theorem RL.same {H H' : Hp} {qs : List Addr} {ps : List (List Int × Int)} (h : RL H qs ps) (s : Same H H') : RL H' qs ps := pr_mono h fun q p e => let ⟨rt, r⟩ := e; ⟨rt, r.same s⟩
theorem RL.put {H : Hp} {qs : List Addr} {ps : List (List Int × Int)} {D : Addr} {xs : List V} {o : HO} (h : RL H qs ps) (e : H D = some (.lst xs)) : RL (L2.upd H D o) qs ps := pr_mono h fun q p r => by
  obtain ⟨rt, r1, r2⟩ := r
  exact ⟨rt, by rw [upd_ne (fun z => by rw [z, e] at r1; cases r1)]; exact r1, by rw [upd_ne (fun z => by rw [z, e] at r2; cases r2)]; exact r2⟩
theorem mapR_at {as : List Addr} {i : Nat} {x : V} (h : (as.map V.ref)[i]? = some x) : ∃ a, as[i]? = some a ∧ x = .ref a := by
  rw [List.getElem?_map] at h
  cases e : as[i]? with
  | none =>
    rw [e] at h
    cases h
  | some a =>
    rw [e] at h
    cases h
    exact ⟨a, rfl, rfl⟩
theorem flat_take {α β : Type} {f : α → List β} {l : List α} {i : Nat} {x : α} (h : l[i]? = some x) : (l.take (i + 1)).flatMap f = (l.take i).flatMap f ++ f x := by
  rw [List.take_add_one, h, List.flatMap_append]
  simp
theorem addR_take {n j : Nat} {r : List Int} (h : j < n) : (addR n r).take (j + 1) = (addR n r).take j ++ [r ++ [((j : Nat) : Int)]] := by
  have e : (addR n r)[j]? = some (r ++ [((j : Nat) : Int)]) := by
    unfold addR
    rw [List.getElem?_map, List.getElem?_range h]
    rfl
  rw [List.take_add_one, e]
  rfl
theorem cutsR_take {j : Nat} {r : List Int} (h : j < (mx r + 2).toNat) : (cutsR r).take (j + 1) = (cutsR r).take j ++ [(r, ((j : Nat) : Int))] := by
  have e : (cutsR r)[j]? = some (r, ((j : Nat) : Int)) := by
    unfold cutsR
    rw [List.getElem?_map, List.getElem?_range h]
    rfl
  rw [List.take_add_one, e]
  rfl
end BR

/-! ### words counted; words turned; outcomes tell rankings -/
namespace BR
open PySem PySem.Spec PyProof.Rows L2
theorem cmb_small : ∀ n ∈ List.range 8, ∀ k ∈ List.range 5, (k = 0 → cmb (n : Int) k = 1) ∧ (k = 1 → cmb (n : Int) k = n) ∧ (k = 2 → 2 * cmb (n : Int) k = (n : Int) * ((n : Int) - 1)) ∧ (k = 3 → 6 * cmb (n : Int) k = (n : Int) * ((n : Int) - 1) * ((n : Int) - 2)) ∧ (k = 4 → 24 * cmb (n : Int) k = (n : Int) * ((n : Int) - 1) * ((n : Int) - 2) * ((n : Int) - 3)) := by decide +kernel
theorem fall_nn {n : Int} (k : Nat) (h : (k : Int) ≤ n) : 0 ≤ Builtin.Math.fallingProduct n k := by
  induction k with
  | zero => exact (by decide : (0 : Int) ≤ 1)
  | succ k ih =>
    unfold Builtin.Math.fallingProduct at ih ⊢
    rw [List.range_succ, List.foldl_append]
    exact Int.mul_nonneg (ih (by omega)) (by omega)
theorem cmb_polys {n : Int} (h : 0 ≤ n) : cmb n 0 = 1 ∧ cmb n 1 = n ∧ 2 * cmb n 2 = n * (n - 1) ∧ 6 * cmb n 3 = n * (n - 1) * (n - 2) ∧ 24 * cmb n 4 = n * (n - 1) * (n - 2) * (n - 3) := by
  by_cases c : n < 8
  · obtain ⟨a, rfl⟩ := Int.eq_ofNat_of_zero_le h
    have s := cmb_small a (List.mem_range.mpr (by omega))
    exact ⟨(s 0 (by decide)).1 rfl, (s 1 (by decide)).2.1 rfl, (s 2 (by decide)).2.2.1 rfl, (s 3 (by decide)).2.2.2.1 rfl, (s 4 (by decide)).2.2.2.2 rfl⟩
  · have e : ∀ k : Nat, k ≤ 4 → cmb n (k : Int) = Builtin.Math.fallingProduct n k / Builtin.Math.fallingProduct (k : Int) k := fun k hk => by
      unfold cmb
      rw [if_neg (by omega)]
      have m : min (k : Int) (n - k) = (k : Int) := by omega
      rw [m]
      rfl
    have f0 : cmb n 0 = 1 := by rw [show (0 : Int) = ((0 : Nat) : Int) from rfl, e 0 (by decide)]; rfl
    have f1 : cmb n 1 = n := by
      rw [show (1 : Int) = ((1 : Nat) : Int) from rfl, e 1 (by decide)]
      show (1 * (n - 0)) / 1 = n
      omega
    have f2 : cmb n 2 = (1 * (n - 0) * (n - 1)) / 2 := by rw [show (2 : Int) = ((2 : Nat) : Int) from rfl, e 2 (by decide)]; rfl
    have f3 : cmb n 3 = (1 * (n - 0) * (n - 1) * (n - 2)) / 6 := by rw [show (3 : Int) = ((3 : Nat) : Int) from rfl, e 3 (by decide)]; rfl
    have f4 : cmb n 4 = (1 * (n - 0) * (n - 1) * (n - 2) * (n - 3)) / 24 := by rw [show (4 : Int) = ((4 : Nat) : Int) from rfl, e 4 (by decide)]; rfl
    have d2 : (n * (n - 1)) % 2 = 0 := by
      have : n % 2 = 0 ∨ n % 2 = 1 := by omega
      rcases this with h | h <;> simp [Int.mul_emod, Int.sub_emod, h]
    have d3 : (n * (n - 1) * (n - 2)) % 6 = 0 := by
      have : n % 6 = 0 ∨ n % 6 = 1 ∨ n % 6 = 2 ∨ n % 6 = 3 ∨ n % 6 = 4 ∨ n % 6 = 5 := by omega
      rcases this with h | h | h | h | h | h <;> simp [Int.mul_emod, Int.sub_emod, h]
    have d4 : (n * (n - 1) * (n - 2) * (n - 3)) % 24 = 0 := by
      have : n % 24 = 0 ∨ n % 24 = 1 ∨ n % 24 = 2 ∨ n % 24 = 3 ∨ n % 24 = 4 ∨ n % 24 = 5 ∨ n % 24 = 6 ∨ n % 24 = 7 ∨ n % 24 = 8 ∨ n % 24 = 9 ∨ n % 24 = 10 ∨ n % 24 = 11 ∨ n % 24 = 12 ∨ n % 24 = 13 ∨ n % 24 = 14 ∨ n % 24 = 15 ∨ n % 24 = 16 ∨ n % 24 = 17 ∨ n % 24 = 18 ∨ n % 24 = 19 ∨ n % 24 = 20 ∨ n % 24 = 21 ∨ n % 24 = 22 ∨ n % 24 = 23 := by omega
      rcases this with h | h | h | h | h | h | h | h | h | h | h | h | h | h | h | h | h | h | h | h | h | h | h | h <;> simp [Int.mul_emod, Int.sub_emod, h]
    rw [Int.one_mul, Int.sub_zero] at f2 f3 f4
    refine ⟨f0, f1, ?_, ?_, ?_⟩
    · rw [f2]
      generalize n * (n - 1) = z at d2
      omega
    · rw [f3]
      generalize n * (n - 1) * (n - 2) = z at d3
      omega
    · rw [f4]
      generalize n * (n - 1) * (n - 2) * (n - 3) = z at d4
      omega
/-- how many words a ranking has -/
def wordsOf (h : Int) (p : List Int × Int) : Int := cmb h p.2 * cmb h (((srt p.1).length : Int) - p.2)
def shape (p : List Int × Int) : Nat × Nat := (p.2.toNat, (((srt p.1).length : Int) - p.2).toNat)
def cnt {α : Type} [DecidableEq α] (l : List α) (x : α) : Nat := l.count x
theorem sum_count {α : Type} [DecidableEq α] (f : α → Int) : ∀ (l s : List α), s.Nodup → (∀ x ∈ l, x ∈ s) → (l.map f).sum = (s.map fun x => ((cnt l x : Nat) : Int) * f x).sum
  | [], s, _, _ => by
    have : (s.map fun x => ((cnt ([] : List α) x : Nat) : Int) * f x) = s.map fun _ => (0 : Int) := List.map_congr_left fun x _ => by simp [cnt]
    rw [this]
    have z : ∀ s : List α, (s.map fun _ => (0 : Int)).sum = 0 := fun s => by
      induction s with
      | nil => rfl
      | cons x s ih => rw [List.map_cons, List.sum_cons, ih]; rfl
    rw [z]
    rfl
  | y :: l, s, nd, h => by
    have ih := sum_count f l s nd fun x hx => h x (List.mem_cons_of_mem _ hx)
    have my := h y List.mem_cons_self
    rw [List.map_cons, List.sum_cons, ih]
    have g : ∀ (t : List α), t.Nodup → (t.map fun x => ((cnt (y :: l) x : Nat) : Int) * f x).sum = (if y ∈ t then f y else 0) + (t.map fun x => ((cnt l x : Nat) : Int) * f x).sum := by
      unfold cnt
      intro t
      induction t with
      | nil => intro _; rfl
      | cons x t iht =>
        intro ndt
        obtain ⟨nx, nt⟩ := List.nodup_cons.mp ndt
        rw [List.map_cons, List.sum_cons, List.map_cons, List.sum_cons, iht nt]
        by_cases e : y = x
        · subst e
          rw [if_neg nx, if_pos List.mem_cons_self, List.count_cons_self]
          have : (((l.count y + 1 : Nat) : Int)) * f y = f y + ((l.count y : Nat) : Int) * f y := by
            rw [Int.natCast_add, Int.add_mul]
            omega
          rw [this]
          omega
        · rw [List.count_cons_of_ne e]
          have m : (y ∈ x :: t) ↔ y ∈ t := by simp [e]
          by_cases q : y ∈ t
          · rw [if_pos q, if_pos (m.mpr q)]
            omega
          · rw [if_neg q, if_neg (fun z => q (m.mp z))]
            omega
    rw [g s nd, if_pos my]
theorem words_shape (h : Int) (p : List Int × Int) (c0 : 0 ≤ p.2) (cm : p.2 ≤ ((srt p.1).length : Int)) : wordsOf h p = cmb h ((shape p).1 : Int) * cmb h ((shape p).2 : Int) := by
  unfold wordsOf shape
  rw [Int.toNat_of_nonneg c0, Int.toNat_of_nonneg (by omega)]
def keys (n : Nat) : List (Nat × Nat) := (List.range (n + 1)).flatMap fun i => (List.range (n + 1 - i)).map fun j => (i, j)
theorem shape_in : ∀ n ∈ ([1, 2, 3, 4] : List Nat), (keys n).Nodup ∧ ∀ x ∈ (allRk n).map shape, x ∈ keys n := by decide +kernel
theorem ok_at {n : Nat} (h1 : 1 ≤ n) (h2 : n ≤ 5) {p : List Int × Int} (m : p ∈ allRk n) : p.1.length = n ∧ IsRk p.1 (srt p.1).length ∧ 0 ≤ p.2 ∧ p.2 ≤ ((srt p.1).length : Int) := by
  have o := List.all_eq_true.mp (all_ok n (five h1 h2)) p m
  unfold okRk at o
  simp only [Bool.and_eq_true, decide_eq_true_eq] at o
  obtain ⟨⟨⟨a, b⟩, c⟩, d⟩ := o
  refine ⟨a, fun k => ?_, c, d⟩
  rw [← srt_mem (l := p.1), b, rg_len, rg_mem]
theorem sum_all {h : Int} (h0 : 0 ≤ h) {n : Nat} (h1 : 1 ≤ n) (h4 : n ≤ 4) : ((allRk n).map (wordsOf h)).sum = (2 * h) ^ n := by
  have e : (allRk n).map (wordsOf h) = ((allRk n).map shape).map fun s => cmb h (s.1 : Int) * cmb h (s.2 : Int) := by
    rw [List.map_map]
    refine List.map_congr_left fun p m => ?_
    obtain ⟨_, _, c0, cm⟩ := ok_at h1 (by omega) m
    exact words_shape h p c0 cm
  obtain ⟨b0, b1, b2, b3, b4⟩ := cmb_polys h0
  have m4 : n ∈ ([1, 2, 3, 4] : List Nat) := by
    have : n = 1 ∨ n = 2 ∨ n = 3 ∨ n = 4 := by omega
    simpa using this
  obtain ⟨k1, k2⟩ := shape_in n m4
  rw [e, sum_count _ _ _ k1 k2]
  have : n = 1 ∨ n = 2 ∨ n = 3 ∨ n = 4 := by omega
  rcases this with rfl | rfl | rfl | rfl
  · have q : ((keys 1).map fun x => (x, cnt ((allRk 1).map shape) x)) = [((0, 0), 0), ((0, 1), 1), ((1, 0), 1)] := by decide +kernel
    have q2 := congrArg (List.map fun y : (Nat × Nat) × Nat => ((y.2 : Nat) : Int) * (cmb h (y.1.1 : Int) * cmb h (y.1.2 : Int))) q
    rw [List.map_map] at q2
    rw [show (keys 1).map (fun x => ((cnt ((allRk 1).map shape) x : Nat) : Int) * (cmb h (x.1 : Int) * cmb h (x.2 : Int))) = _ from q2]
    show 0 * (cmb h 0 * cmb h 0) + (1 * (cmb h 0 * cmb h 1) + (1 * (cmb h 1 * cmb h 0) + 0)) = (2 * h) ^ 1
    rw [b0, b1]
    grind
  · have q : ((keys 2).map fun x => (x, cnt ((allRk 2).map shape) x)) = [((0, 0), 0), ((0, 1), 1), ((0, 2), 2), ((1, 0), 1), ((1, 1), 2), ((2, 0), 2)] := by decide +kernel
    have q2 := congrArg (List.map fun y : (Nat × Nat) × Nat => ((y.2 : Nat) : Int) * (cmb h (y.1.1 : Int) * cmb h (y.1.2 : Int))) q
    rw [List.map_map] at q2
    rw [show (keys 2).map (fun x => ((cnt ((allRk 2).map shape) x : Nat) : Int) * (cmb h (x.1 : Int) * cmb h (x.2 : Int))) = _ from q2]
    show 0 * (cmb h 0 * cmb h 0) + (1 * (cmb h 0 * cmb h 1) + (2 * (cmb h 0 * cmb h 2) + (1 * (cmb h 1 * cmb h 0) + (2 * (cmb h 1 * cmb h 1) + (2 * (cmb h 2 * cmb h 0) + 0))))) = (2 * h) ^ 2
    rw [b0, b1]
    grind
  · have q : ((keys 3).map fun x => (x, cnt ((allRk 3).map shape) x)) = [((0, 0), 0), ((0, 1), 1), ((0, 2), 6), ((0, 3), 6), ((1, 0), 1), ((1, 1), 6), ((1, 2), 6), ((2, 0), 6), ((2, 1), 6), ((3, 0), 6)] := by decide +kernel
    have q2 := congrArg (List.map fun y : (Nat × Nat) × Nat => ((y.2 : Nat) : Int) * (cmb h (y.1.1 : Int) * cmb h (y.1.2 : Int))) q
    rw [List.map_map] at q2
    rw [show (keys 3).map (fun x => ((cnt ((allRk 3).map shape) x : Nat) : Int) * (cmb h (x.1 : Int) * cmb h (x.2 : Int))) = _ from q2]
    show 0 * (cmb h 0 * cmb h 0) + (1 * (cmb h 0 * cmb h 1) + (6 * (cmb h 0 * cmb h 2) + (6 * (cmb h 0 * cmb h 3) + (1 * (cmb h 1 * cmb h 0) + (6 * (cmb h 1 * cmb h 1) + (6 * (cmb h 1 * cmb h 2) + (6 * (cmb h 2 * cmb h 0) + (6 * (cmb h 2 * cmb h 1) + (6 * (cmb h 3 * cmb h 0) + 0))))))))) = (2 * h) ^ 3
    rw [b0, b1]
    grind
  · have q : ((keys 4).map fun x => (x, cnt ((allRk 4).map shape) x)) = [((0, 0), 0), ((0, 1), 1), ((0, 2), 14), ((0, 3), 36), ((0, 4), 24), ((1, 0), 1), ((1, 1), 14), ((1, 2), 36), ((1, 3), 24), ((2, 0), 14), ((2, 1), 36), ((2, 2), 24), ((3, 0), 36), ((3, 1), 24), ((4, 0), 24)] := by decide +kernel
    have q2 := congrArg (List.map fun y : (Nat × Nat) × Nat => ((y.2 : Nat) : Int) * (cmb h (y.1.1 : Int) * cmb h (y.1.2 : Int))) q
    rw [List.map_map] at q2
    rw [show (keys 4).map (fun x => ((cnt ((allRk 4).map shape) x : Nat) : Int) * (cmb h (x.1 : Int) * cmb h (x.2 : Int))) = _ from q2]
    show 0 * (cmb h 0 * cmb h 0) + (1 * (cmb h 0 * cmb h 1) + (14 * (cmb h 0 * cmb h 2) + (36 * (cmb h 0 * cmb h 3) + (24 * (cmb h 0 * cmb h 4) + (1 * (cmb h 1 * cmb h 0) + (14 * (cmb h 1 * cmb h 1) + (36 * (cmb h 1 * cmb h 2) + (24 * (cmb h 1 * cmb h 3) + (14 * (cmb h 2 * cmb h 0) + (36 * (cmb h 2 * cmb h 1) + (24 * (cmb h 2 * cmb h 2) + (36 * (cmb h 3 * cmb h 0) + (24 * (cmb h 3 * cmb h 1) + (24 * (cmb h 4 * cmb h 0) + 0)))))))))))))) = (2 * h) ^ 4
    rw [b0, b1]
    grind
end BR

/-! ### ranks of turned words; outcomes tell rankings -/
namespace BR
open PySem PySem.Spec PyProof.Rows L2
/-- ranks of f's values: how many different words have less -/
theorem rk_image {f : Int → Int} {xs : List Int} (inj : ∀ x ∈ xs, ∀ y ∈ xs, f x = f y → x = y) (z : Int) : rk (srt (xs.map f)) z = ((srt xs).filter fun y => decide (f y < z)).length := by
  have nd : (((srt xs).filter fun y => decide (f y < z)).map f).Nodup := by
    rw [List.Nodup, List.pairwise_map]
    have n0 : ((srt xs).filter fun y => decide (f y < z)).Nodup := (up_nodup (srt_up xs)).filter _
    have : ((srt xs).filter fun y => decide (f y < z)).Pairwise fun a b => a ∈ xs ∧ b ∈ xs ∧ a ≠ b := by
      refine List.Pairwise.imp_of_mem ?_ n0
      intro a b ha hb ne
      exact ⟨srt_mem.mp (List.mem_filter.mp ha).1, srt_mem.mp (List.mem_filter.mp hb).1, ne⟩
    exact this.imp fun h e => h.2.2 (inj _ h.1 _ h.2.1 e)
  have e := card_one nd ((up_nodup (srt_up (xs.map f))).filter fun y => decide (y < z)) fun k => by
    rw [List.mem_map, List.mem_filter, srt_mem, List.mem_map, decide_eq_true_eq]
    constructor
    · rintro ⟨x, hx, rfl⟩
      obtain ⟨h1, h2⟩ := List.mem_filter.mp hx
      exact ⟨⟨x, srt_mem.mp h1, rfl⟩, of_decide_eq_true h2⟩
    · rintro ⟨⟨x, hx, rfl⟩, h2⟩
      exact ⟨x, List.mem_filter.mpr ⟨srt_mem.mpr hx, decide_eq_true h2⟩, rfl⟩
  rw [List.length_map] at e
  unfold rk
  rw [← e]
theorem filt_congr {l : List Int} {p q : Int → Bool} (h : ∀ y ∈ l, p y = q y) : (l.filter p).length = (l.filter q).length := by
  rw [List.filter_congr h]
theorem filt_not (l : List Int) (p : Int → Bool) : (l.filter p).length + (l.filter fun y => !p y).length = l.length := by
  induction l with
  | nil => rfl
  | cons y l ih =>
    rw [List.filter_cons, List.filter_cons]
    cases p y <;> simp <;> omega
/-- between two bounds -/
theorem filt_between {l : List Int} {a b : Int} (h : a ≤ b) : (l.filter fun y => decide (a ≤ y) && decide (y < b)).length + rk l a = rk l b := by
  induction l with
  | nil => rfl
  | cons y l ih =>
    rw [rk_cons, rk_cons, List.filter_cons]
    by_cases c : a ≤ y <;> by_cases d : y < b <;> simp [c, d] <;> split <;> omega
theorem filt_above (l : List Int) (a : Int) : (l.filter fun y => decide (a ≤ y)).length + rk l a = l.length := by
  have := filt_not l fun y => decide (y < a)
  have e := filt_congr (l := l) (p := fun y => !decide (y < a)) (q := fun y => decide (a ≤ y)) fun y _ => by
    by_cases c : a ≤ y
    · simp [c]
    · simp [c]
      omega
  unfold rk
  omega
theorem filt_above2 {l : List Int} (nd : l.Nodup) {x : Int} (hx : x ∈ l) : (l.filter fun y => decide (x < y)).length + rk l x + 1 = l.length := by
  have h1 := filt_above l x
  have e : ∀ l : List Int, l.Nodup → (l.filter fun y => decide (x ≤ y)).length = (l.filter fun y => decide (x < y)).length + if x ∈ l then 1 else 0 := by
    intro l
    induction l with
    | nil => intro _; rfl
    | cons y l ih =>
      intro nd
      obtain ⟨ny, nl⟩ := List.nodup_cons.mp nd
      have i := ih nl
      rw [List.filter_cons, List.filter_cons]
      by_cases c : y = x
      · subst c
        rw [if_neg ny] at i
        simp [i]
      · have m : (x ∈ y :: l) ↔ x ∈ l := by rw [List.mem_cons]; exact ⟨fun z => z.resolve_left (fun e => c e.symm), .inr⟩
        by_cases d : x ≤ y
        · have d2 : x < y := by omega
          by_cases q : x ∈ l
          · rw [if_pos q] at i
            rw [if_pos (m.mpr q)]
            simp [d, d2]
            omega
          · rw [if_neg q] at i
            rw [if_neg (fun z => q (m.mp z))]
            simp [d, d2]
            omega
        · have d2 : ¬ x < y := by omega
          by_cases q : x ∈ l
          · rw [if_pos q] at i
            rw [if_pos (m.mpr q)]
            simp [d, d2]
            omega
          · rw [if_neg q] at i
            rw [if_neg (fun z => q (m.mp z))]
            simp [d, d2]
            omega
  have := e l nd
  rw [if_pos hx] at this
  omega
/-- what stands after a turn -/
def turnR (c m r : Int) : Int := if c ≤ r then r - c else r + m - c
theorem rks_flip {wd : Int} {xs : List Int} (h1 : 1 ≤ wd) (w : ∀ x ∈ xs, 0 ≤ x ∧ x < 2 ^ wd.toNat) :
    rks (xs.map (fl wd)) = (rks xs).map (turnR (ct xs (2 ^ (wd - 1).toNat)) ((srt xs).length : Int)) ∧ ct (xs.map (fl wd)) (2 ^ (wd - 1).toNat) = ((srt xs).length : Int) - ct xs (2 ^ (wd - 1).toNat) := by
  have e2 := two_half h1
  have inj : ∀ x ∈ xs, ∀ y ∈ xs, fl wd x = fl wd y → x = y := fun x hx y hy e => by
    rw [← fl_fl h1 (w x hx), ← fl_fl h1 (w y hy), e]
  refine ⟨?_, ?_⟩
  · unfold rks
    rw [List.map_map, List.map_map]
    refine List.map_congr_left fun x hx => ?_
    show ((rk (srt (xs.map (fl wd))) (fl wd x) : Nat) : Int) = turnR _ _ ((rk (srt xs) x : Nat) : Int)
    rw [rk_image inj]
    have mx := srt_mem.mpr hx
    have cc := rk_cut (h := (2 : Int) ^ (wd - 1).toNat) mx
    have wx := w x hx
    unfold turnR ct
    by_cases c : x < 2 ^ (wd - 1).toNat
    · have lt := cc.mp c
      rw [if_neg (by omega)]
      have q := filt_congr (l := srt xs) (p := fun y => decide (fl wd y < fl wd x)) (q := fun y => !(decide (x ≤ y) && decide (y < 2 ^ (wd - 1).toNat))) fun y hy => by
        have wy := w y (srt_mem.mp hy)
        have : (fl wd y < fl wd x) ↔ ¬ (x ≤ y ∧ y < 2 ^ (wd - 1).toNat) := by
          unfold fl
          rw [if_pos c]
          split <;> omega
        rw [← Bool.decide_and, ← decide_not]
        exact decide_eq_decide.mpr this
      have n := filt_not (srt xs) fun y => (decide (x ≤ y) && decide (y < 2 ^ (wd - 1).toNat))
      have b := filt_between (l := srt xs) (show x ≤ 2 ^ (wd - 1).toNat by omega)
      rw [q]
      omega
    · have ge : ¬ rk (srt xs) x < rk (srt xs) (2 ^ (wd - 1).toNat) := fun z => c (cc.mpr z)
      rw [if_pos (by omega)]
      have q := filt_congr (l := srt xs) (p := fun y => decide (fl wd y < fl wd x)) (q := fun y => (decide (2 ^ (wd - 1).toNat ≤ y) && decide (y < x))) fun y hy => by
        have wy := w y (srt_mem.mp hy)
        have : (fl wd y < fl wd x) ↔ (2 ^ (wd - 1).toNat ≤ y ∧ y < x) := by
          unfold fl
          rw [if_neg c]
          split <;> omega
        rw [← Bool.decide_and]
        exact decide_eq_decide.mpr this
      have b := filt_between (l := srt xs) (show (2 : Int) ^ (wd - 1).toNat ≤ x by omega)
      rw [q]
      omega
  · unfold ct
    rw [rk_image inj]
    have q := filt_congr (l := srt xs) (p := fun y => decide (fl wd y < 2 ^ (wd - 1).toNat)) (q := fun y => decide (2 ^ (wd - 1).toNat ≤ y)) fun y hy => by
      have wy := w y (srt_mem.mp hy)
      refine decide_eq_decide.mpr ?_
      unfold fl
      split <;> omega
    have a := filt_above (srt xs) (2 ^ (wd - 1).toNat)
    rw [q]
    omega
theorem rks_inv {wd : Int} {xs : List Int} (h1 : 1 ≤ wd) (w : ∀ x ∈ xs, 0 ≤ x ∧ x < 2 ^ wd.toNat) :
    rks (xs.map (iv wd)) = (rks xs).map (fun r => ((srt xs).length : Int) - 1 - r) ∧ ct (xs.map (iv wd)) (2 ^ (wd - 1).toNat) = ((srt xs).length : Int) - ct xs (2 ^ (wd - 1).toNat) := by
  have e2 := two_half h1
  have inj : ∀ x ∈ xs, ∀ y ∈ xs, iv wd x = iv wd y → x = y := fun x hx y hy e => by
    rw [← iv_iv wd x, ← iv_iv wd y, e]
  refine ⟨?_, ?_⟩
  · unfold rks
    rw [List.map_map, List.map_map]
    refine List.map_congr_left fun x hx => ?_
    show ((rk (srt (xs.map (iv wd))) (iv wd x) : Nat) : Int) = ((srt xs).length : Int) - 1 - ((rk (srt xs) x : Nat) : Int)
    rw [rk_image inj]
    have q := filt_congr (l := srt xs) (p := fun y => decide (iv wd y < iv wd x)) (q := fun y => decide (x < y)) fun y hy => by
      refine decide_eq_decide.mpr ?_
      unfold iv
      omega
    have a := filt_above2 (up_nodup (srt_up xs)) (srt_mem.mpr hx)
    rw [q]
    omega
  · unfold ct
    rw [rk_image inj]
    have q := filt_congr (l := srt xs) (p := fun y => decide (iv wd y < 2 ^ (wd - 1).toNat)) (q := fun y => decide (2 ^ (wd - 1).toNat ≤ y)) fun y hy => by
      refine decide_eq_decide.mpr ?_
      unfold iv
      omega
    have a := filt_above (srt xs) (2 ^ (wd - 1).toNat)
    rw [q]
    omega
theorem rks_ext {wd wi : Int} {xs : List Int} (h1 : 1 ≤ wd) (h2 : wd ≤ wi) (w : ∀ x ∈ xs, 0 ≤ x ∧ x < 2 ^ wd.toNat) :
    rks (xs.map (ex wd wi)) = rks xs ∧ ct (xs.map (ex wd wi)) (2 ^ (wi - 1).toNat) = ct xs (2 ^ (wd - 1).toNat) := by
  have e2 := two_half h1
  have e3 := two_half (show 1 ≤ wi by omega)
  have le := pow_le (a := (wd - 1).toNat) (b := (wi - 1).toNat) (by omega)
  have mono : ∀ x ∈ xs, ∀ y ∈ xs, (ex wd wi x < ex wd wi y ↔ x < y) := fun x hx y hy => by
    have wx := w x hx
    have wy := w y hy
    unfold ex
    split <;> split <;> constructor <;> intro _ <;> omega
  have inj : ∀ x ∈ xs, ∀ y ∈ xs, ex wd wi x = ex wd wi y → x = y := fun x hx y hy e => by
    have a := mono x hx y hy
    have b := mono y hy x hx
    omega
  refine ⟨?_, ?_⟩
  · unfold rks
    rw [List.map_map]
    refine List.map_congr_left fun x hx => ?_
    show ((rk (srt (xs.map (ex wd wi))) (ex wd wi x) : Nat) : Int) = ((rk (srt xs) x : Nat) : Int)
    rw [rk_image inj]
    unfold rk
    rw [filt_congr (l := srt xs) (p := fun y => decide (ex wd wi y < ex wd wi x)) (q := fun y => decide (y < x)) fun y hy => decide_eq_decide.mpr (mono y (srt_mem.mp hy) x hx)]
  · unfold ct
    rw [rk_image inj]
    unfold rk
    rw [filt_congr (l := srt xs) (p := fun y => decide (ex wd wi y < 2 ^ (wi - 1).toNat)) (q := fun y => decide (y < 2 ^ (wd - 1).toNat)) fun y hy => by
      have wy := w y (srt_mem.mp hy)
      refine decide_eq_decide.mpr ?_
      unfold ex
      split <;> constructor <;> intro _ <;> omega]
theorem ct_all {xs : List Int} {h : Int} (w : ∀ x ∈ xs, x < h) : ct xs h = ((srt xs).length : Int) := by
  unfold ct rk
  rw [List.filter_eq_self.mpr fun y hy => decide_eq_true (w y (srt_mem.mp hy))]
theorem mx_is {rs : List Int} {m : Nat} (hm : 0 < m) (is : IsRk rs m) : mx rs = (m : Int) - 1 := by
  have g : ∀ (l : List Int) (z : Int), (l.foldl (fun a y => if a < y then y else a) z ∈ z :: l) ∧ ∀ y ∈ z :: l, y ≤ l.foldl (fun a y => if a < y then y else a) z := by
    intro l
    induction l with
    | nil => exact fun z => ⟨List.mem_cons_self, fun y hy => by rw [List.mem_singleton.mp hy]; exact Int.le_refl _⟩
    | cons y l ih =>
      intro z
      rw [List.foldl_cons]
      obtain ⟨a, b⟩ := ih (if z < y then y else z)
      refine ⟨?_, fun k hk => ?_⟩
      · rcases List.mem_cons.mp a with e | e
        · rw [e]
          split
          · exact List.mem_cons_of_mem _ List.mem_cons_self
          · exact List.mem_cons_self
        · exact List.mem_cons_of_mem _ (List.mem_cons_of_mem _ e)
      · have hz := b _ List.mem_cons_self
        rcases List.mem_cons.mp hk with rfl | hk
        · exact Int.le_trans (show k ≤ if k < y then y else k by split <;> omega) hz
        · rcases List.mem_cons.mp hk with rfl | hk
          · exact Int.le_trans (show k ≤ if z < k then k else z by split <;> omega) hz
          · exact b k (List.mem_cons_of_mem _ hk)
  cases rs with
  | nil => exact absurd ((is 0).mpr ⟨by omega, by omega⟩) (by simp)
  | cons x l =>
    obtain ⟨a, b⟩ := g l x
    have h1 := (is _).mp a
    have h2 := b ((m : Int) - 1) ((is _).mpr ⟨by omega, by omega⟩)
    show l.foldl (fun a y => if a < y then y else a) x = (m : Int) - 1
    omega
theorem srt_pos {xs : List Int} (h : xs ≠ []) : 0 < (srt xs).length := by
  cases xs with
  | nil => exact absurd rfl h
  | cons x l =>
    refine List.length_pos_of_mem (a := x) (srt_mem.mpr List.mem_cons_self)
/-! outcomes of all pairs -/
def shownR (rs : List Int) (c : Int) : List Str := rs.flatMap fun a => rs.map fun b => ocut c a b
def single (rs : List Int) (c : Int) : Bool := decide (c = 0) || decide (c = mx rs + 1)
theorem oc_facts {c a b : Int} : (ocut c a b = "E" ↔ a = b) ∧ ((ocut c a b = "LB" ∨ ocut c a b = "GB") ↔ a < b) ∧ ((ocut c a b = "LA" ∨ ocut c a b = "GB") ↔ a ≠ b ∧ ((a < c) ↔ ¬ (b < c))) := by
  unfold ocut
  by_cases e : a = b
  · subst e
    rw [if_pos rfl]
    refine ⟨by simp, ⟨fun z => absurd z (by decide +kernel), fun z => absurd z (Int.lt_irrefl _)⟩, ?_⟩
    constructor
    · intro z
      exact absurd z (by decide +kernel)
    · intro z
      exact absurd rfl z.1
  · rw [if_neg e]
    by_cases l : a < b
    · rw [if_pos l]
      by_cases x : a < c <;> by_cases y : b < c <;> simp [x, y, l, e] <;> decide +kernel
    · rw [if_neg l]
      by_cases x : a < c <;> by_cases y : b < c <;> simp [x, y, l, e] <;> decide +kernel
theorem rks_same {xs ys : List Int} (hl : xs.length = ys.length) (h : ∀ (i j : Nat) (a b c d : Int), xs[i]? = some a → xs[j]? = some b → ys[i]? = some c → ys[j]? = some d → (a < b ↔ c < d)) : rks xs = rks ys := by
  let f : Int → Int := fun x => ys.getD (xs.idxOf x) 0
  have at_f : ∀ (i : Nat) (a c : Int), xs[i]? = some a → ys[i]? = some c → f a = c := fun i a c ha hc => by
    have m := List.mem_of_getElem? ha
    have hi : xs.idxOf a < xs.length := List.idxOf_lt_length_of_mem m
    have ea : xs[xs.idxOf a]? = some a := by
      rw [List.getElem?_eq_getElem hi]
      exact congrArg some (List.getElem_idxOf hi)
    have ec : ys[xs.idxOf a]? = some (ys[xs.idxOf a]'(by omega)) := List.getElem?_eq_getElem (by omega)
    have h1 := h _ _ _ _ _ _ ea ha ec hc
    have h2 := h _ _ _ _ _ _ ha ea hc ec
    have e : f a = ys[xs.idxOf a]'(by omega) := by
      show ys.getD (xs.idxOf a) 0 = _
      rw [List.getD_eq_getElem?_getD, ec]
      rfl
    rw [e]
    omega
  have both : ∀ x ∈ xs, ∃ (i : Nat) (c : Int), xs[i]? = some x ∧ ys[i]? = some c ∧ f x = c := fun x hx => by
    obtain ⟨i, hi, e⟩ := List.mem_iff_getElem.mp hx
    have ex : xs[i]? = some x := by rw [List.getElem?_eq_getElem hi, e]
    have ec : ys[i]? = some (ys[i]'(by omega)) := List.getElem?_eq_getElem (by omega)
    exact ⟨i, _, ex, ec, at_f i x _ ex ec⟩
  have mono : ∀ x ∈ xs, ∀ y ∈ xs, (f x < f y ↔ x < y) := fun x hx y hy => by
    obtain ⟨i, c, h1, h2, rfl⟩ := both x hx
    obtain ⟨j, d, h3, h4, rfl⟩ := both y hy
    exact (h i j _ _ _ _ h1 h3 h2 h4).symm
  have e : ys = xs.map f := by
    apply List.ext_getElem?
    intro i
    rw [List.getElem?_map]
    by_cases hi : i < xs.length
    · have ex : xs[i]? = some xs[i] := List.getElem?_eq_getElem hi
      have ec : ys[i]? = some (ys[i]'(by omega)) := List.getElem?_eq_getElem (by omega)
      rw [ex, ec, Option.map_some, at_f i _ _ ex ec]
    · rw [List.getElem?_eq_none (by omega), List.getElem?_eq_none (by omega)]
      rfl
  rw [e]
  unfold rks
  rw [List.map_map]
  refine List.map_congr_left fun x hx => ?_
  show _ = ((rk (srt (xs.map f)) (f x) : Nat) : Int)
  rw [rk_image fun a ha b hb q => by
    have h1 := mono a ha b hb
    have h2 := mono b hb a ha
    omega]
  unfold rk
  rw [filt_congr (l := srt xs) (p := fun y => decide (f y < f x)) (q := fun y => decide (y < x)) fun y hy => decide_eq_decide.mpr (mono y (srt_mem.mp hy) x hx)]
theorem srt_isRk {rs : List Int} {m : Nat} (is : IsRk rs m) : srt rs = rg m := isRk_srt is (srt_up rs) fun k => srt_mem
theorem rks_id {rs : List Int} {m : Nat} (is : IsRk rs m) : rks rs = rs := by
  unfold rks
  rw [srt_isRk is]
  have : ∀ r ∈ rs, ((rk (rg m) r : Nat) : Int) = r := fun r hr => by
    obtain ⟨a, b⟩ := (is r).mp hr
    exact rk_rg a (by omega)
  rw [List.map_congr_left this, List.map_id']
theorem flat_inj {α β : Type} {f g : α → List β} {n : Nat} : ∀ {as bs : List α}, as.length = bs.length → (∀ a ∈ as, (f a).length = n) → (∀ b ∈ bs, (g b).length = n) → as.flatMap f = bs.flatMap g → ∀ (i : Nat) (a b : α), as[i]? = some a → bs[i]? = some b → f a = g b
  | [], _, _, _, _, _, i, a, b, e, _ => by cases i <;> cases e
  | _ :: _, [], h, _, _, _, _, _, _, _, _ => by cases h
  | x :: as, y :: bs, h, hf, hg, e, i, a, b, ea, eb => by
    rw [List.flatMap_cons, List.flatMap_cons] at e
    obtain ⟨e1, e2⟩ := List.append_inj e (by rw [hf x List.mem_cons_self, hg y List.mem_cons_self])
    cases i with
    | zero =>
      cases ea
      cases eb
      exact e1
    | succ i => exact flat_inj (Nat.succ.inj h) (fun a m => hf a (List.mem_cons_of_mem _ m)) (fun b m => hg b (List.mem_cons_of_mem _ m)) e2 i a b ea eb
theorem shown_tell {rs rt : List Int} {c d : Int} {m k : Nat} (hl : rs.length = rt.length) (i1 : IsRk rs m) (i2 : IsRk rt k) (c0 : 0 ≤ c) (cm : c ≤ (m : Int)) (d0 : 0 ≤ d) (dk : d ≤ (k : Int)) (hm : 0 < m) (hk : 0 < k) :
    decide (shownR rs c = shownR rt d) = (decide (rs = rt ∧ c = d) || (decide (rs = rt) && (single rs c && single rt d))) := by
  have s1 : single rs c = (decide (c = 0) || decide (c = (m : Int))) := by unfold single; rw [mx_is hm i1, show (m : Int) - 1 + 1 = m by omega]
  have s2 : single rt d = (decide (d = 0) || decide (d = (k : Int))) := by unfold single; rw [mx_is hk i2, show (k : Int) - 1 + 1 = k by omega]
  rw [s1, s2, ← Bool.decide_or, ← Bool.decide_or, ← Bool.decide_and, ← Bool.decide_and, ← Bool.decide_or]
  refine decide_eq_decide.mpr ⟨fun e => ?_, fun h => ?_⟩
  · have pt : ∀ (i j : Nat) (a b x y : Int), rs[i]? = some a → rs[j]? = some b → rt[i]? = some x → rt[j]? = some y → ocut c a b = ocut d x y := fun i j a b x y ha hb hx hy => by
      have g := flat_inj (n := rs.length) hl (fun a _ => List.length_map ..) (fun b _ => by rw [List.length_map, hl]) e i a x ha hx
      have q := congrArg (fun l : List Str => l[j]?) g
      rw [List.getElem?_map, List.getElem?_map, hb, hy] at q
      exact Option.some.inj q
    have er : rs = rt := by
      rw [← rks_id i1, ← rks_id i2]
      refine rks_same hl fun i j a b x y ha hb hx hy => ?_
      have p := pt i j a b x y ha hb hx hy
      have f1 := (oc_facts (c := c) (a := a) (b := b)).2.1
      have f2 := (oc_facts (c := d) (a := x) (b := y)).2.1
      rw [← f1, ← f2, p]
    subst er
    have mk : m = k := by
      have := congrArg List.length ((srt_isRk i1).symm.trans (srt_isRk i2))
      rwa [rg_len, rg_len] at this
    subst mk
    by_cases cd : c = d
    · exact .inl ⟨rfl, cd⟩
    · refine .inr ⟨rfl, ?_⟩
      have mixed : ∀ u v : Int, u ∈ rs → v ∈ rs → (u ≠ v ∧ ((u < c) ↔ ¬ (v < c)) ↔ u ≠ v ∧ ((u < d) ↔ ¬ (v < d))) := fun u v hu hv => by
        obtain ⟨i, hi, e1⟩ := List.mem_iff_getElem.mp hu
        obtain ⟨j, hj, e2⟩ := List.mem_iff_getElem.mp hv
        have a1 : rs[i]? = some u := by rw [List.getElem?_eq_getElem hi, e1]
        have a2 : rs[j]? = some v := by rw [List.getElem?_eq_getElem hj, e2]
        have p := pt i j u v u v a1 a2 a1 a2
        rw [← (oc_facts (c := c) (a := u) (b := v)).2.2, ← (oc_facts (c := d) (a := u) (b := v)).2.2, p]
      refine ⟨?_, ?_⟩
      · refine Decidable.byContradiction fun n => ?_
        have := mixed (c - 1) c ((i1 _).mpr ⟨by omega, by omega⟩) ((i1 _).mpr ⟨by omega, by omega⟩)
        omega
      · refine Decidable.byContradiction fun n => ?_
        have := mixed (d - 1) d ((i1 _).mpr ⟨by omega, by omega⟩) ((i1 _).mpr ⟨by omega, by omega⟩)
        omega
  · rcases h with ⟨rfl, rfl⟩ | ⟨rfl, h1, h2⟩
    · rfl
    · have mk : m = k := by
        have := congrArg List.length ((srt_isRk i1).symm.trans (srt_isRk i2))
        rwa [rg_len, rg_len] at this
      subst mk
      have same : ∀ u ∈ rs, ∀ v ∈ rs, ocut c u v = ocut d u v := fun u hu v hv => by
        obtain ⟨u0, u1⟩ := (i1 u).mp hu
        obtain ⟨v0, v1⟩ := (i1 v).mp hv
        have mc : (decide (u < c) != decide (v < c)) = false := by
          rcases h1 with h | h
          · rw [decide_eq_false (show ¬ u < c by omega), decide_eq_false (show ¬ v < c by omega)]
            rfl
          · rw [decide_eq_true (show u < c by omega), decide_eq_true (show v < c by omega)]
            rfl
        have md : (decide (u < d) != decide (v < d)) = false := by
          rcases h2 with h | h
          · rw [decide_eq_false (show ¬ u < d by omega), decide_eq_false (show ¬ v < d by omega)]
            rfl
          · rw [decide_eq_true (show u < d by omega), decide_eq_true (show v < d by omega)]
            rfl
        unfold ocut
        rw [mc, md]
      unfold shownR
      have fm : ∀ l : List Int, (∀ u ∈ l, u ∈ rs) → l.flatMap (fun a => rs.map fun b => ocut c a b) = l.flatMap fun a => rs.map fun b => ocut d a b := by
        intro l
        induction l with
        | nil => exact fun _ => rfl
        | cons u l ih =>
          intro hs
          rw [List.flatMap_cons, List.flatMap_cons, ih fun u m => hs u (List.mem_cons_of_mem _ m)]
          rw [List.map_congr_left fun v hv => same u (hs u List.mem_cons_self) v hv]
      exact fm rs fun u m => m
end BR
namespace BR
open PySem PySem.Spec PyProof.Rows L2
theorem fall_le {n : Int} {a : Nat} (h0 : 0 ≤ n) (h1 : n ≤ 2 ^ a) (k : Nat) (hk : (k : Int) ≤ n) : Builtin.Math.fallingProduct n k ≤ 2 ^ (a * k) := by
  induction k with
  | zero => exact (by decide : (1 : Int) ≤ 1)
  | succ k ih =>
    have i := ih (by omega)
    have nn := fall_nn (n := n) k (by omega)
    have e : Builtin.Math.fallingProduct n (k + 1) = Builtin.Math.fallingProduct n k * (n - (k : Int)) := by
      unfold Builtin.Math.fallingProduct
      rw [List.range_succ, List.foldl_append]
      rfl
    rw [e, Nat.mul_succ, Int.pow_add]
    exact Int.mul_le_mul i (by omega) (by omega) (Int.le_of_lt (pow_pos _))
theorem cmb_log {n k : Int} (h0 : 0 ≤ n) (h1 : n ≤ 2 ^ 1000) (k0 : 0 ≤ k) (k8 : k ≤ 8) : (n < k ∨ (Builtin.Math.fallingProduct n (min k (n - k)).toNat / Builtin.Math.fallingProduct (min k (n - k)) (min k (n - k)).toNat).natAbs.log2 < bitsLine) ∧ (cmb n k).natAbs.log2 < 10000 := by
  by_cases c : n < k
  · refine ⟨.inl c, ?_⟩
    unfold cmb
    rw [if_pos c]
    decide
  · have key : (Builtin.Math.fallingProduct n (min k (n - k)).toNat / Builtin.Math.fallingProduct (min k (n - k)) (min k (n - k)).toNat).natAbs.log2 < 10000 := by
      have a := fall_nn (n := n) (min k (n - k)).toNat (by omega)
      have b := fall_le h0 h1 (min k (n - k)).toNat (by omega)
      have d := fall_nn (n := min k (n - k)) (min k (n - k)).toNat (by omega)
      have q0 : 0 ≤ Builtin.Math.fallingProduct n (min k (n - k)).toNat / Builtin.Math.fallingProduct (min k (n - k)) (min k (n - k)).toNat := Int.ediv_nonneg a d
      have q1 := Int.ediv_le_self (Builtin.Math.fallingProduct (min k (n - k)) (min k (n - k)).toNat) a
      have b2 : (2 : Int) ^ (1000 * (min k (n - k)).toNat) ≤ 2 ^ 9000 := pow_le (by omega)
      have b3 : (2 : Int) ^ 9000 < 2 ^ 9001 := pow_lt (by decide)
      have e : ((2 : Int) ^ 9001) = ((2 ^ 9001 : Nat) : Int) := nat_cast_pow 9001
      rw [e] at b3
      refine Nat.lt_of_lt_of_le (PySem.Flt.log2_lt_of (k := 9001) (by decide) ?_) (by decide)
      omega
    refine ⟨.inr (Nat.lt_trans key (by decide)), ?_⟩
    unfold cmb
    rw [if_neg c]
    exact key
end BR

/-! ### rankings as a law lists them -/
namespace BR
open PySem PySem.Spec PyProof.Rows L2
def lawRows (n : Nat) : Nat → List (List Int)
  | 0 => [[]]
  | k + 1 => (lawRows n k).flatMap (addR n)
def lawCuts (r : List Int) : List (List Int × Int) := if ((srt r).length : Int) = mx r + 1 then cutsR r else []
theorem law_all : ∀ n ∈ ([1, 2, 3, 4] : List Nat), (lawRows n n).flatMap lawCuts = allRk n := by decide +kernel
theorem law_rows : ∀ n ∈ ([1, 2, 3, 4] : List Nat), ∀ k ∈ List.range (n + 1), (lawRows n k).length ≤ 256 ∧ ∀ r ∈ lawRows n k, r.length = k ∧ 0 ≤ mx r ∧ mx r ≤ 3 := by decide +kernel
theorem four {n : Nat} (h1 : 1 ≤ n) (h2 : n ≤ 4) : n ∈ ([1, 2, 3, 4] : List Nat) := by
  have : n = 1 ∨ n = 2 ∨ n = 3 ∨ n = 4 := by omega
  simpa using this
theorem all_len4 {n : Nat} (h1 : 1 ≤ n) (h2 : n ≤ 4) : 0 < (allRk n).length ∧ (allRk n).length ≤ 308 := by
  have := all_len
  have e : ∀ n ∈ ([1, 2, 3, 4] : List Nat), 0 < (allRk n).length ∧ (allRk n).length ≤ 308 := by decide +kernel
  exact e n (four h1 h2)
/-- refs to lists of ints -/
def LL (H : Hp) (as : List Addr) (rows : List (List Int)) : Prop := Paired (fun a row => H a = some (.lst (row.map V.int))) as rows
theorem LL.but {H H' : Hp} {D : Addr} : ∀ {as : List Addr} {rows : List (List Int)}, LL H as rows → But D H H' → (∀ a ∈ as, a ≠ D) → LL H' as rows
  | _, _, .nil, _, _ => .nil
  | _, _, .cons h t, b, n => .cons (b _ _ (n _ List.mem_cons_self) h) (LL.but t b fun a m => n a (List.mem_cons_of_mem _ m))
theorem LL.same {H H' : Hp} {as : List Addr} {rows : List (List Int)} (h : LL H as rows) (s : Same H H') : LL H' as rows := pr_mono h fun a r e => s _ _ e
theorem pr_app {α β : Type} {R : α → β → Prop} : ∀ {as : List α} {bs : List β} {cs : List α} {ds : List β}, Paired R as bs → Paired R cs ds → Paired R (as ++ cs) (bs ++ ds)
  | _, _, _, _, .nil, r => r
  | _, _, _, _, .cons h t, r => .cons h (pr_app t r)
theorem mx_one {ns : List Int} {m : Int} (hm : m ∈ ns) (h : ∀ y ∈ ns, y ≤ m) : m = mx ns := by
  have g : ∀ (l : List Int) (z : Int), (l.foldl (fun a y => if a < y then y else a) z ∈ z :: l) ∧ ∀ y ∈ z :: l, y ≤ l.foldl (fun a y => if a < y then y else a) z := by
    intro l
    induction l with
    | nil => exact fun z => ⟨List.mem_cons_self, fun y hy => by rw [List.mem_singleton.mp hy]; exact Int.le_refl _⟩
    | cons y l ih =>
      intro z
      rw [List.foldl_cons]
      obtain ⟨a, b⟩ := ih (if z < y then y else z)
      refine ⟨?_, fun k hk => ?_⟩
      · rcases List.mem_cons.mp a with e | e
        · rw [e]
          split
          · exact List.mem_cons_of_mem _ List.mem_cons_self
          · exact List.mem_cons_self
        · exact List.mem_cons_of_mem _ (List.mem_cons_of_mem _ e)
      · have hz := b _ List.mem_cons_self
        rcases List.mem_cons.mp hk with rfl | hk
        · exact Int.le_trans (show k ≤ if k < y then y else k by split <;> omega) hz
        · rcases List.mem_cons.mp hk with rfl | hk
          · exact Int.le_trans (show k ≤ if z < k then k else z by split <;> omega) hz
          · exact b k (List.mem_cons_of_mem _ hk)
  cases ns with
  | nil => exact absurd hm (by simp)
  | cons x l =>
    obtain ⟨a, b⟩ := g l x
    have h1 := h _ a
    have h2 := b m hm
    show m = l.foldl (fun a y => if a < y then y else a) x
    omega
theorem addR_len (n : Nat) (r : List Int) : (addR n r).length = n := by unfold addR; rw [List.length_map, List.length_range]
end BR
namespace BR
open PySem PySem.Spec PyProof.Rows L2
theorem CMulW_small {i j : Int} (hi : i.natAbs < 2 ^ 20) (hj : j.natAbs < 2 ^ 20) : CMulW i j := by
  have a := PySem.Flt.log2_lt_of (k := 20) (by decide) hi
  have b := PySem.Flt.log2_lt_of (k := 20) (by decide) hj
  show _ + _ < 1000000
  omega
end BR

/-! ### data compared: outcomes, rankings, bools -/
namespace BR
open PySem PySem.Spec PyProof.Rows L2
theorem strs_shapedL {xs : List Str} (ok : ∀ x ∈ xs, PyData.strOk x = true) : SeqAt.shaped (.list (xs.map PyData.str)) = true := by
  obtain ⟨h1, h2⟩ := strs_lay xs ok
  unfold SeqAt.shaped
  show (PyData.canLayAll0 (xs.map PyData.str) && decide (PyData.depthAll (xs.map PyData.str) + 1 ≤ 64)) = true
  rw [h1, h2]
  rfl
theorem strs_eqvL (xs ys : List Str) : PyData.eqv (.list (xs.map PyData.str)) (.list (ys.map PyData.str)) = decide (xs = ys) := strs_eqvA xs ys
theorem dp_strsL {K : PySem.W.Frag} {H : Hp} {a : Addr} {xs : List Str} (h : H a = some (.lst (xs.map V.str))) : Dp K H (.ref a) (.list (xs.map PyData.str)) := .lst (SqL.of h) (strs_all xs)
theorem ints_eqvA : ∀ xs ys : List Int, PyData.eqvAll (xs.map PyData.int) (ys.map PyData.int) = decide (xs = ys)
  | [], [] => rfl
  | [], _ :: _ => rfl
  | _ :: _, [] => rfl
  | x :: xs, y :: ys => by
    show (x == y && PyData.eqvAll (xs.map PyData.int) (ys.map PyData.int)) = decide (x :: xs = y :: ys)
    rw [ints_eqvA xs ys]
    by_cases h : x = y
    · by_cases g : xs = ys <;> simp [h, g]
    · simp [h]
theorem ints_eqvT (xs ys : List Int) : PyData.eqv (.tuple (xs.map PyData.int)) (.tuple (ys.map PyData.int)) = decide (xs = ys) := ints_eqvA xs ys
theorem rkD_eqv (rs rt : List Int) (c d : Int) : PyData.eqv (rkD rs c) (rkD rt d) = decide (rs = rt ∧ c = d) := by
  show (PyData.eqvAll (rs.map PyData.int) (rt.map PyData.int) && ((c == d) && true)) = _
  rw [ints_eqvA]
  by_cases h : rs = rt <;> by_cases g : c = d <;> simp [h, g]
theorem rkD_sh {rs : List Int} {c : Int} : SeqAt.shaped (rkD rs c) = true := by
  obtain ⟨l1, l2⟩ := ints_lay rs
  unfold SeqAt.shaped
  show ((PyData.canLayAll0 (rs.map PyData.int) && (true && true)) && decide (max (PyData.depthAll (rs.map PyData.int) + 1) (max 0 0) + 1 ≤ 64)) = true
  rw [l1, l2]
  rfl
theorem ocut_ok (c a b : Int) : PyData.strOk (ocut c a b) = true := by
  unfold ocut
  split
  · decide +kernel
  · split <;> split <;> decide +kernel
theorem shown_okS (rs : List Int) (c : Int) : ∀ x ∈ shownR rs c, PyData.strOk x = true := fun x m => by
  obtain ⟨a, _, h⟩ := List.mem_flatMap.mp m
  obtain ⟨b, _, rfl⟩ := List.mem_map.mp h
  exact ocut_ok c a b
theorem two_bools (a b : Bool) : PyData.eqv (.list [.bool a, .bool b]) (.list [.bool true, .bool true]) = (a && b) := by
  cases a <;> cases b <;> decide +kernel
theorem single_in (rs : List Int) (c : Int) : inV (.int c) [.int 0, .int (mx rs + 1)] = single rs c := by
  unfold inV single
  show ((0 == c) || ((mx rs + 1 == c) || false)) = _
  have e1 : ((0 : Int) == c) = decide (c = 0) := by
    by_cases h : c = 0
    · subst h
      rfl
    · rw [decide_eq_false h]
      exact beq_eq_false_iff_ne.mpr fun z => h z.symm
  have e2 : (mx rs + 1 == c) = decide (c = mx rs + 1) := by
    by_cases h : c = mx rs + 1
    · rw [decide_eq_true h, h]
      exact beq_self_eq_true _
    · rw [decide_eq_false h]
      exact beq_eq_false_iff_ne.mpr fun z => h z.symm
  rw [e1, e2, Bool.or_false]
theorem turn_in {c m r : Int} (c0 : 0 ≤ c) (cm : c ≤ m) (r0 : 0 ≤ r) (r1 : r < m) : 0 ≤ turnR c m r ∧ turnR c m r < m := by
  unfold turnR
  split <;> omega
/-- the first words of the next width -/
theorem lw_grown {h c r : Int} (h0 : 0 ≤ h) (hc : c ≤ h) (r0 : 0 ≤ r) : lw (2 * h) c r = if h ≤ lw h c r then lw h c r + h else lw h c r := by
  unfold lw
  by_cases q : r < c
  · rw [if_pos q, if_pos q, if_neg (by omega)]
  · rw [if_neg q, if_neg q, if_pos (by omega)]
    omega
theorem map_take_one {α β : Type} {f : α → β} {l : List α} {i : Nat} {x : α} (h : l[i]? = some x) : (l.take (i + 1)).map f = (l.take i).map f ++ [f x] := by
  rw [List.take_add_one, h, List.map_append]
  rfl
end BR

/-! ### rankings in their order: sorted(xs) of rankings that stand in order; the place of one -/
namespace BR
open PySem PySem.Spec PyProof.Rows L2
def cd : List Int → Int
  | [] => 0
  | x :: xs => x * 8 ^ xs.length + cd xs
def cdk (p : List Int × Int) : Int := cd p.1 * 8 + p.2
def Dig (ns : List Int) : Prop := ∀ x ∈ ns, 0 ≤ x ∧ x < 8
theorem pos8 : ∀ n : Nat, (0 : Int) < 8 ^ n
  | 0 => by decide
  | n + 1 => by
    have := pos8 n
    rw [Int.pow_succ]
    omega
theorem cd_rng : ∀ {ns : List Int}, Dig ns → 0 ≤ cd ns ∧ cd ns < 8 ^ ns.length
  | [], _ => by decide
  | x :: xs, h => by
    obtain ⟨a, b⟩ := cd_rng (ns := xs) fun y m => h y (List.mem_cons_of_mem _ m)
    obtain ⟨c, d⟩ := h x List.mem_cons_self
    have p := pos8 xs.length
    have e1 : 0 ≤ x * 8 ^ xs.length := Int.mul_nonneg c (Int.le_of_lt p)
    have e2 : x * 8 ^ xs.length ≤ 7 * 8 ^ xs.length := Int.mul_le_mul_of_nonneg_right (by omega) (Int.le_of_lt p)
    show 0 ≤ x * 8 ^ xs.length + cd xs ∧ x * 8 ^ xs.length + cd xs < 8 ^ (xs.length + 1)
    rw [Int.pow_succ]
    generalize (8 : Int) ^ xs.length = P at *
    omega
theorem lexAt_shift {e r : Nat → Bool} {z : Bool} : ∀ k i : Nat, Ob.lexAt (fun j => e (j + 1)) (fun j => r (j + 1)) z i k = Ob.lexAt e r z (i + 1) k
  | 0, _ => rfl
  | k + 1, i => by
    rw [Ob.lexAt_succ, Ob.lexAt_succ, lexAt_shift k (i + 1)]
theorem lex_cd : ∀ {ns ms : List Int}, Dig ns → Dig ms → ns.length = ms.length →
    Ob.lexAt (fun j => decide (ns.getD j 0 = ms.getD j 0)) (fun j => decide (ns.getD j 0 < ms.getD j 0)) false 0 ns.length = decide (cd ns < cd ms)
  | [], [], _, _, _ => rfl
  | [], _ :: _, _, _, e => nomatch e
  | _ :: _, [], _, _, e => nomatch e
  | x :: xs, y :: ys, h1, h2, e => by
    have e' : xs.length = ys.length := Nat.succ.inj e
    have d1 : Dig xs := fun z m => h1 z (List.mem_cons_of_mem _ m)
    have d2 : Dig ys := fun z m => h2 z (List.mem_cons_of_mem _ m)
    have ih := lex_cd d1 d2 e'
    obtain ⟨a1, a2⟩ := cd_rng d1
    obtain ⟨b1, b2⟩ := cd_rng d2
    have p := pos8 xs.length
    rw [show (x :: xs).length = xs.length + 1 from rfl, Ob.lexAt_succ, ← lexAt_shift]
    show (if decide (x = y) = true then Ob.lexAt (fun j => decide (xs.getD j 0 = ys.getD j 0)) (fun j => decide (xs.getD j 0 < ys.getD j 0)) false 0 xs.length else decide (x < y)) = decide (x * 8 ^ xs.length + cd xs < y * 8 ^ ys.length + cd ys)
    rw [ih, ← e']
    rw [← e'] at b2
    by_cases c : x = y
    · subst c
      rw [if_pos (decide_eq_true rfl)]
      exact decide_eq_decide.mpr (by omega)
    · rw [if_neg (by simp [c])]
      refine decide_eq_decide.mpr ⟨fun l => ?_, fun l => ?_⟩
      · have : (x + 1) * 8 ^ xs.length ≤ y * 8 ^ xs.length := Int.mul_le_mul_of_nonneg_right (by omega) (Int.le_of_lt p)
        rw [Int.add_mul] at this
        omega
      · rcases Int.lt_or_lt_of_ne c with g | g
        · exact g
        · have : (y + 1) * 8 ^ xs.length ≤ x * 8 ^ xs.length := Int.mul_le_mul_of_nonneg_right (by omega) (Int.le_of_lt p)
          rw [Int.add_mul] at this
          omega
theorem cd_inj : ∀ {ns ms : List Int}, Dig ns → Dig ms → ns.length = ms.length → cd ns = cd ms → ns = ms
  | [], [], _, _, _, _ => rfl
  | [], _ :: _, _, _, e, _ => nomatch e
  | _ :: _, [], _, _, e, _ => nomatch e
  | x :: xs, y :: ys, h1, h2, e, c => by
    have e' : xs.length = ys.length := Nat.succ.inj e
    have d1 : Dig xs := fun z m => h1 z (List.mem_cons_of_mem _ m)
    have d2 : Dig ys := fun z m => h2 z (List.mem_cons_of_mem _ m)
    obtain ⟨a1, a2⟩ := cd_rng d1
    obtain ⟨b1, b2⟩ := cd_rng d2
    have p := pos8 xs.length
    change x * 8 ^ xs.length + cd xs = y * 8 ^ ys.length + cd ys at c
    rw [← e'] at b2 c
    have exy : x = y := by
      by_cases g : x = y
      · exact g
      rcases Int.lt_or_lt_of_ne g with g | g
      · have : (x + 1) * 8 ^ xs.length ≤ y * 8 ^ xs.length := Int.mul_le_mul_of_nonneg_right (by omega) (Int.le_of_lt p)
        rw [Int.add_mul] at this
        omega
      · have : (y + 1) * 8 ^ xs.length ≤ x * 8 ^ xs.length := Int.mul_le_mul_of_nonneg_right (by omega) (Int.le_of_lt p)
        rw [Int.add_mul] at this
        omega
    subst exy
    rw [cd_inj d1 d2 e' (by omega)]
/-- a value that is a ranking -/
def RkV (h : Heap) (v : Value) (ns : List Int) (c : Int) : Prop := ∃ (q rt : Addr) (t : Tok) (its : List Value), v = .ref q ∧ h.IsTuple q #[.ref rt, .int c t] ∧ h.IsTuple rt its.toArray ∧ IntsAre its ns
theorem RkV.keeps {h h' : Heap} {v : Value} {ns : List Int} {c : Int} (r : RkV h v ns c) (k : ∀ b o, h.get? b = some o → h'.get? b = some o) : RkV h' v ns c := by
  obtain ⟨q, rt, t, its, e, ⟨o, ho, hc, n, hd⟩, ⟨o', ho', hc', n', hd'⟩, hi⟩ := r
  exact ⟨q, rt, t, its, e, ⟨o, k _ _ ho, hc, n, hd⟩, ⟨o', k _ _ ho', hc', n', hd'⟩, hi⟩
section
variable {prog : Program} {w : World} {A : Around} {s : Shared}
theorem rkv_cmp {v u : Value} {ns ms : List Int} {c d : Int} (hv : RkV s.heap v ns c) (hu : RkV s.heap u ms d) (h1 : Dig ns) (h2 : Dig ms) (he : ns.length = ms.length) (hc : 0 ≤ c ∧ c < 8) (hd : 0 ≤ d ∧ d < 8) (hA : A.units + 8 < cLine) :
    wpAny (model prog w) A (keyLt' (tuples' false) v u) (fun r s' => s' = s ∧ r = decide (cdk (ns, c) < cdk (ms, d))) (fun _ _ => False) s := by
  obtain ⟨q, rt, t, its, rfl, ⟨o, ho, hcl, n, hda⟩, hrt, hi⟩ := hv
  obtain ⟨q', rt', t', its', rfl, ⟨o', ho', hcl', n', hda'⟩, hrt', hi'⟩ := hu
  have e1 : its.toArray.size = ns.length := by rw [List.size_toArray]; exact hi.length
  have e2 : its'.toArray.size = ms.length := by rw [List.size_toArray]; exact hi'.length
  refine PySem.W.kat_lt ho hda ho' hda' ?_
  show PySem.W.KatLex prog w A false (decide (2 < 2)) _ [(.ref rt, .ref rt'), (.int c t, .int d t')] 0 s
  have R1 : Reads s.heap (.ref rt) (.tuple (ns.map .int)) [] := reads_tuple_ints hrt hi
  have R2 : Reads s.heap (.ref rt') (.tuple (ms.map .int)) [] := reads_tuple_ints hrt' hi'
  obtain ⟨l1, p1⟩ := ints_lay ns
  obtain ⟨l2, p2⟩ := ints_lay ms
  have EQ := SeqAt.eqAt_reads (.tuple (ns.map .int)) (.tuple (ms.map .int)) A s _ _ _ _ R1 R2 l1 l2 (by
    show A.units + min (PyData.depthAll (ns.map PyData.int) + 1) (PyData.depthAll (ms.map PyData.int) + 1) < cLine
    rw [p1, p2]
    show A.units + 1 < cLine
    omega)
  rw [ints_eqvT] at EQ
  have one : ∀ {a b : Int}, cdk (ns, a) < cdk (ms, b) ↔ cd ns * 8 + a < cd ms * 8 + b := Iff.rfl
  refine PySem.W.kat_cons (EQ prog w _ _ ?_)
  refine PySem.W.kat_go (fun c1 => ?_) (fun c1 => ?_)
  · have en : ns = ms := of_decide_eq_true c1
    subst en
    refine PySem.W.kat_yes (PySem.W.kat_cons (SeqAt.EqAt.int_int c t d t' prog w _ _ ?_))
    refine PySem.W.kat_go (fun c2 => ?_) (fun c2 => ?_)
    · have ec : c = d := by simpa using c2
      refine PySem.W.kat_yes (PySem.W.kat_nil ⟨rfl, ?_⟩)
      rw [ec]
      exact (decide_eq_false (Int.lt_irrefl _)).symm
    · refine PySem.W.kat_no (PySem.W.kat_one _ _ (PyProof.Rows.lt_int ?_))
      refine (show s = s ∧ decide (c < d) = decide (cdk (ns, c) < cdk (ns, d)) from ⟨rfl, decide_eq_decide.mpr ?_⟩)
      rw [one]
      omega
  · have en : ¬ ns = ms := of_decide_eq_false c1
    have nc : cd ns ≠ cd ms := fun z => en (cd_inj h1 h2 he z)
    have at1 : ∀ j (h1 : j < its.toArray.size), ∃ t, its.toArray[j] = .int (ns.getD j 0) t := fun j h1 => PyProof.Rows.IntsAre.int_at hi _ _ (by simp at h1; simp [h1])
    have at2 : ∀ j (h1 : j < its'.toArray.size), ∃ t, its'.toArray[j] = .int (ms.getD j 0) t := fun j h1 => PyProof.Rows.IntsAre.int_at hi' _ _ (by simp at h1; simp [h1])
    have R := Ob.RcOp.tuples_lt (A := A) (s := s) (e := fun j => decide (ns.getD j 0 = ms.getD j 0)) (r := fun j => decide (ns.getD j 0 < ms.getD j 0)) hrt hrt' (by omega) (fun j h1 h2 => by
      obtain ⟨t, et⟩ := at1 j h1
      obtain ⟨t', et'⟩ := at2 j h2
      rw [et, et']
      have z : (ns.getD j 0 == ms.getD j 0) = decide (ns.getD j 0 = ms.getD j 0) := by
        by_cases q : ns.getD j 0 = ms.getD j 0
        · rw [decide_eq_true q]; exact beq_iff_eq.mpr q
        · rw [decide_eq_false q]; exact beq_eq_false_iff_ne.mpr q
      rw [← z]
      exact SeqAt.EqAt.int_int _ _ _ _) (fun j h1 h2 _ => by
      obtain ⟨t, et⟩ := at1 j h1
      obtain ⟨t', et'⟩ := at2 j h2
      rw [et, et']
      exact Ob.RcOp.lt_int _ _ _ _)
    rw [e1, e2, he, Nat.min_self, decide_eq_false (Nat.lt_irrefl _), ← he, lex_cd h1 h2 he] at R
    refine PySem.W.kat_no (PySem.W.kat_one _ _ ?_)
    refine (show wpAny (model prog w) A (richCompare .Lt (.ref rt) (.ref rt')) _ _ s from R prog w _ _ ?_)
    refine (show s = s ∧ decide (cd ns < cd ms) = decide (cdk (ns, c) < cdk (ms, d)) from ⟨rfl, decide_eq_decide.mpr ?_⟩)
    rw [one]
    omega
end
def intV : V → Int
  | .int i => i
  | _ => 0
/-- the code of a ranking that stands in H -/
def kfH (H : Hp) : V → Int
  | .ref q => match H q with
    | some (.tup [.ref rt, .int c]) => match H rt with
      | some (.tup xs) => cdk (xs.map intV, c)
      | _ => 0
    | _ => 0
  | _ => 0
theorem kfH_at {H : Hp} {q rt : Addr} {ns : List Int} {c : Int} (h : RkAt H q rt ns c) : kfH H (.ref q) = cdk (ns, c) := by
  have e : (ns.map V.int).map intV = ns := by
    rw [List.map_map]
    exact List.map_id' _
  simp only [kfH, h.1, h.2, e]
theorem kfH_swo (H : Hp) : SrtO.Swo (fun v u : Value => decide (kfH H (backV v) < kfH H (backV u))) := by
  refine ⟨fun x y h => ?_, fun x y z h1 h2 => ?_⟩
  · have a := of_decide_eq_true h
    exact decide_eq_false (by omega)
  · have a := of_decide_eq_false h1
    have b := of_decide_eq_false h2
    exact decide_eq_false (by omega)
/-- sorted(xs), xs a list of rankings in their order: a new list of the same ones -/
def rSortedRk (K : PySem.W.Frag) : List V → Hp → VK → Prop := fun vs H Q => ∃ (a : Addr) (qs : List Addr) (ps : List (List Int × Int)) (n : Nat), vs = [V.ref a] ∧ SqL K H a (qs.map V.ref) ∧ RL H qs ps ∧
  (∀ p ∈ ps, Dig p.1 ∧ p.1.length = n ∧ 0 ≤ p.2 ∧ p.2 < 8) ∧ ps.Pairwise (fun p r => cdk p < cdk r) ∧ ∀ p, H p = none → Q (.ref p) (L2.upd H p (.lst (qs.map V.ref)))
theorem pr_pair {α β : Type} {R : α → β → Prop} {S : β → β → Prop} {T : α → α → Prop} : ∀ {as : List α} {bs : List β}, Paired R as bs → bs.Pairwise S → (∀ a b a' b', R a b → R a' b' → S b b' → T a a') → as.Pairwise T
  | _, _, .nil, _, _ => .nil
  | _, _, .cons h t, p, m => by
    obtain ⟨p1, p2⟩ := List.pairwise_cons.mp p
    refine List.pairwise_cons.mpr ⟨fun a' ha => ?_, pr_pair t p2 m⟩
    obtain ⟨i, hi, e⟩ := List.mem_iff_getElem.mp ha
    obtain ⟨b', hb, r⟩ := pr_at t (i := i) (by rw [List.getElem?_eq_getElem hi, e])
    exact m _ _ _ _ h r (p1 _ (List.mem_of_getElem? hb))
theorem rkv_firsts {h : Heap} : ∀ {vs : List Value}, (∀ v ∈ vs, ∃ ns c, RkV h v ns c) → ∃ fs : List Value, PySem.W.KatTups h vs fs ∧ fs.length = vs.length ∧ ∀ f ∈ fs, ∃ rt o, f = Value.ref rt ∧ h.get? rt = some o ∧ o.cls = .type "tuple"
  | [], _ => ⟨[], True.intro, rfl, fun f m => by cases m⟩
  | v :: vs, hv => by
    obtain ⟨fs, h1, h2, h3⟩ := rkv_firsts (vs := vs) fun u m => hv u (List.mem_cons_of_mem _ m)
    obtain ⟨ns, c, q, rt, t, its, rfl, ⟨o, ho, hc, n, hd⟩, ⟨o', ho', hc', n', hd'⟩, hi⟩ := hv v List.mem_cons_self
    refine ⟨.ref rt :: fs, PySem.W.KatTups.cons ho hc hd rfl h1, by rw [List.length_cons, List.length_cons, h2], fun f m => ?_⟩
    rcases List.mem_cons.mp m with rfl | m
    · exact ⟨rt, o', rfl, ho', hc'⟩
    · exact h3 f m
section
variable {X : Cx}
theorem cr_sortedRk (hu : X.A.units + 64 < cLine) : CallR X (.builtin "sorted") (rSortedRk X.K) := by
  intro pins s σ H vs us Q I r h
  obtain ⟨a, qs, ps, n, rfl, hs, hx, hp, hso, q⟩ := h
  obtain ⟨its, rv, hl, hz⟩ := I.list hs
  obtain ⟨u, rfl, ru⟩ := vals1 r
  obtain rfl : u = Value.ref a := ru
  obtain ⟨e1, e2⟩ := refs_back rv fun x m => by
    obtain ⟨t, _, rfl⟩ := List.mem_map.mp m
    exact ⟨t, rfl⟩
  have old : ∀ v ∈ its, ∃ ns c, RkV s.heap v ns c ∧ Dig ns ∧ ns.length = n ∧ (0 ≤ c ∧ c < 8) ∧ kfH H (backV v) = cdk (ns, c) := fun v hv => by
    obtain ⟨t, rfl⟩ := e2 v hv
    have hm : V.ref t ∈ qs.map V.ref := by rw [e1]; exact List.mem_map.mpr ⟨_, hv, rfl⟩
    obtain ⟨t', ht, e⟩ := List.mem_map.mp hm
    cases e
    obtain ⟨i, hi, ei⟩ := List.mem_iff_getElem.mp ht
    obtain ⟨p, hpi, rt, hr⟩ := pr_at hx (i := i) (a := t) (by rw [List.getElem?_eq_getElem hi, ei])
    obtain ⟨d1, d2, d3, d4⟩ := hp p (List.mem_of_getElem? hpi)
    obtain ⟨_, its2, r2, o, ho, hc, n2, hd⟩ := I.hok _ _ hr.1
    obtain ⟨_, its3, r3, o3, ho3, hc3, n3, hd3⟩ := I.hok _ _ hr.2
    obtain ⟨u1, u2, rfl, ri, rj⟩ := vals2 r2
    obtain rfl : u1 = Value.ref rt := ri
    obtain ⟨t2, rfl⟩ := rj
    exact ⟨p.1, p.2, ⟨t, rt, t2, its3, rfl, ⟨o, ho, hc, n2, hd⟩, ⟨o3, ho3, hc3, n3, hd3⟩, Vals.ints r3⟩, d1, d2, ⟨d3, d4⟩, kfH_at hr⟩
  refine SrtO.sorted_ord (kfH_swo H) hl.isList (by rw [← rv.length]; exact hz) (fun h2 h₁ a' ha kk => ?_) fun out h1 h2 => ?_
  · intro h' keep
    have kS : ∀ b o, s.heap.get? b = some o → h'.get? b = some o := fun b o e => keep b o (kk b o e).1 (kk b o e).2
    refine ⟨tuples' false, fun Q E hq => ?_, fun p r hm hm' => ?_⟩
    · obtain ⟨fs, g1, g2, g3⟩ := rkv_firsts (h := h') (vs := its) fun v hv => by
        obtain ⟨ns, c, k1, _⟩ := old v hv
        exact ⟨ns, c, k1.keeps kS⟩
      refine PySem.W.kat_kind (s := { s with heap := h' }) (T := .type "tuple") g1 (by omega) (fun f hm => ?_) (by rfl) ?_
      · obtain ⟨rt, o, rfl, ho, hc⟩ := g3 f hm
        rw [← hc]
        exact (PySem.W.Looks.ld ho).andThen .now
      · have e : (Value.type "tuple" != Value.type "tuple") = false := by first | decide +kernel | rfl | decide
        rw [e]
        exact hq
    · obtain ⟨ns, c, k1, d1, l1, c1, f1⟩ := old p.1 hm
      obtain ⟨ms, d, k2, d2, l2, c2, f2⟩ := old r.1 hm'
      have C := rkv_cmp (prog := X.prog) (w := X.w) (A := X.A.in1.in1) (s := { s with heap := h' }) (k1.keeps kS) (k2.keeps kS) d1 d2 (l1.trans l2.symm) c1 c2 (by show X.A.units + 1 + 1 + 8 < cLine; omega)
      have e : SrtO.lt2 (fun v u : Value => decide (kfH H (backV v) < kfH H (backV u))) p r = decide (cdk (ns, c) < cdk (ms, d)) := by
        show decide (kfH H (backV p.1) < kfH H (backV r.1)) = _
        rw [f1, f2]
      rw [e]
      exact C
  · have so : SrtO.Srtd (fun v u : Value => decide (kfH H (backV v) < kfH H (backV u))) its := by
      have p1 : (qs.map V.ref).Pairwise fun x y => kfH H x < kfH H y := List.pairwise_map.mpr (pr_pair hx hso fun q p q' p' r r' l => by
        obtain ⟨_, r⟩ := r
        obtain ⟨_, r'⟩ := r'
        rw [kfH_at r, kfH_at r']
        exact l)
      rw [e1] at p1
      exact (List.pairwise_map.mp p1).imp fun l => decide_eq_false (by omega)
    obtain rfl := SrtO.stb_uniq (kfH_swo H) h1 so h2
    obtain ⟨n9, hn⟩ := sortedAll_at s.heap out out.toArray
    refine ⟨.ref (s.heap.objs.size + 1), L2.upd H (s.heap.objs.size + 1) (.lst (qs.map V.ref)), I.laid (t' := s.toks) (fun b o e => sortedAll_old (vs := out) (out := out.toArray) e) (Nat.le_succ _) ⟨?_, out, n9, by rw [e1]; exact vals_back e2, hn⟩, rfl, q _ (I.hok.fresh (Nat.le_succ _))⟩
    rw [List.length_map] at hz ⊢
    exact hz
end
end BR

/-! ### all rankings: in order, each of them once; found by all rows of ranks -/
namespace BR
open PySem PySem.Spec PyProof.Rows L2
def ascB : List Int → Bool
  | x :: y :: r => decide (x < y) && ascB (y :: r)
  | _ => true
theorem ascB_pw : ∀ {l : List Int}, ascB l = true → l.Pairwise (· < ·)
  | [], _ => .nil
  | [x], _ => List.pairwise_singleton _ _
  | x :: y :: r, h => by
    obtain ⟨h1, h2⟩ := Bool.and_eq_true_iff.mp h
    have p := ascB_pw (l := y :: r) h2
    have xy : x < y := of_decide_eq_true h1
    refine List.pairwise_cons.mpr ⟨fun z m => ?_, p⟩
    rcases List.mem_cons.mp m with rfl | m
    · exact xy
    · exact Int.lt_trans xy ((List.pairwise_cons.mp p).1 z m)
def digB (n : Nat) (p : List Int × Int) : Bool := p.1.all (fun x => decide (0 ≤ x) && decide (x < 8)) && decide (p.1.length = n) && decide (0 ≤ p.2) && decide (p.2 < 8)
theorem all_asc : ∀ n ∈ ([1, 2, 3, 4, 5] : List Nat), ascB ((allRk n).map cdk) = true := by decide +kernel
theorem all_dig : ∀ n ∈ ([1, 2, 3, 4, 5] : List Nat), (allRk n).all (digB n) = true := by decide +kernel
theorem law_all5 : ∀ n ∈ ([1, 2, 3, 4, 5] : List Nat), (lawRows n n).flatMap lawCuts = allRk n := by decide +kernel
theorem law_rows5 : ∀ n ∈ ([1, 2, 3, 4, 5] : List Nat), ∀ k ∈ List.range (n + 1), (lawRows n k).length ≤ 3125 ∧ ∀ r ∈ lawRows n k, r.length = k ∧ 0 ≤ mx r ∧ mx r ≤ 4 := by decide +kernel
theorem all_pw {n : Nat} (m : n ∈ ([1, 2, 3, 4, 5] : List Nat)) : (allRk n).Pairwise fun p r => cdk p < cdk r := List.pairwise_map.mp (ascB_pw (all_asc n m))
theorem all_dg {n : Nat} (m : n ∈ ([1, 2, 3, 4, 5] : List Nat)) : ∀ p ∈ allRk n, Dig p.1 ∧ p.1.length = n ∧ 0 ≤ p.2 ∧ p.2 < 8 := fun p hp => by
  have h := List.all_eq_true.mp (all_dig n m) p hp
  obtain ⟨h, h4⟩ := Bool.and_eq_true_iff.mp h
  obtain ⟨h, h3⟩ := Bool.and_eq_true_iff.mp h
  obtain ⟨h1, h2⟩ := Bool.and_eq_true_iff.mp h
  refine ⟨fun x hx => ?_, of_decide_eq_true h2, of_decide_eq_true h3, of_decide_eq_true h4⟩
  obtain ⟨a, b⟩ := Bool.and_eq_true_iff.mp (List.all_eq_true.mp h1 x hx)
  exact ⟨of_decide_eq_true a, of_decide_eq_true b⟩
theorem all_once {n : Nat} (m : n ∈ ([1, 2, 3, 4, 5] : List Nat)) {i j : Nat} {p r : List Int × Int} (hi : (allRk n)[i]? = some p) (hj : (allRk n)[j]? = some r) (l : i < j) : p ≠ r := fun e => by
  obtain ⟨i1, i2⟩ := List.getElem?_eq_some_iff.mp hi
  obtain ⟨j1, j2⟩ := List.getElem?_eq_some_iff.mp hj
  have h := List.pairwise_iff_getElem.mp (all_pw m) i j i1 j1 l
  rw [i2, j2, e] at h
  exact Int.lt_irrefl _ h
theorem units1 {k : Nat} {A : Around} (r : Room k A) : A.units + 65 < cLine := by have := r.un; omega
theorem small20000 {n : Nat} (h : n ≤ 20000) : n < sizeLine := by rw [sizeLine_eq]; omega
def rksD (ps : List (List Int × Int)) : List PyData := ps.map fun p => rkD p.1 p.2
theorem rks_all {K : PySem.W.Frag} {H : Hp} : ∀ {qs : List Addr} {ps : List (List Int × Int)}, RL H qs ps → DpAll K H (qs.map V.ref) (rksD ps)
  | _, _, .nil => .nil
  | _, _, .cons h t => let ⟨_, r⟩ := h; .cons r.dp (rks_all t)
theorem rkD_lay (p : List Int × Int) : (rkD p.1 p.2).canLay0 = true ∧ (rkD p.1 p.2).depth = 2 := by
  obtain ⟨l1, l2⟩ := ints_lay p.1
  refine ⟨?_, ?_⟩
  · show (PyData.canLayAll0 (p.1.map PyData.int) && (true && true)) = true
    rw [l1]
    rfl
  · show max (PyData.depthAll (p.1.map PyData.int) + 1) (max 0 0) + 1 = 2
    rw [l2]
    rfl
theorem rks_lay : ∀ ps : List (List Int × Int), PyData.canLayAll0 (rksD ps) = true ∧ PyData.depthAll (rksD ps) ≤ 2
  | [] => ⟨rfl, Nat.zero_le _⟩
  | p :: ps => by
    obtain ⟨h1, h2⟩ := rks_lay ps
    obtain ⟨g1, g2⟩ := rkD_lay p
    refine ⟨?_, ?_⟩
    · show ((rkD p.1 p.2).canLay0 && PyData.canLayAll0 (rksD ps)) = true
      rw [g1, h1]
      rfl
    · show max (rkD p.1 p.2).depth (PyData.depthAll (rksD ps)) ≤ 2
      rw [g2]
      omega
theorem rks_shaped (ps : List (List Int × Int)) : SeqAt.shaped (.list (rksD ps)) = true := by
  obtain ⟨h1, h2⟩ := rks_lay ps
  unfold SeqAt.shaped
  show (PyData.canLayAll0 (rksD ps) && decide (PyData.depthAll (rksD ps) + 1 ≤ 64)) = true
  rw [h1, decide_eq_true (by omega)]
  rfl
theorem ints_shapedL (xs : List Int) : SeqAt.shaped (.list (xs.map PyData.int)) = true := by
  obtain ⟨h1, h2⟩ := ints_lay xs
  unfold SeqAt.shaped
  show (PyData.canLayAll0 (xs.map PyData.int) && decide (PyData.depthAll (xs.map PyData.int) + 1 ≤ 64)) = true
  rw [h1, h2]
  rfl
theorem all_cnt {n : Nat} : n ∈ ([1, 2, 3, 4, 5] : List Nat) → ((allRk n).length : Int) = ([2, 8, 44, 308, 2612] : List Int).getD (n - 1) 0 ∧ 2 ≤ (allRk n).length ∧ (allRk n).length ≤ 2612 := by
  have h : ∀ n ∈ ([1, 2, 3, 4, 5] : List Nat), ((allRk n).length : Int) = ([2, 8, 44, 308, 2612] : List Int).getD (n - 1) 0 ∧ 2 ≤ (allRk n).length ∧ (allRk n).length ≤ 2612 := by decide +kernel
  exact h n
theorem rg_of {n : Nat} {L : Int} (n1 : 1 ≤ n) (n4 : n ≤ 4) (e : L = ([2, 8, 44, 308, 2612] : List Int).getD (n - 1) 0) :
    ∃ (st : Int) (cnt : Nat), atI [V.int 1, V.int 1, V.int 1, V.int 7] ((n : Int) - 1) = some (.int st) ∧ RgC 0 L st cnt ∧ 0 ≤ st ∧ ∀ i : Nat, i < cnt → 0 ≤ (i : Int) * st ∧ (i : Int) * st < L := by
  have : n = 1 ∨ n = 2 ∨ n = 3 ∨ n = 4 := by omega
  rcases this with rfl | rfl | rfl | rfl
  · obtain rfl : L = 2 := e
    exact ⟨1, 2, rfl, ⟨by decide, by decide, by decide +kernel, by decide +kernel⟩, by decide, fun i h => by omega⟩
  · obtain rfl : L = 8 := e
    exact ⟨1, 8, rfl, ⟨by decide, by decide, by decide +kernel, by decide +kernel⟩, by decide, fun i h => by omega⟩
  · obtain rfl : L = 44 := e
    exact ⟨1, 44, rfl, ⟨by decide, by decide, by decide +kernel, by decide +kernel⟩, by decide, fun i h => by omega⟩
  · obtain rfl : L = 308 := e
    exact ⟨7, 44, rfl, ⟨by decide, by decide, by decide +kernel, by decide +kernel⟩, by decide, fun i h => by omega⟩
end BR

/-! ### lists of bools: count; errors let out; tuples that are rankings or not -/
namespace BR
open PySem PySem.Spec PyProof.Rows L2
theorem bools_of_vals : ∀ {bs : List Bool} {us : List Value}, Vals (bs.map V.bl) us → us = bs.map Value.bool
  | [], us, r => by
    rw [List.map_nil] at r
    cases r
    rfl
  | b :: bs, us, r => by
    rw [List.map_cons] at r
    cases r with
    | cons h t =>
      rw [bools_of_vals t]
      cases h
      rfl
def eqB (k : Bool) : Value → Bool
  | .bool b => b == k
  | _ => false
def cntB (k : Bool) (bs : List Bool) : Nat := bs.countP fun b => b == k
def rCntB (K : PySem.W.Frag) : V → List V → Hp → VK → Prop := fun x xs H Q => ∃ (p : Addr) (bs : List Bool) (k : Bool), x = V.ref p ∧ xs = [V.bl k] ∧ SqL K H p (bs.map V.bl) ∧ Q (.int ((cntB k bs : Nat) : Int)) H
theorem mt_lcountB {X : Cx} : MtR X "list.count" (rCntB X.K) := by
  intro pins s σ H x xs v us Q I rx rxs h
  obtain ⟨p, bs, k, rfl, rfl, hs, q⟩ := h
  cases rx
  obtain ⟨u, rfl, ru⟩ := rxs.one
  obtain rfl : u = Value.bool k := ru
  obtain ⟨its, rv, ⟨⟨cls, dd, data, sl⟩, n, ho, hc, hdn, hd⟩, hlen⟩ := I.list hs
  simp only at hc hd
  subst hc hd
  have hi := bools_of_vals rv
  refine call_meets PySem.F.slot_list_count ⟨_, ho, rfl⟩ PySem.F.entry_list_count (PySem.F.args_list_count_2 _ _)
    (SeqAt.list_countAt p its.toArray n dd sl (.bool k) (eqB k)) ⟨ho, fun y hy => ?_, ?_⟩
  · have hy' : y ∈ its := by simpa using hy
    rw [hi] at hy'
    obtain ⟨b, _, rfl⟩ := List.mem_map.mp hy'
    exact SeqAt.EqAt.bool_bool b k
  · have ec : its.toArray.toList.countP (eqB k) = cntB k bs := by
      rw [hi]
      show (bs.map Value.bool).countP (eqB k) = _
      rw [List.countP_map]
      rfl
    refine ⟨.int ((cntB k bs : Nat) : Int), H, I.tok _, ⟨s.toks, ?_⟩, q⟩
    show Value.int ((its.toArray.toList.countP (eqB k) : Nat) : Int) s.toks = Value.int ((cntB k bs : Nat) : Int) s.toks
    rw [ec]
/-- whether (rs, c) is a ranking -/
def okR (rs : List Int) (c : Int) : Bool := decide (srt rs = rg (srt rs).length) && (decide (0 ≤ c) && decide (c ≤ ((srt rs).length : Int)))
theorem isRk_of {rs : List Int} (h : srt rs = rg (srt rs).length) : IsRk rs (srt rs).length := fun k => by
  have e : k ∈ srt rs ↔ k ∈ rg (srt rs).length := by rw [← h]
  exact srt_mem.symm.trans (e.trans rg_mem)
theorem okR_is {rs : List Int} {c : Int} (h : okR rs c = true) : IsRk rs (srt rs).length ∧ 0 ≤ c ∧ c ≤ ((srt rs).length : Int) := by
  obtain ⟨h1, h2⟩ := Bool.and_eq_true_iff.mp h
  obtain ⟨h2, h3⟩ := Bool.and_eq_true_iff.mp h2
  exact ⟨isRk_of (of_decide_eq_true h1), of_decide_eq_true h2, of_decide_eq_true h3⟩
def kindName (j : Nat) : Str := (["wide", "words", "outcome", "cond", "ranking", "odd", "program", "row", "odd", "odd", "odd", "number", "unlike", "odd", "odd"] : List Str).getD j "odd"
theorem rows_has {n : Nat} : ∀ (k : Nat) (r : List Int), r.length = k → (∀ x ∈ r, 0 ≤ x ∧ x < (n : Int)) → r ∈ lawRows n k
  | 0, r, e, _ => by
    rw [List.length_eq_zero_iff.mp e]
    exact List.mem_singleton.mpr rfl
  | k + 1, r, e, h => by
    rcases List.eq_nil_or_concat r with z | ⟨r', x, z⟩
    · rw [z] at e
      exact absurd e (by simp)
    rw [z] at e h ⊢
    rw [List.concat_eq_append] at e h ⊢
    rw [List.length_append] at e
    obtain ⟨x0, x1⟩ := h x (by simp)
    refine List.mem_flatMap.mpr ⟨r', rows_has k r' (Nat.succ.inj e) fun y m => h y (List.mem_append_left _ m), ?_⟩
    refine List.mem_map.mpr ⟨x.toNat, List.mem_range.mpr (by omega), ?_⟩
    rw [Int.toNat_of_nonneg x0]
def kindsAt : List Nat := [0, 1, 2, 3, 4, 6, 7, 11, 12]
def kindNames : List Str := ["wide", "words", "outcome", "cond", "ranking", "program", "row", "number", "unlike"]
def bsOf (j : Nat) : List Bool := kindsAt.map fun i => decide (j = i)
def kindOk (j : Nat) : Bool := decide (kindName j = "odd") || ([5, 8, 9, 10, 13, 14].all (fun i => decide (j ≠ i)) && decide (cntB true (bsOf j) = 1) && (List.range 9).any fun i => decide ((bsOf j)[i]? = some true) && decide (kindNames[i]? = some (kindName j)) && (List.range i).all fun m => decide ((bsOf j)[m]? = some false))
theorem kinds15 : (List.range 15).all kindOk = true := by decide +kernel
theorem kind_of {j : Nat} (kn : kindName j ≠ "odd") (jl : j < 15) : (∀ i ∈ ([5, 8, 9, 10, 13, 14] : List Nat), j ≠ i) ∧ cntB true (bsOf j) = 1 ∧ ∃ i, i < 9 ∧ (bsOf j)[i]? = some true ∧ kindNames[i]? = some (kindName j) ∧ ∀ m, m < i → (bsOf j)[m]? = some false := by
  have h := List.all_eq_true.mp kinds15 j (List.mem_range.mpr jl)
  rcases Bool.or_eq_true_iff.mp h with h | h
  · exact absurd (of_decide_eq_true h) kn
  obtain ⟨h, h3⟩ := Bool.and_eq_true_iff.mp h
  obtain ⟨h1, h2⟩ := Bool.and_eq_true_iff.mp h
  obtain ⟨i, hi, h3⟩ := List.any_eq_true.mp h3
  obtain ⟨h3, h5⟩ := Bool.and_eq_true_iff.mp h3
  obtain ⟨h3, h4⟩ := Bool.and_eq_true_iff.mp h3
  refine ⟨fun i hi => of_decide_eq_true (List.all_eq_true.mp h1 i hi), of_decide_eq_true h2, i, List.mem_range.mp hi, of_decide_eq_true h3, of_decide_eq_true h4, fun m hm => of_decide_eq_true (List.all_eq_true.mp h5 m (List.mem_range.mpr hm))⟩
theorem kindSplit : Txt.split "wide words outcome cond ranking program row number unlike" " " = kindNames := by decide +kernel
theorem kitAny_no {K : PySem.W.Frag} {t : Value} : ∀ {us : List Value}, (∀ u ∈ us, PySem.W.kitOne K t u = some false) → PySem.W.kitAny K t us = some false
  | [], _ => rfl
  | u :: us, h => by
    show (match PySem.W.kitOne K t u with | some true => some true | some false => PySem.W.kitAny K t us | none => none) = some false
    rw [h u List.mem_cons_self]
    exact kitAny_no fun y m => h y (List.mem_cons_of_mem _ m)
theorem mx_in {rs : List Int} (ne : rs ≠ []) : mx rs ∈ rs ∧ ∀ y ∈ rs, y ≤ mx rs := by
  obtain ⟨m, hm, hx⟩ : ∃ m ∈ rs, ∀ y ∈ rs, y ≤ m := by
    induction rs with
    | nil => exact absurd rfl ne
    | cons x l ih =>
      by_cases e : l = []
      · subst e
        exact ⟨x, List.mem_cons_self, fun y hy => by rw [List.mem_singleton.mp hy]; exact Int.le_refl _⟩
      obtain ⟨m, hm, hx⟩ := ih e
      by_cases c : m < x
      · exact ⟨x, List.mem_cons_self, fun y hy => by
          rcases List.mem_cons.mp hy with rfl | hy
          · exact Int.le_refl _
          · have := hx y hy
            omega⟩
      · exact ⟨m, List.mem_cons_of_mem _ hm, fun y hy => by
          rcases List.mem_cons.mp hy with rfl | hy
          · omega
          · exact hx y hy⟩
  rw [← mx_one hm hx]
  exact ⟨hm, hx⟩
/-- asked by the greatest rank -/
theorem okR_mx {rs : List Int} {c : Int} {m : Nat} (ne : rs ≠ []) (em : mx rs + 1 = (m : Int)) : okR rs c = (decide (srt rs = rg m) && (decide (0 ≤ c) && decide (c ≤ (m : Int)))) := by
  by_cases h : srt rs = rg m
  · have l : (srt rs).length = m := by rw [h, rg_len]
    unfold okR
    rw [l]
  · have h2 : ¬ srt rs = rg (srt rs).length := fun z => by
      have := mx_is (srt_pos ne) (isRk_of z)
      have e : (srt rs).length = m := by omega
      rw [e] at z
      exact h z
    unfold okR
    rw [decide_eq_false h, decide_eq_false h2, Bool.false_and, Bool.false_and]
/-- all that are rankings stand among all rankings -/
theorem all_has {rs : List Int} {c : Int} (n1 : 1 ≤ rs.length) (n5 : rs.length ≤ 5) (o : okR rs c = true) : ∃ j : Nat, (allRk rs.length)[j]? = some (rs, c) := by
  obtain ⟨is, c0, cm⟩ := okR_is o
  have ls := srt_len rs
  have ne : rs ≠ [] := fun e => by rw [e] at n1; exact absurd n1 (by decide)
  have em := mx_is (srt_pos ne) is
  have mem : (rs, c) ∈ allRk rs.length := by
    rw [← law_all5 rs.length (five n1 n5)]
    refine List.mem_flatMap.mpr ⟨rs, rows_has _ rs rfl fun x m => ?_, ?_⟩
    · have := (is x).mp m
      omega
    · unfold lawCuts
      rw [if_pos (by omega)]
      refine List.mem_map.mpr ⟨c.toNat, List.mem_range.mpr (by omega), ?_⟩
      rw [Int.toNat_of_nonneg c0]
  obtain ⟨j, hj, e⟩ := List.mem_iff_getElem.mp mem
  exact ⟨j, by rw [List.getElem?_eq_getElem hj, e]⟩
/-- an error of the class at C that carries v is let out -/
def Lets (C : Addr) (v : V) (H : Hp) (E : XK) : Prop := ∀ d H', H d = none → Same H H' → H' d = some (.xd [("value", v)]) → E (.ref C) (some d) H'
theorem Lets.now {C : Addr} {v : V} {H : Hp} {E : XK} (h : Lets C v H E) : ∀ d, H d = none → E (.ref C) (some d) (L2.upd H d (.xd [("value", v)])) := fun d hd => h d _ hd (sameNew hd) upd_same
theorem Lets.later {C : Addr} {v : V} {H H1 : Hp} {E : XK} (h : Lets C v H E) (s : Same H H1) : Lets C v H1 E := fun d H' hd s2 e => h d H' (s.free hd) (s.trans s2) e
def Word (wd x : Int) : Prop := 0 ≤ x ∧ x < 2 ^ wd.toNat
/-- the first integer that is no word stands at i -/
def BadAt (wd : Int) (xs : List Int) (i : Nat) : Prop := ∃ z, xs[i]? = some z ∧ ¬ Word wd z ∧ ∀ (j : Nat) (y : Int), j < i → xs[j]? = some y → Word wd y
theorem bad_or {wd : Int} : ∀ xs : List Int, (∀ x ∈ xs, Word wd x) ∨ ∃ i, BadAt wd xs i
  | [] => .inl fun x m => absurd m (by simp)
  | x :: xs => by
    by_cases h : Word wd x
    · rcases bad_or (wd := wd) xs with a | ⟨i, z, e, nz, pre⟩
      · exact .inl fun y m => by
          rcases List.mem_cons.mp m with rfl | m
          · exact h
          · exact a y m
      · refine .inr ⟨i + 1, z, e, nz, fun j y hj hy => ?_⟩
        cases j with
        | zero =>
          cases hy
          exact h
        | succ j => exact pre j y (by omega) hy
    · exact .inr ⟨0, x, rfl, h, fun j y hj => absurd hj (Nat.not_lt_zero j)⟩
end BR

/-! ### [e for x in l], l a list of ints, e an int of x alone -/
namespace BR
open PySem PySem.Spec PyProof.Rows L2
theorem lc_intsL {K : PySem.W.Frag} {a : Addr} {xs : List Int} {j : Nat} {te : TE} {vs : List Nat} {σ : L2.St} {H1 : Hp} {D : Addr} {Qd : Hp → Prop} (f : Int → Int) (hL : SqL K H1 a (xs.map V.int)) (hz : xs.length ≤ 1000) (hD : H1 D = none)
    (hw : ∀ x : V, wipe ((wipe σ vs).set j (some x)) vs = wipe σ vs)
    (he : ∀ (x : Int) (H2 : Hp) (Q : VK), x ∈ xs → Same H1 H2 → (∀ H3, Same H2 H3 → Q (.int (f x)) H3) → te ((wipe σ vs).set j (some (.int x))) H2 Q)
    (hd : ∀ H, Same H1 H → H D = some (.lst ((xs.map f).map V.int)) → Qd H) :
    ∃ W : Nat → Nat → Hp → Prop, (∃ m, W 0 m (L2.upd H1 D (.lst []))) ∧ ∀ i m H, W i m H →
      ((Itl K a).stop i H ∧ Qd H) ∨ ((Itl K a).go i H ∧ ∃ Nx : Hp → Prop, (∀ H', Nx H' → ∃ m', m' < m ∧ W (i + 1) m' H') ∧ ∀ x H', (Itl K a).yld i H x H' → gName j x (wipe σ vs) H' fun σ2 H2 => wipe σ2 vs = wipe σ vs ∧ tYes σ2 H2 fun b H3 =>
        if b = true then te σ2 H3 fun y H4 => ∃ acc, H4 D = some (.lst acc) ∧ acc.length < sizeLine ∧ Nx (L2.upd H4 D (.lst (acc ++ [y]))) else Nx H3) := by
  refine lc_list (xs := xs.map V.int) (fun i H => Same H1 H ∧ H D = some (.lst (((xs.take i).map f).map V.int))) ⟨sameNew hD, upd_same⟩ (fun i H _ p => p.1.seq hL) ?_ ?_
  · rintro i x H hx ⟨s, hH⟩
    obtain ⟨z, hz1, rfl⟩ := map_at hx
    refine ⟨hw _, ?_⟩
    show te ((wipe σ vs).set j (some (V.int z))) H _
    refine he z H _ (List.mem_of_getElem? hz1) s fun H3 s3 => ?_
    refine ⟨_, s3 _ _ hH, small1000 (by rw [List.length_map, List.length_map, List.length_take]; omega), ?_, ?_⟩
    · intro b o e
      rw [upd_ne (ne_of_none e hD)]
      exact s3 _ _ (s _ _ e)
    · rw [upd_same, map_take_succ hz1]
  · rintro H ⟨s, hH⟩
    rw [List.length_map, List.take_length] at hH
    exact hd H s hH
theorem ite_by {K : PySem.W.Frag} {H0 : Hp} {Qd : Hp → Prop} {B : V → Hp → (Hp → Prop) → Prop} {a : Addr} {xs : List V} (Pv : Nat → Hp → Prop) (h0 : Pv 0 H0) (hl : ∀ i H, i ≤ xs.length → Pv i H → SqL K H a xs)
    (hs : ∀ i x H T, xs[i]? = some x → Pv i H → H T = none → B (.ref T) (L2.upd H T (.tup [.int (i : Nat), x])) (Pv (i + 1))) (hd : ∀ H, Pv xs.length H → Qd H) :
    ∃ W : Nat → Nat → Hp → Prop, (∃ m, W 0 m H0) ∧ ∀ i m H, W i m H → ((Ite K a).stop i H ∧ Qd H) ∨ ((Ite K a).go i H ∧ ∃ Nx : Hp → Prop, (∀ H', Nx H' → ∃ m', m' < m ∧ W (i + 1) m' H') ∧ ∀ x H', (Ite K a).yld i H x H' → B x H' Nx) := by
  refine ⟨fun i m H => m = xs.length - i ∧ i ≤ xs.length ∧ Pv i H, ⟨xs.length, by simp, Nat.zero_le _, h0⟩, fun i m H => ?_⟩
  rintro ⟨rfl, hi, p⟩
  have q := hl i H hi p
  rcases Nat.lt_or_eq_of_le hi with c | c
  · refine .inr ⟨⟨xs, xs[i], q, by simp [c]⟩, Pv (i + 1), fun H' p' => ⟨xs.length - (i + 1), by omega, rfl, c, p'⟩, fun x H' y => ?_⟩
    obtain ⟨T, x1, e1, e2, e3, y⟩ := y
    subst e1 e3
    exact hs i x1 _ T (y xs q) p e2
  · subst c
    exact .inl ⟨⟨xs, q, Nat.le_refl _⟩, hd H p⟩
theorem rep_if (b : Bool) (x : V) : (List.replicate (if b = true then (1 : Int) else 0).toNat [x]).flatten = if b = true then [x] else [] := by cases b <;> rfl
/-- [[word, value]] * int(test) -/
theorem flagL {σ : L2.St} {H : Hp} {Q : VK} {wd : Str} {i : Nat} {v : V} {tb : TE} {b : Bool} (hv : σ[i]? = some (some v)) (hb : ∀ (H' : Hp) (Q' : VK), Same H H' → (∀ H'', Same H' H'' → Q' (.bl b) H'') → tb σ H' Q')
    (k : ∀ g0 g2 H', Same H H' → H' g0 = some (.lst [.str wd, v]) → H' g2 = some (.lst (if b = true then [.ref g0] else [])) → Q (.ref g2) H') :
    tOp rRep (tLst (tCons (tLst (tCons (tC (.str wd)) (tCons (tVar i) tNil))) tNil)) (tCB (fun xs H Q => (∃ i, xs = [V.int i] ∧ Q (V.int i) H) ∨ ∃ k, xs = [V.bl k] ∧ Q (V.int (if k = true then 1 else 0)) H) (tCons tb tNil)) σ H Q := by
  refine ⟨_, hv, (by show 2 ≤ sizeLine; decide), fun g0 hg0 => ⟨(by show 1 ≤ sizeLine; decide), fun g1 hg1 => ?_⟩⟩
  refine hb _ _ ((sameNew hg0).trans (sameNew hg1)) fun H2 s2 => ?_
  refine .inr ⟨_, rfl, ?_⟩
  refine ⟨g1, _, [.ref g0], rfl, rfl, s2 _ _ upd_same, by split <;> decide, by split <;> decide, (by show 1 * _ ≤ sizeLine; split <;> decide), fun g2 hg2 => ?_⟩
  rw [rep_if]
  exact k g0 g2 _ (((sameNew hg0).trans (sameNew hg1)).trans (s2.trans (sameNew hg2))) ((sameNew hg2) _ _ (s2 _ _ ((sameNew hg1) _ _ upd_same))) upd_same
end BR

/-! ### a dict display whose keys are tuples -/
namespace BR
open PySem PySem.Spec PyProof.Rows L2
section
variable {X : Cx} {pins : List (Addr × Obj)} {σ : L2.St} {H : Hp} {s : Shared} {a b : Addr} {v : V} {r : Value} {A : Around} {E : Value → Shared → Prop}
theorem d_dictSetT {kvs : List (List L2.Key × V)} {k : List L2.Key} {Q : Unit → Shared → Prop} (hu : A.units < cLine) (I : Inv X pins σ H s) (e : H a = some (.dT kvs)) (eb : H b = some (.tup (k.map kV))) (hl : kvs.length < sizeLine) (rv : RelV v r)
    (h : ∀ s', Inv X pins σ (upd H a (.dT (putK kvs k v))) s' → Q () s') : wpAny (model X.prog X.w) A (dictSet a (.ref b) r) Q E s := by
  obtain ⟨z, hd, xs, rel, dd⟩ := dt_of I.hok e
  have hz : xs.length ≤ sizeLine := by rw [← Paired.length rel]; exact z
  have hl : (putK kvs k v).length ≤ sizeLine := by have := length_putK kvs k v; omega
  refine wpAny_dictSet_heap (hsz := hz) (knd := tupleKind (mixKind X.prog X.w)) hu (key_of I.hok eb) dd fun h' dd' hs => h _ ?_
  obtain ⟨q, es, ep, hq, h2, h3, h4, _, h5⟩ := dd'
  refine d_write I (by rw [e]; exact True.intro) hs ⟨q, hq⟩ ⟨hl, hd, _, (rel.put k eb rv).keeps fun c ys ec => ?_, q, es, ep, hq, h2, h3, h4, h5⟩
  rw [upd_ne (ne_of ec e (fun z => nomatch z))]
  exact ec
/-- the entries of the display: key, the tuple that carries it, value -/
abbrev TEs := List (List L2.Key × Addr × V)
def putAll (acc : List (List L2.Key × V)) (l : TEs) : List (List L2.Key × V) := l.foldl (fun acc e => putK acc e.1 e.2.2) acc
theorem d_storeAllT : ∀ (l : TEs) {ws : List (Value × Value)} {kvs : List (List L2.Key × V)} {H : Hp} {s : Shared} {Q : PUnit → Shared → Prop}, A.units < cLine → Inv X pins σ H s → H a = some (.dT kvs) →
    (∀ e ∈ l, H e.2.1 = some (.tup (e.1.map kV))) → kvs.length + l.length < sizeLine → VV (l.map fun e => (.ref e.2.1, e.2.2)) ws →
    (∀ s', Inv X pins σ (upd H a (.dT (putAll kvs l))) s' → Q PUnit.unit s') → wpAny (model X.prog X.w) A (storeAll a ws) Q E s
  | [], ws, kvs, H, s, Q, hu, I, e, _, _, r, h => by
    cases r
    unfold storeAll
    rw [List.forIn_nil]
    refine wpAny_pure (h s ?_)
    rw [show putAll kvs [] = kvs from rfl, show upd H a (.dT kvs) = H from by funext b; unfold upd; split <;> simp_all]
    exact I
  | x :: l, ws, kvs, H, s, Q, hu, I, e, hk, hl, r, h => by
    rw [List.map_cons] at r
    cases r with
    | @cons p q ps qs h1 t =>
      obtain ⟨q1, q2⟩ := q
      obtain rfl : q1 = Value.ref x.2.1 := h1.1
      unfold storeAll
      rw [List.forIn_cons]
      have hx := hk x List.mem_cons_self
      rw [List.length_cons] at hl
      refine wpAny_bind (wpAny_bind (d_dictSetT (k := x.1) hu I e hx (by omega) h1.2 fun s' I' => wpAny_pure ?_))
      refine d_storeAllT l (kvs := putK kvs x.1 x.2.2) hu I' upd_same (fun y m => ?_) (by have := length_putK kvs x.1 x.2.2; omega) t fun s2 I2 => h s2 ?_
      · rw [upd_ne (ne_of (hk y (List.mem_cons_of_mem x m)) e (fun z => nomatch z))]
        exact hk y (List.mem_cons_of_mem x m)
      · rw [upd_upd] at I2
        exact I2
end
/-- {k: v, ..} with tuples of ints and texts as keys -/
def tDispT (trs : List (TE × TE)) : TE := fun σ H Q => ∀ p, H p = none → tPairs trs σ (upd H p (.dT [])) fun ps H2 => H2 p = some (.dT []) ∧ ∃ l : TEs, ps = l.map (fun e => (.ref e.2.1, e.2.2)) ∧ (∀ e ∈ l, H2 e.2.1 = some (.tup (e.1.map kV))) ∧ l.length ≤ 15 ∧ Q (.ref p) (upd H2 p (.dT (putAll [] l)))
theorem pe_dispT {X : Cx} {pos : Pos} {keys : List (Option Expr)} {values : List Expr} {trs : List (TE × TE)} (hu : X.A.units < cLine) (h : PPs X pos keys values trs) (hall : keys.all (·.isSome) = true) (hl : keys.length = values.length) (h0 : keys ≠ [])
    (h15 : keys.length ≤ 15) : PE X (.Dict keys values pos) (tDispT trs) := by
  refine ⟨fun pins s σ H Q I q => ?_⟩
  have hn := I.hok.fresh (Nat.le_refl s.heap.objs.size)
  have I1 := I.laid (a := s.heap.objs.size) (o := .dT []) (h' := s.heap.push { cls := .type "dict", data := .dict #[] }) (t' := s.toks) (fun _ _ q => Heap.get?_push_of_some _ q) (Nat.le_refl _) (dt_empty s.heap I.big)
  refine wpAny_Dict_any hall hl h0 h15 (thn (h.run pins _ σ _ _ I1 (q _ hn)) fun ws s2 ⟨ps, H2, I2, rel, e, l, ep, hk, lk, q2⟩ => ?_)
  subst ep
  refine d_storeAllT l hu I2 e hk (by rw [sizeLine_eq]; simp only [List.length_nil]; omega) rel fun s3 I3 => ⟨.ref s.heap.objs.size, _, I3, rfl, q2⟩
/-! ### a dict of the module, its keys walked -/
def ItY (kvs : List (Str × V)) : It := ⟨fun i _ => i < kvs.length, fun i H v H' => H' = H ∧ ∃ k x, v = .str k ∧ kvs[i]? = some (k, x), fun i _ => kvs.length ≤ i⟩
theorem turn_keysY {P : Program} {w : World} {K : PySem.W.Frag} {tg : Expr} {d : Addr} {kvs : List (Str × V)} {us : List (Str × Value)} {n : Nat} (it : Addr)
    (hm : ∀ h : Heap, K.In h → h.DictAt (strKind P w) d us n) (rel : KV kvs us) : Turn P w K tg (ItY kvs) [it] it (fun i h => h.IsKeyIter it d i us.length n) where
  mem := by simp
  obj := by
    rintro i h ⟨oi, e, c, dd⟩ b hb
    obtain rfl : b = it := by simpa using hb
    exact ⟨oi, e, fun v z => by rw [dd] at z; cases z⟩
  keep := fun i h h' st k => st.at fun oi e => k it (by simp) oi e
  item := by
    intro X hP hw hK hc i pins s σ H E I hf st hg
    subst hP hw hK
    have hi : i < kvs.length := hg
    obtain ⟨f0, f1, f2, f3, f4, f5⟩ := hf it (by simp)
    obtain ⟨⟨k, x⟩, hp⟩ : ∃ p, kvs[i]? = some p := ⟨kvs[i], List.getElem?_eq_getElem hi⟩
    obtain ⟨u, hq, ru⟩ := kv_get rel hp
    refine wpAny_pyNext_dict_item st (hm _ I.kIn) hq fun key h' hkey st' sb => ?_
    have I1 : Inv X pins σ H { s with heap := h' } := I.turned (t' := s.toks) (fun b ob hb e => (sb.2 b hb).trans e) f0 f1 f3 f4 f5
    obtain ⟨oi, e, c, dd⟩ := id st'
    obtain ⟨tk, rfl⟩ := Value.isStrOf_shape hkey
    exact ⟨_, rfl, go_of (s := { s with heap := h' }) e c dd (by decide) ⟨.str k, H, I1, ⟨_, rfl⟩, ⟨rfl, k, x, rfl, hp⟩, st', fun b hb => (hf b hb).1⟩⟩
  done := by
    intro X hP hw hK hc i pins s σ H E I hf st hg
    subst hP hw hK
    have hge : kvs.length ≤ i := hg
    have lz : kvs.length = us.length := Paired.length rel
    obtain ⟨f0, f1, f2, f3, f4, f5⟩ := hf it (by simp)
    exact wpAny_pyNext_dict_end (I.ok.hd hc) st (hm _ I.kIn) (List.getElem?_eq_none (by omega)) fun h' eb => ⟨rfl, I.turned (t' := s.toks) (fun b o hb z => eb b o hb z) f0 f1 f3 f4 f5⟩
  self := fun A i s Q E st h => wpAny_pyIter_keyiter st h
def iKeysY (K : PySem.W.Frag) (P : Program) (w : World) (td : TE) : TI := fun σ H R => td σ H fun x H1 => ∃ d kvs, x = .ref d ∧ KTab K P w d kvs ∧ R (ItY kvs) H1
theorem pi_keysY {X : Cx} {tg e : Expr} {td : TE} (he : PE X e td) : PI X tg e (iKeysY X.K X.prog X.w td) := by
  refine ⟨fun pins s σ H R I h => ?_⟩
  refine thn (he.run pins s σ H _ I h) ?_
  rintro u s1 ⟨x, H1, I1, rx, d, kvs, rfl, T, q⟩
  obtain rfl : u = Value.ref d := rx
  obtain ⟨es, n, us, lk, lit, ps, nd, rel⟩ := T.ex
  have hm : ∀ h : Heap, X.K.In h → h.DictAt (strKind X.prog X.w) d us n := fun h XK => ⟨_, es, XK _ _ lk, ⟨rfl, rfl, rfl⟩, rfl, fun e he => by
    obtain ⟨x, t, e1, e2⟩ := lit.all e (Array.mem_toList_iff.mpr he)
    exact ⟨x, by rw [e1]; exact strKind_is X.prog X.w x t, e2⟩, ps, nd⟩
  exact wpAny_pyIter_dict T.low (hm _ I1.kIn) (pi_one (tk := s1.toks) I1 _ (turn_keysY _ hm rel) ⟨_, Heap.get?_push_size _ rfl, rfl, rfl⟩ q)
theorem walk_keysY {kvs : List (Str × V)} : L2.Walk (ItY kvs) kvs.length (fun _ => True) (fun i H v H' => H' = H ∧ ∃ k x, v = .str k ∧ kvs[i]? = some (k, x)) :=
  ⟨fun _ _ hi _ => hi, fun _ _ => Nat.le_refl _, fun _ _ _ _ _ _ h => h⟩
/-! ### a comprehension with two fors: each walk by an invariant over the heap -/
section
variable {J : It} {n : Nat} {G : Hp → Prop} {Y : Nat → Hp → V → Hp → Prop}
theorem lc2_in (w : L2.Walk J n G Y) {g1 : TG} {tt1 : TT} {te : TE} {vs1 : List Nat} {σ2 : L2.St} {H4 : Hp} {D : Addr} {Nx : Hp → Prop} (P : Nat → Hp → Prop) (h0 : P 0 H4) (hG : ∀ i H, i ≤ n → P i H → G H)
    (hs : ∀ i x H H', i < n → P i H → Y i H x H' → g1 x (wipe σ2 vs1) H' fun σ3 H5 => wipe σ3 vs1 = wipe σ2 vs1 ∧ tt1 σ3 H5 fun b H6 =>
        if b = true then te σ3 H6 fun y H7 => ∃ acc, H7 D = some (.lst acc) ∧ acc.length < sizeLine ∧ P (i + 1) (upd H7 D (.lst (acc ++ [y]))) else P (i + 1) H6) (hd : ∀ H, P n H → Nx H) :
    ∃ W1 : Nat → Nat → Hp → Prop, (∃ m, W1 0 m H4) ∧ ∀ j k H, W1 j k H →
      (J.stop j H ∧ Nx H) ∨ (J.go j H ∧ ∃ Nx1 : Hp → Prop, (∀ H', Nx1 H' → ∃ k', k' < k ∧ W1 (j + 1) k' H') ∧ ∀ x H', J.yld j H x H' → g1 x (wipe σ2 vs1) H' fun σ3 H5 => wipe σ3 vs1 = wipe σ2 vs1 ∧ tt1 σ3 H5 fun b H6 =>
        if b = true then te σ3 H6 fun y H7 => ∃ acc, H7 D = some (.lst acc) ∧ acc.length < sizeLine ∧ Nx1 (upd H7 D (.lst (acc ++ [y]))) else Nx1 H6) := by
  refine ⟨fun i m H => m = n - i ∧ i ≤ n ∧ P i H, ⟨n, by simp, Nat.zero_le _, h0⟩, ?_⟩
  rintro i m H ⟨rfl, hi, p⟩
  have q := hG i H hi p
  by_cases hlt : i < n
  · exact .inr ⟨w.goes i H hlt q, P (i + 1), fun H' p' => ⟨n - (i + 1), by omega, rfl, hlt, p'⟩, fun x H' y => hs i x H H' hlt p (w.yields i H x H' hlt q y)⟩
  · have e : i = n := by omega
    subst e
    exact .inl ⟨w.stops H q, hd H p⟩
theorem lc2_it (w : L2.Walk J n G Y) {g g1 : TG} {tt tt1 : TT} {wi1 : TI} {te : TE} {vs vs1 : List Nat} {σ : L2.St} {H1 : Hp} {D : Addr} {Qd : Hp → Prop} (P : Nat → Hp → Prop) (h0 : P 0 (upd H1 D (.lst []))) (hG : ∀ i H, i ≤ n → P i H → G H)
    (hs : ∀ i x H H', i < n → P i H → Y i H x H' → g x (wipe σ vs) H' fun σ2 H2 => wipe σ2 vs = wipe σ vs ∧ tt σ2 H2 fun b H3 =>
      if b = true then wi1 σ2 H3 fun J1 H4 => ∃ W1 : Nat → Nat → Hp → Prop, (∃ m, W1 0 m H4) ∧ ∀ j k H, W1 j k H →
        (J1.stop j H ∧ P (i + 1) H) ∨ (J1.go j H ∧ ∃ Nx1 : Hp → Prop, (∀ H', Nx1 H' → ∃ k', k' < k ∧ W1 (j + 1) k' H') ∧ ∀ x H', J1.yld j H x H' → g1 x (wipe σ2 vs1) H' fun σ3 H5 => wipe σ3 vs1 = wipe σ2 vs1 ∧ tt1 σ3 H5 fun b H6 =>
          if b = true then te σ3 H6 fun y H7 => ∃ acc, H7 D = some (.lst acc) ∧ acc.length < sizeLine ∧ Nx1 (upd H7 D (.lst (acc ++ [y]))) else Nx1 H6)
      else P (i + 1) H3) (hd : ∀ H, P n H → Qd H) :
    ∃ W : Nat → Nat → Hp → Prop, (∃ m, W 0 m (upd H1 D (.lst []))) ∧ ∀ i m H, W i m H →
      (J.stop i H ∧ Qd H) ∨ (J.go i H ∧ ∃ Nx : Hp → Prop, (∀ H', Nx H' → ∃ m', m' < m ∧ W (i + 1) m' H') ∧ ∀ x H', J.yld i H x H' → g x (wipe σ vs) H' fun σ2 H2 => wipe σ2 vs = wipe σ vs ∧ tt σ2 H2 fun b H3 =>
        if b = true then wi1 σ2 H3 fun J1 H4 => ∃ W1 : Nat → Nat → Hp → Prop, (∃ m, W1 0 m H4) ∧ ∀ j k H, W1 j k H →
          (J1.stop j H ∧ Nx H) ∨ (J1.go j H ∧ ∃ Nx1 : Hp → Prop, (∀ H', Nx1 H' → ∃ k', k' < k ∧ W1 (j + 1) k' H') ∧ ∀ x H', J1.yld j H x H' → g1 x (wipe σ2 vs1) H' fun σ3 H5 => wipe σ3 vs1 = wipe σ2 vs1 ∧ tt1 σ3 H5 fun b H6 =>
            if b = true then te σ3 H6 fun y H7 => ∃ acc, H7 D = some (.lst acc) ∧ acc.length < sizeLine ∧ Nx1 (upd H7 D (.lst (acc ++ [y]))) else Nx1 H6)
        else Nx H3) := by
  refine ⟨fun i m H => m = n - i ∧ i ≤ n ∧ P i H, ⟨n, by simp, Nat.zero_le _, h0⟩, ?_⟩
  rintro i m H ⟨rfl, hi, p⟩
  have q := hG i H hi p
  by_cases hlt : i < n
  · exact .inr ⟨w.goes i H hlt q, P (i + 1), fun H' p' => ⟨n - (i + 1), by omega, rfl, hlt, p'⟩, fun x H' y => hs i x H H' hlt p (w.yields i H x H' hlt q y)⟩
  · have e : i = n := by omega
    subst e
    exact .inl ⟨w.stops H q, hd H p⟩
end
/-! ### a if t else b as a test -/
def tIfT (tc t1 t2 : TT) : TT := fun σ H Q => tc σ H fun c H1 => if c = true then t1 σ H1 Q else t2 σ H1 Q
theorem pt_ifExp {X : Cx} {c a b : Expr} {pos : Pos} {tc t1 t2 : TT} (hc : PT X c tc) (ha : PT X a t1) (hb : PT X b t2) : PT X (.IfExp c a b pos) (tIfT tc t1 t2) := by
  refine ⟨fun pins s σ H Q I h => ?_⟩
  refine isTrue_IfExp (thn (hc.run pins s σ H _ I h) fun d s1 ⟨H1, I1, q1⟩ => ?_)
  cases d with
  | true => exact ha.run pins s1 σ H1 Q I1 q1
  | false => exact hb.run pins s1 σ H1 Q I1 q1
theorem prm {α β : Type} {R S : α → β → Prop} : ∀ {as : List α} {bs : List β}, Paired R as bs → (∀ a b, R a b → S a b) → Paired S as bs
  | _, _, .nil, _ => .nil
  | _, _, .cons h t, m => .cons (m _ _ h) (prm t m)
theorem pra {α β : Type} {R : α → β → Prop} : ∀ {as : List α} {bs : List β} {cs : List α} {ds : List β}, Paired R as bs → Paired R cs ds → Paired R (as ++ cs) (bs ++ ds)
  | _, _, _, _, .nil, q => q
  | _, _, _, _, .cons h t, q => .cons h (pra t q)
end BR

/-! ### dicts whose keys are tuples, nested too, new ones and the module's own -/
namespace BR
open PySem PySem.Spec PyProof.Rows L2
mutual
/-- the layer's value v is the key k -/
inductive NkAt (K : PySem.W.Frag) (H : Hp) : NestedKey → V → Prop
  | non : NkAt K H .none .non
  | bl (b : Bool) : NkAt K H (.num (if b = true then 1 else 0)) (.bl b)
  | int (i : Int) : NkAt K H (.num i) (.int i)
  | str (z : Str) : NkAt K H (.text z) (.str z)
  | tup {a : Addr} {xs : List V} {ks : List NestedKey} : SqT K H a xs → NkAll K H ks xs → NkAt K H (.tup ks) (.ref a)
inductive NkAll (K : PySem.W.Frag) (H : Hp) : List NestedKey → List V → Prop
  | nil : NkAll K H [] []
  | cons {k : NestedKey} {v : V} {ks : List NestedKey} {vs : List V} : NkAt K H k v → NkAll K H ks vs → NkAll K H (k :: ks) (v :: vs)
end
section
variable {P : Program} {w : World} {K : PySem.W.Frag} {H H' : Hp} {h : Heap}
mutual
theorem NkAt.is (hok : HOk P w H h) (KX : K.In h) : ∀ {k : NestedKey} {v : V} {u : Value}, NkAt K H k v → RelV v u → NestedIs h k u
  | _, _, _, .non, r => by cases r; exact .none
  | _, _, _, .bl b, r => by cases r; exact .bool rfl
  | _, _, _, .int i, r => by obtain ⟨t, rfl⟩ := r; exact .int i t
  | _, _, _, .str z, r => by obtain ⟨t, rfl⟩ := r; exact .text z t
  | _, _, _, .tup hS hA, r => by
    cases r
    obtain ⟨its, o, n, hv, e, hc, hd⟩ := sqT_at hok KX hS
    refine .tup e hc hd ?_
    have q := NkAll.is hok KX hA hv
    simpa using q
theorem NkAll.is (hok : HOk P w H h) (KX : K.In h) : ∀ {ks : List NestedKey} {vs : List V} {us : List Value}, NkAll K H ks vs → Vals vs us → NestedAll h ks us
  | _, _, _, .nil, r => by cases r; exact .nil
  | _, _, _, .cons a b, r => by
    cases r with
    | cons r1 r2 => exact .cons (NkAt.is hok KX a r1) (NkAll.is hok KX b r2)
end
mutual
theorem NkAt.mono (ht : ∀ b ys, SqT K H b ys → SqT K H' b ys) : ∀ {k : NestedKey} {v : V}, NkAt K H k v → NkAt K H' k v
  | _, _, .non => .non
  | _, _, .bl b => .bl b
  | _, _, .int i => .int i
  | _, _, .str z => .str z
  | _, _, .tup hS hA => .tup (ht _ _ hS) (NkAll.mono ht hA)
theorem NkAll.mono (ht : ∀ b ys, SqT K H b ys → SqT K H' b ys) : ∀ {ks : List NestedKey} {vs : List V}, NkAll K H ks vs → NkAll K H' ks vs
  | _, _, .nil => .nil
  | _, _, .cons a b => .cons (NkAt.mono ht a) (NkAll.mono ht b)
end
theorem NkAt.same {k : NestedKey} {v : V} (x : NkAt K H k v) (s : Same H H') : NkAt K H' k v := x.mono fun b ys q => sameT s q
/-- key, the tuple that carries it, value -/
abbrev NEs := List (NestedKey × Addr × V)
abbrev NR : NEs → List (NestedKey × Addr × Value) → Prop := Paired fun p q => p.1 = q.1 ∧ p.2.1 = q.2.1 ∧ RelV p.2.2 q.2.2
def valN (kvs : NEs) (k : NestedKey) : Option V := (kvs.find? fun e => decide (e.1 = k)).map (·.2.2)
def putN (kvs : NEs) (k : NestedKey) (b : Addr) (v : V) : NEs := if (valN kvs k).isSome = true then kvs.map (fun e => if e.1 = k then (e.1, e.2.1, v) else e) else kvs ++ [(k, b, v)]
/-- the dict at d, the keys by their tuples' addresses alone -/
def dRaw (P : Program) (w : World) (d : Addr) (kvs : NEs) : HO := .ext fun h => kvs.length ≤ sizeLine ∧ (d == sysModules) = false ∧ ∃ xs : List (NestedKey × Addr × Value), NR kvs xs ∧
  ∃ o es ep, h.get? d = some o ∧ o.ExactDict ∧ o.data = .dict es ep ∧ es.toList = xs.map (entryOfKey (nestedKind P w)) ∧ (xs.map (·.1)).Nodup
theorem NR.val {kvs : NEs} {xs : List (NestedKey × Addr × Value)} (r : NR kvs xs) (k : NestedKey) : RelO (valN kvs k) ((atKey xs k).map (·.2)) := by
  induction r with
  | nil => exact True.intro
  | @cons p q ps qs h t ih =>
    obtain ⟨h1, _, h2⟩ := h
    by_cases e : p.1 = k
    · have e' : q.1 = k := h1.symm.trans e
      have a : valN (p :: ps) k = some p.2.2 := by simp [valN, List.find?_cons, e]
      have b : atKey (q :: qs) k = some q.2 := by simp [atKey, List.find?_cons, e']
      rw [a, b]; exact h2
    · have e' : ¬ q.1 = k := fun z => e (h1.trans z)
      have a : valN (p :: ps) k = valN ps k := by simp [valN, List.find?_cons, e]
      have b : atKey (q :: qs) k = atKey qs k := by simp [atKey, List.find?_cons, e']
      rw [a, b]; exact ih
theorem NR.repl {kvs : NEs} {xs : List (NestedKey × Addr × Value)} (r : NR kvs xs) (k : NestedKey) {y : V} {u : Value} (ry : RelV y u) : NR (kvs.map fun e => if e.1 = k then (e.1, e.2.1, y) else e) (xs.map (putAt k u)) := by
  induction r with
  | nil => exact .nil
  | @cons p q ps qs h t ih =>
    rw [List.map_cons, List.map_cons]
    refine .cons ?_ ih
    obtain ⟨h1, h2, h3⟩ := h
    unfold putAt
    by_cases e : p.1 = k
    · rw [if_pos e, if_pos (h1.symm.trans e)]; exact ⟨h1, h2, ry⟩
    · rw [if_neg e, if_neg (fun z => e (h1.trans z))]; exact ⟨h1, h2, h3⟩
theorem NR.put {kvs : NEs} {xs : List (NestedKey × Addr × Value)} (r : NR kvs xs) (k : NestedKey) {b : Addr} {y : V} {u : Value} (ry : RelV y u) : NR (putN kvs k b y) (storedH xs k b u) := by
  have e : (valN kvs k).isSome = (atKey xs k).isSome := by rw [(r.val k).isSome_eq, Option.isSome_map]
  unfold putN storedH
  rw [e]
  by_cases q : (atKey xs k).isSome = true
  · rw [if_pos q, if_pos q]; exact r.repl k ry
  · rw [if_neg q, if_neg q]; exact Paired.snoc r ⟨rfl, rfl, ry⟩
theorem putN_len (kvs : NEs) (k : NestedKey) (b : Addr) (v : V) : (putN kvs k b v).length ≤ kvs.length + 1 := by
  unfold putN
  split <;> simp
theorem putN_new {kvs : NEs} {k : NestedKey} {b : Addr} {v : V} (h : valN kvs k = none) : putN kvs k b v = kvs ++ [(k, b, v)] := by
  unfold putN
  rw [h]
  rfl
/-- the dict at d holds kvs -/
structure NDict (K : PySem.W.Frag) (P : Program) (w : World) (H : Hp) (d : Addr) (kvs : NEs) : Prop where
  at' : H d = some (dRaw P w d kvs)
  keys : ∀ e ∈ kvs, NkAt K H e.1 (.ref e.2.1) ∧ e.1.depth ≤ 8
theorem NDict.of {d : Addr} {kvs : NEs} (D : NDict K P w H d kvs) (hok : HOk P w H h) (KX : K.In h) : kvs.length ≤ sizeLine ∧ (d == sysModules) = false ∧ ∃ xs, NR kvs xs ∧ h.DictOfH (nestedKind P w) d xs := by
  obtain ⟨⟨z, y, xs, r, o, es, ep, h1, h2, h3, h4, h5⟩, _⟩ := (show ObjOk P w H h d (dRaw P w d kvs) from hok d _ D.at')
  refine ⟨z, y, xs, r, o, es, ep, h1, h2, h3, h4, fun x hx => ?_, h5⟩
  have all : ∀ {l : NEs} {m : List (NestedKey × Addr × Value)}, NR l m → (∀ e ∈ l, NkAt K H e.1 (.ref e.2.1) ∧ e.1.depth ≤ 8) → ∀ x ∈ m, (nestedKind P w).is h x.1 x.2.1 := by
    intro l m q
    induction q with
    | nil => intro _ x hx; exact nomatch hx
    | @cons p q ps qs hq t ih =>
      intro hk x hx
      rcases List.mem_cons.mp hx with e | hx
      · subst e
        obtain ⟨a, b⟩ := hk p List.mem_cons_self
        rw [← hq.1, ← hq.2.1]
        exact ⟨a.is hok KX rfl, b⟩
      · exact ih (fun e m => hk e (List.mem_cons_of_mem p m)) x hx
  exact all r D.keys x hx
theorem dRaw_ok {d : Addr} {kvs : NEs} {xs : List (NestedKey × Addr × Value)} {h' : Heap} (z : kvs.length ≤ sizeLine) (y : (d == sysModules) = false) (r : NR kvs xs) (m : h'.DictOfH (nestedKind P w) d xs) : ObjOk P w H' h' d (dRaw P w d kvs) := by
  obtain ⟨o, es, ep, h1, h2, h3, h4, _, h5⟩ := m
  refine ⟨⟨z, y, xs, r, o, es, ep, h1, h2, h3, h4, h5⟩, ⟨o, h1⟩, ?_⟩
  rintro h1' h2' ⟨z, y, xs, r, o, es, ep, g1, g2, g3, g4, g5⟩ k
  exact ⟨z, y, xs, r, o, es, ep, k o g1, g2, g3, g4, g5⟩
theorem tup_dict {b d : Addr} {xs : List V} {P : Program} {w : World} {kvs : NEs} {o : HO} (e : H d = some (dRaw P w d kvs)) (q : SqT K H b xs) : SqT K (upd H d o) b xs := by
  have rd : ∀ {u : HO}, H b = some u → (∀ φ, u ≠ .ext φ) → (upd H d o) b = some u := fun {u} eb ne => by
    rw [upd_ne (fun z => ?_)]
    · exact eb
    · rw [z, e] at eb
      exact ne _ (Option.some.inj eb).symm
  rcases q with (q | ⟨ob, q⟩) | q
  · exact .inl (.inl (rd q fun φ z => nomatch z))
  · exact .inl (.inr ⟨ob, rd q fun φ z => nomatch z⟩)
  · exact .inr q
theorem NDict.put {d b : Addr} {kvs : NEs} {k : NestedKey} {v : V} (D : NDict K P w H d kvs) (hk : NkAt K H k (.ref b)) (hz : k.depth ≤ 8) : NDict K P w (upd H d (dRaw P w d (putN kvs k b v))) d (putN kvs k b v) := by
  have up : ∀ {k2 : NestedKey} {x : V}, NkAt K H k2 x → NkAt K (upd H d (dRaw P w d (putN kvs k b v))) k2 x := fun n => n.mono fun b ys q => tup_dict D.at' q
  refine ⟨upd_same, fun e he => ?_⟩
  unfold putN at he
  split at he
  · obtain ⟨f, hf, rfl⟩ := List.mem_map.mp he
    obtain ⟨a, c⟩ := D.keys f hf
    split
    · exact ⟨up a, c⟩
    · exact ⟨up a, c⟩
  · rcases List.mem_append.mp he with he | he
    · obtain ⟨a, c⟩ := D.keys e he
      exact ⟨up a, c⟩
    · obtain rfl := List.mem_singleton.mp he
      exact ⟨up hk, hz⟩
theorem NDict.same {d : Addr} {kvs : NEs} (D : NDict K P w H d kvs) (s : Same H H') : NDict K P w H' d kvs := ⟨s _ _ D.at', fun e m => let ⟨a, b⟩ := D.keys e m; ⟨a.same s, b⟩⟩
end
section
variable {X : Cx} {pos : Pos}
def tDNewN (P : Program) (w : World) : TE := fun _ H Q => ∀ p, H p = none → Q (.ref p) (upd H p (dRaw P w p []))
theorem dn_empty {P : Program} {w : World} {H : Hp} (h : Heap) (hb : sysModules < h.objs.size) : ObjOk P w H (h.push { cls := .type "dict", data := .dict #[] }) h.objs.size (dRaw P w h.objs.size []) :=
  dRaw_ok (Nat.zero_le _) (beq_eq_false_iff_ne.mpr (Ne.symm (Nat.ne_of_lt hb))) .nil (Heap.DictOfH.new h)
theorem pe_dnewN : PE X (.Dict [] [] pos) (tDNewN X.prog X.w) := ⟨fun pins s σ H Q I h =>
  wpAny_Dict_empty ⟨.ref s.heap.objs.size, _, I.laid (a := s.heap.objs.size) (o := dRaw X.prog X.w s.heap.objs.size []) (t' := s.toks) (fun _ _ q => Heap.get?_push_of_some _ q) (Nat.le_refl _) (dn_empty s.heap I.big), rfl, h _ (I.hok.fresh (Nat.le_refl _))⟩⟩
def rInN (K : PySem.W.Frag) (P : Program) (w : World) (neg : Bool) : R2 := fun x y H Q => ∃ b d kvs k, x = .ref b ∧ y = .ref d ∧ NDict K P w H d kvs ∧ NkAt K H k (.ref b) ∧ k.depth ≤ 8 ∧ Q (.bl (if neg then !(valN kvs k).isSome else (valN kvs k).isSome)) H
theorem op_inN (hu : X.A.units + 64 < cLine) : OpR X (compareOp .In) (rInN X.K X.prog X.w false) := by
  rintro pins s σ H x y v u Q I rx ry ⟨b, d, kvs, k, rfl, rfl, D, hk, hz, q⟩
  cases rx
  cases ry
  obtain ⟨z, hd, xs, rel, dd⟩ := D.of I.hok I.kIn
  refine wpAny_in_heap (knd := nestedKind X.prog X.w) (by show X.A.units + 1 + 8 < cLine; omega) ⟨hk.is I.hok I.kIn rfl, hz⟩ hd dd ?_
  have e := (rel.val k).isSome_eq
  rw [Option.isSome_map] at e
  rw [← e]
  exact ⟨.bl (valN kvs k).isSome, H, I.tok _, rfl, q⟩
theorem op_notInN (hu : X.A.units + 64 < cLine) : OpR X (compareOp .NotIn) (rInN X.K X.prog X.w true) := by
  rintro pins s σ H x y v u Q I rx ry ⟨b, d, kvs, k, rfl, rfl, D, hk, hz, q⟩
  cases rx
  cases ry
  obtain ⟨z, hd, xs, rel, dd⟩ := D.of I.hok I.kIn
  refine wpAny_notIn_heap (knd := nestedKind X.prog X.w) (by show X.A.units + 1 + 8 < cLine; omega) ⟨hk.is I.hok I.kIn rfl, hz⟩ hd dd ?_
  have e := (rel.val k).isSome_eq
  rw [Option.isSome_map] at e
  rw [← e]
  exact ⟨.bl (!(valN kvs k).isSome), H, I.tok _, rfl, q⟩
def rIxN (K : PySem.W.Frag) (P : Program) (w : World) : R2 := fun x y H Q => ∃ d b kvs k v, x = .ref d ∧ y = .ref b ∧ NDict K P w H d kvs ∧ NkAt K H k (.ref b) ∧ k.depth ≤ 8 ∧ valN kvs k = some v ∧ Q v H
theorem ix_nd (hu : X.A.units + 64 < cLine) : IxR X (rIxN X.K X.prog X.w) := by
  rintro value slice pins s σ H x y v u Q I rx ry ⟨d, b, kvs, k, r, rfl, rfl, D, hk, hz, ev, q⟩ hs
  obtain rfl : v = Value.ref d := rx
  cases ry
  obtain ⟨z, hd, xs, rel, dd⟩ := D.of I.hok I.kIn
  obtain ⟨u0, e, ru⟩ := RelO.some_of (v := r) (o := (atKey xs k).map (·.2)) (by rw [← ev]; exact rel.val k)
  obtain ⟨p, hp, hp2⟩ := Option.map_eq_some_iff.mp e
  refine tail_any dd.typeIs slot_dict_getitem.lookup (wpAny_getItem_heap (knd := nestedKind X.prog X.w) (by show X.A.units + 1 + 8 < cLine; omega) ⟨hk.is I.hok I.kIn rfl, hz⟩ dd hp ?_) hs
  rw [hp2]
  exact ⟨r, H, I.tok _, ru, q⟩
theorem d_writeN {pins : List (Addr × Obj)} {σ : L2.St} {H : Hp} {s : Shared} {d b : Addr} {kvs : NEs} {k : NestedKey} {v : V} {u : Value} {xs : List (NestedKey × Addr × Value)} {h' : Heap} {t' : Nat} (I : Inv X pins σ H s) (D : NDict X.K X.prog X.w H d kvs) (hl : kvs.length < sizeLine) (rel : NR kvs xs) (hd : (d == sysModules) = false) (ru : RelV v u)
    (dd' : h'.DictOfH (nestedKind X.prog X.w) d (storedH xs k b u)) (hs : Heap.SameBut d s.heap h') : Inv X pins σ (upd H d (dRaw X.prog X.w d (putN kvs k b v))) { s with heap := h', toks := t' } := by
  have he : ∃ q, h'.get? d = some q := let ⟨q, _, _, hq, _⟩ := dd'; ⟨q, hq⟩
  exact L2.d_write I (by rw [D.at']; exact True.intro) hs he (dRaw_ok (by have := putN_len kvs k b v; omega) hd (rel.put k ru) dd')
/-- d[k] = v -/
def rSetN (K : PySem.W.Frag) (P : Program) (w : World) : TSet := fun o i v H Q => ∃ d b kvs k, o = .ref d ∧ i = .ref b ∧ NDict K P w H d kvs ∧ NkAt K H k (.ref b) ∧ k.depth ≤ 8 ∧ kvs.length < sizeLine ∧ Q (upd H d (dRaw P w d (putN kvs k b v)))
theorem set_nd (hu : X.A.units + 64 < cLine) : PSet X (rSetN X.K X.prog X.w) := by
  rintro pins s σ H o i v ov iv u Q I ro ri rv ⟨d, b, kvs, k, rfl, rfl, D, hk, hz, hl, q⟩
  cases ro
  cases ri
  obtain ⟨z, hd, xs, rel, dd⟩ := D.of I.hok I.kIn
  refine wpAny_setItem_heap (hsz := by rw [← Paired.length rel]; exact z) (knd := nestedKind X.prog X.w) (by show X.A.units + 1 + 8 < cLine; omega) ⟨hk.is I.hok I.kIn rfl, hz⟩ dd fun h' dd' hs => ?_
  exact ⟨_, d_writeN I D hl rel hd rv dd' hs, q⟩
variable {A : Around} {E : Value → Shared → Prop} {pins : List (Addr × Obj)} {σ : L2.St}
def putNs (acc : NEs) (l : NEs) : NEs := l.foldl (fun acc e => putN acc e.1 e.2.1 e.2.2) acc
theorem d_storeAllN {d : Addr} : ∀ (l : NEs) {ws : List (Value × Value)} {kvs : NEs} {H : Hp} {s : Shared} {Q : PUnit → Shared → Prop}, A.units + 64 < cLine → Inv X pins σ H s → NDict X.K X.prog X.w H d kvs →
    (∀ e ∈ l, NkAt X.K H e.1 (.ref e.2.1) ∧ e.1.depth ≤ 8) → kvs.length + l.length < sizeLine → VV (l.map fun e => (.ref e.2.1, e.2.2)) ws →
    (∀ s', Inv X pins σ (upd H d (dRaw X.prog X.w d (putNs kvs l))) s' → Q PUnit.unit s') → wpAny (model X.prog X.w) A (storeAll d ws) Q E s
  | [], ws, kvs, H, s, Q, hu, I, D, _, _, r, h => by
    cases r
    unfold storeAll
    rw [List.forIn_nil]
    refine wpAny_pure (h s ?_)
    have e := D.at'
    rw [show putNs kvs [] = kvs from rfl, show upd H d (dRaw X.prog X.w d kvs) = H from by funext b; unfold upd; split <;> simp_all]
    exact I
  | x :: l, ws, kvs, H, s, Q, hu, I, D, hk, hl, r, h => by
    rw [List.map_cons] at r
    cases r with
    | @cons p q ps qs h1 t =>
      obtain ⟨q1, q2⟩ := q
      obtain rfl : q1 = Value.ref x.2.1 := h1.1
      unfold storeAll
      rw [List.forIn_cons]
      obtain ⟨hx, hz⟩ := hk x List.mem_cons_self
      rw [List.length_cons] at hl
      obtain ⟨z, hd, xs, rel, dd⟩ := D.of I.hok I.kIn
      refine wpAny_bind (wpAny_bind (wpAny_dictSet_heap (hsz := by rw [← Paired.length rel]; exact z) (knd := nestedKind X.prog X.w) (by show A.units + 8 < cLine; omega) ⟨hx.is I.hok I.kIn rfl, hz⟩ dd fun h' dd' hs => wpAny_pure ?_))
      have I' := d_writeN (t' := s.toks + (nestedKind X.prog X.w).draws x.1) I D (by omega) rel hd h1.2 dd' hs
      refine d_storeAllN l (kvs := putN kvs x.1 x.2.1 x.2.2) hu I' (D.put hx hz) (fun y m => ?_) (by have := putN_len kvs x.1 x.2.1 x.2.2; omega) t fun s2 I2 => h s2 ?_
      · obtain ⟨a, c⟩ := hk y (List.mem_cons_of_mem x m)
        exact ⟨a.mono fun b ys q => tup_dict D.at' q, c⟩
      · rw [upd_upd] at I2
        exact I2
/-- {k: v, ..} with tuples as keys -/
def tDispN (K : PySem.W.Frag) (P : Program) (w : World) (trs : List (TE × TE)) : TE := fun σ H Q => ∀ p, H p = none → tPairs trs σ (upd H p (dRaw P w p [])) fun ps H2 => H2 p = some (dRaw P w p []) ∧ ∃ l : NEs, ps = l.map (fun e => (.ref e.2.1, e.2.2)) ∧ (∀ e ∈ l, NkAt K H2 e.1 (.ref e.2.1) ∧ e.1.depth ≤ 8) ∧ l.length ≤ 15 ∧ Q (.ref p) (upd H2 p (dRaw P w p (putNs [] l)))
theorem pe_dispN {keys : List (Option Expr)} {values : List Expr} {trs : List (TE × TE)} (hu : X.A.units + 64 < cLine) (h : PPs X pos keys values trs) (hall : keys.all (·.isSome) = true) (hl : keys.length = values.length) (h0 : keys ≠ [])
    (h15 : keys.length ≤ 15) : PE X (.Dict keys values pos) (tDispN X.K X.prog X.w trs) := by
  refine ⟨fun pins s σ H Q I q => ?_⟩
  have hn := I.hok.fresh (Nat.le_refl s.heap.objs.size)
  have I1 := I.laid (a := s.heap.objs.size) (o := dRaw X.prog X.w s.heap.objs.size []) (h' := s.heap.push { cls := .type "dict", data := .dict #[] }) (t' := s.toks) (fun _ _ q => Heap.get?_push_of_some _ q) (Nat.le_refl _) (dn_empty s.heap I.big)
  refine wpAny_Dict_any hall hl h0 h15 (thn (h.run pins _ σ _ _ I1 (q _ hn)) fun ws s2 ⟨ps, H2, I2, rel, e, l, ep, hk, lk, q2⟩ => ?_)
  subst ep
  refine d_storeAllN l hu I2 ⟨e, fun _ m => nomatch m⟩ hk (by rw [sizeLine_eq]; simp only [List.length_nil]; omega) rel fun s3 I3 => ⟨.ref s.heap.objs.size, _, I3, rfl, q2⟩
end
end BR

/-! ### the sets of outcomes by numbers, and the walk through all of them by rules -/
namespace BR
open PySem PySem.Spec PyProof.Rows L2
def bitO (m : Nat) (o : Str) : Bool := if o = "E" then m.testBit 0 else if o = "LB" then m.testBit 1 else if o = "GA" then m.testBit 2 else if o = "GB" then m.testBit 3 else m.testBit 4
/-- the set of number m -/
def mO (m : Nat) : List Str := outs.filter (bitO m)
def rulesC : List (Str × Bool) := tabC.flatMap fun c => [(c.1, true), (c.1, false)]
def rMask : List (Nat × Bool) := [(1, true), (1, false), (30, true), (30, false), (18, true), (18, false), (19, true), (19, false), (12, true), (12, false), (13, true), (13, false), (10, true), (10, false), (11, true), (11, false), (20, true), (20, false), (21, true), (21, false), (7, true), (7, false), (24, true), (24, false)]
def wr (m : Nat) (r : Nat × Bool) : Nat := if r.2 then m ||| r.1 else m &&& (31 - r.1)
theorem wr_ok : ∀ m ∈ List.range 32, ∀ j ∈ List.range 24, (outs.filter fun o => if decide (o ∈ outsOf (rulesC.getD j ("", true)).1) then (rulesC.getD j ("", true)).2 else decide (o ∈ mO m)) = mO (wr m (rMask.getD j (0, true))) := by decide +kernel
theorem mO_inj : ∀ m ∈ List.range 32, ∀ n ∈ List.range 32, mO m = mO n → m = n := by decide +kernel
theorem mO_all : ∀ s ∈ allSets, ∃ m ∈ List.range 32, mO m = s := by decide +kernel
theorem mO_len (m : Nat) : (mO m).length ≤ 5 := List.length_filter_le _ _
def atts (nw : List Nat) : List (Nat × Nat) := nw.flatMap fun m => (List.range 24).map fun j => (m, j)
def stepC (st : List Nat × List Nat) (a : Nat × Nat) : List Nat × List Nat := if wr a.1 (rMask.getD a.2 (0, true)) ∈ st.1 then st else (st.1 ++ [wr a.1 (rMask.getD a.2 (0, true))], st.2 ++ [wr a.1 (rMask.getD a.2 (0, true))])
def passC (st : List Nat × List Nat) : List Nat × List Nat := (atts st.2).foldl stepC (st.1, [])
def stC : Nat → List Nat × List Nat
  | 0 => ([0, 31], [0, 31])
  | k + 1 => passC (stC k)
theorem stC_all : ∀ m ∈ List.range 32, m ∈ (stC 6).1 := by decide +kernel
theorem stC_ok : ∀ k ∈ List.range 7, (stC k).1.length ≤ 32 ∧ (stC k).2.length ≤ 32 ∧ (∀ m ∈ (stC k).2, m ∈ (stC k).1) ∧ ∀ m ∈ (stC k).1, m < 32 := by decide +kernel
theorem step_pre (st : List Nat × List Nat) (a : Nat × Nat) : st.1 <+: (stepC st a).1 ∧ (stepC st a).2.length + st.1.length = (stepC st a).1.length + st.2.length ∧ ∃ l, (stepC st a).1 = st.1 ++ l ∧ (stepC st a).2 = st.2 ++ l := by
  unfold stepC
  split
  · exact ⟨List.prefix_refl _, by omega, [], by simp⟩
  · exact ⟨⟨_, rfl⟩, by simp only [List.length_append]; omega, _, rfl, rfl⟩
theorem fold_pre : ∀ (l : List (Nat × Nat)) (st : List Nat × List Nat), ∃ m, (l.foldl stepC st).1 = st.1 ++ m ∧ (l.foldl stepC st).2 = st.2 ++ m
  | [], st => ⟨[], by simp⟩
  | a :: l, st => by
    obtain ⟨m1, h1, h2⟩ := (step_pre st a).2.2
    obtain ⟨m2, h3, h4⟩ := fold_pre l (stepC st a)
    exact ⟨m1 ++ m2, by rw [List.foldl_cons, h3, h1, List.append_assoc], by rw [List.foldl_cons, h4, h2, List.append_assoc]⟩
/-- within the k-th pass, behind i attempts -/
def preC (k i : Nat) : List Nat × List Nat := ((atts (stC k).2).take i).foldl stepC ((stC k).1, [])
theorem preC_zero (k : Nat) : preC k 0 = ((stC k).1, []) := rfl
theorem preC_succ {k i : Nat} {a : Nat × Nat} (h : (atts (stC k).2)[i]? = some a) : preC k (i + 1) = stepC (preC k i) a := by
  unfold preC
  rw [List.take_succ, h, Option.toList_some, List.foldl_append]
  rfl
theorem preC_end (k : Nat) : preC k (atts (stC k).2).length = stC (k + 1) := by
  unfold preC
  rw [List.take_length]
  rfl
theorem preC_ok {k i : Nat} (hk : k < 6) : (preC k i).1.length ≤ 32 ∧ (preC k i).2.length ≤ 32 ∧ (∀ m ∈ (stC k).1, m ∈ (preC k i).1) ∧ (∀ m ∈ (preC k i).1, m < 32) ∧ (∀ m ∈ (preC k i).2, m ∈ (preC k i).1) := by
  obtain ⟨m1, h1, h2⟩ := fold_pre ((atts (stC k).2).take i) ((stC k).1, [])
  obtain ⟨m2, h3, h4⟩ := fold_pre ((atts (stC k).2).drop i) (preC k i)
  have e : ((atts (stC k).2).drop i).foldl stepC (preC k i) = stC (k + 1) := by
    unfold preC
    rw [← List.foldl_append, List.take_append_drop]
    rfl
  rw [e] at h3 h4
  obtain ⟨a, b, c, d⟩ := stC_ok (k + 1) (List.mem_range.mpr (by omega))
  rw [h3] at a d
  change (preC k i).1 = (stC k).1 ++ m1 at h1
  change (preC k i).2 = [] ++ m1 at h2
  rw [List.length_append] at a
  have l1 : (preC k i).1.length = (stC k).1.length + m1.length := by rw [h1, List.length_append]
  have l2 : (preC k i).2.length = m1.length := by rw [h2, List.nil_append]
  refine ⟨by omega, by omega, fun m hm => by rw [h1]; exact List.mem_append_left _ hm, fun m hm => d m (List.mem_append_left _ hm), fun m hm => ?_⟩
  rw [h2, List.nil_append] at hm
  rw [h1]
  exact List.mem_append_right _ hm
theorem atts_len (nw : List Nat) : (atts nw).length = 24 * nw.length := by
  unfold atts
  induction nw with
  | nil => rfl
  | cons m l ih => rw [List.flatMap_cons, List.length_append, ih, List.length_map, List.length_range, List.length_cons]; omega
theorem atts_mem {nw : List Nat} {a : Nat × Nat} (h : a ∈ atts nw) : a.1 ∈ nw ∧ a.2 < 24 := by
  obtain ⟨m, hm, h⟩ := List.mem_flatMap.mp h
  obtain ⟨j, hj, rfl⟩ := List.mem_map.mp h
  exact ⟨hm, List.mem_range.mp hj⟩
theorem atts_at : ∀ {nw : List Nat} {i m j : Nat}, nw[i]? = some m → j < 24 → (atts nw)[24 * i + j]? = some (m, j)
  | x :: nw, 0, m, j, h, hj => by
    cases h
    unfold atts
    rw [List.flatMap_cons, List.getElem?_append_left (by rw [List.length_map, List.length_range]; omega), List.getElem?_map, List.getElem?_range (by omega)]
    show some (x, 24 * 0 + j) = some (x, j)
    rw [Nat.mul_zero, Nat.zero_add]
  | x :: nw, i + 1, m, j, h, hj => by
    have e : nw[i]? = some m := h
    unfold atts
    rw [List.flatMap_cons, List.getElem?_append_right (by rw [List.length_map, List.length_range]; omega), List.length_map, List.length_range, show 24 * (i + 1) + j - 24 = 24 * i + j by omega]
    exact atts_at e hj
  | [], _, _, _, h, _ => nomatch h
/-- the set of number m as a key -/
def nO (m : Nat) : NestedKey := .tup ((mO m).map NestedKey.text)
theorem nO_depth (m : Nat) : (nO m).depth ≤ 8 := by
  have h : ∀ l : List Str, NestedKey.depthAll (l.map NestedKey.text) = 0 := fun l => by
    induction l with
    | nil => rfl
    | cons z l ih => rw [List.map_cons, NestedKey.depthAll, ih]; rfl
  unfold nO
  rw [NestedKey.depth, h]
  decide
theorem text_inj : ∀ {l l' : List Str}, l.map NestedKey.text = l'.map NestedKey.text → l = l'
  | [], [], _ => rfl
  | [], _ :: _, h => nomatch h
  | _ :: _, [], h => nomatch h
  | a :: l, b :: l', h => by
    rw [List.map_cons, List.map_cons] at h
    obtain ⟨h1, h2⟩ := List.cons.inj h
    rw [NestedKey.text.inj h1, text_inj h2]
theorem nO_inj {m n : Nat} (hm : m < 32) (hn : n < 32) (h : nO m = nO n) : m = n := mO_inj m (List.mem_range.mpr hm) n (List.mem_range.mpr hn) (text_inj (NestedKey.tup.inj h))
section
variable {K : PySem.W.Frag} {P : Program} {w : World} {H H' : Hp}
theorem nk_strs : ∀ l : List Str, NkAll K H (l.map NestedKey.text) (l.map V.str)
  | [] => .nil
  | z :: l => .cons (.str z) (nk_strs l)
theorem nO_at {b : Addr} {m : Nat} (h : SqT K H b ((mO m).map V.str)) : NkAt K H (nO m) (.ref b) := .tup h (nk_strs _)
/-- all but dicts by `.ext` and lists stand as they stood -/
def TP (H H' : Hp) : Prop := ∀ b u, H b = some u → (∀ φ, u ≠ .ext φ) → (∀ xs, u ≠ .lst xs) → H' b = some u
theorem TP.refl (H : Hp) : TP H H := fun _ _ e _ _ => e
theorem TP.trans {H2 : Hp} (a : TP H H') (b : TP H' H2) : TP H H2 := fun x u e n1 n2 => b x u (a x u e n1 n2) n1 n2
theorem TP.of (s : Same H H') : TP H H' := fun b u e _ _ => s b u e
theorem TP.dict {d : Addr} {kvs : NEs} {o : HO} (e : H d = some (dRaw P w d kvs)) : TP H (upd H d o) := fun b u q n1 _ => by
  rw [upd_ne (fun z => by rw [z, e] at q; exact n1 _ (Option.some.inj q).symm)]
  exact q
theorem TP.list {d : Addr} {xs : List V} {o : HO} (e : H d = some (.lst xs)) : TP H (upd H d o) := fun b u q _ n2 => by
  rw [upd_ne (fun z => by rw [z, e] at q; exact n2 _ (Option.some.inj q).symm)]
  exact q
theorem TP.tup {b : Addr} {xs : List V} (t : TP H H') (e : H b = some (.tup xs)) : H' b = some (.tup xs) := t b _ e (fun φ z => nomatch z) (fun xs z => nomatch z)
theorem TP.sq {b : Addr} {xs : List V} (t : TP H H') (q : SqT K H b xs) : SqT K H' b xs := by
  rcases q with (q | ⟨o, q⟩) | q
  · exact .inl (.inl (t.tup q))
  · exact .inl (.inr ⟨o, t b _ q (fun φ z => nomatch z) (fun xs z => nomatch z)⟩)
  · exact .inr q
/-- a chain's rules and last answer -/
def ValOk (H : Hp) (n : Nat) (v : V) : Prop := ∃ p r xs b, v = .ref p ∧ H p = some (.tup [.ref r, .bl b]) ∧ H r = some (.tup xs) ∧ xs.length ≤ n
theorem ValOk.tp {n m : Nat} {v : V} (h : ValOk H n v) (t : TP H H') (l : n ≤ m) : ValOk H' m v := let ⟨p, r, xs, b, e, e1, e2, z⟩ := h; ⟨p, r, xs, b, e, t.tup e1, t.tup e2, Nat.le_trans z l⟩
/-- the dict of the chains that are known -/
def Ch (K : PySem.W.Frag) (P : Program) (w : World) (H : Hp) (c : Addr) (ks : List Nat) : Prop := ∃ kvs : NEs, NDict K P w H c kvs ∧ kvs.map (·.1) = ks.map nO ∧ ∀ e ∈ kvs, ValOk H ks.length e.2.2
theorem ch_val {kvs : NEs} {ks : List Nat} {m : Nat} (h : kvs.map (·.1) = ks.map nO) (hk : ∀ x ∈ ks, x < 32) (hm : m < 32) : (m ∈ ks → ∃ e ∈ kvs, valN kvs (nO m) = some e.2.2) ∧ (m ∉ ks → valN kvs (nO m) = none) := by
  refine ⟨fun mem => ?_, fun nm => ?_⟩
  · have q : nO m ∈ kvs.map (·.1) := by rw [h]; exact List.mem_map_of_mem mem
    obtain ⟨e, he, ee⟩ := List.mem_map.mp q
    cases hf : kvs.find? fun e => decide (e.1 = nO m) with
    | none => exact absurd ee (by simpa using List.find?_eq_none.mp hf e he)
    | some y => exact ⟨y, List.mem_of_find?_eq_some hf, by unfold valN; rw [hf]; rfl⟩
  · have hf : (kvs.find? fun e => decide (e.1 = nO m)) = none := List.find?_eq_none.mpr fun e he ee => by
      have q : e.1 ∈ ks.map nO := by rw [← h]; exact List.mem_map_of_mem he
      obtain ⟨x, hx, ex⟩ := List.mem_map.mp q
      have : x = m := nO_inj (hk x hx) hm (ex.trans (by simpa using ee))
      exact nm (this ▸ hx)
    unfold valN
    rw [hf]
    rfl
theorem Ch.tp {c : Addr} {ks : List Nat} (h : Ch K P w H c ks) (t : TP H H') (e : ∀ kvs, H c = some (dRaw P w c kvs) → H' c = some (dRaw P w c kvs)) : Ch K P w H' c ks :=
  let ⟨kvs, D, hk, hv⟩ := h
  ⟨kvs, ⟨e _ D.at', fun x m => let ⟨a, b⟩ := D.keys x m; ⟨a.mono fun _ _ q => t.sq q, b⟩⟩, hk, fun x m => (hv x m).tp t (Nat.le_refl _)⟩
/-- sets of outcomes, by their numbers -/
def NwAt (K : PySem.W.Frag) (H : Hp) (bs : List Addr) (ms : List Nat) : Prop := Paired (fun b m => SqT K H b ((mO m).map V.str)) bs ms
theorem NwAt.tp {bs : List Addr} {ms : List Nat} (h : NwAt K H bs ms) (t : TP H H') : NwAt K H' bs ms := prm h fun _ _ q => t.sq q
/-- attempts: a set and a rule -/
def AtAt (K : PySem.W.Frag) (H : Hp) (ds : List Addr) (l : List (Nat × Nat)) : Prop := Paired (fun d (a : Nat × Nat) => ∃ b q, H d = some (.tup [.ref b, .ref q]) ∧ SqT K H b ((mO a.1).map V.str) ∧ H q = some (.tup [.str (rulesC.getD a.2 ("", true)).1, .bl (rulesC.getD a.2 ("", true)).2])) ds l
theorem AtAt.tp {ds : List Addr} {l : List (Nat × Nat)} (h : AtAt K H ds l) (t : TP H H') : AtAt K H' ds l := prm h fun _ _ ⟨b, q, e1, e2, e3⟩ => ⟨b, q, t.tup e1, t.sq e2, t.tup e3⟩
theorem prg {α β : Type} {R : α → β → Prop} : ∀ {as : List α} {bs : List β} {i : Nat} {a : α}, Paired R as bs → as[i]? = some a → ∃ b, bs[i]? = some b ∧ R a b
  | _, _, 0, _, .cons h _, e => by cases e; exact ⟨_, rfl, h⟩
  | _, _, i + 1, _, .cons _ t, e => prg (i := i) t e
  | _, _, _, _, .nil, e => nomatch e
theorem ref_at {bs : List Addr} {i : Nat} {x : V} (h : (bs.map V.ref)[i]? = some x) : ∃ b, bs[i]? = some b ∧ x = .ref b := by
  rw [List.getElem?_map] at h
  obtain ⟨b, e, r⟩ := Option.map_eq_some_iff.mp h
  exact ⟨b, e, r.symm⟩
theorem takeS {α : Type} {l : List α} {n : Nat} {r : α} (h : l[n]? = some r) : l.take (n + 1) = l.take n ++ [r] := by rw [List.take_succ, h, Option.toList_some]
end
end BR

namespace BR
open PySem PySem.Spec PyProof.Rows L2
/-! ### the text by places -/
def top (i : Nat) : Stmt := PySem.Challenge.pw_branchorders_k06_errors_of_words_and_out.main.body.getD i (.Pass ⟨0, 0, 0, 0⟩)
abbrev s_check_width : Stmt := top 18
abbrev s_check_words : Stmt := top 19
abbrev s_is_word : Stmt := top 20
abbrev s_sign_bit : Stmt := top 21
abbrev s_outcome_by_cut : Stmt := top 22
abbrev s_signed : Stmt := top 23
abbrev s_outcome : Stmt := top 24
abbrev s_flipped : Stmt := top 25
abbrev s_inverted : Stmt := top 26
abbrev s_extended : Stmt := top 27
abbrev s_signed_value : Stmt := top 28
abbrev s_changed : Stmt := top 29
abbrev s_check_outcome : Stmt := top 35
abbrev s_check_condition : Stmt := top 36
abbrev s_ordered_outcomes : Stmt := top 37
abbrev s_outcomes_of : Stmt := top 38
abbrev s_condition_of : Stmt := top 39
abbrev s_composed : Stmt := top 40
abbrev s_exchanged : Stmt := top 41
abbrev s_reversed_condition : Stmt := top 42
abbrev s_shortest_chain : Stmt := top 43
abbrev s_all_rules : Stmt := top 44
abbrev s_with_rule : Stmt := top 45
abbrev s_law_pool : Stmt := top 47
abbrev s_law_draw : Stmt := top 48
abbrev s_law_wide : Stmt := top 49
abbrev s_law_power : Stmt := top 50
abbrev s_law_word : Stmt := top 51
abbrev s_law_some : Stmt := top 52
abbrev s_law_conds : Stmt := top 53
abbrev s_law_kind : Stmt := top 54
abbrev s_law_told : Stmt := top 55
abbrev s_law_string_told : Stmt := top 56
abbrev s_law_words_right : Stmt := top 57
abbrev s_law_strings_right : Stmt := top 58
abbrev s_law_classes_right : Stmt := top 59
abbrev s_law : Stmt := top 60
abbrev s_InvalidWidth : Stmt := inClass (top 2) 0
abbrev s_InvalidWords : Stmt := inClass (top 3) 0
abbrev s_InvalidOutcome : Stmt := inClass (top 4) 0
abbrev s_InvalidCondition : Stmt := inClass (top 5) 0
abbrev s_InvalidRanking : Stmt := inClass (top 6) 0
abbrev s_InvalidKnowledge : Stmt := inClass (top 7) 0
abbrev s_InvalidProgram : Stmt := inClass (top 8) 0
abbrev s_InvalidRow : Stmt := inClass (top 9) 0
abbrev s_InvalidRegister : Stmt := inClass (top 10) 0
abbrev s_InvalidQuery : Stmt := inClass (top 11) 0
abbrev s_InvalidTable : Stmt := inClass (top 12) 0
abbrev s_InvalidNumber : Stmt := inClass (top 13) 0
abbrev s_UnlikeInputs : Stmt := inClass (top 14) 0
abbrev s_NothingToUndo : Stmt := inClass (top 15) 0
abbrev s_Unreadable : Stmt := inClass (top 16) 0
structure Ad where
  v_OUTCOMES : Addr
  v_CONDITIONS : Addr
  p_CONDITIONS_0 : Addr
  p_CONDITIONS_1 : Addr
  p_CONDITIONS_2 : Addr
  p_CONDITIONS_3 : Addr
  p_CONDITIONS_4 : Addr
  p_CONDITIONS_5 : Addr
  p_CONDITIONS_6 : Addr
  p_CONDITIONS_7 : Addr
  p_CONDITIONS_8 : Addr
  p_CONDITIONS_9 : Addr
  p_CONDITIONS_10 : Addr
  p_CONDITIONS_11 : Addr
  v_EXCHANGED : Addr
  v_REVERSED : Addr
  c_InvalidWidth : Addr
  c_InvalidWords : Addr
  c_InvalidOutcome : Addr
  c_InvalidCondition : Addr
  c_InvalidRanking : Addr
  c_InvalidKnowledge : Addr
  c_InvalidProgram : Addr
  c_InvalidRow : Addr
  c_InvalidRegister : Addr
  c_InvalidQuery : Addr
  c_InvalidTable : Addr
  c_InvalidNumber : Addr
  c_UnlikeInputs : Addr
  c_NothingToUndo : Addr
  c_Unreadable : Addr
  c_BranchError : Addr
  i_InvalidWidth : Addr
  di_InvalidWidth : FuncData
  i_InvalidWords : Addr
  di_InvalidWords : FuncData
  i_InvalidOutcome : Addr
  di_InvalidOutcome : FuncData
  i_InvalidCondition : Addr
  di_InvalidCondition : FuncData
  i_InvalidRanking : Addr
  di_InvalidRanking : FuncData
  i_InvalidKnowledge : Addr
  di_InvalidKnowledge : FuncData
  i_InvalidProgram : Addr
  di_InvalidProgram : FuncData
  i_InvalidRow : Addr
  di_InvalidRow : FuncData
  i_InvalidRegister : Addr
  di_InvalidRegister : FuncData
  i_InvalidQuery : Addr
  di_InvalidQuery : FuncData
  i_InvalidTable : Addr
  di_InvalidTable : FuncData
  i_InvalidNumber : Addr
  di_InvalidNumber : FuncData
  i_UnlikeInputs : Addr
  di_UnlikeInputs : FuncData
  i_NothingToUndo : Addr
  di_NothingToUndo : FuncData
  i_Unreadable : Addr
  di_Unreadable : FuncData
  a_check_width : Addr
  d_check_width : FuncData
  a_check_words : Addr
  d_check_words : FuncData
  a_is_word : Addr
  d_is_word : FuncData
  a_sign_bit : Addr
  d_sign_bit : FuncData
  a_outcome_by_cut : Addr
  d_outcome_by_cut : FuncData
  a_signed : Addr
  d_signed : FuncData
  a_outcome : Addr
  d_outcome : FuncData
  a_flipped : Addr
  d_flipped : FuncData
  a_inverted : Addr
  d_inverted : FuncData
  a_extended : Addr
  d_extended : FuncData
  a_signed_value : Addr
  d_signed_value : FuncData
  a_changed : Addr
  d_changed : FuncData
  a_check_outcome : Addr
  d_check_outcome : FuncData
  a_check_condition : Addr
  d_check_condition : FuncData
  a_ordered_outcomes : Addr
  d_ordered_outcomes : FuncData
  a_outcomes_of : Addr
  d_outcomes_of : FuncData
  a_condition_of : Addr
  d_condition_of : FuncData
  a_composed : Addr
  d_composed : FuncData
  a_exchanged : Addr
  d_exchanged : FuncData
  a_reversed_condition : Addr
  d_reversed_condition : FuncData
  a_shortest_chain : Addr
  d_shortest_chain : FuncData
  a_all_rules : Addr
  d_all_rules : FuncData
  a_with_rule : Addr
  d_with_rule : FuncData
  a_law_pool : Addr
  d_law_pool : FuncData
  a_law_draw : Addr
  d_law_draw : FuncData
  a_law_wide : Addr
  d_law_wide : FuncData
  a_law_power : Addr
  d_law_power : FuncData
  a_law_word : Addr
  d_law_word : FuncData
  a_law_some : Addr
  d_law_some : FuncData
  a_law_conds : Addr
  d_law_conds : FuncData
  a_law_kind : Addr
  d_law_kind : FuncData
  a_law_told : Addr
  d_law_told : FuncData
  a_law_string_told : Addr
  d_law_string_told : FuncData
  a_law_words_right : Addr
  d_law_words_right : FuncData
  a_law_strings_right : Addr
  d_law_strings_right : FuncData
  a_law_classes_right : Addr
  d_law_classes_right : FuncData
  a_law : Addr
  d_law : FuncData
structure Txt (w : World) (K : PySem.W.Frag) (mg : Str → Option Value) (A0 : Ad) : Prop where
  g_check_width : mg "check_width" = some (.ref A0.a_check_width)
  F_check_width : Fun K "check_width" "check_width" s_check_width A0.a_check_width A0.d_check_width
  g_check_words : mg "check_words" = some (.ref A0.a_check_words)
  F_check_words : Fun K "check_words" "check_words" s_check_words A0.a_check_words A0.d_check_words
  g_is_word : mg "is_word" = some (.ref A0.a_is_word)
  F_is_word : Fun K "is_word" "is_word" s_is_word A0.a_is_word A0.d_is_word
  g_sign_bit : mg "sign_bit" = some (.ref A0.a_sign_bit)
  F_sign_bit : Fun K "sign_bit" "sign_bit" s_sign_bit A0.a_sign_bit A0.d_sign_bit
  g_outcome_by_cut : mg "outcome_by_cut" = some (.ref A0.a_outcome_by_cut)
  F_outcome_by_cut : Fun K "outcome_by_cut" "outcome_by_cut" s_outcome_by_cut A0.a_outcome_by_cut A0.d_outcome_by_cut
  g_signed : mg "signed" = some (.ref A0.a_signed)
  F_signed : Fun K "signed" "signed" s_signed A0.a_signed A0.d_signed
  g_outcome : mg "outcome" = some (.ref A0.a_outcome)
  F_outcome : Fun K "outcome" "outcome" s_outcome A0.a_outcome A0.d_outcome
  g_flipped : mg "flipped" = some (.ref A0.a_flipped)
  F_flipped : Fun K "flipped" "flipped" s_flipped A0.a_flipped A0.d_flipped
  g_inverted : mg "inverted" = some (.ref A0.a_inverted)
  F_inverted : Fun K "inverted" "inverted" s_inverted A0.a_inverted A0.d_inverted
  g_extended : mg "extended" = some (.ref A0.a_extended)
  F_extended : Fun K "extended" "extended" s_extended A0.a_extended A0.d_extended
  g_signed_value : mg "_signed_value" = some (.ref A0.a_signed_value)
  F_signed_value : Fun K "_signed_value" "_signed_value" s_signed_value A0.a_signed_value A0.d_signed_value
  g_changed : mg "_changed" = some (.ref A0.a_changed)
  F_changed : Fun K "_changed" "_changed" s_changed A0.a_changed A0.d_changed
  g_check_outcome : mg "check_outcome" = some (.ref A0.a_check_outcome)
  F_check_outcome : Fun K "check_outcome" "check_outcome" s_check_outcome A0.a_check_outcome A0.d_check_outcome
  g_check_condition : mg "check_condition" = some (.ref A0.a_check_condition)
  F_check_condition : Fun K "check_condition" "check_condition" s_check_condition A0.a_check_condition A0.d_check_condition
  g_ordered_outcomes : mg "ordered_outcomes" = some (.ref A0.a_ordered_outcomes)
  F_ordered_outcomes : Fun K "ordered_outcomes" "ordered_outcomes" s_ordered_outcomes A0.a_ordered_outcomes A0.d_ordered_outcomes
  g_outcomes_of : mg "outcomes_of" = some (.ref A0.a_outcomes_of)
  F_outcomes_of : Fun K "outcomes_of" "outcomes_of" s_outcomes_of A0.a_outcomes_of A0.d_outcomes_of
  g_condition_of : mg "condition_of" = some (.ref A0.a_condition_of)
  F_condition_of : Fun K "condition_of" "condition_of" s_condition_of A0.a_condition_of A0.d_condition_of
  g_composed : mg "composed" = some (.ref A0.a_composed)
  F_composed : Fun K "composed" "composed" s_composed A0.a_composed A0.d_composed
  g_exchanged : mg "exchanged" = some (.ref A0.a_exchanged)
  F_exchanged : Fun K "exchanged" "exchanged" s_exchanged A0.a_exchanged A0.d_exchanged
  g_reversed_condition : mg "reversed_condition" = some (.ref A0.a_reversed_condition)
  F_reversed_condition : Fun K "reversed_condition" "reversed_condition" s_reversed_condition A0.a_reversed_condition A0.d_reversed_condition
  g_shortest_chain : mg "shortest_chain" = some (.ref A0.a_shortest_chain)
  F_shortest_chain : Fun K "shortest_chain" "shortest_chain" s_shortest_chain A0.a_shortest_chain A0.d_shortest_chain
  g_all_rules : mg "_all_rules" = some (.ref A0.a_all_rules)
  F_all_rules : Fun K "_all_rules" "_all_rules" s_all_rules A0.a_all_rules A0.d_all_rules
  g_with_rule : mg "_with_rule" = some (.ref A0.a_with_rule)
  F_with_rule : Fun K "_with_rule" "_with_rule" s_with_rule A0.a_with_rule A0.d_with_rule
  g_law_pool : mg "_law_pool" = some (.ref A0.a_law_pool)
  F_law_pool : Fun K "_law_pool" "_law_pool" s_law_pool A0.a_law_pool A0.d_law_pool
  g_law_draw : mg "_law_draw" = some (.ref A0.a_law_draw)
  F_law_draw : Fun K "_law_draw" "_law_draw" s_law_draw A0.a_law_draw A0.d_law_draw
  g_law_wide : mg "_law_wide" = some (.ref A0.a_law_wide)
  F_law_wide : Fun K "_law_wide" "_law_wide" s_law_wide A0.a_law_wide A0.d_law_wide
  g_law_power : mg "_law_power" = some (.ref A0.a_law_power)
  F_law_power : Fun K "_law_power" "_law_power" s_law_power A0.a_law_power A0.d_law_power
  g_law_word : mg "_law_word" = some (.ref A0.a_law_word)
  F_law_word : Fun K "_law_word" "_law_word" s_law_word A0.a_law_word A0.d_law_word
  g_law_some : mg "_law_some" = some (.ref A0.a_law_some)
  F_law_some : Fun K "_law_some" "_law_some" s_law_some A0.a_law_some A0.d_law_some
  g_law_conds : mg "_law_conds" = some (.ref A0.a_law_conds)
  F_law_conds : Fun K "_law_conds" "_law_conds" s_law_conds A0.a_law_conds A0.d_law_conds
  g_law_kind : mg "_law_kind" = some (.ref A0.a_law_kind)
  F_law_kind : Fun K "_law_kind" "_law_kind" s_law_kind A0.a_law_kind A0.d_law_kind
  g_law_told : mg "_law_told" = some (.ref A0.a_law_told)
  F_law_told : Fun K "_law_told" "_law_told" s_law_told A0.a_law_told A0.d_law_told
  g_law_string_told : mg "_law_string_told" = some (.ref A0.a_law_string_told)
  F_law_string_told : Fun K "_law_string_told" "_law_string_told" s_law_string_told A0.a_law_string_told A0.d_law_string_told
  g_law_words_right : mg "_law_words_right" = some (.ref A0.a_law_words_right)
  F_law_words_right : Fun K "_law_words_right" "_law_words_right" s_law_words_right A0.a_law_words_right A0.d_law_words_right
  g_law_strings_right : mg "_law_strings_right" = some (.ref A0.a_law_strings_right)
  F_law_strings_right : Fun K "_law_strings_right" "_law_strings_right" s_law_strings_right A0.a_law_strings_right A0.d_law_strings_right
  g_law_classes_right : mg "_law_classes_right" = some (.ref A0.a_law_classes_right)
  F_law_classes_right : Fun K "_law_classes_right" "_law_classes_right" s_law_classes_right A0.a_law_classes_right A0.d_law_classes_right
  g_law : mg "law" = some (.ref A0.a_law)
  F_law : Fun K "law" "law" s_law A0.a_law A0.d_law
  b_ValueError : mg "ValueError" = none
  b_abs : mg "abs" = none
  b_all : mg "all" = none
  b_enumerate : mg "enumerate" = none
  b_int : mg "int" = none
  b_isinstance : mg "isinstance" = none
  b_len : mg "len" = none
  b_list : mg "list" = none
  b_max : mg "max" = none
  b_min : mg "min" = none
  b_range : mg "range" = none
  b_set : mg "set" = none
  b_tuple : mg "tuple" = none
  gv_OUTCOMES : mg "OUTCOMES" = some (.ref A0.v_OUTCOMES)
  tv_OUTCOMES : TupK K A0.v_OUTCOMES ["E", "LB", "GA", "GB", "LA"]
  gv_CONDITIONS : mg "CONDITIONS" = some (.ref A0.v_CONDITIONS)
  kt_CONDITIONS : ∀ P : Program, KTab K P w A0.v_CONDITIONS [("e", .ref A0.p_CONDITIONS_0), ("ne", .ref A0.p_CONDITIONS_1), ("l", .ref A0.p_CONDITIONS_2), ("le", .ref A0.p_CONDITIONS_3), ("g", .ref A0.p_CONDITIONS_4), ("ge", .ref A0.p_CONDITIONS_5), ("b", .ref A0.p_CONDITIONS_6), ("be", .ref A0.p_CONDITIONS_7), ("a", .ref A0.p_CONDITIONS_8), ("ae", .ref A0.p_CONDITIONS_9), ("same", .ref A0.p_CONDITIONS_10), ("mixed", .ref A0.p_CONDITIONS_11)]
  tv_CONDITIONS_0 : TupK K A0.p_CONDITIONS_0 ["E"]
  tv_CONDITIONS_1 : TupK K A0.p_CONDITIONS_1 ["LB", "GA", "GB", "LA"]
  tv_CONDITIONS_2 : TupK K A0.p_CONDITIONS_2 ["LB", "LA"]
  tv_CONDITIONS_3 : TupK K A0.p_CONDITIONS_3 ["E", "LB", "LA"]
  tv_CONDITIONS_4 : TupK K A0.p_CONDITIONS_4 ["GA", "GB"]
  tv_CONDITIONS_5 : TupK K A0.p_CONDITIONS_5 ["E", "GA", "GB"]
  tv_CONDITIONS_6 : TupK K A0.p_CONDITIONS_6 ["LB", "GB"]
  tv_CONDITIONS_7 : TupK K A0.p_CONDITIONS_7 ["E", "LB", "GB"]
  tv_CONDITIONS_8 : TupK K A0.p_CONDITIONS_8 ["GA", "LA"]
  tv_CONDITIONS_9 : TupK K A0.p_CONDITIONS_9 ["E", "GA", "LA"]
  tv_CONDITIONS_10 : TupK K A0.p_CONDITIONS_10 ["E", "LB", "GA"]
  tv_CONDITIONS_11 : TupK K A0.p_CONDITIONS_11 ["GB", "LA"]
  gv_EXCHANGED : mg "EXCHANGED" = some (.ref A0.v_EXCHANGED)
  kt_EXCHANGED : ∀ P : Program, KTab K P w A0.v_EXCHANGED [("l", .str "b"), ("le", .str "be"), ("g", .str "a"), ("ge", .str "ae"), ("b", .str "l"), ("be", .str "le"), ("a", .str "g"), ("ae", .str "ge")]
  gv_REVERSED : mg "REVERSED" = some (.ref A0.v_REVERSED)
  kt_REVERSED : ∀ P : Program, KTab K P w A0.v_REVERSED [("l", .str "g"), ("le", .str "ge"), ("g", .str "l"), ("ge", .str "le"), ("b", .str "a"), ("be", .str "ae"), ("a", .str "b"), ("ae", .str "be")]
  gc_InvalidWidth : mg "InvalidWidth" = some (.ref A0.c_InvalidWidth)
  er_InvalidWidth : ErrTxt K A0.c_InvalidWidth A0.i_InvalidWidth
  FI_InvalidWidth : Fun K "__init__" "InvalidWidth.__init__" s_InvalidWidth A0.i_InvalidWidth A0.di_InvalidWidth
  xm_InvalidWidth : PySem.W.exmOne K (.ref A0.c_InvalidWidth) (.ref A0.c_BranchError) = some true
  gc_InvalidWords : mg "InvalidWords" = some (.ref A0.c_InvalidWords)
  er_InvalidWords : ErrTxt K A0.c_InvalidWords A0.i_InvalidWords
  FI_InvalidWords : Fun K "__init__" "InvalidWords.__init__" s_InvalidWords A0.i_InvalidWords A0.di_InvalidWords
  xm_InvalidWords : PySem.W.exmOne K (.ref A0.c_InvalidWords) (.ref A0.c_BranchError) = some true
  gc_InvalidOutcome : mg "InvalidOutcome" = some (.ref A0.c_InvalidOutcome)
  er_InvalidOutcome : ErrTxt K A0.c_InvalidOutcome A0.i_InvalidOutcome
  FI_InvalidOutcome : Fun K "__init__" "InvalidOutcome.__init__" s_InvalidOutcome A0.i_InvalidOutcome A0.di_InvalidOutcome
  xm_InvalidOutcome : PySem.W.exmOne K (.ref A0.c_InvalidOutcome) (.ref A0.c_BranchError) = some true
  gc_InvalidCondition : mg "InvalidCondition" = some (.ref A0.c_InvalidCondition)
  er_InvalidCondition : ErrTxt K A0.c_InvalidCondition A0.i_InvalidCondition
  FI_InvalidCondition : Fun K "__init__" "InvalidCondition.__init__" s_InvalidCondition A0.i_InvalidCondition A0.di_InvalidCondition
  xm_InvalidCondition : PySem.W.exmOne K (.ref A0.c_InvalidCondition) (.ref A0.c_BranchError) = some true
  gc_InvalidRanking : mg "InvalidRanking" = some (.ref A0.c_InvalidRanking)
  er_InvalidRanking : ErrTxt K A0.c_InvalidRanking A0.i_InvalidRanking
  FI_InvalidRanking : Fun K "__init__" "InvalidRanking.__init__" s_InvalidRanking A0.i_InvalidRanking A0.di_InvalidRanking
  xm_InvalidRanking : PySem.W.exmOne K (.ref A0.c_InvalidRanking) (.ref A0.c_BranchError) = some true
  gc_InvalidKnowledge : mg "InvalidKnowledge" = some (.ref A0.c_InvalidKnowledge)
  er_InvalidKnowledge : ErrTxt K A0.c_InvalidKnowledge A0.i_InvalidKnowledge
  FI_InvalidKnowledge : Fun K "__init__" "InvalidKnowledge.__init__" s_InvalidKnowledge A0.i_InvalidKnowledge A0.di_InvalidKnowledge
  xm_InvalidKnowledge : PySem.W.exmOne K (.ref A0.c_InvalidKnowledge) (.ref A0.c_BranchError) = some true
  gc_InvalidProgram : mg "InvalidProgram" = some (.ref A0.c_InvalidProgram)
  er_InvalidProgram : ErrTxt K A0.c_InvalidProgram A0.i_InvalidProgram
  FI_InvalidProgram : Fun K "__init__" "InvalidProgram.__init__" s_InvalidProgram A0.i_InvalidProgram A0.di_InvalidProgram
  xm_InvalidProgram : PySem.W.exmOne K (.ref A0.c_InvalidProgram) (.ref A0.c_BranchError) = some true
  gc_InvalidRow : mg "InvalidRow" = some (.ref A0.c_InvalidRow)
  er_InvalidRow : ErrTxt K A0.c_InvalidRow A0.i_InvalidRow
  FI_InvalidRow : Fun K "__init__" "InvalidRow.__init__" s_InvalidRow A0.i_InvalidRow A0.di_InvalidRow
  xm_InvalidRow : PySem.W.exmOne K (.ref A0.c_InvalidRow) (.ref A0.c_BranchError) = some true
  gc_InvalidRegister : mg "InvalidRegister" = some (.ref A0.c_InvalidRegister)
  er_InvalidRegister : ErrTxt K A0.c_InvalidRegister A0.i_InvalidRegister
  FI_InvalidRegister : Fun K "__init__" "InvalidRegister.__init__" s_InvalidRegister A0.i_InvalidRegister A0.di_InvalidRegister
  xm_InvalidRegister : PySem.W.exmOne K (.ref A0.c_InvalidRegister) (.ref A0.c_BranchError) = some true
  gc_InvalidQuery : mg "InvalidQuery" = some (.ref A0.c_InvalidQuery)
  er_InvalidQuery : ErrTxt K A0.c_InvalidQuery A0.i_InvalidQuery
  FI_InvalidQuery : Fun K "__init__" "InvalidQuery.__init__" s_InvalidQuery A0.i_InvalidQuery A0.di_InvalidQuery
  xm_InvalidQuery : PySem.W.exmOne K (.ref A0.c_InvalidQuery) (.ref A0.c_BranchError) = some true
  gc_InvalidTable : mg "InvalidTable" = some (.ref A0.c_InvalidTable)
  er_InvalidTable : ErrTxt K A0.c_InvalidTable A0.i_InvalidTable
  FI_InvalidTable : Fun K "__init__" "InvalidTable.__init__" s_InvalidTable A0.i_InvalidTable A0.di_InvalidTable
  xm_InvalidTable : PySem.W.exmOne K (.ref A0.c_InvalidTable) (.ref A0.c_BranchError) = some true
  gc_InvalidNumber : mg "InvalidNumber" = some (.ref A0.c_InvalidNumber)
  er_InvalidNumber : ErrTxt K A0.c_InvalidNumber A0.i_InvalidNumber
  FI_InvalidNumber : Fun K "__init__" "InvalidNumber.__init__" s_InvalidNumber A0.i_InvalidNumber A0.di_InvalidNumber
  xm_InvalidNumber : PySem.W.exmOne K (.ref A0.c_InvalidNumber) (.ref A0.c_BranchError) = some true
  gc_UnlikeInputs : mg "UnlikeInputs" = some (.ref A0.c_UnlikeInputs)
  er_UnlikeInputs : ErrTxt K A0.c_UnlikeInputs A0.i_UnlikeInputs
  FI_UnlikeInputs : Fun K "__init__" "UnlikeInputs.__init__" s_UnlikeInputs A0.i_UnlikeInputs A0.di_UnlikeInputs
  xm_UnlikeInputs : PySem.W.exmOne K (.ref A0.c_UnlikeInputs) (.ref A0.c_BranchError) = some true
  gc_NothingToUndo : mg "NothingToUndo" = some (.ref A0.c_NothingToUndo)
  er_NothingToUndo : ErrTxt K A0.c_NothingToUndo A0.i_NothingToUndo
  FI_NothingToUndo : Fun K "__init__" "NothingToUndo.__init__" s_NothingToUndo A0.i_NothingToUndo A0.di_NothingToUndo
  xm_NothingToUndo : PySem.W.exmOne K (.ref A0.c_NothingToUndo) (.ref A0.c_BranchError) = some true
  gc_Unreadable : mg "Unreadable" = some (.ref A0.c_Unreadable)
  er_Unreadable : ErrTxt K A0.c_Unreadable A0.i_Unreadable
  FI_Unreadable : Fun K "__init__" "Unreadable.__init__" s_Unreadable A0.i_Unreadable A0.di_Unreadable
  xm_Unreadable : PySem.W.exmOne K (.ref A0.c_Unreadable) (.ref A0.c_BranchError) = some true
  gc_BranchError : mg "BranchError" = some (.ref A0.c_BranchError)
  xb : PySem.W.excIn K A0.c_BranchError [.type "ValueError", .type "Exception", .type "BaseException", .type "object"] "ValueError.__new__" = true
  kb : PySem.W.keepIn K (.ref A0.c_BranchError) = true
  eb : ExcC K A0.c_BranchError
  tab : kitTab K [A0.c_InvalidWidth, A0.c_InvalidWords, A0.c_InvalidOutcome, A0.c_InvalidCondition, A0.c_InvalidRanking, A0.c_InvalidKnowledge, A0.c_InvalidProgram, A0.c_InvalidRow, A0.c_InvalidRegister, A0.c_InvalidQuery, A0.c_InvalidTable, A0.c_InvalidNumber, A0.c_UnlikeInputs, A0.c_NothingToUndo, A0.c_Unreadable] A0.c_BranchError = true
/-- what a door lets out: the number of the class, the value -/
def inR (rs : List Int) (i : Int) : Bool := decide (0 ≤ i) && decide (i < (rs.length : Int))
def resRk (q : Addr) (rs : List Int) (c : Int) (r : Option (Nat × V)) : Option (Nat × V) := if okR rs c = true then r else some (4, .ref q)
def resW (wd : Int) (r : Option (Nat × V)) : Option (Nat × V) := if 1 ≤ wd then r else some (0, .int wd)
def resN (n : Int) (r : Option (Nat × V)) : Option (Nat × V) := if 1 ≤ n ∧ n ≤ 5 then r else some (11, .int n)
def resP (rs : List Int) (i j : Int) : Option (Nat × V) := if inR rs i = true then (if inR rs j = true then none else some (11, .int j)) else some (11, .int i)
def toldL (r : Option (Nat × V)) : List V := match r with | some (j, v) => [.str (kindName j), v] | none => [.str "none", .non]
/-- behind a try: what was caught -/
def MidK (H : Hp) (CS : List Addr) (l : L2.St) (r : Option (Nat × V)) (σ : L2.St) (H1 : Hp) : Prop := ∃ caught, σ = l ++ [some caught, none] ∧ Same H H1 ∧ ((caught = .non ∧ r = none) ∨ ∃ (a C : Addr) (j : Nat) (v : V), caught = .ref a ∧ ErrK H1 a C "value" v ∧ CS[j]? = some C ∧ kindName j ≠ "odd" ∧ r = some (j, v))
theorem MidK.bad {H : Hp} {CS : List Addr} {l : L2.St} {r : Option (Nat × V)} {j : Nat} {v : V} {C e a : Addr} {H' : Hp} (hc : CS[j]? = some C) (ho : kindName j ≠ "odd") (hr : r = some (j, v)) (s : Same H H') (he : H' e = some (.xd [("value", v)])) (n : H' a = none) :
    MidK H CS l r (l ++ [some (.ref a), none]) (upd H' a (exk a (.ref C) (some e))) :=
  ⟨_, rfl, s.trans (sameNew n), .inr ⟨a, C, j, v, rfl, ⟨e, upd_same, by rw [upd_ne (ne_of_none he n)]; exact he⟩, hc, ho, hr⟩⟩
theorem MidK.free {H : Hp} {CS : List Addr} {l : L2.St} {r : Option (Nat × V)} {H' : Hp} (hr : r = none) (s : Same H H') : MidK H CS l r (l ++ [some .non, none]) H' := ⟨_, rfl, s, .inl ⟨rfl, hr⟩⟩
theorem inR_yes {rs : List Int} {i : Int} (h : 0 ≤ i ∧ i < (rs.length : Int)) : inR rs i = true := by unfold inR; rw [← Bool.decide_and]; exact decide_eq_true h
theorem inR_no {rs : List Int} {i : Int} (h : ¬ (0 ≤ i ∧ i < (rs.length : Int))) : inR rs i = false := by unfold inR; rw [← Bool.decide_and]; exact decide_eq_false h
inductive Door (K : PySem.W.Frag) (H : Hp) : Int → V → V → V → Option (Nat × V) → Prop
  | d0 {q rt : Addr} {rs : List Int} {c i j : Int} : RkAt H q rt rs c → rs.length ≤ 5 → Door K H 0 (.ref q) (.int i) (.int j) (resRk q rs c (resP rs i j))
  | d1 {q rt : Addr} {rs : List Int} {c : Int} {x2 x3 : V} : RkAt H q rt rs c → rs.length ≤ 5 → Door K H 1 (.ref q) x2 x3 (resRk q rs c none)
  | d2 {q rt : Addr} {rs : List Int} {c wd : Int} {x3 : V} : RkAt H q rt rs c → rs.length ≤ 5 → wd ≤ 1000 → Door K H 2 (.ref q) (.int wd) x3 (resRk q rs c (resW wd none))
  | d3 {q rt : Addr} {rs : List Int} {c wd : Int} {x3 : V} : RkAt H q rt rs c → rs.length ≤ 5 → wd ≤ 1000 → Door K H 3 (.ref q) (.int wd) x3 (resRk q rs c (resW wd none))
  | d4 {q rt : Addr} {rs : List Int} {c : Int} {x2 x3 : V} : RkAt H q rt rs c → 1 ≤ rs.length → rs.length ≤ 5 → Door K H 4 (.ref q) x2 x3 (resRk q rs c none)
  | d5 {t : Addr} {xs : List Int} {wd : Int} {x3 : V} {r : Option (Nat × V)} : SqT K H t (xs.map V.int) → xs.length ≤ 60 → wd ≤ 1000 → ((∀ x ∈ xs, Word wd x) → r = none) → (∀ i, BadAt wd xs i → r = some (1, .int (i : Nat))) → Door K H 5 (.int wd) (.ref t) x3 (resW wd r)
  | d6 {n : Int} {x2 x3 : V} : Door K H 6 (.int n) x2 x3 (resN n none)
  | d7 {n j : Int} {x3 : V} : Door K H 7 (.int n) (.int j) x3 (resN n (if 0 ≤ j ∧ j < ((allRk n.toNat).length : Int) then none else some (11, .int j)))
def dOf (rs : List Int) (c : Int) : V → PyData
  | .int z => .int z
  | _ => rkD rs c
def toldD (rs : List Int) (c : Int) : Option (Nat × V) → PyData
  | none => .list [.str "none", .none]
  | some (j, v) => .list [.str (kindName j), dOf rs c v]
def Fit (q : Addr) : Option (Nat × V) → Prop
  | none => True
  | some (_, v) => v = .ref q ∨ ∃ z, v = .int z
theorem told_dp {K : PySem.W.Frag} {H : Hp} {d q rt : Addr} {rs : List Int} {c : Int} {r : Option (Nat × V)} (h : H d = some (.lst (toldL r))) (hr : RkAt H q rt rs c) (f : Fit q r) : Dp K H (.ref d) (toldD rs c r) := by
  match r, h, f with
  | none, h, _ => exact .lst (SqL.of h) (.cons (.str _) (.cons .non .nil))
  | some (j, v), h, .inl e => subst e; exact .lst (SqL.of h) (.cons (.str _) (.cons hr.dp .nil))
  | some (j, v), h, .inr ⟨z, e⟩ => subst e; exact .lst (SqL.of h) (.cons (.str _) (.cons (.int z) .nil))
theorem kind_lay (j : Nat) : (PyData.str (kindName j)).canLay0 = true := by
  by_cases h : j < 15
  · exact (show ∀ j ∈ List.range 15, (PyData.str (kindName j)).canLay0 = true by decide +kernel) j (List.mem_range.mpr h)
  · have e : kindName j = "odd" := by
      unfold kindName
      rw [List.getD_eq_getElem?_getD, List.getElem?_eq_none (by show 15 ≤ j; omega)]
      rfl
    rw [e]
    decide +kernel
theorem told_lay {q : Addr} {rs : List Int} {c : Int} {r : Option (Nat × V)} (f : Fit q r) : (toldD rs c r).canLay0 = true ∧ (toldD rs c r).depth ≤ 3 := by
  obtain ⟨l1, l2⟩ := rkD_lay (rs, c)
  match r, f with
  | none, _ => exact ⟨(by show PyData.canLay0 (.list [.str "none", .none]) = true; decide +kernel), (by show PyData.depth (.list [.str "none", .none]) ≤ 3; decide +kernel)⟩
  | some (j, v), .inl e =>
    subst e
    refine ⟨?_, ?_⟩
    · show (PyData.canLay0 (.str (kindName j)) && ((rkD rs c).canLay0 && true)) = true
      rw [show (rkD rs c).canLay0 = true from l1, kind_lay]
      rfl
    · show max 0 (max (rkD rs c).depth 0) + 1 ≤ 3
      rw [show (rkD rs c).depth = 2 from l2]
      decide
  | some (j, v), .inr ⟨z, e⟩ =>
    subst e
    refine ⟨?_, (by show max 0 (max 0 0) + 1 ≤ 3; decide)⟩
    show (PyData.canLay0 (.str (kindName j)) && (true && true)) = true
    rw [kind_lay]
    rfl
theorem told_all {q : Addr} {rs : List Int} {c : Int} : ∀ {l : List (Option (Nat × V))}, (∀ r ∈ l, Fit q r) → PyData.canLayAll0 (l.map (toldD rs c)) = true ∧ PyData.depthAll (l.map (toldD rs c)) ≤ 3
  | [], _ => ⟨rfl, Nat.zero_le _⟩
  | r :: l, h => by
    obtain ⟨a, b⟩ := told_lay (rs := rs) (c := c) (h r List.mem_cons_self)
    obtain ⟨x, y⟩ := told_all (rs := rs) (c := c) fun s m => h s (List.mem_cons_of_mem r m)
    refine ⟨?_, ?_⟩
    · show ((toldD rs c r).canLay0 && PyData.canLayAll0 (l.map (toldD rs c))) = true
      rw [a, x]
      rfl
    · show max (toldD rs c r).depth (PyData.depthAll (l.map (toldD rs c))) ≤ 3
      omega
theorem told_sh {q : Addr} {rs : List Int} {c : Int} {l : List (Option (Nat × V))} (h : ∀ r ∈ l, Fit q r) : SeqAt.shaped (.list (l.map (toldD rs c))) = true := by
  obtain ⟨a, b⟩ := told_all (rs := rs) (c := c) h
  unfold SeqAt.shaped
  show (PyData.canLayAll0 (l.map (toldD rs c)) && decide (PyData.depthAll (l.map (toldD rs c)) + 1 ≤ 64)) = true
  rw [a, decide_eq_true (by omega)]
  rfl
theorem toldAll_dp {K : PySem.W.Frag} {H : Hp} {q rt : Addr} {rs : List Int} {c : Int} (hr : RkAt H q rt rs c) : ∀ {l : List (Option (Nat × V))} {ds : List Addr}, Paired (fun d r => H d = some (.lst (toldL r)) ∧ Fit q r) ds l → DpAll K H (ds.map V.ref) (l.map (toldD rs c))
  | _, _, .nil => .nil
  | _, _, .cons h t => .cons (told_dp h.1 hr h.2) (toldAll_dp hr t)
def notPool : HO → Bool
  | .lst [.int _, .int _, .int _] => false
  | _ => true
theorem But.keep {H H' : Hp} {p x : Addr} {n : Nat} {o : HO} (b : But p H H') (pl : Pool H p n) (e : H x = some o) (ne : notPool o = true) : H' x = some o := by
  refine b x o (fun z => ?_) e
  obtain ⟨g, bb, c, ep, _⟩ := pl
  rw [z, ep] at e
  rw [← Option.some.inj e] at ne
  exact Bool.noConfusion ne
theorem RkAt.but {H H' : Hp} {p q rt : Addr} {n : Nat} {rs : List Int} {c : Int} (h : RkAt H q rt rs c) (b : But p H H') (pl : Pool H p n) : RkAt H' q rt rs c := ⟨b.keep pl h.1 rfl, b.keep pl h.2 rfl⟩
theorem refs_np (bs : List Addr) : notPool (.lst (bs.map V.ref)) = true := by cases bs <;> rfl
def Nums (H : Hp) (bs : List Addr) (zs : List Int) : Prop := Paired (fun b z => H b = some (.lst [.str "number", .int z])) bs zs
theorem Nums.same {H H' : Hp} {bs : List Addr} {zs : List Int} (h : Nums H bs zs) (s : Same H H') : Nums H' bs zs := pr_mono h fun a r e => s _ _ e
theorem Nums.but {H H' : Hp} {p : Addr} {n : Nat} {bs : List Addr} {zs : List Int} (h : Nums H bs zs) (b : But p H H') (pl : Pool H p n) : Nums H' bs zs := pr_mono h fun a r e => b.keep pl e rfl
theorem atI0 {x : V} {l : List V} : atI (x :: l) 0 = some x := by
  unfold atI ixN
  simp
/-- the first of some lists -/
theorem due_bad {H : Hp} {q : Addr} {rs : List Int} {c i j : Int} {e0 f0 : Addr} {bs : List Addr} (h1 : H e0 = some (.lst [.str "ranking", .ref q])) (h2 : H f0 = some (.lst [.str "none", .non])) (h3 : Nums H bs ([i, j].filter fun z => !inR rs z)) :
    ∃ d, atI ((if (!okR rs c) = true then [V.ref e0] else []) ++ bs.map V.ref ++ [V.ref f0]) 0 = some (.ref d) ∧ H d = some (.lst (toldL (resRk q rs c (resP rs i j)))) := by
  unfold resRk resP
  cases o : okR rs c with
  | false => exact ⟨e0, atI0, h1⟩
  | true =>
    cases yi : inR rs i with
    | false =>
      simp only [List.filter, yi, Bool.not_false] at h3
      cases h3 with
      | cons a b => exact ⟨_, atI0, a⟩
    | true =>
      cases yj : inR rs j with
      | false =>
        simp only [List.filter, yi, yj, Bool.not_false, Bool.not_true] at h3
        cases h3 with
        | cons a b => exact ⟨_, atI0, a⟩
      | true =>
        simp only [List.filter, yi, yj, Bool.not_true] at h3
        cases h3
        exact ⟨f0, atI0, h2⟩
theorem due_one {H : Hp} {q : Addr} {rs : List Int} {c : Int} {e0 f0 : Addr} (h1 : H e0 = some (.lst [.str "ranking", .ref q])) (h2 : H f0 = some (.lst [.str "none", .non])) :
    ∃ d, atI ((if (!okR rs c) = true then [V.ref e0] else []) ++ [V.ref f0]) 0 = some (.ref d) ∧ H d = some (.lst (toldL (resRk q rs c none))) := by
  unfold resRk
  cases o : okR rs c with
  | false => exact ⟨e0, atI0, h1⟩
  | true => exact ⟨f0, atI0, h2⟩
theorem due_late {H : Hp} {q : Addr} {rs : List Int} {c wd : Int} {e0 f0 g0 : Addr} (h1 : H e0 = some (.lst [.str "ranking", .ref q])) (h2 : H f0 = some (.lst [.str "none", .non])) (h3 : H g0 = some (.lst [.str "wide", .int wd])) :
    ∃ d, atI ((if (!okR rs c) = true then [V.ref e0] else []) ++ (if decide (wd < 1) = true then [V.ref g0] else []) ++ [V.ref f0]) 0 = some (.ref d) ∧ H d = some (.lst (toldL (resRk q rs c (resW wd none)))) := by
  unfold resRk resW
  cases o : okR rs c with
  | false => exact ⟨e0, atI0, h1⟩
  | true =>
    by_cases l : wd < 1
    · rw [decide_eq_true l, show (if 1 ≤ wd then none else some ((0 : Nat), V.int wd)) = some (0, V.int wd) from if_neg (by omega)]
      exact ⟨g0, atI0, h3⟩
    · rw [decide_eq_false l, show (if 1 ≤ wd then none else some ((0 : Nat), V.int wd)) = none from if_pos (by omega)]
      exact ⟨f0, atI0, h2⟩
theorem Nums.up {H : Hp} {B : Addr} {o : HO} {bs bs' : List Addr} {zs : List Int} (h : Nums H bs zs) (eB : H B = some (.lst (bs'.map V.ref))) : Nums (upd H B o) bs zs := pr_mono h fun a r e => by
  rw [upd_ne (fun z => ?_)]
  · exact e
  · rw [z, eB] at e
    cases bs' with
    | nil => exact nomatch e
    | cons b l =>
      have e2 := HO.lst.inj (Option.some.inj e)
      rw [List.map_cons] at e2
      exact nomatch (List.cons.inj e2).1
theorem cat3 {K : PySem.W.Frag} {σ : L2.St} {H : Hp} {Q : VK} {a b c : Nat} {x y z : Addr} {xs ys zs : List V} {v : V} (ha : σ[a]? = some (some (.ref x))) (hb : σ[b]? = some (some (.ref y))) (hc : σ[c]? = some (some (.ref z))) (hx : H x = some (.lst xs)) (hy : H y = some (.lst ys)) (hz : H z = some (.lst zs))
    (ln : xs.length + ys.length + zs.length ≤ 1000) (hv : atI (xs ++ ys ++ zs) 0 = some v) (k : ∀ H', Same H H' → Q v H') : tOp (rIxL K) (tOp rCat (tOp rCat (tVar a) (tVar b)) (tVar c)) (tC (.int 0)) σ H Q := by
  refine ⟨_, ha, _, hb, x, y, xs, ys, rfl, rfl, hx, hy, Nat.le_of_lt (small1000 (by omega)), fun p hp => ?_⟩
  refine ⟨_, hc, p, z, _, zs, rfl, rfl, upd_same, (sameNew hp) _ _ hz, Nat.le_of_lt (small1000 (by rw [List.length_append]; omega)), fun r hr => ?_⟩
  exact ⟨r, _, 0, v, rfl, rfl, SqL.of upd_same, hv, k _ ((sameNew hp).trans (sameNew hr))⟩
theorem cat2 {K : PySem.W.Frag} {σ : L2.St} {H : Hp} {Q : VK} {a b : Nat} {x y : Addr} {xs ys : List V} {v : V} (ha : σ[a]? = some (some (.ref x))) (hb : σ[b]? = some (some (.ref y))) (hx : H x = some (.lst xs)) (hy : H y = some (.lst ys))
    (ln : xs.length + ys.length ≤ 1000) (hv : atI (xs ++ ys) 0 = some v) (k : ∀ H', Same H H' → Q v H') : tOp (rIxL K) (tOp rCat (tVar a) (tVar b)) (tC (.int 0)) σ H Q := by
  refine ⟨_, ha, _, hb, x, y, xs, ys, rfl, rfl, hx, hy, Nat.le_of_lt (small1000 (by omega)), fun p hp => ?_⟩
  exact ⟨p, _, 0, v, rfl, rfl, SqL.of upd_same, hv, k _ (sameNew hp)⟩
theorem fitP (q : Addr) (rs : List Int) (c i j : Int) : Fit q (resRk q rs c (resP rs i j)) := by
  unfold resRk resP
  split
  · split
    · split
      · trivial
      · exact .inr ⟨_, rfl⟩
    · exact .inr ⟨_, rfl⟩
  · exact .inl rfl
theorem fitN (q : Addr) (rs : List Int) (c : Int) : Fit q (resRk q rs c none) := by
  unfold resRk
  split
  · trivial
  · exact .inl rfl
theorem fitW (q : Addr) (rs : List Int) (c wd : Int) : Fit q (resRk q rs c (resW wd none)) := by
  unfold resRk resW
  split
  · split
    · trivial
    · exact .inr ⟨_, rfl⟩
  · exact .inl rfl
def isW (wd z : Int) : Bool := decide (0 ≤ z) && decide (z < 2 ^ (if wd > 0 then wd else 0).toNat)
theorem isW_iff {wd z : Int} : isW wd z = true ↔ Word wd z := by
  have e : (if wd > 0 then wd else 0).toNat = wd.toNat := by split <;> omega
  unfold isW Word
  rw [e, ← Bool.decide_and, decide_eq_true_eq]
def badIx (wd : Int) (xs : List Int) (t : Nat) : List Nat := (List.range t).filter fun j => !isW wd (xs.getD j 0)
def WNums (H : Hp) (bs : List Addr) (js : List Nat) : Prop := Paired (fun b (j : Nat) => H b = some (.lst [.str "words", .int (j : Int)])) bs js
theorem WNums.same {H H' : Hp} {bs : List Addr} {zs : List Nat} (h : WNums H bs zs) (s : Same H H') : WNums H' bs zs := pr_mono h fun a r e => s _ _ e
theorem WNums.up {H : Hp} {B : Addr} {o : HO} {bs bs' : List Addr} {zs : List Nat} (h : WNums H bs zs) (eB : H B = some (.lst (bs'.map V.ref))) : WNums (upd H B o) bs zs := pr_mono h fun a r e => by
  rw [upd_ne (fun z => ?_)]
  · exact e
  · rw [z, eB] at e
    cases bs' with
    | nil => exact nomatch e
    | cons b l =>
      have e2 := HO.lst.inj (Option.some.inj e)
      rw [List.map_cons] at e2
      exact nomatch (List.cons.inj e2).1
def res5 (wd : Int) (xs : List Int) : Option (Nat × V) := (badIx wd xs xs.length).head?.map fun j => (1, .int (j : Nat))
theorem res5_all {wd : Int} {xs : List Int} (h : ∀ x ∈ xs, Word wd x) : res5 wd xs = none := by
  have e : badIx wd xs xs.length = [] := List.filter_eq_nil_iff.mpr fun j hj => by
    have jl := List.mem_range.mp hj
    have g : xs.getD j 0 = xs[j] := by rw [List.getD_eq_getElem?_getD, List.getElem?_eq_getElem jl]; rfl
    rw [g, isW_iff.mpr (h _ (List.getElem_mem jl))]
    decide
  unfold res5
  rw [e]
  rfl
theorem res5_bad {wd : Int} {xs : List Int} {i : Nat} (h : BadAt wd xs i) : res5 wd xs = some (1, .int (i : Nat)) := by
  obtain ⟨z, hz, nz, pre⟩ := h
  have il := (List.getElem?_eq_some_iff.mp hz).1
  have e : (badIx wd xs xs.length).head? = some i := by
    unfold badIx
    rw [List.head?_filter, List.find?_range_eq_some]
    refine ⟨?_, List.mem_range.mpr il, fun j hj => ?_⟩
    · rw [List.getD_eq_getElem?_getD, hz]
      show (!isW wd z) = true
      cases c : isW wd z with
      | false => rfl
      | true => exact absurd (isW_iff.mp c) nz
    · obtain ⟨y, hy⟩ : ∃ y, xs[j]? = some y := ⟨xs[j]'(by omega), List.getElem?_eq_getElem (by omega)⟩
      rw [List.getD_eq_getElem?_getD, hy]
      show (!!isW wd y) = true
      rw [isW_iff.mpr (pre j y hj hy)]
      rfl
  unfold res5
  rw [e]
  rfl
theorem due_words {H : Hp} {wd : Int} {xs : List Int} {g0 f0 : Addr} {bs : List Addr} (h1 : H g0 = some (.lst [.str "wide", .int wd])) (h2 : H f0 = some (.lst [.str "none", .non])) (h3 : WNums H bs (badIx wd xs xs.length)) :
    ∃ d, atI ((if decide (wd < 1) = true then [V.ref g0] else []) ++ bs.map V.ref ++ [V.ref f0]) 0 = some (.ref d) ∧ H d = some (.lst (toldL (resW wd (res5 wd xs)))) := by
  unfold resW
  by_cases l : wd < 1
  · rw [decide_eq_true l, if_neg (show ¬ 1 ≤ wd by omega)]
    exact ⟨g0, atI0, h1⟩
  · rw [decide_eq_false l, if_pos (show 1 ≤ wd by omega)]
    unfold res5
    generalize badIx wd xs xs.length = js at h3 ⊢
    cases h3 with
    | nil => exact ⟨f0, atI0, h2⟩
    | cons a b => exact ⟨_, atI0, a⟩
def in5 (n : Int) : Bool := decide (1 ≤ n) && decide (n ≤ 5)
theorem in5_iff {n : Int} : in5 n = true ↔ 1 ≤ n ∧ n ≤ 5 := by
  unfold in5
  rw [← Bool.decide_and, decide_eq_true_eq]
theorem due_n1 {H : Hp} {n : Int} {g0 f0 : Addr} (h1 : H g0 = some (.lst [.str "number", .int n])) (h2 : H f0 = some (.lst [.str "none", .non])) :
    ∃ d, atI ((if (!in5 n) = true then [V.ref g0] else []) ++ [V.ref f0]) 0 = some (.ref d) ∧ H d = some (.lst (toldL (resN n none))) := by
  unfold resN
  cases c : in5 n with
  | true =>
    rw [if_pos (in5_iff.mp c)]
    exact ⟨f0, atI0, h2⟩
  | false =>
    rw [if_neg fun q => absurd (in5_iff.mpr q) (by rw [c]; decide)]
    exact ⟨g0, atI0, h1⟩
theorem due_n2 {H : Hp} {n sp sz : Int} {g0 f0 t0 : Addr} (h1 : H g0 = some (.lst [.str "number", .int n])) (h2 : H f0 = some (.lst [.str "none", .non])) (h3 : H t0 = some (.lst [.str "number", .int sp])) (hs : 1 ≤ n ∧ n ≤ 5 → sz = ((allRk n.toNat).length : Int)) :
    ∃ d, atI ((if (!in5 n) = true then [V.ref g0] else []) ++ (if (!(decide (0 ≤ sp) && decide (sp < sz))) = true then [V.ref t0] else []) ++ [V.ref f0]) 0 = some (.ref d) ∧
      H d = some (.lst (toldL (resN n (if 0 ≤ sp ∧ sp < ((allRk n.toNat).length : Int) then none else some (11, .int sp))))) := by
  unfold resN
  cases c : in5 n with
  | false =>
    rw [if_neg fun q => absurd (in5_iff.mpr q) (by rw [c]; decide)]
    exact ⟨g0, atI0, h1⟩
  | true =>
    rw [if_pos (in5_iff.mp c), ← hs (in5_iff.mp c), ← Bool.decide_and]
    by_cases l : 0 ≤ sp ∧ sp < sz
    · rw [if_pos l, decide_eq_true l]
      exact ⟨f0, atI0, h2⟩
    · rw [if_neg l, decide_eq_false l]
      exact ⟨t0, atI0, h3⟩
def FitI : Option (Nat × V) → Prop
  | none => True
  | some (_, v) => ∃ z, v = .int z
theorem told_dpI {K : PySem.W.Frag} {H : Hp} {d : Addr} {r : Option (Nat × V)} (h : H d = some (.lst (toldL r))) (f : FitI r) : Dp K H (.ref d) (toldD [] 0 r) := by
  match r, h, f with
  | none, h, _ => exact .lst (SqL.of h) (.cons (.str _) (.cons .non .nil))
  | some (j, v), h, ⟨z, e⟩ => subst e; exact .lst (SqL.of h) (.cons (.str _) (.cons (.int z) .nil))
theorem fitI_fit {r : Option (Nat × V)} (f : FitI r) : Fit 0 r := by
  match r, f with
  | none, _ => trivial
  | some (j, v), e => exact .inr e
theorem told_sh1 {r : Option (Nat × V)} (f : FitI r) : SeqAt.shaped (toldD [] 0 r) = true := by
  obtain ⟨a, b⟩ := told_lay (rs := []) (c := 0) (fitI_fit f)
  unfold SeqAt.shaped
  rw [a, decide_eq_true (by omega)]
  rfl
theorem fitN1 (n : Int) : FitI (resN n none) := by
  unfold resN
  split
  · trivial
  · exact ⟨_, rfl⟩
theorem fitN2 (n sp : Int) (p : Prop) [Decidable p] : FitI (resN n (if p then none else some (11, .int sp))) := by
  unfold resN
  split
  · split
    · trivial
    · exact ⟨_, rfl⟩
  · exact ⟨_, rfl⟩
theorem fit5 (wd : Int) (xs : List Int) : FitI (resW wd (res5 wd xs)) := by
  unfold resW res5
  split
  · cases (badIx wd xs xs.length).head? with
    | none => trivial
    | some j => exact ⟨_, rfl⟩
  · exact ⟨_, rfl⟩
theorem len5 : ∀ n ∈ ([1, 2, 3, 4, 5] : List Nat), ([2, 8, 44, 308, 2612] : List Nat)[n - 1]? = some (allRk n).length := by decide +kernel
theorem badIx_succ {wd : Int} {xs : List Int} {t : Nat} {z : Int} (hz : xs[t]? = some z) : badIx wd xs (t + 1) = badIx wd xs t ++ (if isW wd z = true then [] else [t]) := by
  unfold badIx
  rw [List.range_succ, List.filter_append]
  congr 1
  cases c : isW wd z <;> simp [List.filter, List.getD_eq_getElem?_getD, hz, c]
theorem lens5 : (allRk 1).length = 2 ∧ (allRk 2).length = 8 ∧ (allRk 3).length = 44 ∧ (allRk 4).length = 308 ∧ (allRk 5).length = 2612 := by decide +kernel
theorem size_at (mn : Int) : ∃ sz : Int, atI [V.int 2, V.int 8, V.int 44, V.int 308, V.int 2612] (if (if mn - 1 > 0 then mn - 1 else 0) < 4 then (if mn - 1 > 0 then mn - 1 else 0) else 4) = some (.int sz) ∧ 0 < sz ∧ sz < 2 ^ 400 ∧ (1 ≤ mn ∧ mn ≤ 5 → sz = ((allRk mn.toNat).length : Int)) := by
  obtain ⟨l1, l2, l3, l4, l5⟩ := lens5
  have h : ∀ (ix : Int), ix = (if (if mn - 1 > 0 then mn - 1 else 0) < 4 then (if mn - 1 > 0 then mn - 1 else 0) else 4) → (ix = 0 ∨ ix = 1 ∨ ix = 2 ∨ ix = 3 ∨ ix = 4) ∧ (1 ≤ mn ∧ mn ≤ 5 → mn.toNat = ix.toNat + 1) := fun ix e => by
    constructor
    · split at e <;> split at e <;> omega
    · intro q
      split at e <;> split at e <;> omega
  generalize (if (if mn - 1 > 0 then mn - 1 else 0) < 4 then (if mn - 1 > 0 then mn - 1 else 0) else 4) = ix at h
  obtain ⟨c, q⟩ := h ix rfl
  rcases c with rfl | rfl | rfl | rfl | rfl
  · exact ⟨_, rfl, by decide, by decide, fun z => by rw [q z]; show (2 : Int) = ((allRk 1).length : Nat); rw [l1]; rfl⟩
  · exact ⟨_, rfl, by decide, by decide, fun z => by rw [q z]; show (8 : Int) = ((allRk 2).length : Nat); rw [l2]; rfl⟩
  · exact ⟨_, rfl, by decide, by decide, fun z => by rw [q z]; show (44 : Int) = ((allRk 3).length : Nat); rw [l3]; rfl⟩
  · exact ⟨_, rfl, by decide, by decide, fun z => by rw [q z]; show (308 : Int) = ((allRk 4).length : Nat); rw [l4]; rfl⟩
  · exact ⟨_, rfl, by decide, by decide, fun z => by rw [q z]; show (2612 : Int) = ((allRk 5).length : Nat); rw [l5]; rfl⟩
theorem all4 : ∀ n ∈ ([1, 2, 3, 4] : List Nat), ∀ p ∈ allRk n, p.1.length = n ∧ ∀ r ∈ p.1, 0 ≤ r ∧ r ≤ 4 := by decide +kernel

def RulesAt (H : Hp) (ds : List Addr) (rs : List (Str × Bool)) : Prop := Paired (fun d (r : Str × Bool) => H d = some (.tup [.str r.1, .bl r.2])) ds rs
theorem RulesAt.same {H H' : Hp} {ds : List Addr} {rs : List (Str × Bool)} (h : RulesAt H ds rs) (s : Same H H') : RulesAt H' ds rs := prm h fun a r e => s _ _ e
theorem RulesAt.up {H : Hp} {D : Addr} {o : HO} {xs : List V} {ds : List Addr} {rs : List (Str × Bool)} (h : RulesAt H ds rs) (e : H D = some (.lst xs)) : RulesAt (upd H D o) ds rs := prm h fun a r q => by
  rw [upd_ne (fun z => by rw [z, e] at q; cases q)]
  exact q
theorem rule_at : ∀ i ∈ List.range 12, rulesC[2 * i + 0]? = some (conds.getD i "", true) ∧ rulesC[2 * i + 1]? = some (conds.getD i "", false) := by decide +kernel
theorem take_snoc {α : Type} {l : List α} {n : Nat} {r : α} (h : l[n]? = some r) : l.take (n + 1) = l.take n ++ [r] := by rw [List.take_succ, h, Option.toList_some]
theorem rule_cond : ∀ j ∈ List.range 24, (rulesC.getD j ("", true)).1 ∈ conds := by decide +kernel

def orR (a b : Option (Nat × V)) : Option (Nat × V) := match a with | some x => some x | none => b
def askR (wd : Int) (ys : List Int) : Option (Nat × V) := resW wd (res5 wd ys)
def askM (wd : Int) (ys : List Int) (more : Int) : Option (Nat × V) := resW wd (orR (res5 wd ys) (if more < wd then some (0, .int more) else none))
theorem askR_free {wd : Int} {ys : List Int} (h : 1 ≤ wd) (a : ∀ x ∈ ys, Word wd x) : askR wd ys = none := by simp [askR, resW, h, res5_all a]
theorem askR_width {wd : Int} {ys : List Int} (h : wd < 1) : askR wd ys = some (0, .int wd) := by simp [askR, resW, show ¬ 1 ≤ wd from by omega]
theorem askR_bad {wd : Int} {ys : List Int} {i : Nat} (h : 1 ≤ wd) (b : BadAt wd ys i) : askR wd ys = some (1, .int (i : Nat)) := by simp [askR, resW, h, res5_bad b]
theorem askM_free {wd more : Int} {ys : List Int} (h : 1 ≤ wd) (m : wd ≤ more) (a : ∀ x ∈ ys, Word wd x) : askM wd ys more = none := by simp [askM, resW, h, res5_all a, orR, show ¬ more < wd from by omega]
theorem askM_width {wd more : Int} {ys : List Int} (h : wd < 1) : askM wd ys more = some (0, .int wd) := by simp [askM, resW, show ¬ 1 ≤ wd from by omega]
theorem askM_bad {wd more : Int} {ys : List Int} {i : Nat} (h : 1 ≤ wd) (b : BadAt wd ys i) : askM wd ys more = some (1, .int (i : Nat)) := by simp [askM, resW, h, res5_bad b, orR]
theorem askM_less {wd more : Int} {ys : List Int} (h : 1 ≤ wd) (a : ∀ x ∈ ys, Word wd x) (m : more < wd) : askM wd ys more = some (0, .int more) := by simp [askM, resW, h, res5_all a, orR, m]
inductive DoorW (wd : Int) (xs : List Int) (more : Int) : Int → Option (Nat × V) → Prop
  | d0 {x : Int} {l : List Int} : xs = x :: l → DoorW wd xs more 0 (askR wd [x])
  | d1 {x y : Int} {l : List Int} : xs = x :: y :: l → DoorW wd xs more 1 (askR wd [x, y])
  | d2 : DoorW wd xs more 2 (askR wd xs)
  | d3 : DoorW wd xs more 3 (askR wd xs)
  | d4 : DoorW wd xs more 4 (askM wd xs more)
  | d5 : DoorW wd xs more 5 (askM wd xs more)
def condR (z : Str) : Option (Nat × V) := if (tabC.lookup z).isSome = true then none else some (3, .str z)
def outR (a b : Str) : Option (Nat × V) := if a ∈ outs then (if b ∈ outs then none else some (2, .str b)) else some (2, .str a)
inductive DoorS (a b : Str) : Int → Option (Nat × V) → Prop
  | d0 : DoorS a b 0 (condR a)
  | d1 : DoorS a b 1 (condR a)
  | d2 : DoorS a b 2 (condR a)
  | d3 : DoorS a b 3 (outR a b)
  | d4 : DoorS a b 4 (outR a b)
  | d5 : DoorS a b 5 (outR a b)

theorem pick4 {za zb z : Str} {i : Nat} (h1 : (["E", za, "LA", zb] : List Str)[i]? = some z) (h2 : z ∉ outs) (pre : ∀ (j : Nat) (y : Str), j < i → (["E", za, "LA", zb] : List Str)[j]? = some y → y ∈ outs) : outR za zb = some (2, .str z) := by
  match i, h1, pre with
  | 0, h1, _ => cases h1; exact absurd (by decide +kernel) h2
  | 1, h1, _ => cases h1; simp [outR, h2]
  | 2, h1, _ => cases h1; exact absurd (by decide +kernel) h2
  | 3, h1, pre => cases h1; have q := pre 1 za (by decide) rfl; simp [outR, h2, q]
  | n + 4, h1, _ => simp at h1
theorem pick3 {za zb z : Str} {i : Nat} (h1 : ([za, "GB", zb] : List Str)[i]? = some z) (h2 : z ∉ outs) (pre : ∀ (j : Nat) (y : Str), j < i → ([za, "GB", zb] : List Str)[j]? = some y → y ∈ outs) : outR za zb = some (2, .str z) := by
  match i, h1, pre with
  | 0, h1, _ => cases h1; simp [outR, h2]
  | 1, h1, _ => cases h1; exact absurd (by decide +kernel) h2
  | 2, h1, pre => cases h1; have q := pre 0 za (by decide) rfl; simp [outR, h2, q]
  | n + 3, h1, _ => simp at h1

theorem op_l {r : R2} {A B : TE} {σ : L2.St} {H : Hp} {Q : VK} (h : A σ H fun x H1 => B σ H1 fun y H2 => r x y H2 Q) : tOp r A B σ H Q := h
def oddS : List Str := ["", "E ", "e", "LB", "lb", "GAB", "l", "mixed", "Same", "ne", "GA", "LA", "x", "GB", "E", "A"]
theorem odd_at (d : Int) (d0 : 0 ≤ d) (d1 : d < 16) : ∃ z ∈ oddS, atI (oddS.map V.str) d = some (.str z) := by
  have h : d.toNat < oddS.length := by show d.toNat < 16; omega
  exact ⟨oddS[d.toNat], List.getElem_mem h, at_of (j := d.toNat) (by omega) (by rw [List.getElem?_map, List.getElem?_eq_getElem h]; rfl)⟩
theorem cond_iff (z : Str) : (tabC.lookup z).isSome = decide (z ∈ conds) := by
  by_cases h : z ∈ conds
  · rw [(cond_back z h).2.1, decide_eq_true h]
    rfl
  · rw [decide_eq_false h]
    cases e : tabC.lookup z with
    | none => rfl
    | some os =>
      refine absurd ?_ h
      have q := tab_cases e
      rcases q with q | q | q | q | q | q | q | q | q | q | q | q <;> rw [q.1] <;> decide +kernel
theorem dueC {H : Hp} {za : Str} {g0 f0 : Addr} (h1 : H g0 = some (.lst [.str "cond", .str za])) (h2 : H f0 = some (.lst [.str "none", .non])) :
    ∃ d, atI ((if (!decide (za ∈ conds)) = true then [V.ref g0] else []) ++ [V.ref f0]) 0 = some (.ref d) ∧ H d = some (.lst (toldL (condR za))) := by
  unfold condR
  rw [cond_iff]
  by_cases h : za ∈ conds
  · rw [decide_eq_true h]
    exact ⟨f0, atI0, h2⟩
  · rw [decide_eq_false h]
    exact ⟨g0, atI0, h1⟩
theorem dueO {H : Hp} {za zb : Str} {g0 k0 f0 : Addr} (h1 : H g0 = some (.lst [.str "outcome", .str za])) (h2 : H k0 = some (.lst [.str "outcome", .str zb])) (h3 : H f0 = some (.lst [.str "none", .non])) :
    ∃ d, atI (((if (!decide (za ∈ outs)) = true then [V.ref g0] else []) ++ (if (!decide (zb ∈ outs)) = true then [V.ref k0] else [])) ++ [V.ref f0]) 0 = some (.ref d) ∧ H d = some (.lst (toldL (outR za zb))) := by
  unfold outR
  by_cases h : za ∈ outs
  · rw [decide_eq_true h, if_pos h]
    by_cases g : zb ∈ outs
    · rw [decide_eq_true g, if_pos g]
      exact ⟨f0, atI0, h3⟩
    · rw [decide_eq_false g, if_neg g]
      exact ⟨k0, atI0, h2⟩
  · rw [decide_eq_false h, if_neg h]
    exact ⟨g0, atI0, h1⟩

theorem small1000' {n : Nat} (h : n ≤ 1000) : n ≤ sizeLine := by rw [sizeLine_eq]; omega
def resS (za zb : Str) : List (Option (Nat × V)) := [condR za, condR za, condR za, outR za zb, outR za zb, outR za zb]
theorem resS_at (za zb : Str) {i : Nat} (h : i < 6) : ∃ r, (resS za zb)[i]? = some r ∧ DoorS za zb (0 + (i : Nat)) r := by
  match i, h with
  | 0, _ => exact ⟨_, rfl, .d0⟩
  | 1, _ => exact ⟨_, rfl, .d1⟩
  | 2, _ => exact ⟨_, rfl, .d2⟩
  | 3, _ => exact ⟨_, rfl, .d3⟩
  | 4, _ => exact ⟨_, rfl, .d4⟩
  | 5, _ => exact ⟨_, rfl, .d5⟩
theorem told_ne {r : Option (Nat × V)} {ds : List Addr} (h : some (HO.lst (toldL r)) = some (HO.lst (ds.map V.ref))) : False := by
  have e := HO.lst.inj (Option.some.inj h)
  cases r with
  | none => cases ds with
    | nil => exact nomatch e
    | cons a l => rw [List.map_cons] at e; exact nomatch (List.cons.inj e).1
  | some p => cases ds with
    | nil => exact nomatch e
    | cons a l => rw [List.map_cons] at e; exact nomatch (List.cons.inj e).1

def toldSD : Option (Nat × V) → PyData
  | some (j, .str z) => .list [.str (kindName j), .str z]
  | some (j, _) => .list [.str (kindName j), .none]
  | none => .list [.str "none", .none]
def FitS : Option (Nat × V) → Prop
  | none => True
  | some (_, v) => ∃ z, v = .str z ∧ PyData.strOk z = true
theorem told_dpS {K : PySem.W.Frag} {H : Hp} {d : Addr} {r : Option (Nat × V)} (h : H d = some (.lst (toldL r))) (f : FitS r) : Dp K H (.ref d) (toldSD r) := by
  match r, h, f with
  | none, h, _ => exact .lst (SqL.of h) (.cons (.str _) (.cons .non .nil))
  | some (j, v), h, ⟨z, e, _⟩ => subst e; exact .lst (SqL.of h) (.cons (.str _) (.cons (.str z) .nil))
theorem toldAllS {K : PySem.W.Frag} {H : Hp} : ∀ {ds : List Addr} {l : List (Option (Nat × V))}, Paired (fun d r => H d = some (.lst (toldL r))) ds l → (∀ r ∈ l, FitS r) → DpAll K H (ds.map V.ref) (l.map toldSD)
  | _, _, .nil, _ => .nil
  | _, _, .cons h t, f => .cons (told_dpS h (f _ List.mem_cons_self)) (toldAllS t fun r m => f r (List.mem_cons_of_mem _ m))
theorem toldS_lay {r : Option (Nat × V)} (f : FitS r) : (toldSD r).canLay0 = true ∧ (toldSD r).depth ≤ 3 := by
  match r, f with
  | none, _ => exact ⟨(by show PyData.canLay0 (.list [.str "none", .none]) = true; decide +kernel), (by show PyData.depth (.list [.str "none", .none]) ≤ 3; decide +kernel)⟩
  | some (j, v), ⟨z, e, ok⟩ =>
    subst e
    refine ⟨?_, (by show max 0 (max 0 0) + 1 ≤ 3; decide)⟩
    show (PyData.canLay0 (.str (kindName j)) && ((PyData.str z).canLay0 && true)) = true
    rw [kind_lay, show (PyData.str z).canLay0 = true from ok]
    rfl
theorem toldS_all : ∀ {l : List (Option (Nat × V))}, (∀ r ∈ l, FitS r) → PyData.canLayAll0 (l.map toldSD) = true ∧ PyData.depthAll (l.map toldSD) ≤ 3
  | [], _ => ⟨rfl, Nat.zero_le _⟩
  | r :: l, h => by
    obtain ⟨a, b⟩ := toldS_lay (h r List.mem_cons_self)
    obtain ⟨x, y⟩ := toldS_all fun s m => h s (List.mem_cons_of_mem r m)
    refine ⟨?_, ?_⟩
    · show ((toldSD r).canLay0 && PyData.canLayAll0 (l.map toldSD)) = true
      rw [a, x]
      rfl
    · show max (toldSD r).depth (PyData.depthAll (l.map toldSD)) ≤ 3
      omega
theorem toldS_sh {l : List (Option (Nat × V))} (h : ∀ r ∈ l, FitS r) : SeqAt.shaped (.list (l.map toldSD)) = true := by
  obtain ⟨a, b⟩ := toldS_all h
  unfold SeqAt.shaped
  show (PyData.canLayAll0 (l.map toldSD) && decide (PyData.depthAll (l.map toldSD) + 1 ≤ 64)) = true
  rw [a, decide_eq_true (by omega)]
  rfl
theorem odd_ok : ∀ z ∈ oddS, PyData.strOk z = true := by decide +kernel
theorem fitC {za : Str} (h : za ∈ oddS) : FitS (condR za) := by
  unfold condR
  split
  · trivial
  · exact ⟨za, rfl, odd_ok za h⟩
theorem fitO {za zb : Str} (h : za ∈ oddS) (g : zb ∈ oddS) : FitS (outR za zb) := by
  unfold outR
  split
  · split
    · trivial
    · exact ⟨zb, rfl, odd_ok zb g⟩
  · exact ⟨za, rfl, odd_ok za h⟩

def MdAt (H : Hp) (l : Addr) (Cs : List Addr) (v : V) : Prop := ∃ es : List Addr, H l = some (.lst (es.map V.ref)) ∧ Paired (fun e C => ErrAt H e C "value" v) es Cs
theorem MdAt.same {H H' : Hp} {l : Addr} {Cs : List Addr} {v : V} (h : MdAt H l Cs v) (s : Same H H') : MdAt H' l Cs v := by
  obtain ⟨es, h1, h2⟩ := h
  exact ⟨es, s _ _ h1, prm h2 fun _ _ e => e.same s⟩
theorem md5 {C1 C2 C3 C4 C5 : Addr} {i : Nat} {v : V} {σ : L2.St} {H : Hp} {Q : VK} (hv : σ[i]? = some (some v)) (k : ∀ l H', H l = none → Same H H' → MdAt H' l [C1, C2, C3, C4, C5] v → Q (.ref l) H') :
    tLst (tCons (tOexV C1 (sp_err C1) (tCons (tVar i) tNil)) (tCons (tOexV C2 (sp_err C2) (tCons (tVar i) tNil)) (tCons (tOexV C3 (sp_err C3) (tCons (tVar i) tNil)) (tCons (tOexV C4 (sp_err C4) (tCons (tVar i) tNil)) (tCons (tOexV C5 (sp_err C5) (tCons (tVar i) tNil)) tNil))))) σ H Q := by
  refine rdLst (rdCons (oex_var hv fun e1 H1 f1 s1 r1 => rdCons (oex_var hv fun e2 H2 f2 s2 r2 => rdCons (oex_var hv fun e3 H3 f3 s3 r3 => rdCons (oex_var hv fun e4 H4 f4 s4 r4 => rdCons (oex_var hv fun e5 H5 f5 s5 r5 => rdNil ?_))))))
  refine ⟨(by show 5 ≤ sizeLine; decide), fun l hl => ?_⟩
  have sl := sameNew hl (o := .lst [.ref e1, .ref e2, .ref e3, .ref e4, .ref e5])
  have t4 := s5.trans sl
  have t3 := s4.trans t4
  have t2 := s3.trans t3
  have t1 := s2.trans t2
  exact k l _ ((s1.trans (s2.trans (s3.trans (s4.trans s5)))).free hl) (s1.trans t1) ⟨[e1, e2, e3, e4, e5], upd_same, .cons (r1.same t1) (.cons (r2.same t2) (.cons (r3.same t3) (.cons (r4.same t4) (.cons (r5.same sl) .nil))))⟩
theorem md4 {C1 C2 C3 C4 : Addr} {i : Nat} {v : V} {σ : L2.St} {H : Hp} {Q : VK} (hv : σ[i]? = some (some v)) (k : ∀ l H', H l = none → Same H H' → MdAt H' l [C1, C2, C3, C4] v → Q (.ref l) H') :
    tLst (tCons (tOexV C1 (sp_err C1) (tCons (tVar i) tNil)) (tCons (tOexV C2 (sp_err C2) (tCons (tVar i) tNil)) (tCons (tOexV C3 (sp_err C3) (tCons (tVar i) tNil)) (tCons (tOexV C4 (sp_err C4) (tCons (tVar i) tNil)) tNil)))) σ H Q := by
  refine rdLst (rdCons (oex_var hv fun e1 H1 f1 s1 r1 => rdCons (oex_var hv fun e2 H2 f2 s2 r2 => rdCons (oex_var hv fun e3 H3 f3 s3 r3 => rdCons (oex_var hv fun e4 H4 f4 s4 r4 => rdNil ?_)))))
  refine ⟨(by show 4 ≤ sizeLine; decide), fun l hl => ?_⟩
  have sl := sameNew hl (o := .lst [.ref e1, .ref e2, .ref e3, .ref e4])
  have t3 := s4.trans sl
  have t2 := s3.trans t3
  have t1 := s2.trans t2
  exact k l _ ((s1.trans (s2.trans (s3.trans s4))).free hl) (s1.trans t1) ⟨[e1, e2, e3, e4], upd_same, .cons (r1.same t1) (.cons (r2.same t2) (.cons (r3.same t3) (.cons (r4.same sl) .nil)))⟩
theorem mdCat {j : Nat} {Cs Ds : List Addr} {l : Addr} {v : V} {te : TE} {σ : L2.St} {H : Hp} {Q : VK} (hl : σ[j]? = some (some (.ref l))) (m : MdAt H l Cs v) (hz : Cs.length + Ds.length ≤ 1000)
    (hm : ∀ Q' : VK, (∀ r H', H r = none → Same H H' → MdAt H' r Ds v → Q' (.ref r) H') → te σ H Q') (k : ∀ p H', H p = none → Same H H' → MdAt H' p (Cs ++ Ds) v → Q (.ref p) H') : tOp rCat (tVar j) te σ H Q := by
  refine ⟨_, hl, hm _ fun r H1 fr s1 m2 => ?_⟩
  obtain ⟨es, h1, h2⟩ := m
  obtain ⟨fs, g1, g2⟩ := m2
  have h1' := s1 _ _ h1
  refine ⟨l, r, _, _, rfl, rfl, h1', g1, ?_, fun p hp => ?_⟩
  · rw [List.length_map, List.length_map, Paired.length h2, Paired.length g2]
    exact Nat.le_of_lt (small1000 hz)
  · have sp := sameNew hp (o := .lst (es.map V.ref ++ fs.map V.ref))
    exact k p _ (s1.free hp) (s1.trans sp) ⟨es ++ fs, by rw [upd_same, List.map_append], pra (prm h2 fun _ _ e => e.same (s1.trans sp)) (prm g2 fun _ _ e => e.same sp)⟩
theorem bls_true (n : Nat) : (List.replicate n true).all id = true := by
  rw [List.all_eq_true]
  intro x m
  rw [List.eq_of_mem_replicate m]
  rfl
theorem rep_snoc (n : Nat) : (List.replicate n true).map V.bl ++ [V.bl true] = (List.replicate (n + 1) true).map V.bl := by
  rw [show ([V.bl true] : List V) = [true].map V.bl from rfl, ← List.map_append, ← List.replicate_succ']

theorem badIx_take {wd : Int} {xs : List Int} (k : Nat) : ∀ n, n ≤ xs.length → (badIx wd xs n).filter (fun j => decide (j < k)) = badIx wd (xs.take k) (min n k)
  | 0, _ => by rw [Nat.zero_min]; rfl
  | n + 1, h => by
    have ih := badIx_take (wd := wd) (xs := xs) k n (by omega)
    have hz : xs[n]? = some (xs[n]'(by omega)) := List.getElem?_eq_getElem (by omega)
    rw [badIx_succ hz, List.filter_append, ih]
    by_cases c : n < k
    · have e1 : min (n + 1) k = min n k + 1 := by omega
      have e2 : min n k = n := by omega
      have hz2 : (xs.take k)[n]? = some (xs[n]'(by omega)) := by rw [List.getElem?_take_of_lt c]; exact hz
      rw [e1, e2, badIx_succ hz2]
      congr 1
      split
      · rfl
      · rw [List.filter_cons_of_pos (by exact decide_eq_true c)]
        rfl
    · have e1 : min (n + 1) k = min n k := by omega
      rw [e1]
      split
      · exact List.append_nil _
      · rw [List.filter_cons_of_neg (by rw [decide_eq_false c]; decide)]
        exact List.append_nil _
theorem badIx_all {wd : Int} {xs : List Int} (k : Nat) : (badIx wd xs xs.length).filter (fun j => decide (j < k)) = badIx wd (xs.take k) (xs.take k).length := by
  rw [badIx_take k _ (Nat.le_refl _), List.length_take, Nat.min_comm]
/-- the rows of bad below k -/
theorem lc_below {K : PySem.W.Frag} {H0 : Hp} {Qd : Hp → Prop} {B : V → Hp → (Hp → Prop) → Prop} {b D : Addr} {bs : List Addr} {js : List Nat} (k : Nat) (eb : H0 b = some (.lst (bs.map V.ref))) (nb : WNums H0 bs js) (hD : H0 D = none)
    (hs : ∀ (i : Nat) (x : Addr) (j : Nat) (H : Hp) (Pn : Hp → Prop), Same H0 H → bs[i]? = some x → H x = some (.lst [.str "words", .int (j : Int)]) → (¬ j < k → Pn H) → (j < k → ∃ acc, H D = some (.lst acc) ∧ acc.length < sizeLine ∧ Pn (upd H D (.lst (acc ++ [.ref x])))) → B (.ref x) H Pn)
    (lb : bs.length ≤ 900)
    (hd : ∀ H ds, Same H0 H → H D = some (.lst (ds.map V.ref)) → ds.length ≤ bs.length → WNums H ds (js.filter fun j => decide (j < k)) → Qd H) :
    ∃ W : Nat → Nat → Hp → Prop, (∃ m, W 0 m (upd H0 D (.lst []))) ∧ ∀ i m H, W i m H → ((Itl K b).stop i H ∧ Qd H) ∨ ((Itl K b).go i H ∧ ∃ Nx : Hp → Prop, (∀ H', Nx H' → ∃ m', m' < m ∧ W (i + 1) m' H') ∧ ∀ x H', (Itl K b).yld i H x H' → B x H' Nx) := by
  refine itl_by (xs := bs.map V.ref) (fun i H => Same H0 H ∧ ∃ ds : List Addr, H D = some (.lst (ds.map V.ref)) ∧ ds.length ≤ i ∧ WNums H ds ((js.take i).filter fun j => decide (j < k))) ⟨sameNew hD, [], upd_same, Nat.le_refl _, .nil⟩ (fun i H _ p => SqL.of (p.1 _ _ eb)) ?_ ?_
  · rintro i x H hx ⟨s, ds, eD, ld, nd⟩
    obtain ⟨y, hy, rfl⟩ := ref_at hx
    have il := (List.getElem?_eq_some_iff.mp hy).1
    obtain ⟨j, hj, ej⟩ := prg nb hy
    have st : (js.take (i + 1)).filter (fun j => decide (j < k)) = (js.take i).filter (fun j => decide (j < k)) ++ (if j < k then [j] else []) := by
      rw [takeS hj, List.filter_append]
      congr 1
      by_cases c : j < k
      · rw [if_pos c, List.filter_cons_of_pos (by exact decide_eq_true c)]
        rfl
      · rw [if_neg c, List.filter_cons_of_neg (by rw [decide_eq_false c]; decide)]
        rfl
    refine hs i y j H _ s hy (s _ _ ej) (fun c => ⟨s, ds, eD, by omega, ?_⟩) (fun c => ⟨_, eD, small1000 (by rw [List.length_map]; omega), sameUp s hD, ds ++ [y], by rw [upd_same, List.map_append]; rfl, by rw [List.length_append]; show ds.length + 1 ≤ i + 1; omega, ?_⟩)
    · rw [st, if_neg c, List.append_nil]
      exact nd
    · rw [st, if_pos c]
      exact WNums.up (pra nd (.cons (s _ _ ej) .nil)) eD
  · rintro H ⟨s, ds, eD, ld, nd⟩
    rw [List.length_map] at nd ld
    rw [Paired.length nb, List.take_length] at nd
    exact hd H ds s eD ld nd
theorem due_wordsK {H : Hp} {wd : Int} {ys : List Int} {g0 f0 : Addr} {bs : List Addr} {lates : List V} {r : Option (Nat × V)} (h1 : wd < 1 → H g0 = some (.lst [.str "wide", .int wd])) (h2 : H f0 = some (.lst [.str "none", .non])) (h3 : WNums H bs (badIx wd ys ys.length))
    (h4 : (lates = [] ∧ r = none) ∨ ∃ q, lates = [.ref q] ∧ H q = some (.lst (toldL r)) ∧ r.isSome = true) :
    ∃ d, atI ((if decide (wd < 1) = true then [V.ref g0] else []) ++ bs.map V.ref ++ lates ++ [V.ref f0]) 0 = some (.ref d) ∧ H d = some (.lst (toldL (resW wd (orR (res5 wd ys) r)))) := by
  unfold resW
  by_cases l : wd < 1
  · rw [decide_eq_true l, if_neg (show ¬ 1 ≤ wd by omega)]
    exact ⟨g0, atI0, h1 l⟩
  · rw [decide_eq_false l, if_pos (show 1 ≤ wd by omega)]
    unfold res5
    generalize badIx wd ys ys.length = js at h3 ⊢
    cases h3 with
    | cons a b => exact ⟨_, atI0, a⟩
    | nil =>
      rcases h4 with ⟨rfl, rfl⟩ | ⟨q, rfl, e, _⟩
      · exact ⟨f0, atI0, h2⟩
      · exact ⟨q, atI0, e⟩
theorem orR_none (a : Option (Nat × V)) : orR a none = a := by cases a <;> rfl
theorem fitR (wd : Int) (ys : List Int) : FitI (askR wd ys) := fit5 wd ys
theorem fitM (wd : Int) (ys : List Int) (more : Int) : FitI (askM wd ys more) := by
  unfold askM resW orR res5
  split
  · cases (badIx wd ys ys.length).head? with
    | none =>
      dsimp only [Option.map]
      split
      · exact ⟨_, rfl⟩
      · trivial
    | some j => exact ⟨_, rfl⟩
  · exact ⟨_, rfl⟩
theorem toldAllI {K : PySem.W.Frag} {H : Hp} : ∀ {l : List (Option (Nat × V))} {ds : List Addr}, Paired (fun d r => H d = some (.lst (toldL r)) ∧ FitI r) ds l → DpAll K H (ds.map V.ref) (l.map (toldD [] 0))
  | _, _, .nil => .nil
  | _, _, .cons h t => .cons (told_dpI h.1 h.2) (toldAllI t)
def resWs (wd : Int) (x y : Int) (l : List Int) (more : Int) : List (Option (Nat × V)) := [askR wd [x], askR wd [x, y], askR wd (x :: y :: l), askR wd (x :: y :: l), askM wd (x :: y :: l) more, askM wd (x :: y :: l) more]
theorem resWs_at (wd x y : Int) (l : List Int) (more : Int) {i : Nat} (h : i < 6) : ∃ r, (resWs wd x y l more)[i]? = some r ∧ DoorW wd (x :: y :: l) more (0 + (i : Nat)) r ∧ FitI r := by
  match i, h with
  | 0, _ => exact ⟨_, rfl, .d0 rfl, fitR ..⟩
  | 1, _ => exact ⟨_, rfl, .d1 rfl, fitR ..⟩
  | 2, _ => exact ⟨_, rfl, .d2, fitR ..⟩
  | 3, _ => exact ⟨_, rfl, .d3, fitR ..⟩
  | 4, _ => exact ⟨_, rfl, .d4, fitM ..⟩
  | 5, _ => exact ⟨_, rfl, .d5, fitM ..⟩

theorem nxR {D : Ends} {σ : L2.St} {H : Hp} (h : D.nx σ H) : tNext D σ H := h
abbrev wideL (wd : Int) (g0 : Addr) : List V := if decide (wd < 1) = true then [V.ref g0] else []
theorem wideL_len (wd : Int) (g0 : Addr) : (wideL wd g0).length ≤ 1 := by
  unfold wideL
  split <;> simp
theorem dueE {K : PySem.W.Frag} {te : TE} {σ : L2.St} {H : Hp} {Q : VK} {e g0 f0 f1 : Addr} {wd : Int} {ys : List Int} (h2 : σ[2]? = some (some (.ref e))) (h12 : σ[12]? = some (some (.ref f1))) (ee : H e = some (.lst (wideL wd g0))) (eg : wd < 1 → H g0 = some (.lst [.str "wide", .int wd]))
    (ef1 : H f1 = some (.lst [.ref f0])) (ef0 : H f0 = some (.lst [.str "none", .non])) (hte : ∀ Q' : VK, (∀ (D : Addr) (H' : Hp) (ds : List Addr), Same H H' → H' D = some (.lst (ds.map V.ref)) → ds.length ≤ 800 → WNums H' ds (badIx wd ys ys.length) → Q' (.ref D) H') → te σ H Q')
    (k : ∀ u H', Same H H' → H' u = some (.lst (toldL (askR wd ys))) → Q (.ref u) H') : tOp (rIxL K) (tOp rCat (tOp rCat (tVar 2) te) (tVar 12)) (tC (.int 0)) σ H Q := by
  have le := wideL_len wd g0
  refine ⟨_, h2, hte _ fun D H1 ds s1 eD ld nd => ?_⟩
  obtain ⟨u, hu, eu⟩ := due_wordsK (lates := []) (r := none) (fun c => s1 _ _ (eg c)) (s1 _ _ ef0) nd (.inl ⟨rfl, rfl⟩)
  rw [List.append_nil] at hu
  rw [orR_none] at eu
  refine ⟨e, D, _, _, rfl, rfl, s1 _ _ ee, eD, Nat.le_of_lt (small1000 (by rw [List.length_map]; omega)), fun p1 hp1 => ?_⟩
  refine ⟨_, h12, p1, f1, _, _, rfl, rfl, upd_same, (sameNew hp1) _ _ (s1 _ _ ef1), Nat.le_of_lt (small1000 (by rw [List.length_append, List.length_map]; show _ + 1 ≤ _; omega)), fun p2 hp2 => ?_⟩
  exact ⟨p2, _, 0, _, rfl, rfl, SqL.of upd_same, hu, k u _ (s1.trans ((sameNew hp1).trans (sameNew hp2))) (((sameNew hp1).trans (sameNew hp2)) _ _ eu)⟩
theorem dueL {K : PySem.W.Frag} {σ : L2.St} {H : Hp} {Q : VK} {e g0 f0 f1 B la : Addr} {bs : List Addr} {wd mo : Int} {ys : List Int} {lates : List V} (h2 : σ[2]? = some (some (.ref e))) (h12 : σ[12]? = some (some (.ref f1))) (h8 : σ[8]? = some (some (.ref B))) (h11 : σ[11]? = some (some (.ref la))) (ee : H e = some (.lst (wideL wd g0))) (eg : wd < 1 → H g0 = some (.lst [.str "wide", .int wd]))
    (ef1 : H f1 = some (.lst [.ref f0])) (ef0 : H f0 = some (.lst [.str "none", .non])) (eB : H B = some (.lst (bs.map V.ref))) (lb : bs.length ≤ 800) (nb : WNums H bs (badIx wd ys ys.length)) (el : H la = some (.lst lates))
    (h4 : (lates = [] ∧ (if mo < wd then some ((0 : Nat), V.int mo) else none) = none) ∨ ∃ q, lates = [.ref q] ∧ H q = some (.lst (toldL (if mo < wd then some ((0 : Nat), V.int mo) else none))) ∧ (if mo < wd then some ((0 : Nat), V.int mo) else none).isSome = true)
    (k : ∀ u H', Same H H' → H' u = some (.lst (toldL (askM wd ys mo))) → Q (.ref u) H') : tOp (rIxL K) (tOp rCat (tOp rCat (tOp rCat (tVar 2) (tVar 8)) (tVar 11)) (tVar 12)) (tC (.int 0)) σ H Q := by
  have le := wideL_len wd g0
  have ll : lates.length ≤ 1 := by
    rcases h4 with ⟨a, _⟩ | ⟨q, a, _⟩ <;> rw [a]
    · exact Nat.zero_le _
    · exact Nat.le_refl _
  obtain ⟨u, hu, eu⟩ := due_wordsK eg ef0 nb h4
  refine ⟨_, h2, _, h8, e, B, _, _, rfl, rfl, ee, eB, Nat.le_of_lt (small1000 (by rw [List.length_map]; omega)), fun p1 hp1 => ?_⟩
  refine ⟨_, h11, p1, la, _, _, rfl, rfl, upd_same, (sameNew hp1) _ _ el, Nat.le_of_lt (small1000 (by rw [List.length_append, List.length_map]; omega)), fun p2 hp2 => ?_⟩
  have s2 := (sameNew hp1 (o := .lst (wideL wd g0 ++ bs.map V.ref))).trans (sameNew hp2 (o := .lst (wideL wd g0 ++ bs.map V.ref ++ lates)))
  refine ⟨_, h12, p2, f1, _, _, rfl, rfl, upd_same, s2 _ _ ef1, Nat.le_of_lt (small1000 (by rw [List.length_append, List.length_append, List.length_map]; show _ + 1 ≤ _; omega)), fun p3 hp3 => ?_⟩
  exact ⟨p3, _, 0, _, rfl, rfl, SqL.of upd_same, hu, k u _ (s2.trans (sameNew hp3)) ((s2.trans (sameNew hp3)) _ _ eu)⟩

abbrev tab_CONDITIONS : List (Str × List Str) := tabC
theorem tr_CONDITIONS {w : World} {K : PySem.W.Frag} {mg : Str → Option Value} {A0 : Ad} (T : Txt w K mg A0) : TabRel K [("e", .ref A0.p_CONDITIONS_0), ("ne", .ref A0.p_CONDITIONS_1), ("l", .ref A0.p_CONDITIONS_2), ("le", .ref A0.p_CONDITIONS_3), ("g", .ref A0.p_CONDITIONS_4), ("ge", .ref A0.p_CONDITIONS_5), ("b", .ref A0.p_CONDITIONS_6), ("be", .ref A0.p_CONDITIONS_7), ("a", .ref A0.p_CONDITIONS_8), ("ae", .ref A0.p_CONDITIONS_9), ("same", .ref A0.p_CONDITIONS_10), ("mixed", .ref A0.p_CONDITIONS_11)] tab_CONDITIONS := .cons ⟨rfl, _, rfl, T.tv_CONDITIONS_0⟩ (.cons ⟨rfl, _, rfl, T.tv_CONDITIONS_1⟩ (.cons ⟨rfl, _, rfl, T.tv_CONDITIONS_2⟩ (.cons ⟨rfl, _, rfl, T.tv_CONDITIONS_3⟩ (.cons ⟨rfl, _, rfl, T.tv_CONDITIONS_4⟩ (.cons ⟨rfl, _, rfl, T.tv_CONDITIONS_5⟩ (.cons ⟨rfl, _, rfl, T.tv_CONDITIONS_6⟩ (.cons ⟨rfl, _, rfl, T.tv_CONDITIONS_7⟩ (.cons ⟨rfl, _, rfl, T.tv_CONDITIONS_8⟩ (.cons ⟨rfl, _, rfl, T.tv_CONDITIONS_9⟩ (.cons ⟨rfl, _, rfl, T.tv_CONDITIONS_10⟩ (.cons ⟨rfl, _, rfl, T.tv_CONDITIONS_11⟩ (.nil))))))))))))
def tab_EXCHANGED : List (Str × Str) := [("l", "b"), ("le", "be"), ("g", "a"), ("ge", "ae"), ("b", "l"), ("be", "le"), ("a", "g"), ("ae", "ge")]
def tab_REVERSED : List (Str × Str) := [("l", "g"), ("le", "ge"), ("g", "l"), ("ge", "le"), ("b", "a"), ("be", "ae"), ("a", "b"), ("ae", "be")]
theorem errC {w : World} {K : PySem.W.Frag} {mg : Str → Option Value} {A0 : Ad} (T : Txt w K mg A0) {j : Nat} {C : Addr} (h : ([A0.c_InvalidWidth, A0.c_InvalidWords, A0.c_InvalidOutcome, A0.c_InvalidCondition, A0.c_InvalidRanking, A0.c_InvalidKnowledge, A0.c_InvalidProgram, A0.c_InvalidRow, A0.c_InvalidRegister, A0.c_InvalidQuery, A0.c_InvalidTable, A0.c_InvalidNumber, A0.c_UnlikeInputs, A0.c_NothingToUndo, A0.c_Unreadable] : List Addr)[j]? = some C) : ExcC K C ∧ XfC K C ∧ PySem.W.findIn K (.ref C) "value" = some none := by
  have jl : j < 15 := (List.getElem?_eq_some_iff.mp h).1
  match j, jl, h with
  | 0, _, z => cases z; exact ⟨T.er_InvalidWidth.ec, xf_of T.er_InvalidWidth.ec, T.er_InvalidWidth.no⟩
  | 1, _, z => cases z; exact ⟨T.er_InvalidWords.ec, xf_of T.er_InvalidWords.ec, T.er_InvalidWords.no⟩
  | 2, _, z => cases z; exact ⟨T.er_InvalidOutcome.ec, xf_of T.er_InvalidOutcome.ec, T.er_InvalidOutcome.no⟩
  | 3, _, z => cases z; exact ⟨T.er_InvalidCondition.ec, xf_of T.er_InvalidCondition.ec, T.er_InvalidCondition.no⟩
  | 4, _, z => cases z; exact ⟨T.er_InvalidRanking.ec, xf_of T.er_InvalidRanking.ec, T.er_InvalidRanking.no⟩
  | 5, _, z => cases z; exact ⟨T.er_InvalidKnowledge.ec, xf_of T.er_InvalidKnowledge.ec, T.er_InvalidKnowledge.no⟩
  | 6, _, z => cases z; exact ⟨T.er_InvalidProgram.ec, xf_of T.er_InvalidProgram.ec, T.er_InvalidProgram.no⟩
  | 7, _, z => cases z; exact ⟨T.er_InvalidRow.ec, xf_of T.er_InvalidRow.ec, T.er_InvalidRow.no⟩
  | 8, _, z => cases z; exact ⟨T.er_InvalidRegister.ec, xf_of T.er_InvalidRegister.ec, T.er_InvalidRegister.no⟩
  | 9, _, z => cases z; exact ⟨T.er_InvalidQuery.ec, xf_of T.er_InvalidQuery.ec, T.er_InvalidQuery.no⟩
  | 10, _, z => cases z; exact ⟨T.er_InvalidTable.ec, xf_of T.er_InvalidTable.ec, T.er_InvalidTable.no⟩
  | 11, _, z => cases z; exact ⟨T.er_InvalidNumber.ec, xf_of T.er_InvalidNumber.ec, T.er_InvalidNumber.no⟩
  | 12, _, z => cases z; exact ⟨T.er_UnlikeInputs.ec, xf_of T.er_UnlikeInputs.ec, T.er_UnlikeInputs.no⟩
  | 13, _, z => cases z; exact ⟨T.er_NothingToUndo.ec, xf_of T.er_NothingToUndo.ec, T.er_NothingToUndo.no⟩
  | 14, _, z => cases z; exact ⟨T.er_Unreadable.ec, xf_of T.er_Unreadable.ec, T.er_Unreadable.no⟩

section
variable {P : Program} {w : World} {K : PySem.W.Frag} {mg : Str → Option Value} {base : Heap} {A0 : Ad}
theorem scI_InvalidWidth : FnScope ["self", "value"] ["self", "value"] (defScope s_InvalidWidth) := ⟨rfl, rfl, rfl, by decide +kernel, rfl, by decide +kernel, by decide +kernel⟩
theorem bdI_InvalidWidth (T : Txt w K mg A0) : Binds K A0.di_InvalidWidth ["self", "value"] [] := T.FI_InvalidWidth.binds fun _ _ _ _ _ _ us hl => match us, hl with | [_, _], _ => rfl
theorem kbI_InvalidWidth (T : Txt w K mg A0) : ∀ (s : Shared) (u v : Value), BindsTo s A0.di_InvalidWidth ⟨[u], [("value", v)]⟩ (((["self", "value"] : List Str)).zip [u, v]) := fun s u v => by
  obtain ⟨oc, od, kV, doc, pm, an, cdv, ct, osl, e, lk, hcd⟩ := T.FI_InvalidWidth.ex
  rw [e]
  exact .of_eq rfl
theorem okI_InvalidWidth (T : Txt w K mg A0) : FnOk P w K mg base CX0 1 A0.i_InvalidWidth A0.di_InvalidWidth ["self", "value"] (sp_err A0.c_InvalidWidth) := by
  refine T.FI_InvalidWidth.ok scI_InvalidWidth (fun vs H Q E h => ?_) (fun cdv A outer s H vs Q E hr h => ?_)
  · obtain ⟨a, v, rfl, _⟩ := h
    rfl
  · obtain ⟨a, v, rfl, ha, k⟩ := h
    refine ⟨_, pss_one (ps_ost (pv 0) (pv 1)), ?_⟩
    exact ⟨v, rfl, _, rfl, a, A0.c_InvalidWidth, rfl, T.er_InvalidWidth.ox, T.er_InvalidWidth.no, .inl ⟨ha, fun d hd ne => k d hd ne⟩⟩
theorem scI_InvalidWords : FnScope ["self", "value"] ["self", "value"] (defScope s_InvalidWords) := ⟨rfl, rfl, rfl, by decide +kernel, rfl, by decide +kernel, by decide +kernel⟩
theorem bdI_InvalidWords (T : Txt w K mg A0) : Binds K A0.di_InvalidWords ["self", "value"] [] := T.FI_InvalidWords.binds fun _ _ _ _ _ _ us hl => match us, hl with | [_, _], _ => rfl
theorem kbI_InvalidWords (T : Txt w K mg A0) : ∀ (s : Shared) (u v : Value), BindsTo s A0.di_InvalidWords ⟨[u], [("value", v)]⟩ (((["self", "value"] : List Str)).zip [u, v]) := fun s u v => by
  obtain ⟨oc, od, kV, doc, pm, an, cdv, ct, osl, e, lk, hcd⟩ := T.FI_InvalidWords.ex
  rw [e]
  exact .of_eq rfl
theorem okI_InvalidWords (T : Txt w K mg A0) : FnOk P w K mg base CX0 1 A0.i_InvalidWords A0.di_InvalidWords ["self", "value"] (sp_err A0.c_InvalidWords) := by
  refine T.FI_InvalidWords.ok scI_InvalidWords (fun vs H Q E h => ?_) (fun cdv A outer s H vs Q E hr h => ?_)
  · obtain ⟨a, v, rfl, _⟩ := h
    rfl
  · obtain ⟨a, v, rfl, ha, k⟩ := h
    refine ⟨_, pss_one (ps_ost (pv 0) (pv 1)), ?_⟩
    exact ⟨v, rfl, _, rfl, a, A0.c_InvalidWords, rfl, T.er_InvalidWords.ox, T.er_InvalidWords.no, .inl ⟨ha, fun d hd ne => k d hd ne⟩⟩
theorem scI_InvalidOutcome : FnScope ["self", "value"] ["self", "value"] (defScope s_InvalidOutcome) := ⟨rfl, rfl, rfl, by decide +kernel, rfl, by decide +kernel, by decide +kernel⟩
theorem bdI_InvalidOutcome (T : Txt w K mg A0) : Binds K A0.di_InvalidOutcome ["self", "value"] [] := T.FI_InvalidOutcome.binds fun _ _ _ _ _ _ us hl => match us, hl with | [_, _], _ => rfl
theorem kbI_InvalidOutcome (T : Txt w K mg A0) : ∀ (s : Shared) (u v : Value), BindsTo s A0.di_InvalidOutcome ⟨[u], [("value", v)]⟩ (((["self", "value"] : List Str)).zip [u, v]) := fun s u v => by
  obtain ⟨oc, od, kV, doc, pm, an, cdv, ct, osl, e, lk, hcd⟩ := T.FI_InvalidOutcome.ex
  rw [e]
  exact .of_eq rfl
theorem okI_InvalidOutcome (T : Txt w K mg A0) : FnOk P w K mg base CX0 1 A0.i_InvalidOutcome A0.di_InvalidOutcome ["self", "value"] (sp_err A0.c_InvalidOutcome) := by
  refine T.FI_InvalidOutcome.ok scI_InvalidOutcome (fun vs H Q E h => ?_) (fun cdv A outer s H vs Q E hr h => ?_)
  · obtain ⟨a, v, rfl, _⟩ := h
    rfl
  · obtain ⟨a, v, rfl, ha, k⟩ := h
    refine ⟨_, pss_one (ps_ost (pv 0) (pv 1)), ?_⟩
    exact ⟨v, rfl, _, rfl, a, A0.c_InvalidOutcome, rfl, T.er_InvalidOutcome.ox, T.er_InvalidOutcome.no, .inl ⟨ha, fun d hd ne => k d hd ne⟩⟩
theorem scI_InvalidCondition : FnScope ["self", "value"] ["self", "value"] (defScope s_InvalidCondition) := ⟨rfl, rfl, rfl, by decide +kernel, rfl, by decide +kernel, by decide +kernel⟩
theorem bdI_InvalidCondition (T : Txt w K mg A0) : Binds K A0.di_InvalidCondition ["self", "value"] [] := T.FI_InvalidCondition.binds fun _ _ _ _ _ _ us hl => match us, hl with | [_, _], _ => rfl
theorem kbI_InvalidCondition (T : Txt w K mg A0) : ∀ (s : Shared) (u v : Value), BindsTo s A0.di_InvalidCondition ⟨[u], [("value", v)]⟩ (((["self", "value"] : List Str)).zip [u, v]) := fun s u v => by
  obtain ⟨oc, od, kV, doc, pm, an, cdv, ct, osl, e, lk, hcd⟩ := T.FI_InvalidCondition.ex
  rw [e]
  exact .of_eq rfl
theorem okI_InvalidCondition (T : Txt w K mg A0) : FnOk P w K mg base CX0 1 A0.i_InvalidCondition A0.di_InvalidCondition ["self", "value"] (sp_err A0.c_InvalidCondition) := by
  refine T.FI_InvalidCondition.ok scI_InvalidCondition (fun vs H Q E h => ?_) (fun cdv A outer s H vs Q E hr h => ?_)
  · obtain ⟨a, v, rfl, _⟩ := h
    rfl
  · obtain ⟨a, v, rfl, ha, k⟩ := h
    refine ⟨_, pss_one (ps_ost (pv 0) (pv 1)), ?_⟩
    exact ⟨v, rfl, _, rfl, a, A0.c_InvalidCondition, rfl, T.er_InvalidCondition.ox, T.er_InvalidCondition.no, .inl ⟨ha, fun d hd ne => k d hd ne⟩⟩
theorem scI_InvalidRanking : FnScope ["self", "value"] ["self", "value"] (defScope s_InvalidRanking) := ⟨rfl, rfl, rfl, by decide +kernel, rfl, by decide +kernel, by decide +kernel⟩
theorem bdI_InvalidRanking (T : Txt w K mg A0) : Binds K A0.di_InvalidRanking ["self", "value"] [] := T.FI_InvalidRanking.binds fun _ _ _ _ _ _ us hl => match us, hl with | [_, _], _ => rfl
theorem kbI_InvalidRanking (T : Txt w K mg A0) : ∀ (s : Shared) (u v : Value), BindsTo s A0.di_InvalidRanking ⟨[u], [("value", v)]⟩ (((["self", "value"] : List Str)).zip [u, v]) := fun s u v => by
  obtain ⟨oc, od, kV, doc, pm, an, cdv, ct, osl, e, lk, hcd⟩ := T.FI_InvalidRanking.ex
  rw [e]
  exact .of_eq rfl
theorem okI_InvalidRanking (T : Txt w K mg A0) : FnOk P w K mg base CX0 1 A0.i_InvalidRanking A0.di_InvalidRanking ["self", "value"] (sp_err A0.c_InvalidRanking) := by
  refine T.FI_InvalidRanking.ok scI_InvalidRanking (fun vs H Q E h => ?_) (fun cdv A outer s H vs Q E hr h => ?_)
  · obtain ⟨a, v, rfl, _⟩ := h
    rfl
  · obtain ⟨a, v, rfl, ha, k⟩ := h
    refine ⟨_, pss_one (ps_ost (pv 0) (pv 1)), ?_⟩
    exact ⟨v, rfl, _, rfl, a, A0.c_InvalidRanking, rfl, T.er_InvalidRanking.ox, T.er_InvalidRanking.no, .inl ⟨ha, fun d hd ne => k d hd ne⟩⟩
theorem scI_InvalidKnowledge : FnScope ["self", "value"] ["self", "value"] (defScope s_InvalidKnowledge) := ⟨rfl, rfl, rfl, by decide +kernel, rfl, by decide +kernel, by decide +kernel⟩
theorem bdI_InvalidKnowledge (T : Txt w K mg A0) : Binds K A0.di_InvalidKnowledge ["self", "value"] [] := T.FI_InvalidKnowledge.binds fun _ _ _ _ _ _ us hl => match us, hl with | [_, _], _ => rfl
theorem kbI_InvalidKnowledge (T : Txt w K mg A0) : ∀ (s : Shared) (u v : Value), BindsTo s A0.di_InvalidKnowledge ⟨[u], [("value", v)]⟩ (((["self", "value"] : List Str)).zip [u, v]) := fun s u v => by
  obtain ⟨oc, od, kV, doc, pm, an, cdv, ct, osl, e, lk, hcd⟩ := T.FI_InvalidKnowledge.ex
  rw [e]
  exact .of_eq rfl
theorem okI_InvalidKnowledge (T : Txt w K mg A0) : FnOk P w K mg base CX0 1 A0.i_InvalidKnowledge A0.di_InvalidKnowledge ["self", "value"] (sp_err A0.c_InvalidKnowledge) := by
  refine T.FI_InvalidKnowledge.ok scI_InvalidKnowledge (fun vs H Q E h => ?_) (fun cdv A outer s H vs Q E hr h => ?_)
  · obtain ⟨a, v, rfl, _⟩ := h
    rfl
  · obtain ⟨a, v, rfl, ha, k⟩ := h
    refine ⟨_, pss_one (ps_ost (pv 0) (pv 1)), ?_⟩
    exact ⟨v, rfl, _, rfl, a, A0.c_InvalidKnowledge, rfl, T.er_InvalidKnowledge.ox, T.er_InvalidKnowledge.no, .inl ⟨ha, fun d hd ne => k d hd ne⟩⟩
theorem scI_InvalidProgram : FnScope ["self", "value"] ["self", "value"] (defScope s_InvalidProgram) := ⟨rfl, rfl, rfl, by decide +kernel, rfl, by decide +kernel, by decide +kernel⟩
theorem bdI_InvalidProgram (T : Txt w K mg A0) : Binds K A0.di_InvalidProgram ["self", "value"] [] := T.FI_InvalidProgram.binds fun _ _ _ _ _ _ us hl => match us, hl with | [_, _], _ => rfl
theorem kbI_InvalidProgram (T : Txt w K mg A0) : ∀ (s : Shared) (u v : Value), BindsTo s A0.di_InvalidProgram ⟨[u], [("value", v)]⟩ (((["self", "value"] : List Str)).zip [u, v]) := fun s u v => by
  obtain ⟨oc, od, kV, doc, pm, an, cdv, ct, osl, e, lk, hcd⟩ := T.FI_InvalidProgram.ex
  rw [e]
  exact .of_eq rfl
theorem okI_InvalidProgram (T : Txt w K mg A0) : FnOk P w K mg base CX0 1 A0.i_InvalidProgram A0.di_InvalidProgram ["self", "value"] (sp_err A0.c_InvalidProgram) := by
  refine T.FI_InvalidProgram.ok scI_InvalidProgram (fun vs H Q E h => ?_) (fun cdv A outer s H vs Q E hr h => ?_)
  · obtain ⟨a, v, rfl, _⟩ := h
    rfl
  · obtain ⟨a, v, rfl, ha, k⟩ := h
    refine ⟨_, pss_one (ps_ost (pv 0) (pv 1)), ?_⟩
    exact ⟨v, rfl, _, rfl, a, A0.c_InvalidProgram, rfl, T.er_InvalidProgram.ox, T.er_InvalidProgram.no, .inl ⟨ha, fun d hd ne => k d hd ne⟩⟩
theorem scI_InvalidRow : FnScope ["self", "value"] ["self", "value"] (defScope s_InvalidRow) := ⟨rfl, rfl, rfl, by decide +kernel, rfl, by decide +kernel, by decide +kernel⟩
theorem bdI_InvalidRow (T : Txt w K mg A0) : Binds K A0.di_InvalidRow ["self", "value"] [] := T.FI_InvalidRow.binds fun _ _ _ _ _ _ us hl => match us, hl with | [_, _], _ => rfl
theorem kbI_InvalidRow (T : Txt w K mg A0) : ∀ (s : Shared) (u v : Value), BindsTo s A0.di_InvalidRow ⟨[u], [("value", v)]⟩ (((["self", "value"] : List Str)).zip [u, v]) := fun s u v => by
  obtain ⟨oc, od, kV, doc, pm, an, cdv, ct, osl, e, lk, hcd⟩ := T.FI_InvalidRow.ex
  rw [e]
  exact .of_eq rfl
theorem okI_InvalidRow (T : Txt w K mg A0) : FnOk P w K mg base CX0 1 A0.i_InvalidRow A0.di_InvalidRow ["self", "value"] (sp_err A0.c_InvalidRow) := by
  refine T.FI_InvalidRow.ok scI_InvalidRow (fun vs H Q E h => ?_) (fun cdv A outer s H vs Q E hr h => ?_)
  · obtain ⟨a, v, rfl, _⟩ := h
    rfl
  · obtain ⟨a, v, rfl, ha, k⟩ := h
    refine ⟨_, pss_one (ps_ost (pv 0) (pv 1)), ?_⟩
    exact ⟨v, rfl, _, rfl, a, A0.c_InvalidRow, rfl, T.er_InvalidRow.ox, T.er_InvalidRow.no, .inl ⟨ha, fun d hd ne => k d hd ne⟩⟩
theorem scI_InvalidRegister : FnScope ["self", "value"] ["self", "value"] (defScope s_InvalidRegister) := ⟨rfl, rfl, rfl, by decide +kernel, rfl, by decide +kernel, by decide +kernel⟩
theorem bdI_InvalidRegister (T : Txt w K mg A0) : Binds K A0.di_InvalidRegister ["self", "value"] [] := T.FI_InvalidRegister.binds fun _ _ _ _ _ _ us hl => match us, hl with | [_, _], _ => rfl
theorem kbI_InvalidRegister (T : Txt w K mg A0) : ∀ (s : Shared) (u v : Value), BindsTo s A0.di_InvalidRegister ⟨[u], [("value", v)]⟩ (((["self", "value"] : List Str)).zip [u, v]) := fun s u v => by
  obtain ⟨oc, od, kV, doc, pm, an, cdv, ct, osl, e, lk, hcd⟩ := T.FI_InvalidRegister.ex
  rw [e]
  exact .of_eq rfl
theorem okI_InvalidRegister (T : Txt w K mg A0) : FnOk P w K mg base CX0 1 A0.i_InvalidRegister A0.di_InvalidRegister ["self", "value"] (sp_err A0.c_InvalidRegister) := by
  refine T.FI_InvalidRegister.ok scI_InvalidRegister (fun vs H Q E h => ?_) (fun cdv A outer s H vs Q E hr h => ?_)
  · obtain ⟨a, v, rfl, _⟩ := h
    rfl
  · obtain ⟨a, v, rfl, ha, k⟩ := h
    refine ⟨_, pss_one (ps_ost (pv 0) (pv 1)), ?_⟩
    exact ⟨v, rfl, _, rfl, a, A0.c_InvalidRegister, rfl, T.er_InvalidRegister.ox, T.er_InvalidRegister.no, .inl ⟨ha, fun d hd ne => k d hd ne⟩⟩
theorem scI_InvalidQuery : FnScope ["self", "value"] ["self", "value"] (defScope s_InvalidQuery) := ⟨rfl, rfl, rfl, by decide +kernel, rfl, by decide +kernel, by decide +kernel⟩
theorem bdI_InvalidQuery (T : Txt w K mg A0) : Binds K A0.di_InvalidQuery ["self", "value"] [] := T.FI_InvalidQuery.binds fun _ _ _ _ _ _ us hl => match us, hl with | [_, _], _ => rfl
theorem kbI_InvalidQuery (T : Txt w K mg A0) : ∀ (s : Shared) (u v : Value), BindsTo s A0.di_InvalidQuery ⟨[u], [("value", v)]⟩ (((["self", "value"] : List Str)).zip [u, v]) := fun s u v => by
  obtain ⟨oc, od, kV, doc, pm, an, cdv, ct, osl, e, lk, hcd⟩ := T.FI_InvalidQuery.ex
  rw [e]
  exact .of_eq rfl
theorem okI_InvalidQuery (T : Txt w K mg A0) : FnOk P w K mg base CX0 1 A0.i_InvalidQuery A0.di_InvalidQuery ["self", "value"] (sp_err A0.c_InvalidQuery) := by
  refine T.FI_InvalidQuery.ok scI_InvalidQuery (fun vs H Q E h => ?_) (fun cdv A outer s H vs Q E hr h => ?_)
  · obtain ⟨a, v, rfl, _⟩ := h
    rfl
  · obtain ⟨a, v, rfl, ha, k⟩ := h
    refine ⟨_, pss_one (ps_ost (pv 0) (pv 1)), ?_⟩
    exact ⟨v, rfl, _, rfl, a, A0.c_InvalidQuery, rfl, T.er_InvalidQuery.ox, T.er_InvalidQuery.no, .inl ⟨ha, fun d hd ne => k d hd ne⟩⟩
theorem scI_InvalidTable : FnScope ["self", "value"] ["self", "value"] (defScope s_InvalidTable) := ⟨rfl, rfl, rfl, by decide +kernel, rfl, by decide +kernel, by decide +kernel⟩
theorem bdI_InvalidTable (T : Txt w K mg A0) : Binds K A0.di_InvalidTable ["self", "value"] [] := T.FI_InvalidTable.binds fun _ _ _ _ _ _ us hl => match us, hl with | [_, _], _ => rfl
theorem kbI_InvalidTable (T : Txt w K mg A0) : ∀ (s : Shared) (u v : Value), BindsTo s A0.di_InvalidTable ⟨[u], [("value", v)]⟩ (((["self", "value"] : List Str)).zip [u, v]) := fun s u v => by
  obtain ⟨oc, od, kV, doc, pm, an, cdv, ct, osl, e, lk, hcd⟩ := T.FI_InvalidTable.ex
  rw [e]
  exact .of_eq rfl
theorem okI_InvalidTable (T : Txt w K mg A0) : FnOk P w K mg base CX0 1 A0.i_InvalidTable A0.di_InvalidTable ["self", "value"] (sp_err A0.c_InvalidTable) := by
  refine T.FI_InvalidTable.ok scI_InvalidTable (fun vs H Q E h => ?_) (fun cdv A outer s H vs Q E hr h => ?_)
  · obtain ⟨a, v, rfl, _⟩ := h
    rfl
  · obtain ⟨a, v, rfl, ha, k⟩ := h
    refine ⟨_, pss_one (ps_ost (pv 0) (pv 1)), ?_⟩
    exact ⟨v, rfl, _, rfl, a, A0.c_InvalidTable, rfl, T.er_InvalidTable.ox, T.er_InvalidTable.no, .inl ⟨ha, fun d hd ne => k d hd ne⟩⟩
theorem scI_InvalidNumber : FnScope ["self", "value"] ["self", "value"] (defScope s_InvalidNumber) := ⟨rfl, rfl, rfl, by decide +kernel, rfl, by decide +kernel, by decide +kernel⟩
theorem bdI_InvalidNumber (T : Txt w K mg A0) : Binds K A0.di_InvalidNumber ["self", "value"] [] := T.FI_InvalidNumber.binds fun _ _ _ _ _ _ us hl => match us, hl with | [_, _], _ => rfl
theorem kbI_InvalidNumber (T : Txt w K mg A0) : ∀ (s : Shared) (u v : Value), BindsTo s A0.di_InvalidNumber ⟨[u], [("value", v)]⟩ (((["self", "value"] : List Str)).zip [u, v]) := fun s u v => by
  obtain ⟨oc, od, kV, doc, pm, an, cdv, ct, osl, e, lk, hcd⟩ := T.FI_InvalidNumber.ex
  rw [e]
  exact .of_eq rfl
theorem okI_InvalidNumber (T : Txt w K mg A0) : FnOk P w K mg base CX0 1 A0.i_InvalidNumber A0.di_InvalidNumber ["self", "value"] (sp_err A0.c_InvalidNumber) := by
  refine T.FI_InvalidNumber.ok scI_InvalidNumber (fun vs H Q E h => ?_) (fun cdv A outer s H vs Q E hr h => ?_)
  · obtain ⟨a, v, rfl, _⟩ := h
    rfl
  · obtain ⟨a, v, rfl, ha, k⟩ := h
    refine ⟨_, pss_one (ps_ost (pv 0) (pv 1)), ?_⟩
    exact ⟨v, rfl, _, rfl, a, A0.c_InvalidNumber, rfl, T.er_InvalidNumber.ox, T.er_InvalidNumber.no, .inl ⟨ha, fun d hd ne => k d hd ne⟩⟩
theorem scI_UnlikeInputs : FnScope ["self", "value"] ["self", "value"] (defScope s_UnlikeInputs) := ⟨rfl, rfl, rfl, by decide +kernel, rfl, by decide +kernel, by decide +kernel⟩
theorem bdI_UnlikeInputs (T : Txt w K mg A0) : Binds K A0.di_UnlikeInputs ["self", "value"] [] := T.FI_UnlikeInputs.binds fun _ _ _ _ _ _ us hl => match us, hl with | [_, _], _ => rfl
theorem kbI_UnlikeInputs (T : Txt w K mg A0) : ∀ (s : Shared) (u v : Value), BindsTo s A0.di_UnlikeInputs ⟨[u], [("value", v)]⟩ (((["self", "value"] : List Str)).zip [u, v]) := fun s u v => by
  obtain ⟨oc, od, kV, doc, pm, an, cdv, ct, osl, e, lk, hcd⟩ := T.FI_UnlikeInputs.ex
  rw [e]
  exact .of_eq rfl
theorem okI_UnlikeInputs (T : Txt w K mg A0) : FnOk P w K mg base CX0 1 A0.i_UnlikeInputs A0.di_UnlikeInputs ["self", "value"] (sp_err A0.c_UnlikeInputs) := by
  refine T.FI_UnlikeInputs.ok scI_UnlikeInputs (fun vs H Q E h => ?_) (fun cdv A outer s H vs Q E hr h => ?_)
  · obtain ⟨a, v, rfl, _⟩ := h
    rfl
  · obtain ⟨a, v, rfl, ha, k⟩ := h
    refine ⟨_, pss_one (ps_ost (pv 0) (pv 1)), ?_⟩
    exact ⟨v, rfl, _, rfl, a, A0.c_UnlikeInputs, rfl, T.er_UnlikeInputs.ox, T.er_UnlikeInputs.no, .inl ⟨ha, fun d hd ne => k d hd ne⟩⟩
theorem scI_NothingToUndo : FnScope ["self", "value"] ["self", "value"] (defScope s_NothingToUndo) := ⟨rfl, rfl, rfl, by decide +kernel, rfl, by decide +kernel, by decide +kernel⟩
theorem bdI_NothingToUndo (T : Txt w K mg A0) : Binds K A0.di_NothingToUndo ["self", "value"] [] := T.FI_NothingToUndo.binds fun _ _ _ _ _ _ us hl => match us, hl with | [_, _], _ => rfl
theorem kbI_NothingToUndo (T : Txt w K mg A0) : ∀ (s : Shared) (u v : Value), BindsTo s A0.di_NothingToUndo ⟨[u], [("value", v)]⟩ (((["self", "value"] : List Str)).zip [u, v]) := fun s u v => by
  obtain ⟨oc, od, kV, doc, pm, an, cdv, ct, osl, e, lk, hcd⟩ := T.FI_NothingToUndo.ex
  rw [e]
  exact .of_eq rfl
theorem okI_NothingToUndo (T : Txt w K mg A0) : FnOk P w K mg base CX0 1 A0.i_NothingToUndo A0.di_NothingToUndo ["self", "value"] (sp_err A0.c_NothingToUndo) := by
  refine T.FI_NothingToUndo.ok scI_NothingToUndo (fun vs H Q E h => ?_) (fun cdv A outer s H vs Q E hr h => ?_)
  · obtain ⟨a, v, rfl, _⟩ := h
    rfl
  · obtain ⟨a, v, rfl, ha, k⟩ := h
    refine ⟨_, pss_one (ps_ost (pv 0) (pv 1)), ?_⟩
    exact ⟨v, rfl, _, rfl, a, A0.c_NothingToUndo, rfl, T.er_NothingToUndo.ox, T.er_NothingToUndo.no, .inl ⟨ha, fun d hd ne => k d hd ne⟩⟩
theorem scI_Unreadable : FnScope ["self", "value"] ["self", "value"] (defScope s_Unreadable) := ⟨rfl, rfl, rfl, by decide +kernel, rfl, by decide +kernel, by decide +kernel⟩
theorem bdI_Unreadable (T : Txt w K mg A0) : Binds K A0.di_Unreadable ["self", "value"] [] := T.FI_Unreadable.binds fun _ _ _ _ _ _ us hl => match us, hl with | [_, _], _ => rfl
theorem kbI_Unreadable (T : Txt w K mg A0) : ∀ (s : Shared) (u v : Value), BindsTo s A0.di_Unreadable ⟨[u], [("value", v)]⟩ (((["self", "value"] : List Str)).zip [u, v]) := fun s u v => by
  obtain ⟨oc, od, kV, doc, pm, an, cdv, ct, osl, e, lk, hcd⟩ := T.FI_Unreadable.ex
  rw [e]
  exact .of_eq rfl
theorem okI_Unreadable (T : Txt w K mg A0) : FnOk P w K mg base CX0 1 A0.i_Unreadable A0.di_Unreadable ["self", "value"] (sp_err A0.c_Unreadable) := by
  refine T.FI_Unreadable.ok scI_Unreadable (fun vs H Q E h => ?_) (fun cdv A outer s H vs Q E hr h => ?_)
  · obtain ⟨a, v, rfl, _⟩ := h
    rfl
  · obtain ⟨a, v, rfl, ha, k⟩ := h
    refine ⟨_, pss_one (ps_ost (pv 0) (pv 1)), ?_⟩
    exact ⟨v, rfl, _, rfl, a, A0.c_Unreadable, rfl, T.er_Unreadable.ox, T.er_Unreadable.no, .inl ⟨ha, fun d hd ne => k d hd ne⟩⟩
/-! is_word -/
def sp_is_word (K : PySem.W.Frag) : Sp := fun vs H Q E => ∃ wd x : Int, vs = [.int wd, .int x] ∧ 1 ≤ wd ∧ wd ≤ 1000 ∧ Q (.bl (decide (0 ≤ x) && decide (x < 2 ^ wd.toNat))) H
theorem sc_is_word : FnScope ["width", "word"] ["width", "word"] (defScope s_is_word) := ⟨rfl, rfl, rfl, by decide +kernel, rfl, by decide +kernel, by decide +kernel⟩
theorem bd_is_word (T : Txt w K mg A0) : Binds K A0.d_is_word ["width", "word"] [] := T.F_is_word.binds fun _ _ _ _ _ _ us hl => match us, hl with | [_, _], _ => rfl
theorem ok_is_word (T : Txt w K mg A0) : FnOk P w K mg base CX0 1 A0.a_is_word A0.d_is_word ["width", "word"] (sp_is_word K) := by
  refine T.F_is_word.ok sc_is_word (fun vs H Q E h => ?_) (fun cdv A outer s H vs Q E hr h => ?_)
  · obtain ⟨wd, x, rfl, _⟩ := h
    rfl
  · obtain ⟨wd, x, rfl, h⟩ := h
    refine ⟨_, (pss_one (ps_ret (pe_chain op_le op_lt pe_int (pv 1) (pe_op op_shl pe_int (pv 0))))), ?_⟩
    obtain ⟨h1, h2, k⟩ := h
    refine ⟨_, rfl, _, _, rfl, rfl, _, rfl, ?_⟩
    by_cases c : 0 ≤ x
    · rw [decide_eq_true c, Bool.true_and] at k
      refine tT (decide_eq_true c) ?_
      refine ⟨_, rfl, _, _, rfl, rfl, ⟨by omega, by omega, by decide⟩, _, _, rfl, rfl, ?_⟩
      show Q (.bl (decide (x < 1 * 2 ^ wd.toNat))) H
      rw [Int.one_mul]
      exact k
    · rw [decide_eq_false c, Bool.false_and] at k
      refine tF (decide_eq_false c) ?_
      exact k
/-! sign_bit -/
def sp_sign_bit (K : PySem.W.Frag) : Sp := fun vs H Q E => ∃ wd : Int, vs = [.int wd] ∧ 1 ≤ wd ∧ wd ≤ 1000 ∧ Q (.int (2 ^ (wd - 1).toNat)) H
theorem sc_sign_bit : FnScope ["width"] ["width"] (defScope s_sign_bit) := ⟨rfl, rfl, rfl, by decide +kernel, rfl, by decide +kernel, by decide +kernel⟩
theorem bd_sign_bit (T : Txt w K mg A0) : Binds K A0.d_sign_bit ["width"] [] := T.F_sign_bit.binds fun _ _ _ _ _ _ us hl => match us, hl with | [_], _ => rfl
theorem ok_sign_bit (T : Txt w K mg A0) : FnOk P w K mg base CX0 1 A0.a_sign_bit A0.d_sign_bit ["width"] (sp_sign_bit K) := by
  refine T.F_sign_bit.ok sc_sign_bit (fun vs H Q E h => ?_) (fun cdv A outer s H vs Q E hr h => ?_)
  · obtain ⟨wd, rfl, _⟩ := h
    rfl
  · obtain ⟨wd, rfl, h⟩ := h
    refine ⟨_, (pss_one (ps_ret (pe_op op_shl pe_int (pe_op op_sub (pv 0) pe_int)))), ?_⟩
    obtain ⟨h1, h2, k⟩ := h
    refine ⟨_, rfl, _, _, rfl, rfl, _, _, rfl, rfl, ⟨by omega, by omega, by decide⟩, ?_⟩
    show Q (.int (1 * 2 ^ (wd - 1).toNat)) H
    rw [Int.one_mul]
    exact k
/-! outcome_by_cut -/
def sp_outcome_by_cut (K : PySem.W.Frag) : Sp := fun vs H Q E => ∃ c x y : Int, vs = [.int c, .int x, .int y] ∧ Q (.str (ocut c x y)) H
theorem sc_outcome_by_cut : FnScope ["cut", "first", "second", "mixed"] ["cut", "first", "second"] (defScope s_outcome_by_cut) := ⟨rfl, rfl, rfl, by decide +kernel, rfl, by decide +kernel, by decide +kernel⟩
theorem bd_outcome_by_cut (T : Txt w K mg A0) : Binds K A0.d_outcome_by_cut ["cut", "first", "second"] [] := T.F_outcome_by_cut.binds fun _ _ _ _ _ _ us hl => match us, hl with | [_, _, _], _ => rfl
theorem ok_outcome_by_cut (T : Txt w K mg A0) : FnOk P w K mg base CX0 1 A0.a_outcome_by_cut A0.d_outcome_by_cut ["cut", "first", "second"] (sp_outcome_by_cut K) := by
  refine T.F_outcome_by_cut.ok sc_outcome_by_cut (fun vs H Q E h => ?_) (fun cdv A outer s H vs Q E hr h => ?_)
  · obtain ⟨c, x, y, rfl, _⟩ := h
    rfl
  · obtain ⟨c, x, y, rfl, h⟩ := h
    refine ⟨_, (pss_cons (ps_if (pt_cmpR op_eq (pv 1) (pv 2) (nomark _)) (pss_one (ps_ret pe_str)) pss_nil)
        (pss_cons (ps_set (i := 3) sc_outcome_by_cut.nd rfl (Or.inl rfl) (pe_cmpR op_ne (pe_cmpR op_lt (pv 1) (pv 0) (nomark _)) (pe_cmpR op_lt (pv 2) (pv 0) (nomark _)) (nomark _)))
        (pss_cons (ps_if (pt_cmpR op_lt (pv 1) (pv 2) (nomark _)) (pss_one (ps_ret (pe_ifExp (pt_val (pv 3)) pe_str pe_str))) pss_nil)
        (pss_one (ps_ret (pe_ifExp (pt_val (pv 3)) pe_str pe_str)))))), ?_⟩
    unfold ocut at h
    refine ⟨_, rfl, _, rfl, rfl, _, rfl, ?_⟩
    by_cases e : x = y
    · rw [if_pos e] at h
      exact tT (decide_eq_true (congrArg V.int e)) h
    rw [if_neg e] at h
    refine tF (decide_eq_false (fun z => e (V.int.inj z))) ?_
    refine ⟨_, rfl, _, rfl, _, _, rfl, rfl, _, rfl, _, rfl, _, _, rfl, rfl, rfl, ?_⟩
    rw [mixed_is]
    refine ⟨_, rfl, _, rfl, _, _, rfl, rfl, _, rfl, ?_⟩
    generalize (decide (x < c) != decide (y < c)) = m at h
    by_cases l : x < y
    · rw [if_pos l] at h
      refine tT (decide_eq_true l) ?_
      refine ⟨_, rfl, m, rfl, ?_⟩
      cases m
      · exact tF rfl h
      · exact tT rfl h
    · rw [if_neg l] at h
      refine tF (decide_eq_false l) ?_
      refine ⟨_, rfl, m, rfl, ?_⟩
      cases m
      · exact tF rfl h
      · exact tT rfl h
/-! _changed -/
def sp_changed (K : PySem.W.Frag) : Sp := fun vs H Q E => ∃ (t : Addr) (xs : List Int) (b : Int), vs = [.ref t, .int b] ∧ SqT K H t (xs.map V.int) ∧ xs.length ≤ 1000 ∧ ∀ p H', H p = none → Same H H' → H' p = some (.tup ((xs.map fun x => Builtin.bitXor x b).map V.int)) → Q (.ref p) H'
theorem sc_changed : FnScope ["words", "bits", "word"] ["words", "bits"] (defScope s_changed) := ⟨rfl, rfl, rfl, by decide +kernel, rfl, by decide +kernel, by decide +kernel⟩
theorem bd_changed (T : Txt w K mg A0) : Binds K A0.d_changed ["words", "bits"] [] := T.F_changed.binds fun _ _ _ _ _ _ us hl => match us, hl with | [_, _], _ => rfl
theorem ok_changed (T : Txt w K mg A0) : FnOk P w K mg base CX0 1 A0.a_changed A0.d_changed ["words", "bits"] (sp_changed K) := by
  refine T.F_changed.ok sc_changed (fun vs H Q E h => ?_) (fun cdv A outer s H vs Q E hr h => ?_)
  · obtain ⟨t, xs, b, rfl, _⟩ := h
    rfl
  · obtain ⟨t, xs, b, rfl, h⟩ := h
    refine ⟨_, (pss_one (ps_ret (pe_callTy call_tuple_of (by rfl) T.b_tuple (by decide +kernel) (pa_cons (pe_lc (own := [("word", 2)]) (g := gName 2) rfl sc_changed.nd (pi_tup (pv 0)) (blkOk_by (own := [("word", 2)]) (N := ["words", "bits", "word"]) (sc := defScope s_changed) (by decide +kernel)) (fun _ _ _ _ _ => pg_name (i := 2) sc_changed.nd rfl (Or.inl rfl)) (fun _ _ _ _ _ => pts_nil) (fun _ _ _ _ _ => (pe_op op_xor (pv 2) (pv 1)))) pa_nil)))), ?_⟩
    obtain ⟨ht, hz, k⟩ := h
    refine ⟨_, rfl, t, rfl, ⟨_, ht⟩, fun D hD => lc_ints (fun x => Builtin.bitXor x b) ht hz hD (fun _ => rfl) (fun x H2 Q2 _ _ q => ?_) (fun H2 s e => ?_)⟩
    · exact ⟨_, rfl, _, rfl, _, _, rfl, rfl, q H2 (Same.refl H2)⟩
    · refine ⟨D, _, rfl, .inl ⟨SqL.of e, fun p hp => ?_⟩⟩
      exact k p _ (s.free hp) (s.trans (sameNew hp)) upd_same
/-! _all_rules -/
def sp_all_rules (K : PySem.W.Frag) (A0 : Ad) : Sp := fun vs H Q E => ∃ _ : Unit, vs = [] ∧ ∀ p ds H', H p = none → Same H H' → H' p = some (.lst (ds.map V.ref)) → RulesAt H' ds rulesC → Q (.ref p) H'
theorem sc_all_rules : FnScope ["condition", "answer"] [] (defScope s_all_rules) := ⟨rfl, rfl, rfl, by decide +kernel, rfl, by decide +kernel, by decide +kernel⟩
theorem bd_all_rules (T : Txt w K mg A0) : Binds K A0.d_all_rules [] [] := T.F_all_rules.binds fun _ _ _ _ _ _ us hl => match us, hl with | [], _ => rfl
theorem ok_all_rules (T : Txt w K mg A0) : FnOk P w K mg base CX0 1 A0.a_all_rules A0.d_all_rules [] (sp_all_rules K A0) := by
  refine T.F_all_rules.ok sc_all_rules (fun vs H Q E h => ?_) (fun cdv A outer s H vs Q E hr h => ?_)
  · obtain ⟨_, rfl, _⟩ := h
    rfl
  · obtain ⟨_, rfl, h⟩ := h
    refine ⟨_, (pss_one (ps_ret (pe_lc2 (own := [("condition", 0), ("answer", 1)]) (vs1 := [1]) (g := gName 0) (g1 := gName 1) rfl sc_all_rules.nd (pi_keysY (pe_glob (v := .ref A0.v_CONDITIONS) rfl T.gv_CONDITIONS rfl)) (blkOk_by (own := [("condition", 0), ("answer", 1)]) (N := ["condition", "answer"]) (sc := defScope s_all_rules) (by decide +kernel)) (by decide) (fun _ _ _ _ _ => pg_name (i := 0) sc_all_rules.nd rfl (Or.inl rfl)) (fun _ _ _ _ _ => pts_nil) (fun _ _ _ _ _ => (show PI _ _ _ (iTup K _) from pi_tup (pe_tup (pa_cons pe_bl (pa_cons pe_bl pa_nil))))) (fun _ _ _ _ _ => pg_name (i := 1) sc_all_rules.nd rfl (Or.inl rfl)) (fun _ _ _ _ _ => pts_nil) (fun _ _ _ _ _ => (pe_tup (pa_cons (pv 0) (pa_cons (pv 1) pa_nil))))))), ?_⟩
    refine ⟨A0.v_CONDITIONS, _, rfl, T.kt_CONDITIONS P, fun D hD => lc2_it walk_keysY (P := fun i H' => Same H H' ∧ ∃ ds : List Addr, H' D = some (.lst (ds.map V.ref)) ∧ RulesAt H' ds (rulesC.take (2 * i)) ∧ ds.length = 2 * i) ⟨sameNew hD, [], upd_same, .nil, rfl⟩ (fun _ _ _ _ => trivial) ?_ ?_⟩
    · rintro i x H1 H2 hi ⟨s, ds, eD, R, ld⟩ ⟨rfl, c, v, rfl, hkv⟩
      have hc : conds[i]? = some c := by
        have q := congrArg (Option.map (fun p : Str × V => p.1)) hkv
        rw [← List.getElem?_map] at q
        exact q
      have il : i < 12 := (List.getElem?_eq_some_iff.mp hc).1
      obtain ⟨r0, r1⟩ := rule_at i (List.mem_range.mpr il)
      rw [List.getD_eq_getElem?_getD, hc] at r0 r1
      refine ⟨rfl, ?_⟩
      refine yesR ?_
      refine tT rfl ?_
      refine ⟨(by show 2 ≤ sizeLine; decide), fun p hp => ⟨p, rfl, ⟨_, SqT.of upd_same⟩, lc2_in (walk_tup (xs := [.bl true, .bl false])) (P := fun j H' => Same H H' ∧ H' p = some (.tup [.bl true, .bl false]) ∧ ∃ ds : List Addr, H' D = some (.lst (ds.map V.ref)) ∧ RulesAt H' ds (rulesC.take (2 * i + j)) ∧ ds.length = 2 * i + j) ?_ (fun _ _ _ q => SqT.of q.2.1) ?_ ?_⟩⟩
      · exact ⟨s.trans (sameNew hp), upd_same, ds, (sameNew hp) _ _ eD, R.same (sameNew hp), ld⟩
      · rintro j y H3 H4 hj ⟨s3, ep, ds3, eD3, R3, l3⟩ ⟨rfl, hy⟩
        have hj : j < 2 := hj
        have nDp : D ≠ p := ne_of eD3 ep (fun z => nomatch z)
        obtain ⟨b, rfl, hr⟩ : ∃ b, y = .bl b ∧ rulesC[2 * i + j]? = some (c, b) := by
          match j, hj, hy with
          | 0, _, hy => cases hy; exact ⟨true, rfl, r0⟩
          | 1, _, hy => cases hy; exact ⟨false, rfl, r1⟩
        refine ⟨rfl, ?_⟩
        refine yesR ?_
        refine tT rfl ?_
        refine ⟨_, rfl, _, rfl, (by show 2 ≤ sizeLine; decide), fun q hq => ?_⟩
        have sq := sameNew hq (o := .tup [.str c, .bl b])
        refine ⟨_, sq _ _ eD3, small1000 (by rw [List.length_map]; omega), sameUp (s3.trans sq) hD, ?_, ds3 ++ [q], by rw [upd_same, List.map_append]; rfl, ?_, by rw [List.length_append]; show ds3.length + 1 = _; omega⟩
        · rw [upd_ne (Ne.symm nDp)]
          exact sq _ _ ep
        · rw [show 2 * i + (j + 1) = 2 * i + j + 1 from rfl, take_snoc hr]
          exact RulesAt.up (pra (R3.same sq) (.cons upd_same .nil)) (sq _ _ eD3)
      · rintro H3 ⟨s3, ep, ds3, eD3, R3, l3⟩
        exact ⟨s3, ds3, eD3, R3, l3⟩
    · rintro H1 ⟨s, ds, eD, R, ld⟩
      exact h D ds H1 hD s eD R
/-! _with_rule -/
def sp_with_rule (K : PySem.W.Frag) (A0 : Ad) : Sp := fun vs H Q E => ∃ (t q : Addr) (m j : Nat), vs = [.ref t, .ref q] ∧ m < 32 ∧ j < 24 ∧ SqT K H t ((mO m).map V.str) ∧ H q = some (.tup [.str (rulesC.getD j ("", true)).1, .bl (rulesC.getD j ("", true)).2]) ∧ ∀ p H', H p = none → Same H H' → H' p = some (.tup ((mO (wr m (rMask.getD j (0, true)))).map V.str)) → Q (.ref p) H'
theorem sc_with_rule : FnScope ["held", "rule", "condition", "answer", "decided", "outcome"] ["held", "rule"] (defScope s_with_rule) := ⟨rfl, rfl, rfl, by decide +kernel, rfl, by decide +kernel, by decide +kernel⟩
theorem bd_with_rule (T : Txt w K mg A0) : Binds K A0.d_with_rule ["held", "rule"] [] := T.F_with_rule.binds fun _ _ _ _ _ _ us hl => match us, hl with | [_, _], _ => rfl
theorem ok_with_rule (T : Txt w K mg A0) : FnOk P w K mg base CX0 1 A0.a_with_rule A0.d_with_rule ["held", "rule"] (sp_with_rule K A0) := by
  refine T.F_with_rule.ok sc_with_rule (fun vs H Q E h => ?_) (fun cdv A outer s H vs Q E hr h => ?_)
  · obtain ⟨t, q, m, j, rfl, _⟩ := h
    rfl
  · obtain ⟨t, q, m, j, rfl, h⟩ := h
    refine ⟨_, (pss_cons (ps_asg (pv 1) (pg_tup rfl (pgs_cons (pg_name (i := 2) sc_with_rule.nd rfl (Or.inl rfl)) (pgs_cons (pg_name (i := 3) sc_with_rule.nd rfl (Or.inr rfl)) pgs_nil))))
        (pss_cons (ps_set (i := 4) sc_with_rule.nd rfl (Or.inr rfl) (pe_ix ix_tab (pe_glob (v := .ref A0.v_CONDITIONS) rfl T.gv_CONDITIONS rfl) (pv 2) (fun _ _ => rfl)))
        (pss_one (ps_ret (pe_callTy call_tuple_of (by rfl) T.b_tuple (by decide +kernel) (pa_cons (pe_lc (own := [("outcome", 5)]) (g := gName 5) rfl sc_with_rule.nd (pi_tup (pe_glob (v := .ref A0.v_OUTCOMES) rfl T.gv_OUTCOMES rfl)) (blkOk_by (own := [("outcome", 5)]) (N := ["held", "rule", "condition", "answer", "decided", "outcome"]) (sc := defScope s_with_rule) (by decide +kernel)) (fun _ _ _ _ _ => pg_name (i := 5) sc_with_rule.nd rfl (Or.inl rfl)) (fun _ _ _ _ _ => pts_one (pt_ifExp (pt_cmpR (show OpR _ _ (rIn K false) from op_in_seq) (pv 5) (pv 4) rfl) (pt_val (pv 3)) (pt_cmpR (show OpR _ _ (rIn K false) from op_in_seq) (pv 5) (pv 0) rfl))) (fun _ _ _ _ _ => (pv 5))) pa_nil)))))), ?_⟩
    obtain ⟨hm, hj, ht, hq, k⟩ := h
    have w := wr_ok m (List.mem_range.mpr hm) j (List.mem_range.mpr hj)
    have c := (cond_back _ (rule_cond j (List.mem_range.mpr hj))).2.1
    revert hq w c
    generalize (rulesC.getD j ("", true)).1 = z
    generalize (rulesC.getD j ("", true)).2 = an
    intro hq w c
    refine ⟨_, rfl, q, _, rfl, SqT.of hq, rfl, _, _, rfl, _, _, rfl, rfl, ?_⟩
    have ct : tab_CONDITIONS.lookup z = some (outsOf z) := c
    rcases tab_find (z := z) (tr_CONDITIONS T) with ⟨h2, _⟩ | ⟨os2, a, h2, h3, h4⟩
    · rw [ct] at h2
      cases h2
    rw [ct] at h2
    cases h2
    refine ⟨_, rfl, A0.v_CONDITIONS, z, _, _, rfl, rfl, T.kt_CONDITIONS P, h3, ?_⟩
    refine ⟨A0.v_OUTCOMES, rfl, ⟨_, T.tv_OUTCOMES.sq⟩, fun D hD => lc_pick (fun o => if decide (o ∈ outsOf z) = true then an else decide (o ∈ mO m)) T.tv_OUTCOMES.sq (by decide) hD (fun _ => rfl) (fun x H2 Q2 _ s2 q2 => ?_) (fun x H2 Q2 _ _ q2 => ?_) (fun H2 s2 e2 => ?_)⟩
    · refine ⟨_, rfl, _, rfl, a, (outsOf z).map V.str, rfl, .inr h4.sq, rfl, flat_strs, _, rfl, ?_⟩
      rw [inV_str]
      by_cases d : x ∈ outsOf z
      · rw [decide_eq_true d] at q2 ⊢
        rw [if_pos rfl] at q2
        exact tT rfl ⟨_, rfl, an, rfl, q2⟩
      · rw [decide_eq_false d] at q2 ⊢
        rw [if_neg (by decide)] at q2
        refine tF rfl ?_
        refine ⟨_, rfl, _, rfl, t, (mO m).map V.str, rfl, .inr (sameT s2 ht), rfl, flat_strs, _, rfl, ?_⟩
        rw [inV_str]
        exact q2
    · exact ⟨_, rfl, q2⟩
    · refine ⟨D, _, rfl, .inl ⟨SqL.of e2, fun p hp => ?_⟩⟩
      exact k p _ (s2.free hp) (s2.trans (sameNew hp)) (by rw [upd_same]; exact congrArg (fun l : List Str => some (HO.tup (l.map V.str))) w)
/-! _law_pool -/
def sp_law_pool (K : PySem.W.Frag) : Sp := fun vs H Q E => ∃ (a : Addr) (ns : List Int) (i : Int), vs = [.ref a, .int i] ∧ SqL K H a (ns.map V.int) ∧ 0 ≤ i ∧ i ≤ 1000 ∧ ns.length ≤ 63 ∧ ∀ p H', H p = none → Same H H' → Pool H' p 0 → Q (.ref p) H'
theorem sc_law_pool : FnScope ["script", "at", "cell"] ["script", "at"] (defScope s_law_pool) := ⟨rfl, rfl, rfl, by decide +kernel, rfl, by decide +kernel, by decide +kernel⟩
theorem bd_law_pool (T : Txt w K mg A0) : Binds K A0.d_law_pool ["script", "at"] [] := T.F_law_pool.binds fun _ _ _ _ _ _ us hl => match us, hl with | [_, _], _ => rfl
theorem ok_law_pool (T : Txt w K mg A0) : FnOk P w K mg base CX0 1 A0.a_law_pool A0.d_law_pool ["script", "at"] (sp_law_pool K) := by
  refine T.F_law_pool.ok sc_law_pool (fun vs H Q E h => ?_) (fun cdv A outer s H vs Q E hr h => ?_)
  · obtain ⟨a, ns, i, rfl, _⟩ := h
    rfl
  · obtain ⟨a, ns, i, rfl, h⟩ := h
    refine ⟨_, (pss_cons (ps_set (i := 2) sc_law_pool.nd rfl (Or.inl rfl) pe_int)
        (pss_cons (ps_if (pt_cmpR op_lt (pv 1) (pe_callB call_len_seq (by rfl) T.b_len (by decide +kernel) (pa_cons (pv 0) pa_nil)) (nomark _)) (pss_one (ps_set (i := 2) sc_law_pool.nd rfl (Or.inl rfl) (pe_ix ix_list (pv 0) (pv 1) (fun _ _ => rfl)))) pss_nil)
        (pss_one (ps_ret (pe_lst (pa_cons (pe_callB (call_max2 rfl) (by rfl) T.b_max (by decide +kernel) (pa_cons pe_int (pa_cons (pe_op op_sub (pe_callB call_abs (by rfl) T.b_abs (by decide +kernel) (pa_cons (pv 2) pa_nil)) (pe_op op_pow pe_int pe_int)) pa_nil))) (pa_cons (pe_op op_add (pe_op op_mod (pv 2) pe_int) (pe_op op_mul pe_int (pe_op op_add (pv 1) pe_int))) (pa_cons pe_int pa_nil)))))))), ?_⟩
    obtain ⟨hS, h0, h1, hl, k⟩ := h
    have fin : ∀ c : Int, ∀ p, H p = none → Q (.ref p) (upd H p (.lst [.int (if (if c < 0 then -c else c) - 10 ^ (18 : Int).toNat > 0 then (if c < 0 then -c else c) - 10 ^ (18 : Int).toNat else 0), .int (c % 2305843009213693951 + 3276509057 * (i + 1)), .int 0])) := fun c p hp => by
      refine k p _ hp (sameNew hp) ⟨_, _, _, upd_same, ?_, ?_, ?_, by decide, by decide⟩
      · generalize (if c < 0 then -c else c) - 10 ^ (18 : Int).toNat = z
        split <;> omega
      · have := Int.emod_nonneg c (show (2305843009213693951 : Int) ≠ 0 by decide)
        omega
      · have := Int.emod_lt_of_pos c (show (0 : Int) < 2305843009213693951 by decide)
        omega
    refine ⟨_, rfl, _, rfl, a, _, rfl, .inl hS, _, _, rfl, rfl, _, rfl, ?_⟩
    rw [List.length_map]
    by_cases c : i < (ns.length : Int)
    · obtain ⟨z, hz⟩ : ∃ z, ns[i.toNat]? = some z := ⟨ns[i.toNat]'(by omega), List.getElem?_eq_getElem (by omega)⟩
      refine tT (decide_eq_true c) ?_
      refine ⟨_, rfl, _, rfl, a, _, i, .int z, rfl, rfl, hS, ?_, ?_⟩
      · refine at_of (j := i.toNat) (by omega) ?_
        rw [List.getElem?_map, hz]
        rfl
      refine ⟨_, rfl, _, rfl, _, _, rfl, rfl, ⟨by decide, by decide, by decide⟩, _, _, rfl, rfl, _, _, rfl, ?_⟩
      refine ⟨_, rfl, _, _, rfl, rfl, (by show (0 : Int) < 2305843009213693951; decide), _, rfl, _, _, rfl, rfl, _, _, rfl, rfl, .inl ⟨by decide, by decide⟩, _, _, rfl, rfl, ?_⟩
      exact ⟨(by show 3 ≤ sizeLine; decide), fin z⟩
    · refine tF (decide_eq_false c) ?_
      refine ⟨_, rfl, _, rfl, _, _, rfl, rfl, ⟨by decide, by decide, by decide⟩, _, _, rfl, rfl, _, _, rfl, ?_⟩
      refine ⟨_, rfl, _, _, rfl, rfl, (by show (0 : Int) < 2305843009213693951; decide), _, rfl, _, _, rfl, rfl, _, _, rfl, rfl, .inl ⟨by decide, by decide⟩, _, _, rfl, rfl, ?_⟩
      exact ⟨(by show 3 ≤ sizeLine; decide), fin 0⟩
/-! _law_draw -/
def sp_law_draw (K : PySem.W.Frag) : Sp := fun vs H Q E => ∃ (p : Addr) (m : Int) (n : Nat), vs = [.ref p, .int m] ∧ Pool H p n ∧ n ≤ 100000 ∧ 0 < m ∧ m < 2 ^ 400 ∧ ∀ d H', 0 ≤ d → d < m → Pool H' p (n + 1) → But p H H' → Q (.int d) H'
theorem sc_law_draw : FnScope ["pool", "many", "drawn", "mixed"] ["pool", "many"] (defScope s_law_draw) := ⟨rfl, rfl, rfl, by decide +kernel, rfl, by decide +kernel, by decide +kernel⟩
theorem bd_law_draw (T : Txt w K mg A0) : Binds K A0.d_law_draw ["pool", "many"] [] := T.F_law_draw.binds fun _ _ _ _ _ _ us hl => match us, hl with | [_, _], _ => rfl
theorem ok_law_draw (T : Txt w K mg A0) : FnOk P w K mg base CX0 1 A0.a_law_draw A0.d_law_draw ["pool", "many"] (sp_law_draw K) := by
  refine T.F_law_draw.ok sc_law_draw (fun vs H Q E h => ?_) (fun cdv A outer s H vs Q E hr h => ?_)
  · obtain ⟨p, m, n, rfl, _⟩ := h
    rfl
  · obtain ⟨p, m, n, rfl, h⟩ := h
    refine ⟨_, (pss_cons (ps_if (pt_cmpR op_gt (pe_ix ix_list (pv 0) pe_int (fun _ _ => rfl)) pe_int (nomark _)) (pss_cons (ps_set (i := 2) sc_law_draw.nd rfl (Or.inl rfl) (pe_op op_mod (pe_ix ix_list (pv 0) pe_int (fun _ _ => rfl)) (pv 1)))
        (pss_cons (ps_asg (pe_op op_fdivW (pe_ix ix_list (pv 0) pe_int (fun _ _ => rfl)) (pv 1)) (pg_sub (pv 0) pe_int set_list))
        (pss_one (ps_ret (pv 2))))) pss_nil)
        (pss_cons (ps_asg (pe_op op_add (pe_ix ix_list (pv 0) pe_int (fun _ _ => rfl)) pe_int) (pg_sub (pv 0) pe_int set_list))
        (pss_cons (ps_set (i := 3) sc_law_draw.nd rfl (Or.inl rfl) (pe_op op_mod (pe_op op_powB (pe_op op_add (pe_ix ix_list (pv 0) pe_int (fun _ _ => rfl)) (pe_op op_mul pe_int (pe_ix ix_list (pv 0) pe_int (fun _ _ => rfl)))) pe_int) pe_int))
        (pss_cons (ps_set (i := 3) sc_law_draw.nd rfl (Or.inl rfl) (pe_op op_mod (pe_op op_powB (pe_op op_add (pv 3) (pe_op op_mul pe_int (pe_ix ix_list (pv 0) pe_int (fun _ _ => rfl)))) pe_int) pe_int))
        (pss_one (ps_ret (pe_op op_mod (pe_op op_fdivW (pv 3) pe_int) (pv 1)))))))), ?_⟩
    obtain ⟨pl, hn, h0, h1, k⟩ := h
    obtain ⟨g, b, c, hp, g0, b0, b1, c0, c1⟩ := pl
    have lm := log_ok h0 h1
    refine ⟨_, rfl, p, _, 0, .int g, rfl, rfl, SqL.of hp, rfl, _, _, rfl, rfl, _, rfl, ?_⟩
    by_cases z : 0 < g
    · refine tT (decide_eq_true z) ?_
      refine ⟨_, rfl, p, _, 0, .int g, rfl, rfl, SqL.of hp, rfl, _, rfl, _, _, rfl, rfl, h0, ?_⟩
      refine ⟨_, rfl, p, _, 0, .int g, rfl, rfl, SqL.of hp, rfl, _, rfl, _, _, rfl, rfl, ⟨h0, lm⟩, ?_⟩
      refine ⟨_, rfl, p, _, 0, 0, rfl, rfl, hp, rfl, ?_⟩
      refine ⟨_, rfl, ?_⟩
      exact k _ _ (Int.emod_nonneg g (by omega)) (Int.emod_lt_of_pos g h0) ⟨g / m, b, c, upd_same, Int.ediv_nonneg g0 (by omega), b0, b1, c0, by omega⟩ But.upd
    · refine tF (decide_eq_false z) ?_
      have e1 : ∀ o, (upd H p o) p = some o := fun o => upd_same
      refine ⟨_, rfl, p, _, 2, .int c, rfl, rfl, SqL.of hp, rfl, _, _, rfl, rfl, _, rfl, p, _, 2, 2, rfl, rfl, hp, rfl, ?_⟩
      have hp1 : (upd H p (.lst (List.set [V.int g, V.int b, V.int c] 2 (.int (c + 1))))) p = some (.lst [.int g, .int b, .int (c + 1)]) := upd_same
      refine ⟨_, rfl, p, _, 1, .int b, rfl, rfl, SqL.of hp1, rfl, _, rfl, p, _, 2, .int (c + 1), rfl, rfl, SqL.of hp1, rfl, _, _, rfl, rfl, .inl ⟨by decide, by decide⟩, _, _, rfl, rfl, _, _, rfl, rfl, powB_of (a := 64) (by omega) (by decide) (by decide) (by decide), _, _, rfl, rfl, (by show (0 : Int) < 162259276829213363391578010288127; decide), ?_⟩
      generalize hX : (b + 15487469 * (c + 1)) ^ (3 : Int).toNat % 162259276829213363391578010288127 = X
      have x0 : 0 ≤ X := by rw [← hX]; exact Int.emod_nonneg _ (by decide)
      have x1 : X < 162259276829213363391578010288127 := by rw [← hX]; exact Int.emod_lt_of_pos _ (by decide)
      refine ⟨_, rfl, _, rfl, p, _, 2, .int (c + 1), rfl, rfl, SqL.of hp1, rfl, _, _, rfl, rfl, .inl ⟨by decide, by decide⟩, _, _, rfl, rfl, _, _, rfl, rfl, powB_of (a := 120) (by omega) (by decide) (by decide) (by decide), _, _, rfl, rfl, (by show (0 : Int) < 170141183460469231731687303715884105727; decide), ?_⟩
      refine ⟨_, rfl, _, _, rfl, rfl, ⟨by decide, by decide⟩, _, rfl, _, _, rfl, rfl, h0, ?_⟩
      exact k _ _ (Int.emod_nonneg _ (by omega)) (Int.emod_lt_of_pos _ h0) ⟨g, b, c + 1, hp1, g0, b0, b1, by omega, by omega⟩ But.upd
/-! _law_power -/
def sp_law_power (K : PySem.W.Frag) : Sp := fun vs H Q E => ∃ m : Int, vs = [.int m] ∧ 0 ≤ m ∧ m ≤ 1000 ∧ Q (.int (2 ^ m.toNat)) H
theorem sc_law_power : FnScope ["many", "found", "turn"] ["many"] (defScope s_law_power) := ⟨rfl, rfl, rfl, by decide +kernel, rfl, by decide +kernel, by decide +kernel⟩
theorem bd_law_power (T : Txt w K mg A0) : Binds K A0.d_law_power ["many"] [] := T.F_law_power.binds fun _ _ _ _ _ _ us hl => match us, hl with | [_], _ => rfl
theorem ok_law_power (T : Txt w K mg A0) : FnOk P w K mg base CX0 1 A0.a_law_power A0.d_law_power ["many"] (sp_law_power K) := by
  refine T.F_law_power.ok sc_law_power (fun vs H Q E h => ?_) (fun cdv A outer s H vs Q E hr h => ?_)
  · obtain ⟨m, rfl, _⟩ := h
    rfl
  · obtain ⟨m, rfl, h⟩ := h
    refine ⟨_, (pss_cons (ps_set (i := 1) sc_law_power.nd rfl (Or.inl rfl) pe_int)
        (pss_cons (ps_for PassesOwn.never rfl (pi_range1 rfl T.b_range (pa_cons (pv 0) pa_nil)) (pg_name (i := 2) sc_law_power.nd rfl (Or.inl rfl)) (pss_one (ps_set (i := 1) sc_law_power.nd rfl (Or.inl rfl) (pe_op op_mul (pv 1) pe_int))))
        (pss_one (ps_ret (pv 1))))), ?_⟩
    obtain ⟨h0, h1, k⟩ := h
    refine ⟨_, rfl, m, rfl, by omega, by omega, for_range (n := m.toNat) (fun i σ H' => ∃ v, σ = [some (.int m), some (.int (2 ^ i)), v] ∧ H' = H) ⟨none, rfl, rfl⟩ ?_ ?_⟩
    · rintro i σ H' hi ⟨v, rfl, rfl⟩
      refine ⟨_, rfl, _, _, rfl, rfl, .inr ⟨by decide, by decide⟩, ?_⟩
      exact ⟨_, rfl, rfl⟩
    · rintro σ H' ⟨v, rfl, rfl⟩
      exact ⟨_, rfl, k⟩
/-! _law_conds -/
def sp_law_conds (K : PySem.W.Frag) : Sp := fun vs H Q E => ∃ _ : Unit, vs = [] ∧ ∀ p H', H p = none → Same H H' → H' p = some (.lst (conds.map V.str)) → Q (.ref p) H'
theorem sc_law_conds : FnScope [] [] (defScope s_law_conds) := ⟨rfl, rfl, rfl, by decide +kernel, rfl, by decide +kernel, by decide +kernel⟩
theorem bd_law_conds (T : Txt w K mg A0) : Binds K A0.d_law_conds [] [] := T.F_law_conds.binds fun _ _ _ _ _ _ us hl => match us, hl with | [], _ => rfl
theorem ok_law_conds (T : Txt w K mg A0) : FnOk P w K mg base CX0 1 A0.a_law_conds A0.d_law_conds [] (sp_law_conds K) := by
  refine T.F_law_conds.ok sc_law_conds (fun vs H Q E h => ?_) (fun cdv A outer s H vs Q E hr h => ?_)
  · obtain ⟨_, rfl, _⟩ := h
    rfl
  · obtain ⟨_, rfl, h⟩ := h
    refine ⟨_, (pss_one (ps_ret (pe_lst (pa_cons pe_str (pa_cons pe_str (pa_cons pe_str (pa_cons pe_str (pa_cons pe_str (pa_cons pe_str (pa_cons pe_str (pa_cons pe_str (pa_cons pe_str (pa_cons pe_str (pa_cons pe_str (pa_cons pe_str pa_nil))))))))))))))), ?_⟩
    exact ⟨(by show 12 ≤ sizeLine; decide), fun p hp => h p _ hp (sameNew hp) upd_same⟩
/-! _law_kind -/
def sp_law_kind (K : PySem.W.Frag) (A0 : Ad) : Sp := fun vs H Q E => ∃ (a : Addr) (j : Nat) (C : Addr) (v : V), vs = [.ref a] ∧ ErrK H a C "value" v ∧ [A0.c_InvalidWidth, A0.c_InvalidWords, A0.c_InvalidOutcome, A0.c_InvalidCondition, A0.c_InvalidRanking, A0.c_InvalidKnowledge, A0.c_InvalidProgram, A0.c_InvalidRow, A0.c_InvalidRegister, A0.c_InvalidQuery, A0.c_InvalidTable, A0.c_InvalidNumber, A0.c_UnlikeInputs, A0.c_NothingToUndo, A0.c_Unreadable][j]? = some C ∧ kindName j ≠ "odd" ∧ ∀ H', Same H H' → Q (.str (kindName j)) H'
theorem sc_law_kind : FnScope ["caught", "some", "odd"] ["caught"] (defScope s_law_kind) := ⟨rfl, rfl, rfl, by decide +kernel, rfl, by decide +kernel, by decide +kernel⟩
theorem bd_law_kind (T : Txt w K mg A0) : Binds K A0.d_law_kind ["caught"] [] := T.F_law_kind.binds fun _ _ _ _ _ _ us hl => match us, hl with | [_], _ => rfl
set_option maxHeartbeats 0 in
theorem ok_law_kind (T : Txt w K mg A0) : FnOk P w K mg base CX0 1 A0.a_law_kind A0.d_law_kind ["caught"] (sp_law_kind K A0) := by
  refine T.F_law_kind.ok sc_law_kind (fun vs H Q E h => ?_) (fun cdv A outer s H vs Q E hr h => ?_)
  · obtain ⟨a, j, C, v, rfl, _⟩ := h
    rfl
  · obtain ⟨a, j, C, v, rfl, h⟩ := h
    refine ⟨_, (pss_cons (ps_set (i := 1) sc_law_kind.nd rfl (Or.inl rfl) (pe_lst (pa_cons (pe_callB call_isK (by rfl) T.b_isinstance (by decide +kernel) (pa_cons (pv 0) (pa_cons (pe_glob (v := .ref A0.c_InvalidWidth) rfl T.gc_InvalidWidth rfl) pa_nil))) (pa_cons (pe_callB call_isK (by rfl) T.b_isinstance (by decide +kernel) (pa_cons (pv 0) (pa_cons (pe_glob (v := .ref A0.c_InvalidWords) rfl T.gc_InvalidWords rfl) pa_nil))) (pa_cons (pe_callB call_isK (by rfl) T.b_isinstance (by decide +kernel) (pa_cons (pv 0) (pa_cons (pe_glob (v := .ref A0.c_InvalidOutcome) rfl T.gc_InvalidOutcome rfl) pa_nil))) pa_nil)))))
        (pss_cons (ps_set (i := 1) sc_law_kind.nd rfl (Or.inl rfl) (pe_op op_cat (pv 1) (pe_lst (pa_cons (pe_callB call_isK (by rfl) T.b_isinstance (by decide +kernel) (pa_cons (pv 0) (pa_cons (pe_glob (v := .ref A0.c_InvalidCondition) rfl T.gc_InvalidCondition rfl) pa_nil))) (pa_cons (pe_callB call_isK (by rfl) T.b_isinstance (by decide +kernel) (pa_cons (pv 0) (pa_cons (pe_glob (v := .ref A0.c_InvalidRanking) rfl T.gc_InvalidRanking rfl) pa_nil))) pa_nil)))))
        (pss_cons (ps_set (i := 1) sc_law_kind.nd rfl (Or.inl rfl) (pe_op op_cat (pv 1) (pe_lst (pa_cons (pe_callB call_isK (by rfl) T.b_isinstance (by decide +kernel) (pa_cons (pv 0) (pa_cons (pe_glob (v := .ref A0.c_InvalidProgram) rfl T.gc_InvalidProgram rfl) pa_nil))) (pa_cons (pe_callB call_isK (by rfl) T.b_isinstance (by decide +kernel) (pa_cons (pv 0) (pa_cons (pe_glob (v := .ref A0.c_InvalidRow) rfl T.gc_InvalidRow rfl) pa_nil))) pa_nil)))))
        (pss_cons (ps_set (i := 1) sc_law_kind.nd rfl (Or.inl rfl) (pe_op op_cat (pv 1) (pe_lst (pa_cons (pe_callB call_isK (by rfl) T.b_isinstance (by decide +kernel) (pa_cons (pv 0) (pa_cons (pe_glob (v := .ref A0.c_InvalidNumber) rfl T.gc_InvalidNumber rfl) pa_nil))) (pa_cons (pe_callB call_isK (by rfl) T.b_isinstance (by decide +kernel) (pa_cons (pv 0) (pa_cons (pe_glob (v := .ref A0.c_UnlikeInputs) rfl T.gc_UnlikeInputs rfl) pa_nil))) pa_nil)))))
        (pss_cons (ps_set (i := 2) sc_law_kind.nd rfl (Or.inl rfl) (pe_callB call_isK (by rfl) T.b_isinstance (by decide +kernel) (pa_cons (pv 0) (pa_cons (pe_tup (pa_cons (pe_glob (v := .ref A0.c_InvalidKnowledge) rfl T.gc_InvalidKnowledge rfl) (pa_cons (pe_glob (v := .ref A0.c_InvalidRegister) rfl T.gc_InvalidRegister rfl) (pa_cons (pe_glob (v := .ref A0.c_InvalidQuery) rfl T.gc_InvalidQuery rfl) (pa_cons (pe_glob (v := .ref A0.c_InvalidTable) rfl T.gc_InvalidTable rfl) (pa_cons (pe_glob (v := .ref A0.c_NothingToUndo) rfl T.gc_NothingToUndo rfl) (pa_cons (pe_glob (v := .ref A0.c_Unreadable) rfl T.gc_Unreadable rfl) pa_nil))))))) pa_nil))))
        (pss_cons (ps_if (PW.pt (pw_or (pt_val (pv 2)) (pw_or (pt_not (pt_val (pe_callB call_isK (by rfl) T.b_isinstance (by decide +kernel) (pa_cons (pv 0) (pa_cons (pe_glob (v := .ref A0.c_BranchError) rfl T.gc_BranchError rfl) pa_nil))))) (pw_or (pt_not (pt_val (pe_callB call_isK (by rfl) T.b_isinstance (by decide +kernel) (pa_cons (pv 0) (pa_cons (pe_bltn (v := .ty "ValueError") (by rfl) T.b_ValueError (by decide +kernel) rfl) pa_nil))))) (pw_or1 (pt_cmpR op_ne (pe_bmX (K := K) rfl PySem.F.plainAttrs_list PySem.F.slot_list_count PySem.F.type_list_count (show MtR _ _ (rCntB K) from mt_lcountB) (pv 1) (pa_cons pe_bl pa_nil) rfl rfl rfl rfl rfl) pe_int (nomark _))))))) (pss_one (ps_ret pe_str)) pss_nil)
        (pss_one (ps_ret (pe_ix ix_list (pe_bmX (K := K) rfl PySem.F.plainAttrs_str PySem.F.slot_str_split PySem.F.type_str_split mt_split pe_str (pa_cons pe_str pa_nil) rfl rfl rfl rfl rfl) (pe_bmX (K := K) rfl PySem.F.plainAttrs_list PySem.F.slot_list_index PySem.F.type_list_index (show MtR _ _ (rIndex K) from mt_index) (pv 1) (pa_cons pe_bl pa_nil) rfl rfl rfl rfl rfl) (fun _ _ => rfl)))))))))), ?_⟩
    obtain ⟨ea, eC, kn, k⟩ := h
    obtain ⟨b1, b2, _⟩ := kit_b T.tab eC
    have K0 : ∀ {i : Nat} {d : Addr}, ([A0.c_InvalidWidth, A0.c_InvalidWords, A0.c_InvalidOutcome, A0.c_InvalidCondition, A0.c_InvalidRanking, A0.c_InvalidKnowledge, A0.c_InvalidProgram, A0.c_InvalidRow, A0.c_InvalidRegister, A0.c_InvalidQuery, A0.c_InvalidTable, A0.c_InvalidNumber, A0.c_UnlikeInputs, A0.c_NothingToUndo, A0.c_Unreadable] : List Addr)[i]? = some d → PySem.W.kitOne K (.ref C) (.ref d) = some (decide (j = i)) := fun hd => kit_ij T.tab eC hd
    have jl : j < 15 := (List.getElem?_eq_some_iff.mp eC).1
    have ec : ExcC K C := by
      match j, jl, eC with
      | 0, _, z => cases z; exact T.er_InvalidWidth.ec
      | 1, _, z => cases z; exact T.er_InvalidWords.ec
      | 2, _, z => cases z; exact T.er_InvalidOutcome.ec
      | 3, _, z => cases z; exact T.er_InvalidCondition.ec
      | 4, _, z => cases z; exact T.er_InvalidRanking.ec
      | 5, _, z => cases z; exact T.er_InvalidKnowledge.ec
      | 6, _, z => cases z; exact T.er_InvalidProgram.ec
      | 7, _, z => cases z; exact T.er_InvalidRow.ec
      | 8, _, z => cases z; exact T.er_InvalidRegister.ec
      | 9, _, z => cases z; exact T.er_InvalidQuery.ec
      | 10, _, z => cases z; exact T.er_InvalidTable.ec
      | 11, _, z => cases z; exact T.er_InvalidNumber.ec
      | 12, _, z => cases z; exact T.er_UnlikeInputs.ec
      | 13, _, z => cases z; exact T.er_NothingToUndo.ec
      | 14, _, z => cases z; exact T.er_Unreadable.ec
    have isn : ∀ {i : Nat} {d : Addr} {H' : Hp} {Q' : VK}, ([A0.c_InvalidWidth, A0.c_InvalidWords, A0.c_InvalidOutcome, A0.c_InvalidCondition, A0.c_InvalidRanking, A0.c_InvalidKnowledge, A0.c_InvalidProgram, A0.c_InvalidRow, A0.c_InvalidRegister, A0.c_InvalidQuery, A0.c_InvalidTable, A0.c_InvalidNumber, A0.c_UnlikeInputs, A0.c_NothingToUndo, A0.c_Unreadable] : List Addr)[i]? = some d → Same H H' → Q' (.bl (decide (j = i))) H' → rIsK K [.ref a, .ref d] H' Q' := fun hd s q => .inl ⟨a, C, _, v, _, _, _, rfl, ea.same s, ec, .own _, K0 hd, q⟩
    obtain ⟨nk, cn, idx, i9, at9, nm, pre⟩ := kind_of kn jl
    refine ⟨_, rfl, isn (i := 0) rfl (Same.refl H) ?_⟩
    refine ⟨_, rfl, isn (i := 1) rfl (Same.refl H) ?_⟩
    refine ⟨_, rfl, isn (i := 2) rfl (Same.refl H) ?_⟩
    refine ⟨(by show 3 ≤ sizeLine; decide), fun l1 h1 => ?_⟩
    have s1 := sameNew h1 (o := .lst [.bl (decide (j = 0)), .bl (decide (j = 1)), .bl (decide (j = 2))])
    refine ⟨_, rfl, _, rfl, isn (i := 3) rfl s1 ?_⟩
    refine ⟨_, rfl, isn (i := 4) rfl s1 ?_⟩
    refine ⟨(by show 2 ≤ sizeLine; decide), fun l2 h2 => ?_⟩
    have s2 := sameNew h2 (o := .lst [.bl (decide (j = 3)), .bl (decide (j = 4))])
    refine ⟨l1, l2, _, _, rfl, rfl, s2 _ _ upd_same, upd_same, (by show 5 ≤ sizeLine; decide), fun l3 h3 => ?_⟩
    have s3 := s1.trans (s2.trans (sameNew h3 (o := .lst ([.bl (decide (j = 0)), .bl (decide (j = 1)), .bl (decide (j = 2))] ++ [.bl (decide (j = 3)), .bl (decide (j = 4))]))))
    obtain ⟨H3, eH3⟩ : ∃ H3, H3 = (upd (upd (upd H l1 (.lst [.bl (decide (j = 0)), .bl (decide (j = 1)), .bl (decide (j = 2))])) l2 (.lst [.bl (decide (j = 3)), .bl (decide (j = 4))])) l3 (.lst ([.bl (decide (j = 0)), .bl (decide (j = 1)), .bl (decide (j = 2))] ++ [.bl (decide (j = 3)), .bl (decide (j = 4))]))) := ⟨_, rfl⟩
    have e3 : H3 l3 = some (.lst [.bl (decide (j = 0)), .bl (decide (j = 1)), .bl (decide (j = 2)), .bl (decide (j = 3)), .bl (decide (j = 4))]) := by rw [eH3]; exact upd_same
    rw [← eH3] at s3 ⊢
    clear eH3
    refine ⟨_, rfl, _, rfl, isn (i := 6) rfl s3 ?_⟩
    refine ⟨_, rfl, isn (i := 7) rfl s3 ?_⟩
    refine ⟨(by show 2 ≤ sizeLine; decide), fun l4 h4 => ?_⟩
    have t4 := sameNew h4 (o := .lst [.bl (decide (j = 6)), .bl (decide (j = 7))])
    refine ⟨l3, l4, _, _, rfl, rfl, t4 _ _ e3, upd_same, (by show 7 ≤ sizeLine; decide), fun l5 h5 => ?_⟩
    have s5 := s3.trans (t4.trans (sameNew h5 (o := .lst ([.bl (decide (j = 0)), .bl (decide (j = 1)), .bl (decide (j = 2)), .bl (decide (j = 3)), .bl (decide (j = 4))] ++ [.bl (decide (j = 6)), .bl (decide (j = 7))]))))
    obtain ⟨H5, eH5⟩ : ∃ H5, H5 = (upd (upd H3 l4 (.lst [.bl (decide (j = 6)), .bl (decide (j = 7))])) l5 (.lst ([.bl (decide (j = 0)), .bl (decide (j = 1)), .bl (decide (j = 2)), .bl (decide (j = 3)), .bl (decide (j = 4))] ++ [.bl (decide (j = 6)), .bl (decide (j = 7))]))) := ⟨_, rfl⟩
    have e5 : H5 l5 = some (.lst [.bl (decide (j = 0)), .bl (decide (j = 1)), .bl (decide (j = 2)), .bl (decide (j = 3)), .bl (decide (j = 4)), .bl (decide (j = 6)), .bl (decide (j = 7))]) := by rw [eH5]; exact upd_same
    rw [← eH5] at s5 ⊢
    clear eH5
    refine ⟨_, rfl, _, rfl, isn (i := 11) rfl s5 ?_⟩
    refine ⟨_, rfl, isn (i := 12) rfl s5 ?_⟩
    refine ⟨(by show 2 ≤ sizeLine; decide), fun l6 h6 => ?_⟩
    have t6 := sameNew h6 (o := .lst [.bl (decide (j = 11)), .bl (decide (j = 12))])
    refine ⟨l5, l6, _, _, rfl, rfl, t6 _ _ e5, upd_same, (by show 9 ≤ sizeLine; decide), fun l7 h7 => ?_⟩
    have s7 := s5.trans (t6.trans (sameNew h7 (o := .lst ([.bl (decide (j = 0)), .bl (decide (j = 1)), .bl (decide (j = 2)), .bl (decide (j = 3)), .bl (decide (j = 4)), .bl (decide (j = 6)), .bl (decide (j = 7))] ++ [.bl (decide (j = 11)), .bl (decide (j = 12))]))))
    obtain ⟨H7, eH7⟩ : ∃ H7, H7 = (upd (upd H5 l6 (.lst [.bl (decide (j = 11)), .bl (decide (j = 12))])) l7 (.lst ([.bl (decide (j = 0)), .bl (decide (j = 1)), .bl (decide (j = 2)), .bl (decide (j = 3)), .bl (decide (j = 4)), .bl (decide (j = 6)), .bl (decide (j = 7))] ++ [.bl (decide (j = 11)), .bl (decide (j = 12))]))) := ⟨_, rfl⟩
    have e7 : H7 l7 = some (.lst [.bl (decide (j = 0)), .bl (decide (j = 1)), .bl (decide (j = 2)), .bl (decide (j = 3)), .bl (decide (j = 4)), .bl (decide (j = 6)), .bl (decide (j = 7)), .bl (decide (j = 11)), .bl (decide (j = 12))]) := by rw [eH7]; exact upd_same
    rw [← eH7] at s7 ⊢
    clear eH7
    change H7 l7 = some (.lst ((bsOf j).map V.bl)) at e7
    refine ⟨_, rfl, (by show 6 ≤ sizeLine; decide), fun tp htp => ?_⟩
    have s8 := s7.trans (sameNew htp (o := .tup [.ref A0.c_InvalidKnowledge, .ref A0.c_InvalidRegister, .ref A0.c_InvalidQuery, .ref A0.c_InvalidTable, .ref A0.c_NothingToUndo, .ref A0.c_Unreadable]))
    have e8 := (sameNew htp (o := .tup [.ref A0.c_InvalidKnowledge, .ref A0.c_InvalidRegister, .ref A0.c_InvalidQuery, .ref A0.c_InvalidTable, .ref A0.c_NothingToUndo, .ref A0.c_Unreadable])) _ _ e7
    have kf : ∀ (i : Nat) (d : Addr), ([A0.c_InvalidWidth, A0.c_InvalidWords, A0.c_InvalidOutcome, A0.c_InvalidCondition, A0.c_InvalidRanking, A0.c_InvalidKnowledge, A0.c_InvalidProgram, A0.c_InvalidRow, A0.c_InvalidRegister, A0.c_InvalidQuery, A0.c_InvalidTable, A0.c_InvalidNumber, A0.c_UnlikeInputs, A0.c_NothingToUndo, A0.c_Unreadable] : List Addr)[i]? = some d → i ∈ ([5, 8, 9, 10, 13, 14] : List Nat) → PySem.W.kitOne K (.ref C) (.ref d) = some false := fun i d hd m => by rw [K0 hd, decide_eq_false (nk i m)]
    refine .inr ⟨a, C, _, v, tp, _, [.ref A0.c_InvalidKnowledge, .ref A0.c_InvalidRegister, .ref A0.c_InvalidQuery, .ref A0.c_InvalidTable, .ref A0.c_NothingToUndo, .ref A0.c_Unreadable], false, rfl, ea.same s8, ec, upd_same, .cons (.own _) (.cons (.own _) (.cons (.own _) (.cons (.own _) (.cons (.own _) (.cons (.own _) .nil))))), ?_, ?_⟩
    · refine kitAny_no fun u m => ?_
      rcases List.mem_cons.mp m with rfl | m
      · exact kf 5 _ rfl (by decide)
      rcases List.mem_cons.mp m with rfl | m
      · exact kf 8 _ rfl (by decide)
      rcases List.mem_cons.mp m with rfl | m
      · exact kf 9 _ rfl (by decide)
      rcases List.mem_cons.mp m with rfl | m
      · exact kf 10 _ rfl (by decide)
      rcases List.mem_cons.mp m with rfl | m
      · exact kf 13 _ rfl (by decide)
      rw [List.mem_singleton.mp m]
      exact kf 14 _ rfl (by decide)
    refine ⟨_, rfl, false, rfl, ?_⟩
    refine tF rfl ?_
    refine ⟨_, rfl, .inl ⟨a, C, _, v, _, _, true, rfl, ea.same s8, ec, .own _, b1, _, rfl, ?_⟩⟩
    refine tF rfl ?_
    refine ⟨_, rfl, .inl ⟨a, C, _, v, _, _, true, rfl, ea.same s8, ec, .ty _, b2, _, rfl, ?_⟩⟩
    refine tF rfl ?_
    refine ⟨_, rfl, .inl ⟨rfl, _, SqL.of e8⟩, l7, bsOf j, true, rfl, rfl, SqL.of e8, rfl, _, rfl, ?_⟩
    refine tF (by rw [cn]; rfl) ?_
    refine ⟨rfl, _, _, rfl, rfl, rfl, (by rw [sizeLine_eq]; decide), fun p hp => ?_⟩
    rw [kindSplit]
    have s9 := s8.trans (sameNew hp (o := .lst (kindNames.map V.str)))
    have e9 := (sameNew hp (o := .lst (kindNames.map V.str))) _ _ e8
    refine ⟨_, rfl, .inl ⟨rfl, _, SqL.of e9⟩, l7, (bsOf j).map V.bl, .bl true, idx, .bl true, rfl, rfl, SqL.of e9, rfl, List.all_eq_true.mpr (fun x m => by obtain ⟨b, _, rfl⟩ := List.mem_map.mp m; rfl), by rw [List.getElem?_map, at9]; rfl, rfl, (fun m z hm hz => by
      rw [List.getElem?_map, pre m hm] at hz
      cases hz
      rfl), ?_⟩
    exact ⟨p, _, (idx : Int), .str (kindName j), rfl, rfl, SqL.of upd_same, at_of (j := idx) rfl (by rw [List.getElem?_map, nm]; rfl), k _ s9⟩
/-! _signed_value -/
def sp_signed_value (K : PySem.W.Frag) : Sp := fun vs H Q E => ∃ wd x : Int, vs = [.int wd, .int x] ∧ 1 ≤ wd ∧ wd ≤ 1000 ∧ Q (.int (sv wd x)) H
theorem sc_signed_value : FnScope ["width", "word"] ["width", "word"] (defScope s_signed_value) := ⟨rfl, rfl, rfl, by decide +kernel, rfl, by decide +kernel, by decide +kernel⟩
theorem bd_signed_value (T : Txt w K mg A0) : Binds K A0.d_signed_value ["width", "word"] [] := T.F_signed_value.binds fun _ _ _ _ _ _ us hl => match us, hl with | [_, _], _ => rfl
theorem ok_signed_value (T : Txt w K mg A0) : FnOk P w K mg base CX0 2 A0.a_signed_value A0.d_signed_value ["width", "word"] (sp_signed_value K) := by
  refine T.F_signed_value.ok sc_signed_value (fun vs H Q E h => ?_) (fun cdv A outer s H vs Q E hr h => ?_)
  · obtain ⟨wd, x, rfl, _⟩ := h
    rfl
  · obtain ⟨wd, x, rfl, h⟩ := h
    refine ⟨_, (pss_one (ps_ret (pe_ifExp (pt_cmpR op_ge (pv 1) (pe_call (ok_sign_bit T) (hr.mono (by decide)) rfl T.g_sign_bit T.F_sign_bit.kp (bd_sign_bit T) .nil pass0 (pa_cons (pv 0) pa_nil)) (nomark _)) (pe_op op_sub (pv 1) (pe_op op_shl pe_int (pv 0))) (pv 1)))), ?_⟩
    obtain ⟨h1, h2, k⟩ := h
    refine ⟨_, rfl, _, rfl, wd, rfl, h1, h2, _, _, rfl, rfl, _, rfl, ?_⟩
    unfold sv at k
    by_cases c : (2 : Int) ^ (wd - 1).toNat ≤ x
    · rw [if_pos c] at k
      refine tT (decide_eq_true c) ?_
      refine ⟨_, rfl, _, rfl, _, _, rfl, rfl, ⟨by omega, by omega, by decide⟩, _, _, rfl, rfl, ?_⟩
      show Q (.int (x - 1 * 2 ^ wd.toNat)) H
      rw [Int.one_mul]
      exact k
    · rw [if_neg c] at k
      refine tF (decide_eq_false c) ?_
      exact ⟨_, rfl, k⟩
/-! _law_wide -/
def sp_law_wide (K : PySem.W.Frag) : Sp := fun vs H Q E => ∃ (p : Addr) (n : Nat), vs = [.ref p] ∧ Pool H p n ∧ n ≤ 90000 ∧ ∀ wd H', 1 ≤ wd → wd ≤ 300 → Pool H' p (n + 4) → But p H H' → Q (.int wd) H'
theorem sc_law_wide : FnScope ["pool", "some"] ["pool"] (defScope s_law_wide) := ⟨rfl, rfl, rfl, by decide +kernel, rfl, by decide +kernel, by decide +kernel⟩
theorem bd_law_wide (T : Txt w K mg A0) : Binds K A0.d_law_wide ["pool"] [] := T.F_law_wide.binds fun _ _ _ _ _ _ us hl => match us, hl with | [_], _ => rfl
theorem ok_law_wide (T : Txt w K mg A0) : FnOk P w K mg base CX0 2 A0.a_law_wide A0.d_law_wide ["pool"] (sp_law_wide K) := by
  refine T.F_law_wide.ok sc_law_wide (fun vs H Q E h => ?_) (fun cdv A outer s H vs Q E hr h => ?_)
  · obtain ⟨p, n, rfl, _⟩ := h
    rfl
  · obtain ⟨p, n, rfl, h⟩ := h
    refine ⟨_, (pss_cons (ps_set (i := 1) sc_law_wide.nd rfl (Or.inl rfl) (pe_lst (pa_cons (pe_op op_add pe_int (pe_call (ok_law_draw T) (hr.mono (by decide)) rfl T.g_law_draw T.F_law_draw.kp (bd_law_draw T) .nil pass0 (pa_cons (pv 0) (pa_cons pe_int pa_nil)))) (pa_cons (pe_ix ix_list (pe_lst (pa_cons pe_int (pa_cons pe_int (pa_cons pe_int (pa_cons pe_int (pa_cons pe_int pa_nil)))))) (pe_call (ok_law_draw T) (hr.mono (by decide)) rfl T.g_law_draw T.F_law_draw.kp (bd_law_draw T) .nil pass0 (pa_cons (pv 0) (pa_cons pe_int pa_nil))) (fun _ _ => rfl)) (pa_cons (pe_op op_add pe_int (pe_call (ok_law_draw T) (hr.mono (by decide)) rfl T.g_law_draw T.F_law_draw.kp (bd_law_draw T) .nil pass0 (pa_cons (pv 0) (pa_cons pe_int pa_nil)))) pa_nil)))))
        (pss_one (ps_ret (pe_ix ix_list (pv 1) (pe_call (ok_law_draw T) (hr.mono (by decide)) rfl T.g_law_draw T.F_law_draw.kp (bd_law_draw T) .nil pass0 (pa_cons (pv 0) (pa_cons pe_int pa_nil))) (fun _ _ => rfl))))), ?_⟩
    obtain ⟨pl, hn, k⟩ := h
    refine ⟨_, rfl, p, 4, n, rfl, pl, by omega, by decide, by decide, fun d1 H1 l1 u1 pl1 b1 => ?_⟩
    refine ⟨_, _, rfl, rfl, ?_⟩
    refine ⟨(by show 5 ≤ sizeLine; decide), fun q hq => ?_⟩
    refine ⟨_, rfl, p, 5, n + 1, rfl, pl1.new hq, by omega, by decide, by decide, fun d2 H2 l2 u2 pl2 b2 => ?_⟩
    have nqp : q ≠ p := pl1.ne hq
    obtain ⟨w5, e5, i5, j5⟩ : ∃ w5 : Int, atI [V.int 8, V.int 16, V.int 32, V.int 64, V.int 300] d2 = some (.int w5) ∧ 1 ≤ w5 ∧ w5 ≤ 300 := by
      have : d2 = 0 ∨ d2 = 1 ∨ d2 = 2 ∨ d2 = 3 ∨ d2 = 4 := by omega
      rcases this with rfl | rfl | rfl | rfl | rfl <;> exact ⟨_, rfl, by decide, by decide⟩
    refine ⟨q, _, d2, .int w5, rfl, rfl, SqL.of (b2 q _ nqp upd_same), e5, ?_⟩
    refine ⟨_, rfl, p, 300, n + 2, rfl, pl2, by omega, by decide, by decide, fun d3 H3 l3 u3 pl3 b3 => ?_⟩
    refine ⟨_, _, rfl, rfl, ?_⟩
    refine ⟨(by show 3 ≤ sizeLine; decide), fun r hr' => ?_⟩
    have nrp : r ≠ p := pl3.ne hr'
    refine ⟨_, rfl, _, rfl, p, 3, n + 3, rfl, pl3.new hr', by omega, by decide, by decide, fun d4 H4 l4 u4 pl4 b4 => ?_⟩
    obtain ⟨w3, e3, i3, j3⟩ : ∃ w3 : Int, atI [V.int (1 + d1), V.int w5, V.int (1 + d3)] d4 = some (.int w3) ∧ 1 ≤ w3 ∧ w3 ≤ 300 := by
      have : d4 = 0 ∨ d4 = 1 ∨ d4 = 2 := by omega
      rcases this with rfl | rfl | rfl
      · exact ⟨_, rfl, by omega, by omega⟩
      · exact ⟨_, rfl, i5, j5⟩
      · exact ⟨_, rfl, by omega, by omega⟩
    refine ⟨r, _, d4, .int w3, rfl, rfl, SqL.of (b4 r _ nrp upd_same), e3, ?_⟩
    exact k w3 H4 i3 j3 pl4 (b1.trans ((But.new hq).trans (b2.trans (b3.trans ((But.new hr').trans b4)))))
/-! _law_word -/
def sp_law_word (K : PySem.W.Frag) : Sp := fun vs H Q E => ∃ (p : Addr) (wd : Int) (n : Nat), vs = [.ref p, .int wd] ∧ Pool H p n ∧ n ≤ 90000 ∧ 1 ≤ wd ∧ wd ≤ 300 ∧ ∀ v H', 0 ≤ v → v < 2 ^ wd.toNat → Pool H' p (n + 3) → But p H H' → Q (.int v) H'
theorem sc_law_word : FnScope ["pool", "wide", "top", "half", "some"] ["pool", "wide"] (defScope s_law_word) := ⟨rfl, rfl, rfl, by decide +kernel, rfl, by decide +kernel, by decide +kernel⟩
theorem bd_law_word (T : Txt w K mg A0) : Binds K A0.d_law_word ["pool", "wide"] [] := T.F_law_word.binds fun _ _ _ _ _ _ us hl => match us, hl with | [_, _], _ => rfl
theorem ok_law_word (T : Txt w K mg A0) : FnOk P w K mg base CX0 2 A0.a_law_word A0.d_law_word ["pool", "wide"] (sp_law_word K) := by
  refine T.F_law_word.ok sc_law_word (fun vs H Q E h => ?_) (fun cdv A outer s H vs Q E hr h => ?_)
  · obtain ⟨p, wd, n, rfl, _⟩ := h
    rfl
  · obtain ⟨p, wd, n, rfl, h⟩ := h
    refine ⟨_, (pss_cons (ps_par (i := 2) (j := 3) rfl sc_law_word.nd rfl rfl (by decide) rfl rfl (pa_cons (pe_call (ok_law_power T) (hr.mono (by decide)) rfl T.g_law_power T.F_law_power.kp (bd_law_power T) .nil pass0 (pa_cons (pv 1) pa_nil)) (pa_cons (pe_call (ok_law_power T) (hr.mono (by decide)) rfl T.g_law_power T.F_law_power.kp (bd_law_power T) .nil pass0 (pa_cons (pe_op op_sub (pv 1) pe_int) pa_nil)) pa_nil)) rfl)
        (pss_cons (ps_set (i := 4) sc_law_word.nd rfl (Or.inl rfl) (pe_lst (pa_cons pe_int (pa_cons pe_int (pa_cons (pe_op op_sub (pv 3) pe_int) (pa_cons (pv 3) (pa_cons (pe_op op_add (pv 3) pe_int) (pa_cons (pe_op op_sub (pv 2) pe_int) (pa_cons (pe_call (ok_law_draw T) (hr.mono (by decide)) rfl T.g_law_draw T.F_law_draw.kp (bd_law_draw T) .nil pass0 (pa_cons (pv 0) (pa_cons (pv 2) pa_nil))) (pa_cons (pe_call (ok_law_draw T) (hr.mono (by decide)) rfl T.g_law_draw T.F_law_draw.kp (bd_law_draw T) .nil pass0 (pa_cons (pv 0) (pa_cons (pv 2) pa_nil))) pa_nil))))))))))
        (pss_one (ps_ret (pe_op op_mod (pe_ix ix_list (pv 4) (pe_call (ok_law_draw T) (hr.mono (by decide)) rfl T.g_law_draw T.F_law_draw.kp (bd_law_draw T) .nil pass0 (pa_cons (pv 0) (pa_cons pe_int pa_nil))) (fun _ _ => rfl)) (pv 2)))))), ?_⟩
    obtain ⟨pl, hn, h1, h2, k⟩ := h
    have top0 : (0 : Int) < 2 ^ wd.toNat := pow_pos _
    have top1 : (2 : Int) ^ wd.toNat < 2 ^ 400 := pow_lt (by omega)
    refine ⟨_, rfl, wd, rfl, by omega, by omega, _, rfl, _, _, rfl, rfl, wd - 1, rfl, by omega, by omega, _, _, rfl, ?_⟩
    refine ⟨_, rfl, _, _, rfl, rfl, _, rfl, _, rfl, _, _, rfl, rfl, _, rfl, _, _, rfl, rfl, ?_⟩
    refine ⟨_, rfl, _, rfl, p, _, n, rfl, pl, by omega, top0, top1, fun d1 H1 l1 u1 pl1 b1 => ?_⟩
    refine ⟨_, rfl, _, rfl, p, _, n + 1, rfl, pl1, by omega, top0, top1, fun d2 H2 l2 u2 pl2 b2 => ?_⟩
    refine ⟨(by show 8 ≤ sizeLine; decide), fun r hr' => ?_⟩
    have nrp : r ≠ p := pl2.ne hr'
    refine ⟨_, rfl, _, rfl, p, 8, n + 2, rfl, pl2.new hr', by omega, by decide, by decide, fun d4 H4 l4 u4 pl4 b4 => ?_⟩
    obtain ⟨w3, e3⟩ : ∃ w3 : Int, atI [V.int 0, V.int 1, V.int (2 ^ (wd - 1).toNat - 1), V.int (2 ^ (wd - 1).toNat), V.int (2 ^ (wd - 1).toNat + 1), V.int (2 ^ wd.toNat - 1), V.int d1, V.int d2] d4 = some (.int w3) := by
      have : d4 = 0 ∨ d4 = 1 ∨ d4 = 2 ∨ d4 = 3 ∨ d4 = 4 ∨ d4 = 5 ∨ d4 = 6 ∨ d4 = 7 := by omega
      rcases this with rfl | rfl | rfl | rfl | rfl | rfl | rfl | rfl <;> exact ⟨_, rfl⟩
    refine ⟨r, _, d4, .int w3, rfl, rfl, SqL.of (b4 r _ nrp upd_same), e3, _, rfl, _, _, rfl, rfl, top0, ?_⟩
    exact k _ H4 (Int.emod_nonneg _ (by omega)) (Int.emod_lt_of_pos _ top0) pl4 (b1.trans (b2.trans ((But.new hr').trans b4)))
/-! check_width -/
def sp_check_width (K : PySem.W.Frag) (A0 : Ad) : Sp := fun vs H Q E => ∃ wd : Int, vs = [.int wd] ∧ (1 ≤ wd → Q .non H) ∧ (wd < 1 → Lets A0.c_InvalidWidth (.int wd) H E)
theorem sc_check_width : FnScope ["width"] ["width"] (defScope s_check_width) := ⟨rfl, rfl, rfl, by decide +kernel, rfl, by decide +kernel, by decide +kernel⟩
theorem bd_check_width (T : Txt w K mg A0) : Binds K A0.d_check_width ["width"] [] := T.F_check_width.binds fun _ _ _ _ _ _ us hl => match us, hl with | [_], _ => rfl
theorem ok_check_width (T : Txt w K mg A0) : FnOk P w K mg base (L2.CX P w) 3 A0.a_check_width A0.d_check_width ["width"] (sp_check_width K A0) := by
  refine T.F_check_width.okX sc_check_width (fun vs H Q E h => ?_) (fun cdv A outer s H vs Q E hr h => ?_)
  · obtain ⟨wd, rfl, _⟩ := h
    rfl
  · obtain ⟨wd, rfl, h⟩ := h
    refine ⟨_, (pss_one (ps_if (pt_cmpR op_lt (pv 0) pe_int (nomark _)) (pss_one (ps_raise rfl (takes_of rfl rfl rfl rfl) (pmk_oex (T.er_InvalidWidth).ox (T.er_InvalidWidth).ii (T.er_InvalidWidth).ti (okI_InvalidWidth T) (hr.mono (by decide)) (bdI_InvalidWidth T) .nil pass0 rfl T.gc_InvalidWidth (pa_cons (pv 0) pa_nil)))) pss_nil)), ?_⟩
    obtain ⟨k, e⟩ := h
    refine ⟨_, rfl, _, _, rfl, rfl, _, rfl, ?_⟩
    by_cases c : wd < 1
    · refine tT (decide_eq_true c) ?_
      exact ⟨_, rfl, mkO_end (e c).now⟩
    · refine tF (decide_eq_false c) ?_
      exact k (by omega)
/-! check_words -/
def sp_check_words (K : PySem.W.Frag) (A0 : Ad) : Sp := fun vs H Q E => ∃ (wd : Int) (t : Addr) (xs : List Int), vs = [.int wd, .ref t] ∧ 1 ≤ wd ∧ wd ≤ 1000 ∧ SqT K H t (xs.map V.int) ∧ ((∀ x ∈ xs, Word wd x) → ∀ H', Same H H' → Q .non H') ∧ ∀ i, BadAt wd xs i → Lets A0.c_InvalidWords (.int (i : Nat)) H E
theorem sc_check_words : FnScope ["width", "words", "index", "word"] ["width", "words"] (defScope s_check_words) := ⟨rfl, rfl, rfl, by decide +kernel, rfl, by decide +kernel, by decide +kernel⟩
theorem bd_check_words (T : Txt w K mg A0) : Binds K A0.d_check_words ["width", "words"] [] := T.F_check_words.binds fun _ _ _ _ _ _ us hl => match us, hl with | [_, _], _ => rfl
theorem ok_check_words (T : Txt w K mg A0) : FnOk P w K mg base (L2.CX P w) 3 A0.a_check_words A0.d_check_words ["width", "words"] (sp_check_words K A0) := by
  refine T.F_check_words.okX sc_check_words (fun vs H Q E h => ?_) (fun cdv A outer s H vs Q E hr h => ?_)
  · obtain ⟨wd, t, xs, rfl, _⟩ := h
    rfl
  · obtain ⟨wd, t, xs, rfl, h⟩ := h
    refine ⟨_, (pss_one (ps_for (passes_of rfl) rfl (pi_enumT rfl T.b_enumerate (pa_cons (pv 1) pa_nil)) (pg_tup rfl (pgs_cons (pg_name (i := 2) sc_check_words.nd rfl (Or.inl rfl)) (pgs_cons (pg_name (i := 3) sc_check_words.nd rfl (Or.inl rfl)) pgs_nil))) (pss_one (ps_if (pt_not (pt_val (pe_call (ok_is_word T) (hr.mono (by decide)) rfl T.g_is_word T.F_is_word.kp (bd_is_word T) .nil pass0 (pa_cons (pv 0) (pa_cons (pv 3) pa_nil))))) (pss_one (ps_raise rfl (takes_of rfl rfl rfl rfl) (pmk_oex (T.er_InvalidWords).ox (T.er_InvalidWords).ii (T.er_InvalidWords).ti (okI_InvalidWords T) (hr.mono (by decide)) (bdI_InvalidWords T) .nil pass0 rfl T.gc_InvalidWords (pa_cons (pv 2) pa_nil)))) pss_nil)))), ?_⟩
    obtain ⟨h1, h2, ht, k, e⟩ := h
    refine ⟨_, rfl, t, _, rfl, ht, for_it walk_enumT (fun i σ H' => ∃ u v, σ = [some (.int wd), some (.ref t), u, v] ∧ Same H H' ∧ ∀ (j : Nat) (y : Int), j < i → xs[j]? = some y → Word wd y) ⟨none, none, rfl, Same.refl H, fun j y z => absurd z (Nat.not_lt_zero j)⟩ (fun i σ H' _ hp => ?_) ?_ ?_⟩
    · obtain ⟨_, _, _, s, _⟩ := hp
      exact sameT s ht
    · rintro i x σ H1 H2 hi ⟨u, v, rfl, s, pre⟩ ⟨T1, x1, y, rfl, fr, rfl, e1, e2⟩
      cases e1
      obtain ⟨z, hz, rfl⟩ := map_at e2
      have s2 : Same H (upd H1 T1 (.tup [.int (i : Nat), .int z])) := s.trans (sameNew fr)
      refine ⟨T1, _, rfl, SqT.of upd_same, rfl, _, _, rfl, _, _, rfl, rfl, ?_⟩
      refine ⟨_, rfl, _, rfl, wd, z, rfl, h1, h2, _, rfl, ?_⟩
      have bad : ¬ Word wd z → Lets A0.c_InvalidWords (.int (i : Nat)) (upd H1 T1 (.tup [.int (i : Nat), .int z])) E := fun c => (e i ⟨z, hz, c, pre⟩).later s2
      by_cases c : 0 ≤ z ∧ z < 2 ^ wd.toNat
      · refine tF (by rw [decide_eq_true c.1, decide_eq_true c.2]; rfl) ?_
        refine ⟨_, _, rfl, s2, fun j y hj hy => ?_⟩
        by_cases cj : j = i
        · rw [cj, hz] at hy
          cases hy
          exact c
        · exact pre j y (by omega) hy
      · refine tT (by rw [← Bool.decide_and, decide_eq_false c]; rfl) ?_
        exact ⟨_, rfl, mkO_end (bad c).now⟩
    · rintro σ H' ⟨u, v, rfl, s, pre⟩
      refine k (fun x m => ?_) H' s
      obtain ⟨j, hj, e⟩ := List.mem_iff_getElem.mp m
      exact pre j x (by rw [List.length_map]; exact hj) (by rw [List.getElem?_eq_getElem hj, e])
/-! check_outcome -/
def sp_check_outcome (K : PySem.W.Frag) (A0 : Ad) : Sp := fun vs H Q E => ∃ z : Str, vs = [.str z] ∧ (z ∈ outs → Q .non H) ∧ (z ∉ outs → ∀ d, H d = none → E (.ref A0.c_InvalidOutcome) (some d) (upd H d (.xd [("value", .str z)])))
theorem sc_check_outcome : FnScope ["outcome"] ["outcome"] (defScope s_check_outcome) := ⟨rfl, rfl, rfl, by decide +kernel, rfl, by decide +kernel, by decide +kernel⟩
theorem bd_check_outcome (T : Txt w K mg A0) : Binds K A0.d_check_outcome ["outcome"] [] := T.F_check_outcome.binds fun _ _ _ _ _ _ us hl => match us, hl with | [_], _ => rfl
theorem ok_check_outcome (T : Txt w K mg A0) : FnOk P w K mg base (L2.CX P w) 3 A0.a_check_outcome A0.d_check_outcome ["outcome"] (sp_check_outcome K A0) := by
  refine T.F_check_outcome.okX sc_check_outcome (fun vs H Q E h => ?_) (fun cdv A outer s H vs Q E hr h => ?_)
  · obtain ⟨z, rfl, _⟩ := h
    rfl
  · obtain ⟨z, rfl, h⟩ := h
    refine ⟨_, (pss_one (ps_if (pt_cmpR op_notIn_seq (pv 0) (pe_glob (v := .ref A0.v_OUTCOMES) rfl T.gv_OUTCOMES rfl) rfl) (pss_one (ps_raise rfl (takes_of rfl rfl rfl rfl) (pmk_oex (T.er_InvalidOutcome).ox (T.er_InvalidOutcome).ii (T.er_InvalidOutcome).ti (okI_InvalidOutcome T) (hr.mono (by decide)) (bdI_InvalidOutcome T) .nil pass0 rfl T.gc_InvalidOutcome (pa_cons (pv 0) pa_nil)))) pss_nil)), ?_⟩
    obtain ⟨k, e⟩ := h
    refine ⟨_, rfl, _, outs.map V.str, rfl, .inr T.tv_OUTCOMES.sq, rfl, flat_strs, _, rfl, ?_⟩
    rw [inV_str]
    by_cases c : z ∈ outs
    · refine tF (by simp [c]) ?_
      exact k c
    · refine tT (by simp [c]) ?_
      exact ⟨_, rfl, mkO_end fun d hd => e c d hd⟩
/-! check_condition -/
def sp_check_condition (K : PySem.W.Frag) (A0 : Ad) : Sp := fun vs H Q E => ∃ z : Str, vs = [.str z] ∧ (∀ os, tab_CONDITIONS.lookup z = some os → Q .non H) ∧ (tab_CONDITIONS.lookup z = none → ∀ d, H d = none → E (.ref A0.c_InvalidCondition) (some d) (upd H d (.xd [("value", .str z)])))
theorem sc_check_condition : FnScope ["condition"] ["condition"] (defScope s_check_condition) := ⟨rfl, rfl, rfl, by decide +kernel, rfl, by decide +kernel, by decide +kernel⟩
theorem bd_check_condition (T : Txt w K mg A0) : Binds K A0.d_check_condition ["condition"] [] := T.F_check_condition.binds fun _ _ _ _ _ _ us hl => match us, hl with | [_], _ => rfl
theorem ok_check_condition (T : Txt w K mg A0) : FnOk P w K mg base (L2.CX P w) 3 A0.a_check_condition A0.d_check_condition ["condition"] (sp_check_condition K A0) := by
  refine T.F_check_condition.okX sc_check_condition (fun vs H Q E h => ?_) (fun cdv A outer s H vs Q E hr h => ?_)
  · obtain ⟨z, rfl, _⟩ := h
    rfl
  · obtain ⟨z, rfl, h⟩ := h
    refine ⟨_, (pss_one (ps_if (pt_cmpR op_notInT (pv 0) (pe_glob (v := .ref A0.v_CONDITIONS) rfl T.gv_CONDITIONS rfl) rfl) (pss_one (ps_raise rfl (takes_of rfl rfl rfl rfl) (pmk_oex (T.er_InvalidCondition).ox (T.er_InvalidCondition).ii (T.er_InvalidCondition).ti (okI_InvalidCondition T) (hr.mono (by decide)) (bdI_InvalidCondition T) .nil pass0 rfl T.gc_InvalidCondition (pa_cons (pv 0) pa_nil)))) pss_nil)), ?_⟩
    obtain ⟨k, e⟩ := h
    refine ⟨_, rfl, z, _, _, rfl, rfl, T.kt_CONDITIONS P, _, rfl, ?_⟩
    rcases tab_find (z := z) (tr_CONDITIONS T) with ⟨h1, h2⟩ | ⟨os, a, h1, h2, h3⟩
    · rw [h2]
      refine tT rfl ?_
      exact ⟨_, rfl, mkO_end fun d hd => e h1 d hd⟩
    · rw [h2]
      refine tF rfl ?_
      exact k os h1
/-! _law_some -/
def sp_law_some (K : PySem.W.Frag) : Sp := fun vs H Q E => ∃ (p : Addr) (wd m : Int) (n : Nat), vs = [.ref p, .int wd, .int m] ∧ Pool H p n ∧ n ≤ 50000 ∧ 1 ≤ wd ∧ wd ≤ 300 ∧ 0 ≤ m ∧ m ≤ 100 ∧ ∀ (t : Addr) (xs : List Int) (H' : Hp), xs.length = m.toNat → (∀ x ∈ xs, 0 ≤ x ∧ x < 2 ^ wd.toNat) → Pool H' p (n + 6 * m.toNat) → But p H H' → t ≠ p → H t = none → H' t = some (.tup (xs.map V.int)) → Q (.ref t) H'
theorem sc_law_some : FnScope ["pool", "wide", "many", "found", "turn", "fresh"] ["pool", "wide", "many"] (defScope s_law_some) := ⟨rfl, rfl, rfl, by decide +kernel, rfl, by decide +kernel, by decide +kernel⟩
theorem bd_law_some (T : Txt w K mg A0) : Binds K A0.d_law_some ["pool", "wide", "many"] [] := T.F_law_some.binds fun _ _ _ _ _ _ us hl => match us, hl with | [_, _, _], _ => rfl
theorem ok_law_some (T : Txt w K mg A0) : FnOk P w K mg base CX0 3 A0.a_law_some A0.d_law_some ["pool", "wide", "many"] (sp_law_some K) := by
  refine T.F_law_some.ok sc_law_some (fun vs H Q E h => ?_) (fun cdv A outer s H vs Q E hr h => ?_)
  · obtain ⟨p, wd, m, n, rfl, _⟩ := h
    rfl
  · obtain ⟨p, wd, m, n, rfl, h⟩ := h
    refine ⟨_, (pss_cons (ps_set (i := 3) sc_law_some.nd rfl (Or.inl rfl) (pe_lst pa_nil))
        (pss_cons (ps_for PassesOwn.never rfl (pi_range1 rfl T.b_range (pa_cons (pv 2) pa_nil)) (pg_name (i := 4) sc_law_some.nd rfl (Or.inl rfl)) (pss_cons (ps_set (i := 5) sc_law_some.nd rfl (Or.inl rfl) (pe_call (ok_law_word T) (hr.mono (by decide)) rfl T.g_law_word T.F_law_word.kp (bd_law_word T) .nil pass0 (pa_cons (pv 0) (pa_cons (pv 1) pa_nil))))
        (pss_cons (ps_if (PW.pt (pw_and (pt_cmpR (op_neD hr.units) (pv 3) (pe_lst pa_nil) (nomark _)) (pw_and1 (pt_cmpR op_eq (pe_call (ok_law_draw T) (hr.mono (by decide)) rfl T.g_law_draw T.F_law_draw.kp (bd_law_draw T) .nil pass0 (pa_cons (pv 0) (pa_cons pe_int pa_nil))) pe_int (nomark _))))) (pss_one (ps_set (i := 5) sc_law_some.nd rfl (Or.inl rfl) (pe_op op_mod (pe_op op_add (pe_ix ix_list (pv 3) (pe_call (ok_law_draw T) (hr.mono (by decide)) rfl T.g_law_draw T.F_law_draw.kp (bd_law_draw T) .nil pass0 (pa_cons (pv 0) (pa_cons (pe_callB call_len_seq (by rfl) T.b_len (by decide +kernel) (pa_cons (pv 3) pa_nil)) pa_nil))) (fun _ _ => rfl)) (pe_call (ok_law_draw T) (hr.mono (by decide)) rfl T.g_law_draw T.F_law_draw.kp (bd_law_draw T) .nil pass0 (pa_cons (pv 0) (pa_cons pe_int pa_nil)))) (pe_call (ok_law_power T) (hr.mono (by decide)) rfl T.g_law_power T.F_law_power.kp (bd_law_power T) .nil pass0 (pa_cons (pv 1) pa_nil))))) pss_nil)
        (pss_one (ps_expr (pe_bmX (K := K) rfl PySem.F.plainAttrs_list PySem.F.slot_list_append PySem.F.type_list_append mt_append (pv 3) (pa_cons (pv 5) pa_nil) rfl rfl rfl rfl rfl))))))
        (pss_one (ps_ret (pe_callTy call_tuple_of (by rfl) T.b_tuple (by decide +kernel) (pa_cons (pv 3) pa_nil)))))), ?_⟩
    obtain ⟨pl, hn, h1, h2, m0, m1, k⟩ := h
    have top0 : (0 : Int) < 2 ^ wd.toNat := pow_pos _
    refine ⟨(by show 0 ≤ sizeLine; decide), fun l hl => ?_⟩
    have nlp : l ≠ p := pl.ne hl
    refine ⟨_, rfl, m, rfl, by omega, by omega, for_range (n := m.toNat) (fun i σ H' => ∃ (xs : List Int) (v4 v5 : Option V), σ = [some (.ref p), some (.int wd), some (.int m), some (.ref l), v4, v5] ∧ xs.length = i ∧ (∀ x ∈ xs, 0 ≤ x ∧ x < 2 ^ wd.toNat) ∧ Pool H' p (n + 6 * i) ∧ But p H H' ∧ H' l = some (.lst (xs.map V.int))) ⟨[], none, none, rfl, rfl, (fun x hx => by cases hx), pl.new hl, But.new hl, upd_same⟩ ?_ ?_⟩
    · rintro i σ H1 hi ⟨xs, v4, v5, rfl, lx, bx, pl1, b1, hl1⟩
      refine ⟨_, rfl, _, rfl, p, wd, _, rfl, pl1, by omega, h1, h2, fun v H2 v0 v1 pl2 b2 => ?_⟩
      have hl2 := b2 l _ nlp hl1
      -- what a turn ends with
      have fin : ∀ (z : Int) (H3 : Hp), 0 ≤ z → z < 2 ^ wd.toNat → Pool H3 p (n + 6 * i + 6) → But p H2 H3 → ∃ l' ys, H3 l = some (.lst ys) ∧ l' = l ∧ ys = xs.map V.int ∧ Pool (upd H3 l (.lst (ys ++ [.int z]))) p (n + 6 * (i + 1)) ∧ But p H (upd H3 l (.lst (ys ++ [.int z]))) := fun z H3 z0 z1 pl3 b3 => by
        refine ⟨l, _, b3 l _ nlp hl2, rfl, rfl, (pl3.put nlp).mono (by omega), ?_⟩
        intro b o hb e
        rw [upd_ne (ne_of_none e hl)]
        exact b3 b o hb (b2 b o hb (b1 b o hb e))
      refine ⟨_, rfl, (by show 0 ≤ sizeLine; decide), fun q hq => ?_⟩
      have nqp : q ≠ p := pl2.ne hq
      have nlq : l ≠ q := ne_of_none hl2 hq
      refine ⟨.list (xs.map PyData.int), .list [], .lst (SqL.of (by rw [upd_ne nlq]; exact hl2)) (ints_all xs), .lst (SqL.of upd_same) .nil, ints_shaped xs, by decide +kernel, _, rfl, ?_⟩
      cases hb : (!PyData.eqv (.list (xs.map PyData.int)) (.list [])) with
      | false =>
        refine tF rfl ?_
        refine tF rfl ?_
        obtain ⟨l', ys, e1, e2, e3, e4, e5⟩ := fin v (upd H2 q (.lst [])) v0 v1 ((pl2.new hq).mono (by omega)) (But.new hq)
        subst e2 e3
        refine ⟨_, rfl, .inl ⟨rfl, _, SqL.of e1⟩, _, rfl, _, _, _, rfl, rfl, e1, small1000 (by rw [List.length_map]; omega), ?_⟩
        refine ⟨xs ++ [v], _, _, rfl, by simp [lx], ?_, e4, e5, by rw [upd_same, List.map_append]; rfl⟩
        intro x hx
        rcases List.mem_append.mp hx with hx | hx
        · exact bx x hx
        · obtain rfl := List.mem_singleton.mp hx
          exact ⟨v0, v1⟩
      | true =>
        refine tT rfl ?_
        have nz : 0 < xs.length := by
          cases xs with
          | nil => exact absurd hb (by decide +kernel)
          | cons y ys => exact Nat.succ_pos _
        refine ⟨_, rfl, p, 3, _, rfl, pl2.new hq, by omega, by decide, by decide, fun d3 H3 l3 u3 pl3 b3 => ?_⟩
        refine ⟨rfl, _, rfl, ?_⟩
        have b23 : But p H2 H3 := (But.new hq).trans b3
        cases hc : decide (V.int d3 = V.int 0) with
        | false =>
          refine tF rfl ?_
          obtain ⟨l', ys, e1, e2, e3, e4, e5⟩ := fin v H3 v0 v1 (pl3.mono (by omega)) b23
          subst e2 e3
          refine ⟨_, rfl, .inl ⟨rfl, _, SqL.of e1⟩, _, rfl, _, _, _, rfl, rfl, e1, small1000 (by rw [List.length_map]; omega), ?_⟩
          refine ⟨xs ++ [v], _, _, rfl, by simp [lx], ?_, e4, e5, by rw [upd_same, List.map_append]; rfl⟩
          intro x hx
          rcases List.mem_append.mp hx with hx | hx
          · exact bx x hx
          · obtain rfl := List.mem_singleton.mp hx
            exact ⟨v0, v1⟩
        | true =>
          refine tT rfl ?_
          have hl3 := b23 l _ nlp hl2
          refine ⟨_, rfl, _, rfl, _, rfl, l, _, rfl, .inl (SqL.of hl3), p, _, _, rfl, pl3, by omega, by rw [List.length_map]; omega, by rw [List.length_map]; exact Int.lt_of_lt_of_le (show (xs.length : Int) < 2 ^ 20 by omega) (by decide), fun d4 H4 l4 u4 pl4 b4 => ?_⟩
          rw [List.length_map] at u4
          have hl4 := b4 l _ nlp hl3
          obtain ⟨z, hz⟩ : ∃ z, xs[d4.toNat]? = some z := ⟨xs[d4.toNat]'(by omega), List.getElem?_eq_getElem (by omega)⟩
          refine ⟨l, _, d4, .int z, rfl, rfl, SqL.of hl4, at_of (j := d4.toNat) (by omega) (by rw [List.getElem?_map, hz]; rfl), ?_⟩
          refine ⟨_, rfl, p, 2, _, rfl, pl4, by omega, by decide, by decide, fun d5 H5 l5 u5 pl5 b5 => ?_⟩
          refine ⟨_, _, rfl, rfl, _, rfl, wd, rfl, by omega, by omega, _, _, rfl, rfl, top0, ?_⟩
          obtain ⟨l', ys, e1, e2, e3, e4, e5⟩ := fin ((z + d5) % 2 ^ wd.toNat) H5 (Int.emod_nonneg _ (by omega)) (Int.emod_lt_of_pos _ top0) (pl5.mono (by omega)) (b23.trans (b4.trans b5))
          subst e2 e3
          refine ⟨_, rfl, .inl ⟨rfl, _, SqL.of e1⟩, _, rfl, _, _, _, rfl, rfl, e1, small1000 (by rw [List.length_map]; omega), ?_⟩
          refine ⟨xs ++ [(z + d5) % 2 ^ wd.toNat], _, _, rfl, by simp [lx], ?_, e4, e5, by rw [upd_same, List.map_append]; rfl⟩
          intro x hx
          rcases List.mem_append.mp hx with hx | hx
          · exact bx x hx
          · obtain rfl := List.mem_singleton.mp hx
            exact ⟨Int.emod_nonneg _ (by omega), Int.emod_lt_of_pos _ top0⟩
    · rintro σ H1 ⟨xs, v4, v5, rfl, lx, bx, pl1, b1, hl1⟩
      refine ⟨_, rfl, l, _, rfl, .inl ⟨SqL.of hl1, fun t ht => ?_⟩⟩
      have ntp : t ≠ p := pl1.ne ht
      have h0 : H t = none := by
        cases e : H t with
        | none => rfl
        | some o =>
          rw [b1 t o ntp e] at ht
          cases ht
      exact k t xs _ lx bx (pl1.new ht) (b1.trans (But.new ht)) ntp h0 upd_same
/-! _law_classes_right -/
def sp_law_classes_right (K : PySem.W.Frag) (A0 : Ad) : Sp := fun vs H Q E => ∃ (p : Addr) (n : Nat), vs = [.ref p] ∧ Pool H p n ∧ n ≤ 20000 ∧ ∀ H', Pool H' p (n + 10) → But p H H' → Q (.bl true) H'
theorem sc_law_classes_right : FnScope ["pool", "one", "made", "each"] ["pool"] (defScope s_law_classes_right) := ⟨rfl, rfl, rfl, by decide +kernel, rfl, by decide +kernel, by decide +kernel⟩
theorem bd_law_classes_right (T : Txt w K mg A0) : Binds K A0.d_law_classes_right ["pool"] [] := T.F_law_classes_right.binds fun _ _ _ _ _ _ us hl => match us, hl with | [_], _ => rfl
set_option maxHeartbeats 0 in
theorem ok_law_classes_right (T : Txt w K mg A0) : FnOk P w K mg base CX0 3 A0.a_law_classes_right A0.d_law_classes_right ["pool"] (sp_law_classes_right K A0) := by
  refine T.F_law_classes_right.ok sc_law_classes_right (fun vs H Q E h => ?_) (fun cdv A outer s H vs Q E hr h => ?_)
  · obtain ⟨p, n, rfl, _⟩ := h
    rfl
  · obtain ⟨p, n, rfl, h⟩ := h
    refine ⟨_, (pss_cons (ps_set (i := 1) sc_law_classes_right.nd rfl (Or.inr rfl) (pe_ix ix_list (pe_lst (pa_cons pe_non (pa_cons pe_int (pa_cons pe_str (pa_cons (pe_tup (pa_cons pe_int (pa_cons pe_int pa_nil))) (pa_cons (pe_call (ok_law_draw T) (hr.mono (by decide)) rfl T.g_law_draw T.F_law_draw.kp (bd_law_draw T) .nil pass0 (pa_cons (pv 0) (pa_cons (pe_op op_pow pe_int pe_int) pa_nil))) pa_nil)))))) (pe_call (ok_law_draw T) (hr.mono (by decide)) rfl T.g_law_draw T.F_law_draw.kp (bd_law_draw T) .nil pass0 (pa_cons (pv 0) (pa_cons pe_int pa_nil))) (fun _ _ => rfl)))
        (pss_cons (ps_set (i := 2) sc_law_classes_right.nd rfl (Or.inl rfl) (pe_lst (pa_cons (pe_oexV (T.er_InvalidWidth).ox (T.er_InvalidWidth).ii (T.er_InvalidWidth).ti (okI_InvalidWidth T) (hr.mono (by decide)) (bdI_InvalidWidth T) pass0 rfl T.gc_InvalidWidth (pa_cons (pv 1) pa_nil)) (pa_cons (pe_oexV (T.er_InvalidWords).ox (T.er_InvalidWords).ii (T.er_InvalidWords).ti (okI_InvalidWords T) (hr.mono (by decide)) (bdI_InvalidWords T) pass0 rfl T.gc_InvalidWords (pa_cons (pv 1) pa_nil)) (pa_cons (pe_oexV (T.er_InvalidOutcome).ox (T.er_InvalidOutcome).ii (T.er_InvalidOutcome).ti (okI_InvalidOutcome T) (hr.mono (by decide)) (bdI_InvalidOutcome T) pass0 rfl T.gc_InvalidOutcome (pa_cons (pv 1) pa_nil)) (pa_cons (pe_oexV (T.er_InvalidCondition).ox (T.er_InvalidCondition).ii (T.er_InvalidCondition).ti (okI_InvalidCondition T) (hr.mono (by decide)) (bdI_InvalidCondition T) pass0 rfl T.gc_InvalidCondition (pa_cons (pv 1) pa_nil)) (pa_cons (pe_oexV (T.er_InvalidRanking).ox (T.er_InvalidRanking).ii (T.er_InvalidRanking).ti (okI_InvalidRanking T) (hr.mono (by decide)) (bdI_InvalidRanking T) pass0 rfl T.gc_InvalidRanking (pa_cons (pv 1) pa_nil)) pa_nil)))))))
        (pss_cons (ps_set (i := 2) sc_law_classes_right.nd rfl (Or.inl rfl) (pe_op op_cat (pv 2) (pe_lst (pa_cons (pe_oexV (T.er_InvalidKnowledge).ox (T.er_InvalidKnowledge).ii (T.er_InvalidKnowledge).ti (okI_InvalidKnowledge T) (hr.mono (by decide)) (bdI_InvalidKnowledge T) pass0 rfl T.gc_InvalidKnowledge (pa_cons (pv 1) pa_nil)) (pa_cons (pe_oexV (T.er_InvalidProgram).ox (T.er_InvalidProgram).ii (T.er_InvalidProgram).ti (okI_InvalidProgram T) (hr.mono (by decide)) (bdI_InvalidProgram T) pass0 rfl T.gc_InvalidProgram (pa_cons (pv 1) pa_nil)) (pa_cons (pe_oexV (T.er_InvalidRow).ox (T.er_InvalidRow).ii (T.er_InvalidRow).ti (okI_InvalidRow T) (hr.mono (by decide)) (bdI_InvalidRow T) pass0 rfl T.gc_InvalidRow (pa_cons (pv 1) pa_nil)) (pa_cons (pe_oexV (T.er_InvalidRegister).ox (T.er_InvalidRegister).ii (T.er_InvalidRegister).ti (okI_InvalidRegister T) (hr.mono (by decide)) (bdI_InvalidRegister T) pass0 rfl T.gc_InvalidRegister (pa_cons (pv 1) pa_nil)) (pa_cons (pe_oexV (T.er_InvalidQuery).ox (T.er_InvalidQuery).ii (T.er_InvalidQuery).ti (okI_InvalidQuery T) (hr.mono (by decide)) (bdI_InvalidQuery T) pass0 rfl T.gc_InvalidQuery (pa_cons (pv 1) pa_nil)) pa_nil))))))))
        (pss_cons (ps_set (i := 2) sc_law_classes_right.nd rfl (Or.inl rfl) (pe_op op_cat (pv 2) (pe_lst (pa_cons (pe_oexV (T.er_InvalidTable).ox (T.er_InvalidTable).ii (T.er_InvalidTable).ti (okI_InvalidTable T) (hr.mono (by decide)) (bdI_InvalidTable T) pass0 rfl T.gc_InvalidTable (pa_cons (pv 1) pa_nil)) (pa_cons (pe_oexV (T.er_InvalidNumber).ox (T.er_InvalidNumber).ii (T.er_InvalidNumber).ti (okI_InvalidNumber T) (hr.mono (by decide)) (bdI_InvalidNumber T) pass0 rfl T.gc_InvalidNumber (pa_cons (pv 1) pa_nil)) (pa_cons (pe_oexV (T.er_UnlikeInputs).ox (T.er_UnlikeInputs).ii (T.er_UnlikeInputs).ti (okI_UnlikeInputs T) (hr.mono (by decide)) (bdI_UnlikeInputs T) pass0 rfl T.gc_UnlikeInputs (pa_cons (pv 1) pa_nil)) (pa_cons (pe_oexV (T.er_NothingToUndo).ox (T.er_NothingToUndo).ii (T.er_NothingToUndo).ti (okI_NothingToUndo T) (hr.mono (by decide)) (bdI_NothingToUndo T) pass0 rfl T.gc_NothingToUndo (pa_cons (pv 1) pa_nil)) (pa_cons (pe_oexV (T.er_Unreadable).ox (T.er_Unreadable).ii (T.er_Unreadable).ti (okI_Unreadable T) (hr.mono (by decide)) (bdI_Unreadable T) pass0 rfl T.gc_Unreadable (pa_cons (pv 1) pa_nil)) pa_nil))))))))
        (pss_cons (ps_set (i := 2) sc_law_classes_right.nd rfl (Or.inl rfl) (pe_op op_cat (pv 2) (pe_lst (pa_cons (pe_oexK (T.er_InvalidWidth).ox (T.er_InvalidWidth).ii (T.er_InvalidWidth).ti (okI_InvalidWidth T) (hr.mono (by decide)) (kbI_InvalidWidth T) rfl pass0 rfl T.gc_InvalidWidth (pv 1)) (pa_cons (pe_oexK (T.er_InvalidRow).ox (T.er_InvalidRow).ii (T.er_InvalidRow).ti (okI_InvalidRow T) (hr.mono (by decide)) (kbI_InvalidRow T) rfl pass0 rfl T.gc_InvalidRow (pv 1)) (pa_cons (pe_oexK (T.er_Unreadable).ox (T.er_Unreadable).ii (T.er_Unreadable).ti (okI_Unreadable T) (hr.mono (by decide)) (kbI_Unreadable T) rfl pass0 rfl T.gc_Unreadable (pv 1)) (pa_cons (pe_oexK (T.er_NothingToUndo).ox (T.er_NothingToUndo).ii (T.er_NothingToUndo).ti (okI_NothingToUndo T) (hr.mono (by decide)) (kbI_NothingToUndo T) rfl pass0 rfl T.gc_NothingToUndo (pv 1)) pa_nil)))))))
        (pss_one (ps_ret (pe_callB (cr_all rfl) (by rfl) T.b_all (by decide +kernel) (pa_cons (pe_lc (own := [("each", 3)]) (g := gName 3) rfl sc_law_classes_right.nd (pi_list (pv 2)) (blkOk_by (own := [("each", 3)]) (N := ["pool", "one", "made", "each"]) (sc := defScope s_law_classes_right) (by decide +kernel)) (fun _ _ _ _ _ => pg_name (i := 3) sc_law_classes_right.nd rfl (Or.inl rfl)) (fun _ _ _ _ _ => pts_nil) (fun _ _ _ _ _ => (pe_and (pe_cmpR (show OpR _ _ (rEqD K) from op_eqD hr.units) (show PE _ _ (tErrF K "value" _) from pe_errF (pv 3)) (pv 1) (nomark _)) (pe_one (pe_callB (show CallR _ _ (rIsX K) from call_isX) (by rfl) T.b_isinstance (by decide +kernel) (pa_cons (pv 3) (pa_cons (pe_glob (v := .ref A0.c_BranchError) rfl T.gc_BranchError rfl) pa_nil))))))) pa_nil))))))))), ?_⟩
    obtain ⟨pl, hn, k⟩ := h
    refine ⟨(by show 2 ≤ sizeLine; decide), fun t0 ht0 => ?_⟩
    have nt0 : t0 ≠ p := pl.ne ht0
    refine ⟨_, rfl, _, _, rfl, rfl, ⟨by decide, by decide, by decide⟩, p, _, n, rfl, pl.new ht0, by omega, by decide, by decide, fun dv H2 v0 v1 pl2 b2 => ?_⟩
    have et2 := b2 t0 _ nt0 upd_same
    refine ⟨(by show 5 ≤ sizeLine; decide), fun l hl => ?_⟩
    have nl : l ≠ p := pl2.ne hl
    refine ⟨_, rfl, p, 5, n + 1, rfl, pl2.new hl, by omega, by decide, by decide, fun d H3 d0 d1 pl3 b3 => ?_⟩
    have el3 := b3 l _ nl upd_same
    have et3 := b3 t0 _ nt0 ((sameNew hl) _ _ et2)
    have b13 : But p H H3 := (But.new ht0).trans (b2.trans ((But.new hl).trans b3))
    obtain ⟨v, dd, ev, sh, dp⟩ : ∃ v dd, atI [V.non, .int 0, .str "x", .ref t0, .int dv] d = some v ∧ SeqAt.shaped dd = true ∧ ∀ H', Same H3 H' → Dp K H' v dd := by
      have h : d = 0 ∨ d = 1 ∨ d = 2 ∨ d = 3 ∨ d = 4 := by omega
      rcases h with rfl | rfl | rfl | rfl | rfl
      · exact ⟨.non, .none, rfl, by decide +kernel, fun _ _ => .non⟩
      · exact ⟨.int 0, .int 0, rfl, by decide +kernel, fun _ _ => .int _⟩
      · exact ⟨.str "x", .str "x", rfl, by decide +kernel, fun _ _ => .str _⟩
      · exact ⟨.ref t0, .tuple [.int 1, .int 2], rfl, by decide +kernel, fun H' s => .tup (SqT.of (s _ _ et3)) (.cons (.int _) (.cons (.int _) .nil))⟩
      · exact ⟨.int dv, .int dv, rfl, rfl, fun _ _ => .int _⟩
    refine ⟨l, _, d, v, rfl, rfl, SqL.of el3, ev, ?_⟩
    dsimp only
    refine rdSeq (rdAsg (md5 (v := v) rfl fun m1 H4 f4 s4 a4 => ?_))
    dsimp only
    refine rdSeq (rdAsg (mdCat (v := v) (l := m1) rfl a4 (Ds := [A0.c_InvalidKnowledge, A0.c_InvalidProgram, A0.c_InvalidRow, A0.c_InvalidRegister, A0.c_InvalidQuery]) (by show 10 ≤ 1000; decide) (fun Q' q => md5 (v := v) rfl q) fun m2 H5 f5 s5 a5 => ?_))
    dsimp only
    refine rdSeq (rdAsg (mdCat (v := v) (l := m2) rfl a5 (Ds := [A0.c_InvalidTable, A0.c_InvalidNumber, A0.c_UnlikeInputs, A0.c_NothingToUndo, A0.c_Unreadable]) (by show 15 ≤ 1000; decide) (fun Q' q => md5 (v := v) rfl q) fun m3 H6 f6 s6 a6 => ?_))
    dsimp only
    refine rdSeq (rdAsg (mdCat (v := v) (l := m3) rfl a6 (Ds := [A0.c_InvalidWidth, A0.c_InvalidRow, A0.c_Unreadable, A0.c_NothingToUndo]) (by show 19 ≤ 1000; decide) (fun Q' q => md4 (v := v) rfl q) fun m4 H7 f7 s7 a7 => ?_))
    dsimp only
    have s37 := s4.trans (s5.trans (s6.trans s7))
    obtain ⟨es, e7, pr7⟩ := a7
    have le : es.length = 19 := Paired.length pr7
    refine ⟨_, rfl, m4, rfl, ⟨_, SqL.of e7⟩, fun D hD => lc_list (xs := es.map V.ref) (fun i H' => Same H7 H' ∧ H' D = some (.lst ((List.replicate i true).map V.bl))) ⟨sameNew hD, upd_same⟩ (fun i H' _ q => SqL.of (q.1 _ _ e7)) ?_ ?_⟩
    · rintro i x H8 hx ⟨s8, eD⟩
      obtain ⟨y, hy, rfl⟩ := ref_at hx
      have il := (List.getElem?_eq_some_iff.mp hy).1
      obtain ⟨C, hC, rk⟩ := prg pr7 hy
      refine ⟨rfl, ?_⟩
      refine yesR ?_
      refine tT rfl ?_
      obtain ⟨j, hj⟩ : ∃ j : Nat, ((([A0.c_InvalidWidth, A0.c_InvalidWords, A0.c_InvalidOutcome, A0.c_InvalidCondition, A0.c_InvalidRanking, A0.c_InvalidKnowledge, A0.c_InvalidProgram, A0.c_InvalidRow, A0.c_InvalidRegister, A0.c_InvalidQuery, A0.c_InvalidTable, A0.c_InvalidNumber, A0.c_UnlikeInputs, A0.c_NothingToUndo, A0.c_Unreadable] : List Addr) : List Addr))[j]? = some C := by
        refine List.mem_iff_getElem?.mp ?_
        have q := List.mem_of_getElem? hC
        simp only [List.mem_append, List.mem_cons, List.not_mem_nil, or_false] at q
        rcases q with (((q | q | q | q | q) | (q | q | q | q | q)) | (q | q | q | q | q)) | (q | q | q | q) <;> rw [q] <;> simp
      obtain ⟨ec, xf, nf⟩ := errC T hj
      obtain ⟨kb, _, _⟩ := kit_b T.tab hj
      refine ⟨_, rfl, y, C, v, rfl, rk.same s8, xf, nf, _, rfl, dd, dd, dp _ (s37.trans s8), dp _ (s37.trans s8), sh, sh, ?_⟩
      refine ⟨_, rfl, ?_⟩
      refine tT (SeqAt.eqv_refl _ (SeqAt.canLay_of_shaped sh)) ?_
      refine ⟨_, rfl, .inl ⟨y, C, _, v, _, _, true, rfl, rk.same s8, ec, .own _, kb, ?_⟩⟩
      refine ⟨_, eD, small1000 (by rw [List.length_map, List.length_replicate]; omega), sameUp s8 hD, ?_⟩
      rw [upd_same, rep_snoc]
    rintro H8 ⟨s8, eD⟩
    refine ⟨D, _, rfl, SqL.of eD, ?_⟩
    rw [bls_true]
    have s38 := s37.trans s8
    exact k _ ((pl3.same s38).mono (by omega)) (b13.trans (But.of s38))
/-! signed -/
def sp_signed (K : PySem.W.Frag) (A0 : Ad) : Sp := fun vs H Q E => ∃ wd x : Int, vs = [.int wd, .int x] ∧ wd ≤ 1000 ∧ (1 ≤ wd → Word wd x → ∀ H', Same H H' → Q (.int (sv wd x)) H') ∧ (wd < 1 → Lets A0.c_InvalidWidth (.int wd) H E) ∧ (1 ≤ wd → ∀ i, BadAt wd [x] i → Lets A0.c_InvalidWords (.int (i : Nat)) H E)
theorem sc_signed : FnScope ["width", "word"] ["width", "word"] (defScope s_signed) := ⟨rfl, rfl, rfl, by decide +kernel, rfl, by decide +kernel, by decide +kernel⟩
theorem bd_signed (T : Txt w K mg A0) : Binds K A0.d_signed ["width", "word"] [] := T.F_signed.binds fun _ _ _ _ _ _ us hl => match us, hl with | [_, _], _ => rfl
theorem ok_signed (T : Txt w K mg A0) : FnOk P w K mg base (L2.CX P w) 4 A0.a_signed A0.d_signed ["width", "word"] (sp_signed K A0) := by
  refine T.F_signed.okX sc_signed (fun vs H Q E h => ?_) (fun cdv A outer s H vs Q E hr h => ?_)
  · obtain ⟨wd, x, rfl, _⟩ := h
    rfl
  · obtain ⟨wd, x, rfl, h⟩ := h
    refine ⟨_, (pss_cons (ps_expr (pe_callS (ok_check_width T) (hr.mono (by decide)) rfl T.g_check_width T.F_check_width.kp (bd_check_width T) (fun σ => passAt (takes_of rfl rfl rfl rfl) σ) (pa_cons (pv 0) pa_nil)))
        (pss_cons (ps_expr (pe_callS (ok_check_words T) (hr.mono (by decide)) rfl T.g_check_words T.F_check_words.kp (bd_check_words T) (fun σ => passAt (takes_of rfl rfl rfl rfl) σ) (pa_cons (pv 0) (pa_cons (pe_tup (pa_cons (pv 1) pa_nil)) pa_nil))))
        (pss_one (ps_ret (pe_call (ok_signed_value T) (hr.mono (by decide)) rfl T.g_signed_value T.F_signed_value.kp (bd_signed_value T) .nil pass0 (pa_cons (pv 0) (pa_cons (pv 1) pa_nil))))))), ?_⟩
    obtain ⟨h2, k, ew, ex⟩ := h
    refine ⟨_, rfl, wd, rfl, fun h1 => ?_, ew⟩
    refine ⟨_, rfl, _, rfl, (by show 1 ≤ sizeLine; decide), fun t ht => ?_⟩
    refine ⟨wd, t, [x], rfl, h1, h2, SqT.of upd_same, fun all H1 s => ?_, fun i bad => (ex h1 i bad).later (sameNew ht)⟩
    exact ⟨_, rfl, _, rfl, wd, x, rfl, h1, h2, k h1 (all x (by simp)) _ ((sameNew ht).trans s)⟩
/-! outcome -/
def sp_outcome (K : PySem.W.Frag) (A0 : Ad) : Sp := fun vs H Q E => ∃ wd x y : Int, vs = [.int wd, .int x, .int y] ∧ wd ≤ 1000 ∧ (1 ≤ wd → Word wd x → Word wd y → ∀ H', Same H H' → Q (.str (oc wd x y)) H') ∧ (wd < 1 → Lets A0.c_InvalidWidth (.int wd) H E) ∧ (1 ≤ wd → ∀ i, BadAt wd [x, y] i → Lets A0.c_InvalidWords (.int (i : Nat)) H E)
theorem sc_outcome : FnScope ["width", "first", "second"] ["width", "first", "second"] (defScope s_outcome) := ⟨rfl, rfl, rfl, by decide +kernel, rfl, by decide +kernel, by decide +kernel⟩
theorem bd_outcome (T : Txt w K mg A0) : Binds K A0.d_outcome ["width", "first", "second"] [] := T.F_outcome.binds fun _ _ _ _ _ _ us hl => match us, hl with | [_, _, _], _ => rfl
theorem ok_outcome (T : Txt w K mg A0) : FnOk P w K mg base (L2.CX P w) 4 A0.a_outcome A0.d_outcome ["width", "first", "second"] (sp_outcome K A0) := by
  refine T.F_outcome.okX sc_outcome (fun vs H Q E h => ?_) (fun cdv A outer s H vs Q E hr h => ?_)
  · obtain ⟨wd, x, y, rfl, _⟩ := h
    rfl
  · obtain ⟨wd, x, y, rfl, h⟩ := h
    refine ⟨_, (pss_cons (ps_expr (pe_callS (ok_check_width T) (hr.mono (by decide)) rfl T.g_check_width T.F_check_width.kp (bd_check_width T) (fun σ => passAt (takes_of rfl rfl rfl rfl) σ) (pa_cons (pv 0) pa_nil)))
        (pss_cons (ps_expr (pe_callS (ok_check_words T) (hr.mono (by decide)) rfl T.g_check_words T.F_check_words.kp (bd_check_words T) (fun σ => passAt (takes_of rfl rfl rfl rfl) σ) (pa_cons (pv 0) (pa_cons (pe_tup (pa_cons (pv 1) (pa_cons (pv 2) pa_nil))) pa_nil))))
        (pss_one (ps_ret (pe_call (ok_outcome_by_cut T) (hr.mono (by decide)) rfl T.g_outcome_by_cut T.F_outcome_by_cut.kp (bd_outcome_by_cut T) .nil pass0 (pa_cons (pe_call (ok_sign_bit T) (hr.mono (by decide)) rfl T.g_sign_bit T.F_sign_bit.kp (bd_sign_bit T) .nil pass0 (pa_cons (pv 0) pa_nil)) (pa_cons (pv 1) (pa_cons (pv 2) pa_nil)))))))), ?_⟩
    obtain ⟨h2, k, ew, ex⟩ := h
    refine ⟨_, rfl, wd, rfl, fun h1 => ?_, ew⟩
    refine ⟨_, rfl, _, rfl, _, rfl, (by show 2 ≤ sizeLine; decide), fun t ht => ?_⟩
    refine ⟨wd, t, [x, y], rfl, h1, h2, SqT.of upd_same, fun all H1 s => ?_, fun i bad => (ex h1 i bad).later (sameNew ht)⟩
    
    have hx := all x (by simp)
    have hy := all y (by simp)
    refine ⟨_, rfl, wd, rfl, h1, h2, _, rfl, _, rfl, _, x, y, rfl, ?_⟩
    rw [oc_cut h1 hx hy]
    exact k h1 hx hy H1 ((sameNew ht).trans s)
/-! flipped -/
def sp_flipped (K : PySem.W.Frag) (A0 : Ad) : Sp := fun vs H Q E => ∃ (wd : Int) (t : Addr) (xs : List Int), vs = [.int wd, .ref t] ∧ wd ≤ 1000 ∧ SqT K H t (xs.map V.int) ∧ xs.length ≤ 1000 ∧ (1 ≤ wd → (∀ x ∈ xs, Word wd x) → ∀ p H', H p = none → Same H H' → H' p = some (.tup ((xs.map (fl wd)).map V.int)) → Q (.ref p) H') ∧ (wd < 1 → Lets A0.c_InvalidWidth (.int wd) H E) ∧ (1 ≤ wd → ∀ i, BadAt wd xs i → Lets A0.c_InvalidWords (.int (i : Nat)) H E)
theorem sc_flipped : FnScope ["width", "words"] ["width", "words"] (defScope s_flipped) := ⟨rfl, rfl, rfl, by decide +kernel, rfl, by decide +kernel, by decide +kernel⟩
theorem bd_flipped (T : Txt w K mg A0) : Binds K A0.d_flipped ["width", "words"] [] := T.F_flipped.binds fun _ _ _ _ _ _ us hl => match us, hl with | [_, _], _ => rfl
theorem ok_flipped (T : Txt w K mg A0) : FnOk P w K mg base (L2.CX P w) 4 A0.a_flipped A0.d_flipped ["width", "words"] (sp_flipped K A0) := by
  refine T.F_flipped.okX sc_flipped (fun vs H Q E h => ?_) (fun cdv A outer s H vs Q E hr h => ?_)
  · obtain ⟨wd, t, xs, rfl, _⟩ := h
    rfl
  · obtain ⟨wd, t, xs, rfl, h⟩ := h
    refine ⟨_, (pss_cons (ps_expr (pe_callS (ok_check_width T) (hr.mono (by decide)) rfl T.g_check_width T.F_check_width.kp (bd_check_width T) (fun σ => passAt (takes_of rfl rfl rfl rfl) σ) (pa_cons (pv 0) pa_nil)))
        (pss_cons (ps_expr (pe_callS (ok_check_words T) (hr.mono (by decide)) rfl T.g_check_words T.F_check_words.kp (bd_check_words T) (fun σ => passAt (takes_of rfl rfl rfl rfl) σ) (pa_cons (pv 0) (pa_cons (pv 1) pa_nil))))
        (pss_one (ps_ret (pe_call (ok_changed T) (hr.mono (by decide)) rfl T.g_changed T.F_changed.kp (bd_changed T) .nil pass0 (pa_cons (pv 1) (pa_cons (pe_call (ok_sign_bit T) (hr.mono (by decide)) rfl T.g_sign_bit T.F_sign_bit.kp (bd_sign_bit T) .nil pass0 (pa_cons (pv 0) pa_nil)) pa_nil))))))), ?_⟩
    obtain ⟨h2, ht, hz, k, ew, ex⟩ := h
    refine ⟨_, rfl, wd, rfl, fun h1 => ?_, ew⟩
    refine ⟨_, rfl, _, rfl, wd, t, xs, rfl, h1, h2, ht, fun hx H1 s1 => ?_, ex h1⟩
    
    refine ⟨_, rfl, _, rfl, wd, rfl, h1, h2, t, xs, _, rfl, sameT s1 ht, hz, fun p H2 hp s2 e => ?_⟩
    refine k h1 hx p H2 (s1.free hp) (s1.trans s2) ?_
    rw [e, List.map_congr_left fun x m => xor_half h1 (hx x m)]
/-! inverted -/
def sp_inverted (K : PySem.W.Frag) (A0 : Ad) : Sp := fun vs H Q E => ∃ (wd : Int) (t : Addr) (xs : List Int), vs = [.int wd, .ref t] ∧ wd ≤ 1000 ∧ SqT K H t (xs.map V.int) ∧ xs.length ≤ 1000 ∧ (1 ≤ wd → (∀ x ∈ xs, Word wd x) → ∀ p H', H p = none → Same H H' → H' p = some (.tup ((xs.map (iv wd)).map V.int)) → Q (.ref p) H') ∧ (wd < 1 → Lets A0.c_InvalidWidth (.int wd) H E) ∧ (1 ≤ wd → ∀ i, BadAt wd xs i → Lets A0.c_InvalidWords (.int (i : Nat)) H E)
theorem sc_inverted : FnScope ["width", "words"] ["width", "words"] (defScope s_inverted) := ⟨rfl, rfl, rfl, by decide +kernel, rfl, by decide +kernel, by decide +kernel⟩
theorem bd_inverted (T : Txt w K mg A0) : Binds K A0.d_inverted ["width", "words"] [] := T.F_inverted.binds fun _ _ _ _ _ _ us hl => match us, hl with | [_, _], _ => rfl
theorem ok_inverted (T : Txt w K mg A0) : FnOk P w K mg base (L2.CX P w) 4 A0.a_inverted A0.d_inverted ["width", "words"] (sp_inverted K A0) := by
  refine T.F_inverted.okX sc_inverted (fun vs H Q E h => ?_) (fun cdv A outer s H vs Q E hr h => ?_)
  · obtain ⟨wd, t, xs, rfl, _⟩ := h
    rfl
  · obtain ⟨wd, t, xs, rfl, h⟩ := h
    refine ⟨_, (pss_cons (ps_expr (pe_callS (ok_check_width T) (hr.mono (by decide)) rfl T.g_check_width T.F_check_width.kp (bd_check_width T) (fun σ => passAt (takes_of rfl rfl rfl rfl) σ) (pa_cons (pv 0) pa_nil)))
        (pss_cons (ps_expr (pe_callS (ok_check_words T) (hr.mono (by decide)) rfl T.g_check_words T.F_check_words.kp (bd_check_words T) (fun σ => passAt (takes_of rfl rfl rfl rfl) σ) (pa_cons (pv 0) (pa_cons (pv 1) pa_nil))))
        (pss_one (ps_ret (pe_call (ok_changed T) (hr.mono (by decide)) rfl T.g_changed T.F_changed.kp (bd_changed T) .nil pass0 (pa_cons (pv 1) (pa_cons (pe_op op_sub (pe_op op_shl pe_int (pv 0)) pe_int) pa_nil))))))), ?_⟩
    obtain ⟨h2, ht, hz, k, ew, ex⟩ := h
    refine ⟨_, rfl, wd, rfl, fun h1 => ?_, ew⟩
    refine ⟨_, rfl, _, rfl, wd, t, xs, rfl, h1, h2, ht, fun hx H1 s1 => ?_, ex h1⟩
    
    refine ⟨_, rfl, _, rfl, _, _, rfl, rfl, ⟨by omega, by omega, by decide⟩, _, _, rfl, rfl, t, xs, _, rfl, sameT s1 ht, hz, fun p H2 hp s2 e => ?_⟩
    refine k h1 hx p H2 (s1.free hp) (s1.trans s2) ?_
    rw [e, Int.one_mul, List.map_congr_left fun x m => xor_all (hx x m)]
/-! extended -/
def sp_extended (K : PySem.W.Frag) (A0 : Ad) : Sp := fun vs H Q E => ∃ (wd : Int) (t : Addr) (xs : List Int) (wi : Int) (ks : Bool), vs = [.int wd, .ref t, .int wi, .bl ks] ∧ wd ≤ 1000 ∧ wi ≤ 1000 ∧ SqT K H t (xs.map V.int) ∧ xs.length ≤ 1000 ∧ (1 ≤ wd → wd ≤ wi → (∀ x ∈ xs, Word wd x) → (ks = false → ∀ H', Same H H' → Q (.ref t) H') ∧ (ks = true → ∀ p H', H p = none → Same H H' → H' p = some (.tup ((xs.map (ex wd wi)).map V.int)) → Q (.ref p) H')) ∧ (wd < 1 → Lets A0.c_InvalidWidth (.int wd) H E) ∧ (1 ≤ wd → ∀ i, BadAt wd xs i → Lets A0.c_InvalidWords (.int (i : Nat)) H E) ∧ (1 ≤ wd → (∀ x ∈ xs, Word wd x) → wi < wd → Lets A0.c_InvalidWidth (.int wi) H E)
theorem sc_extended : FnScope ["width", "words", "wider", "keep_sign", "added_bits", "word"] ["width", "words", "wider", "keep_sign"] (defScope s_extended) := ⟨rfl, rfl, rfl, by decide +kernel, rfl, by decide +kernel, by decide +kernel⟩
theorem bd_extended (T : Txt w K mg A0) : Binds K A0.d_extended ["width", "words", "wider", "keep_sign"] [] := T.F_extended.binds fun _ _ _ _ _ _ us hl => match us, hl with | [_, _, _, _], _ => rfl
theorem ok_extended (T : Txt w K mg A0) : FnOk P w K mg base (L2.CX P w) 4 A0.a_extended A0.d_extended ["width", "words", "wider", "keep_sign"] (sp_extended K A0) := by
  refine T.F_extended.okX sc_extended (fun vs H Q E h => ?_) (fun cdv A outer s H vs Q E hr h => ?_)
  · obtain ⟨wd, t, xs, wi, ks, rfl, _⟩ := h
    rfl
  · obtain ⟨wd, t, xs, wi, ks, rfl, h⟩ := h
    refine ⟨_, (pss_cons (ps_expr (pe_callS (ok_check_width T) (hr.mono (by decide)) rfl T.g_check_width T.F_check_width.kp (bd_check_width T) (fun σ => passAt (takes_of rfl rfl rfl rfl) σ) (pa_cons (pv 0) pa_nil)))
        (pss_cons (ps_expr (pe_callS (ok_check_words T) (hr.mono (by decide)) rfl T.g_check_words T.F_check_words.kp (bd_check_words T) (fun σ => passAt (takes_of rfl rfl rfl rfl) σ) (pa_cons (pv 0) (pa_cons (pv 1) pa_nil))))
        (pss_cons (ps_if (pt_cmpR op_lt (pv 2) (pv 0) (nomark _)) (pss_one (ps_raise rfl (takes_of rfl rfl rfl rfl) (pmk_oex (T.er_InvalidWidth).ox (T.er_InvalidWidth).ii (T.er_InvalidWidth).ti (okI_InvalidWidth T) (hr.mono (by decide)) (bdI_InvalidWidth T) .nil pass0 rfl T.gc_InvalidWidth (pa_cons (pv 2) pa_nil)))) pss_nil)
        (pss_cons (ps_if (pt_not (pt_val (pv 3))) (pss_one (ps_ret (pe_callTy call_tuple_of (by rfl) T.b_tuple (by decide +kernel) (pa_cons (pv 1) pa_nil)))) pss_nil)
        (pss_cons (ps_set (i := 4) sc_extended.nd rfl (Or.inr rfl) (pe_op op_sub (pe_op op_shl pe_int (pv 2)) (pe_op op_shl pe_int (pv 0))))
        (pss_one (ps_ret (pe_callTy call_tuple_of (by rfl) T.b_tuple (by decide +kernel) (pa_cons (pe_lc (own := [("word", 5)]) (g := gName 5) rfl sc_extended.nd (pi_tup (pv 1)) (blkOk_by (own := [("word", 5)]) (N := ["width", "words", "wider", "keep_sign", "added_bits", "word"]) (sc := defScope s_extended) (by decide +kernel)) (fun _ _ _ _ _ => pg_name (i := 5) sc_extended.nd rfl (Or.inl rfl)) (fun _ _ _ _ _ => pts_nil) (fun _ _ _ _ _ => (pe_ifExp (pt_cmpR op_ge (pv 5) (pe_call (ok_sign_bit T) (hr.mono (by decide)) rfl T.g_sign_bit T.F_sign_bit.kp (bd_sign_bit T) .nil pass0 (pa_cons (pv 0) pa_nil)) (nomark _)) (pe_op op_add (pv 5) (pv 4)) (pv 5)))) pa_nil))))))))), ?_⟩
    obtain ⟨h2, h3, ht, hz, k, ew, ex1, el⟩ := h
    refine ⟨_, rfl, wd, rfl, fun h1 => ?_, ew⟩
    refine ⟨_, rfl, _, rfl, wd, t, xs, rfl, h1, h2, ht, fun hx H1 s1 => ?_, ex1 h1⟩
    refine ⟨_, rfl, _, rfl, _, _, rfl, rfl, _, rfl, ?_⟩
    by_cases cw : wi < wd
    · refine tT (decide_eq_true cw) ?_
      exact ⟨_, rfl, mkO_end ((el h1 hx cw).later s1).now⟩
    refine tF (decide_eq_false cw) ?_
    obtain ⟨kF, kT⟩ := k h1 (by omega) hx
    
    refine ⟨_, rfl, _, rfl, ?_⟩
    cases ks with
    | false =>
      refine tT rfl ?_
      exact ⟨_, rfl, t, _, rfl, .inr ⟨sameT s1 ht, kF rfl H1 s1⟩⟩
    | true =>
      refine tF rfl ?_
      refine ⟨_, rfl, _, _, rfl, rfl, ⟨by omega, by omega, by decide⟩, _, rfl, _, _, rfl, rfl, ⟨by omega, by omega, by decide⟩, _, _, rfl, rfl, ?_⟩
      refine ⟨_, rfl, t, rfl, ⟨_, sameT s1 ht⟩, fun D hD => lc_ints (ex wd wi) (sameT s1 ht) hz hD (fun _ => rfl) (fun x H2 Q2 _ _ q => ?_) (fun H2 s e => ?_)⟩
      · have q1 := q H2 (Same.refl H2)
        unfold ex at q1
        refine ⟨_, rfl, _, rfl, wd, rfl, h1, by omega, _, _, rfl, rfl, _, rfl, ?_⟩
        by_cases c : (2 : Int) ^ (wd - 1).toNat ≤ x
        · rw [if_pos c] at q1
          refine tT (decide_eq_true c) ?_
          refine ⟨_, rfl, _, rfl, _, _, rfl, rfl, ?_⟩
          show Q2 (.int (x + (1 * 2 ^ wi.toNat - 1 * 2 ^ wd.toNat))) H2
          rw [Int.one_mul, Int.one_mul]
          exact q1
        · rw [if_neg c] at q1
          refine tF (decide_eq_false c) ?_
          exact ⟨_, rfl, q1⟩
      · refine ⟨D, _, rfl, .inl ⟨SqL.of e, fun p hp => ?_⟩⟩
        exact kT rfl p _ (s1.free (s.free hp)) (s1.trans (s.trans (sameNew hp))) upd_same
/-! ordered_outcomes -/
def sp_ordered_outcomes (K : PySem.W.Frag) (A0 : Ad) : Sp := fun vs H Q E => ∃ (t : Addr) (zs : List Str), vs = [.ref t] ∧ SqT K H t (zs.map V.str) ∧ zs.length ≤ 1000 ∧ ((∀ z ∈ zs, z ∈ outs) → ∀ p H', H p = none → Same H H' → H' p = some (.tup ((outs.filter fun o => decide (o ∈ zs)).map V.str)) → Q (.ref p) H') ∧ (∀ (i : Nat) (z : Str), zs[i]? = some z → z ∉ outs → (∀ (j : Nat) (y : Str), j < i → zs[j]? = some y → y ∈ outs) → ∀ d H', H d = none → Same H H' → H' d = some (.xd [("value", .str z)]) → E (.ref A0.c_InvalidOutcome) (some d) H')
theorem sc_ordered_outcomes : FnScope ["outcomes", "outcome"] ["outcomes"] (defScope s_ordered_outcomes) := ⟨rfl, rfl, rfl, by decide +kernel, rfl, by decide +kernel, by decide +kernel⟩
theorem bd_ordered_outcomes (T : Txt w K mg A0) : Binds K A0.d_ordered_outcomes ["outcomes"] [] := T.F_ordered_outcomes.binds fun _ _ _ _ _ _ us hl => match us, hl with | [_], _ => rfl
theorem ok_ordered_outcomes (T : Txt w K mg A0) : FnOk P w K mg base (L2.CX P w) 4 A0.a_ordered_outcomes A0.d_ordered_outcomes ["outcomes"] (sp_ordered_outcomes K A0) := by
  refine T.F_ordered_outcomes.okX sc_ordered_outcomes (fun vs H Q E h => ?_) (fun cdv A outer s H vs Q E hr h => ?_)
  · obtain ⟨t, zs, rfl, _⟩ := h
    rfl
  · obtain ⟨t, zs, rfl, h⟩ := h
    refine ⟨_, (pss_cons (ps_for (passes_of rfl) rfl (pi_tup (pv 0)) (pg_name (i := 1) sc_ordered_outcomes.nd rfl (Or.inl rfl)) (pss_one (ps_expr (pe_callS (ok_check_outcome T) (hr.mono (by decide)) rfl T.g_check_outcome T.F_check_outcome.kp (bd_check_outcome T) (fun σ => passAt (takes_of rfl rfl rfl rfl) σ) (pa_cons (pv 1) pa_nil)))))
        (pss_one (ps_ret (pe_callTy call_tuple_of (by rfl) T.b_tuple (by decide +kernel) (pa_cons (pe_lc (own := [("outcome", 1)]) (g := gName 1) rfl sc_ordered_outcomes.nd (pi_tup (pe_glob (v := .ref A0.v_OUTCOMES) rfl T.gv_OUTCOMES rfl)) (blkOk_by (own := [("outcome", 1)]) (N := ["outcomes", "outcome"]) (sc := defScope s_ordered_outcomes) (by decide +kernel)) (fun _ _ _ _ _ => pg_name (i := 1) sc_ordered_outcomes.nd rfl (Or.inl rfl)) (fun _ _ _ _ _ => pts_one (pt_cmpR (show OpR _ _ (rIn K false) from op_in_seq) (pv 1) (pv 0) rfl)) (fun _ _ _ _ _ => (pv 1))) pa_nil))))), ?_⟩
    obtain ⟨hS, hz, k, e⟩ := h
    refine ⟨_, rfl, t, rfl, ⟨_, hS⟩, for_tup (K := K) (a := t) (xs := zs.map V.str) (fun i σ H' => ∃ u, σ = [some (.ref t), u] ∧ Same H H' ∧ ∀ (j : Nat) (y : Str), j < i → zs[j]? = some y → y ∈ outs) ⟨none, rfl, Same.refl H, fun j y z => absurd z (Nat.not_lt_zero j)⟩ (fun i σ H' _ hp => ?_) ?_ ?_⟩
    · obtain ⟨_, _, s, _⟩ := hp
      exact sameT s hS
    · rintro i x σ H1 hx ⟨u, rfl, s, pre⟩
      obtain ⟨z, hz1, rfl⟩ := mapS_at hx
      refine ⟨_, rfl, z, rfl, fun hi => ?_, fun hi d hd => ?_⟩
      · refine ⟨_, rfl, s, fun j y hj hy => ?_⟩
        by_cases c : j = i
        · rw [c, hz1] at hy
          cases hy
          exact hi
        · exact pre j y (by omega) hy
      · exact e i z hz1 hi pre d _ (s.free hd) (s.trans (sameNew hd)) upd_same
    · rintro σ H1 ⟨u, rfl, s, pre⟩
      rw [List.length_map] at pre
      have all : ∀ z ∈ zs, z ∈ outs := fun z hz => by
        obtain ⟨j, hj, e⟩ := List.mem_iff_getElem.mp hz
        exact pre j z hj (by rw [List.getElem?_eq_getElem hj, e])
      refine ⟨A0.v_OUTCOMES, rfl, ⟨_, T.tv_OUTCOMES.sq⟩, fun D hD => lc_pick (fun o => decide (o ∈ zs)) T.tv_OUTCOMES.sq (by decide) hD (fun _ => rfl) (fun x H2 Q2 _ s2 q => ?_) (fun x H2 Q2 _ _ q => ?_) (fun H2 s2 e2 => ?_)⟩
      · refine ⟨_, rfl, _, rfl, t, zs.map V.str, rfl, .inr (sameT s2 (sameT s hS)), rfl, flat_strs, _, rfl, ?_⟩
        rw [inV_str]
        exact q
      · exact ⟨_, rfl, q⟩
      · refine ⟨D, _, rfl, .inl ⟨SqL.of e2, fun p hp => ?_⟩⟩
        exact k all p _ (s.free (s2.free hp)) (s.trans (s2.trans (sameNew hp))) upd_same
/-! outcomes_of -/
def sp_outcomes_of (K : PySem.W.Frag) (A0 : Ad) : Sp := fun vs H Q E => ∃ z : Str, vs = [.str z] ∧ (∀ os p, tab_CONDITIONS.lookup z = some os → TupK K p os → Q (.ref p) H) ∧ (tab_CONDITIONS.lookup z = none → ∀ d, H d = none → E (.ref A0.c_InvalidCondition) (some d) (upd H d (.xd [("value", .str z)])))
theorem sc_outcomes_of : FnScope ["condition"] ["condition"] (defScope s_outcomes_of) := ⟨rfl, rfl, rfl, by decide +kernel, rfl, by decide +kernel, by decide +kernel⟩
theorem bd_outcomes_of (T : Txt w K mg A0) : Binds K A0.d_outcomes_of ["condition"] [] := T.F_outcomes_of.binds fun _ _ _ _ _ _ us hl => match us, hl with | [_], _ => rfl
theorem ok_outcomes_of (T : Txt w K mg A0) : FnOk P w K mg base (L2.CX P w) 4 A0.a_outcomes_of A0.d_outcomes_of ["condition"] (sp_outcomes_of K A0) := by
  refine T.F_outcomes_of.okX sc_outcomes_of (fun vs H Q E h => ?_) (fun cdv A outer s H vs Q E hr h => ?_)
  · obtain ⟨z, rfl, _⟩ := h
    rfl
  · obtain ⟨z, rfl, h⟩ := h
    refine ⟨_, (pss_cons (ps_expr (pe_callS (ok_check_condition T) (hr.mono (by decide)) rfl T.g_check_condition T.F_check_condition.kp (bd_check_condition T) (fun σ => passAt (takes_of rfl rfl rfl rfl) σ) (pa_cons (pv 0) pa_nil)))
        (pss_one (ps_ret (pe_ix ix_tab (pe_glob (v := .ref A0.v_CONDITIONS) rfl T.gv_CONDITIONS rfl) (pv 0) (fun _ _ => rfl))))), ?_⟩
    obtain ⟨k, e⟩ := h
    refine ⟨_, rfl, z, rfl, fun os h1 => ?_, fun h1 d hd => e h1 d hd⟩
    rcases tab_find (z := z) (tr_CONDITIONS T) with ⟨h2, _⟩ | ⟨os2, a, h2, h3, h4⟩
    · rw [h1] at h2
      cases h2
    · rw [h1] at h2
      cases h2
      exact ⟨_, rfl, _, z, _, _, rfl, rfl, T.kt_CONDITIONS P, h3, k os a h1 h4⟩
/-! composed -/
def sp_composed (K : PySem.W.Frag) (A0 : Ad) : Sp := fun vs H Q E => ∃ a b : Str, vs = [.str a, .str b] ∧ (a ∈ outs → b ∈ outs → ∀ p H', Same H H' → SqT K H' p ((compOuts a b).map V.str) → Q (.ref p) H') ∧ (a ∉ outs → ∀ d, H d = none → E (.ref A0.c_InvalidOutcome) (some d) (upd H d (.xd [("value", .str a)]))) ∧ (a ∈ outs → b ∉ outs → ∀ d, H d = none → E (.ref A0.c_InvalidOutcome) (some d) (upd H d (.xd [("value", .str b)])))
theorem sc_composed : FnScope ["first", "second", "first_mixed", "second_mixed"] ["first", "second"] (defScope s_composed) := ⟨rfl, rfl, rfl, by decide +kernel, rfl, by decide +kernel, by decide +kernel⟩
theorem bd_composed (T : Txt w K mg A0) : Binds K A0.d_composed ["first", "second"] [] := T.F_composed.binds fun _ _ _ _ _ _ us hl => match us, hl with | [_, _], _ => rfl
theorem ok_composed (T : Txt w K mg A0) : FnOk P w K mg base (L2.CX P w) 4 A0.a_composed A0.d_composed ["first", "second"] (sp_composed K A0) := by
  refine T.F_composed.okX sc_composed (fun vs H Q E h => ?_) (fun cdv A outer s H vs Q E hr h => ?_)
  · obtain ⟨a, b, rfl, _⟩ := h
    rfl
  · obtain ⟨a, b, rfl, h⟩ := h
    refine ⟨_, (pss_cons (ps_expr (pe_callS (ok_check_outcome T) (hr.mono (by decide)) rfl T.g_check_outcome T.F_check_outcome.kp (bd_check_outcome T) (fun σ => passAt (takes_of rfl rfl rfl rfl) σ) (pa_cons (pv 0) pa_nil)))
        (pss_cons (ps_expr (pe_callS (ok_check_outcome T) (hr.mono (by decide)) rfl T.g_check_outcome T.F_check_outcome.kp (bd_check_outcome T) (fun σ => passAt (takes_of rfl rfl rfl rfl) σ) (pa_cons (pv 1) pa_nil)))
        (pss_cons (ps_if (pt_cmpR op_eq (pv 0) pe_str (nomark _)) (pss_one (ps_ret (pe_tup (pa_cons (pv 1) pa_nil)))) pss_nil)
        (pss_cons (ps_if (pt_cmpR op_eq (pv 1) pe_str (nomark _)) (pss_one (ps_ret (pe_tup (pa_cons (pv 0) pa_nil)))) pss_nil)
        (pss_cons (ps_set (i := 2) sc_composed.nd rfl (Or.inl rfl) (pe_cmpR op_in_seq (pv 0) (pe_ix ix_tab (pe_glob (v := .ref A0.v_CONDITIONS) rfl T.gv_CONDITIONS rfl) pe_str (fun _ _ => rfl)) rfl))
        (pss_cons (ps_set (i := 3) sc_composed.nd rfl (Or.inl rfl) (pe_cmpR op_in_seq (pv 1) (pe_ix ix_tab (pe_glob (v := .ref A0.v_CONDITIONS) rfl T.gv_CONDITIONS rfl) pe_str (fun _ _ => rfl)) rfl))
        (pss_cons (ps_if (pt_cmpR op_ne (pv 2) (pv 3) (nomark _)) (pss_one (ps_ret (pe_ifExp (pt_val (pv 2)) (pe_tup (pa_cons (pv 0) pa_nil)) (pe_tup (pa_cons (pv 1) pa_nil))))) pss_nil)
        (pss_cons (ps_if (pt_cmpR op_ne (pv 0) (pv 1) (nomark _)) (pss_one (ps_ret (pe_ix ix_tab (pe_glob (v := .ref A0.v_CONDITIONS) rfl T.gv_CONDITIONS rfl) pe_str (fun _ _ => rfl)))) pss_nil)
        (pss_one (ps_ret (pe_ifExp (pt_val (pv 2)) (pe_tup pa_nil) (pe_tup (pa_cons (pv 0) pa_nil))))))))))))), ?_⟩
    obtain ⟨k, e1, e2⟩ := h
    refine ⟨_, rfl, a, rfl, fun ha => ?_, fun h1 d hd => e1 h1 d hd⟩
    refine ⟨_, rfl, b, rfl, fun hb => ?_, fun h1 d hd => e2 ha h1 d hd⟩
    have fin : ∀ (p : Addr) (xs : List Str), compOuts a b = xs → H p = none → Q (.ref p) (upd H p (.tup (xs.map V.str))) := fun p xs e hp => k ha hb p _ (sameNew hp) (by rw [e]; exact SqT.of upd_same)
    refine ⟨_, rfl, rfl, _, rfl, ?_⟩
    by_cases c1 : a = "E"
    · refine tT (by simp [c1]) ?_
      exact ⟨_, rfl, (by show 1 ≤ sizeLine; decide), fun p hp => fin p [b] (by simp [compOuts, c1]) hp⟩
    refine tF (by simp [c1]) ?_
    refine ⟨_, rfl, rfl, _, rfl, ?_⟩
    by_cases c2 : b = "E"
    · refine tT (by simp [c2]) ?_
      exact ⟨_, rfl, (by show 1 ≤ sizeLine; decide), fun p hp => fin p [a] (by simp [compOuts, c1, c2]) hp⟩
    refine tF (by simp [c2]) ?_
    refine ⟨_, rfl, A0.v_CONDITIONS, _, _, _, rfl, rfl, T.kt_CONDITIONS P, rfl, _, _, rfl, .inr T.tv_CONDITIONS_11.sq, rfl, flat_strs, ?_⟩
    refine ⟨_, rfl, A0.v_CONDITIONS, _, _, _, rfl, rfl, T.kt_CONDITIONS P, rfl, _, _, rfl, .inr T.tv_CONDITIONS_11.sq, rfl, flat_strs, ?_⟩
    refine ⟨_, rfl, _, rfl, rfl, _, rfl, ?_⟩
    dsimp only
    rw [inV_str, inV_str]
    have cm : compOuts a b = if mixedO a != mixedO b then (if mixedO a then [a] else [b]) else if a ≠ b then ["E", "LB", "GA"] else if mixedO a then [] else [a] := by
      unfold compOuts
      rw [if_neg c1, if_neg c2]
    change compOuts a b = if mixedO a != mixedO b then (if mixedO a then [a] else [b]) else if a ≠ b then ["E", "LB", "GA"] else if mixedO a then [] else [a] at cm
    have ea : decide (a ∈ (["GB", "LA"] : List Str)) = mixedO a := rfl
    have eb : decide (b ∈ (["GB", "LA"] : List Str)) = mixedO b := rfl
    rw [ea, eb]
    generalize mixedO a = x at cm
    generalize mixedO b = y at cm
    by_cases xy : x = y
    · subst xy
      refine tF (by simp) ?_
      refine ⟨_, rfl, _, rfl, rfl, _, rfl, ?_⟩
      by_cases ab : a = b
      · refine tF (by simp [ab]) ?_
        cases x with
        | true =>
          refine ⟨_, rfl, _, rfl, ?_⟩
          refine tT rfl ?_
          exact ⟨(by show 0 ≤ sizeLine; decide), fun p hp => fin p [] (by rw [cm]; simp [ab]) hp⟩
        | false =>
          refine ⟨_, rfl, _, rfl, ?_⟩
          refine tF rfl ?_
          exact ⟨_, rfl, (by show 1 ≤ sizeLine; decide), fun p hp => fin p [a] (by rw [cm]; simp [ab]) hp⟩
      · refine tT (by simp [ab]) ?_
        exact ⟨A0.v_CONDITIONS, _, _, _, rfl, rfl, T.kt_CONDITIONS P, rfl, k ha hb _ H (Same.refl H) (by rw [show compOuts a b = (["E", "LB", "GA"] : List Str) from cm.trans (by simp [ab])]; exact T.tv_CONDITIONS_10.sq)⟩
    · refine tT (by cases x <;> cases y <;> first | rfl | exact absurd rfl xy) ?_
      cases x with
      | true =>
        refine ⟨_, rfl, _, rfl, ?_⟩
        refine tT rfl ?_
        exact ⟨_, rfl, (by show 1 ≤ sizeLine; decide), fun p hp => fin p [a] (by rw [cm]; cases y <;> first | rfl | exact absurd rfl xy) hp⟩
      | false =>
        refine ⟨_, rfl, _, rfl, ?_⟩
        refine tF rfl ?_
        exact ⟨_, rfl, (by show 1 ≤ sizeLine; decide), fun p hp => fin p [b] (by rw [cm]; cases y <;> first | rfl | exact absurd rfl xy) hp⟩
/-! exchanged -/
def sp_exchanged (K : PySem.W.Frag) (A0 : Ad) : Sp := fun vs H Q E => ∃ z : Str, vs = [.str z] ∧ (∀ os, tab_CONDITIONS.lookup z = some os → ∀ y, Q (.str y) H) ∧ (tab_CONDITIONS.lookup z = none → ∀ d, H d = none → E (.ref A0.c_InvalidCondition) (some d) (upd H d (.xd [("value", .str z)])))
theorem sc_exchanged : FnScope ["condition"] ["condition"] (defScope s_exchanged) := ⟨rfl, rfl, rfl, by decide +kernel, rfl, by decide +kernel, by decide +kernel⟩
theorem bd_exchanged (T : Txt w K mg A0) : Binds K A0.d_exchanged ["condition"] [] := T.F_exchanged.binds fun _ _ _ _ _ _ us hl => match us, hl with | [_], _ => rfl
theorem ok_exchanged (T : Txt w K mg A0) : FnOk P w K mg base (L2.CX P w) 4 A0.a_exchanged A0.d_exchanged ["condition"] (sp_exchanged K A0) := by
  refine T.F_exchanged.okX sc_exchanged (fun vs H Q E h => ?_) (fun cdv A outer s H vs Q E hr h => ?_)
  · obtain ⟨z, rfl, _⟩ := h
    rfl
  · obtain ⟨z, rfl, h⟩ := h
    refine ⟨_, (pss_cons (ps_expr (pe_callS (ok_check_condition T) (hr.mono (by decide)) rfl T.g_check_condition T.F_check_condition.kp (bd_check_condition T) (fun σ => passAt (takes_of rfl rfl rfl rfl) σ) (pa_cons (pv 0) pa_nil)))
        (pss_one (ps_ret (pe_getT (pe_glob (v := .ref A0.v_EXCHANGED) rfl T.gv_EXCHANGED rfl) (pv 0) (pv 0) ⟨rfl, rfl, rfl, rfl⟩)))), ?_⟩
    obtain ⟨k, e⟩ := h
    refine ⟨_, rfl, z, rfl, fun os h1 => ?_, fun h1 d hd => e h1 d hd⟩
    refine ⟨A0.v_EXCHANGED, _, rfl, T.kt_EXCHANGED P, _, rfl, _, rfl, z, rfl, ?_⟩
    have f := txt_find (z := z) (l := tab_EXCHANGED)
    dsimp only at f ⊢
    change valV ([("l", .str "b"), ("le", .str "be"), ("g", .str "a"), ("ge", .str "ae"), ("b", .str "l"), ("be", .str "le"), ("a", .str "g"), ("ae", .str "ge")] : List (Str × V)) z = _ at f
    rw [f]
    cases hc : tab_EXCHANGED.lookup z with
    | none => exact k os h1 z
    | some y => exact k os h1 y
/-! reversed_condition -/
def sp_reversed_condition (K : PySem.W.Frag) (A0 : Ad) : Sp := fun vs H Q E => ∃ z : Str, vs = [.str z] ∧ (∀ os, tab_CONDITIONS.lookup z = some os → ∀ y, Q (.str y) H) ∧ (tab_CONDITIONS.lookup z = none → ∀ d, H d = none → E (.ref A0.c_InvalidCondition) (some d) (upd H d (.xd [("value", .str z)])))
theorem sc_reversed_condition : FnScope ["condition"] ["condition"] (defScope s_reversed_condition) := ⟨rfl, rfl, rfl, by decide +kernel, rfl, by decide +kernel, by decide +kernel⟩
theorem bd_reversed_condition (T : Txt w K mg A0) : Binds K A0.d_reversed_condition ["condition"] [] := T.F_reversed_condition.binds fun _ _ _ _ _ _ us hl => match us, hl with | [_], _ => rfl
theorem ok_reversed_condition (T : Txt w K mg A0) : FnOk P w K mg base (L2.CX P w) 4 A0.a_reversed_condition A0.d_reversed_condition ["condition"] (sp_reversed_condition K A0) := by
  refine T.F_reversed_condition.okX sc_reversed_condition (fun vs H Q E h => ?_) (fun cdv A outer s H vs Q E hr h => ?_)
  · obtain ⟨z, rfl, _⟩ := h
    rfl
  · obtain ⟨z, rfl, h⟩ := h
    refine ⟨_, (pss_cons (ps_expr (pe_callS (ok_check_condition T) (hr.mono (by decide)) rfl T.g_check_condition T.F_check_condition.kp (bd_check_condition T) (fun σ => passAt (takes_of rfl rfl rfl rfl) σ) (pa_cons (pv 0) pa_nil)))
        (pss_one (ps_ret (pe_getT (pe_glob (v := .ref A0.v_REVERSED) rfl T.gv_REVERSED rfl) (pv 0) (pv 0) ⟨rfl, rfl, rfl, rfl⟩)))), ?_⟩
    obtain ⟨k, e⟩ := h
    refine ⟨_, rfl, z, rfl, fun os h1 => ?_, fun h1 d hd => e h1 d hd⟩
    refine ⟨A0.v_REVERSED, _, rfl, T.kt_REVERSED P, _, rfl, _, rfl, z, rfl, ?_⟩
    have f := txt_find (z := z) (l := tab_REVERSED)
    dsimp only at f ⊢
    change valV ([("l", .str "g"), ("le", .str "ge"), ("g", .str "l"), ("ge", .str "le"), ("b", .str "a"), ("be", .str "ae"), ("a", .str "b"), ("ae", .str "be")] : List (Str × V)) z = _ at f
    rw [f]
    cases hc : tab_REVERSED.lookup z with
    | none => exact k os h1 z
    | some y => exact k os h1 y
/-! condition_of -/
def sp_condition_of (K : PySem.W.Frag) (A0 : Ad) : Sp := fun vs H Q E => ∃ (t : Addr) (zs : List Str), vs = [.ref t] ∧ SqT K H t (zs.map V.str) ∧ zs.length ≤ 1000 ∧ ((∀ z ∈ zs, z ∈ outs) → ∀ H', Same H H' → Q (match tab_CONDITIONS.find? (fun q => decide (q.2 = outs.filter fun o => decide (o ∈ zs))) with | some q => .str q.1 | none => .non) H') ∧ (∀ (i : Nat) (z : Str), zs[i]? = some z → z ∉ outs → (∀ (j : Nat) (y : Str), j < i → zs[j]? = some y → y ∈ outs) → ∀ d H', H d = none → Same H H' → H' d = some (.xd [("value", .str z)]) → E (.ref A0.c_InvalidOutcome) (some d) H')
theorem sc_condition_of : FnScope ["outcomes", "wanted", "condition", "held"] ["outcomes"] (defScope s_condition_of) := ⟨rfl, rfl, rfl, by decide +kernel, rfl, by decide +kernel, by decide +kernel⟩
theorem bd_condition_of (T : Txt w K mg A0) : Binds K A0.d_condition_of ["outcomes"] [] := T.F_condition_of.binds fun _ _ _ _ _ _ us hl => match us, hl with | [_], _ => rfl
theorem ok_condition_of (T : Txt w K mg A0) : FnOk P w K mg base (L2.CX P w) 5 A0.a_condition_of A0.d_condition_of ["outcomes"] (sp_condition_of K A0) := by
  refine T.F_condition_of.okX sc_condition_of (fun vs H Q E h => ?_) (fun cdv A outer s H vs Q E hr h => ?_)
  · obtain ⟨t, zs, rfl, _⟩ := h
    rfl
  · obtain ⟨t, zs, rfl, h⟩ := h
    refine ⟨_, (pss_cons (ps_set (i := 1) sc_condition_of.nd rfl (Or.inl rfl) (pe_callS (ok_ordered_outcomes T) (hr.mono (by decide)) rfl T.g_ordered_outcomes T.F_ordered_outcomes.kp (bd_ordered_outcomes T) (fun σ => passAt (takes_of rfl rfl rfl rfl) σ) (pa_cons (pv 0) pa_nil)))
        (pss_cons (ps_for (passes_of rfl) rfl (pi_itemsK (pe_glob (v := .ref A0.v_CONDITIONS) rfl T.gv_CONDITIONS rfl)) (pg_tup rfl (pgs_cons (pg_name (i := 2) sc_condition_of.nd rfl (Or.inl rfl)) (pgs_cons (pg_name (i := 3) sc_condition_of.nd rfl (Or.inl rfl)) pgs_nil))) (pss_one (ps_if (pt_cmpR (op_eqD hr.units) (pv 3) (pv 1) (nomark _)) (pss_one (ps_ret (pv 2))) pss_nil)))
        (pss_one (ps_ret pe_non)))), ?_⟩
    obtain ⟨hS, hz, k, e⟩ := h
    refine ⟨_, rfl, t, zs, rfl, hS, hz, fun all p H1 hp s1 e1 => ?_, fun i z h1 h2 h3 d H1 hd s1 e1 => e i z h1 h2 h3 d H1 hd s1 e1⟩
    refine ⟨A0.v_CONDITIONS, _, rfl, T.kt_CONDITIONS P, for_it walk_itemsK (fun i σ H' => ∃ u v, σ = [some (.ref t), some (.ref p), u, v] ∧ Same H1 H' ∧ ∀ (j : Nat) (q : Str × List Str), j < i → tab_CONDITIONS[j]? = some q → decide (q.2 = outs.filter fun o => decide (o ∈ zs)) = false) ⟨none, none, rfl, Same.refl H1, fun j q z => absurd z (Nat.not_lt_zero j)⟩ (fun _ _ _ _ _ => trivial) ?_ ?_⟩
    · rintro i x σ H2 H3 hi ⟨u, v, rfl, s, pre⟩ ⟨T1, x1, y1, rfl, fr, rfl, e1', e2'⟩
      obtain ⟨⟨ck, cx⟩, hp⟩ : ∃ q, ([("e", .ref A0.p_CONDITIONS_0), ("ne", .ref A0.p_CONDITIONS_1), ("l", .ref A0.p_CONDITIONS_2), ("le", .ref A0.p_CONDITIONS_3), ("g", .ref A0.p_CONDITIONS_4), ("ge", .ref A0.p_CONDITIONS_5), ("b", .ref A0.p_CONDITIONS_6), ("be", .ref A0.p_CONDITIONS_7), ("a", .ref A0.p_CONDITIONS_8), ("ae", .ref A0.p_CONDITIONS_9), ("same", .ref A0.p_CONDITIONS_10), ("mixed", .ref A0.p_CONDITIONS_11)] : List (Str × V))[i]? = some q := ⟨_, List.getElem?_eq_getElem hi⟩
      dsimp only at e1' e2'
      rw [hp] at e1' e2'
      cases e1'
      cases e2'
      obtain ⟨os, ca, h1, rfl, h3⟩ := tab_at (tr_CONDITIONS T) hp
      have s2 : Same H1 (upd H2 T1 (.tup [.str ck, .ref ca])) := s.trans (sameNew fr)
      refine ⟨T1, _, rfl, SqT.of upd_same, rfl, _, _, rfl, _, _, rfl, rfl, ?_⟩
      have okO : ∀ q ∈ tab_CONDITIONS, ∀ x ∈ q.2, PyData.strOk x = true := by decide +kernel
      have okW : ∀ x ∈ outs.filter fun o => decide (o ∈ zs), PyData.strOk x = true := fun x m => (show ∀ x ∈ outs, PyData.strOk x = true by decide +kernel) x (List.mem_filter.mp m).1
      refine ⟨_, rfl, _, rfl, _, _, dp_strsT h3.sq, dp_strsT (SqT.of (s2 _ _ e1)), strs_shapedT (okO _ (List.mem_of_getElem? h1)), strs_shapedT okW, _, rfl, ?_⟩
      rw [strs_eqv]
      by_cases c : os = outs.filter fun o => decide (o ∈ zs)
      · refine tT (decide_eq_true c) ?_
        have q := k all _ (s1.trans s2)
        rw [find_at h1 (decide_eq_true c) pre] at q
        exact ⟨_, rfl, q⟩
      · refine tF (decide_eq_false c) ?_
        refine ⟨_, _, rfl, s2, fun j q hj hq => ?_⟩
        by_cases cj : j = i
        · rw [cj, h1] at hq
          cases hq
          exact decide_eq_false c
        · exact pre j q (by omega) hq
    · rintro σ H2 ⟨u, v, rfl, s, pre⟩
      have q := k all H2 (s1.trans s)
      rw [find_no fun j y hy => pre j y (List.getElem?_eq_some_iff.mp hy).1 hy] at q
      exact q
/-! shortest_chain -/
def sp_shortest_chain (K : PySem.W.Frag) (A0 : Ad) : Sp := fun vs H Q E => ∃ (t : Addr) (zs : List Str), vs = [.ref t] ∧ SqT K H t (zs.map V.str) ∧ zs.length ≤ 1000 ∧ ((∀ z ∈ zs, z ∈ outs) → ∀ v H', Same H H' → Q v H') ∧ (∀ (i : Nat) (z : Str), zs[i]? = some z → z ∉ outs → (∀ (j : Nat) (y : Str), j < i → zs[j]? = some y → y ∈ outs) → ∀ d H', H d = none → Same H H' → H' d = some (.xd [("value", .str z)]) → E (.ref A0.c_InvalidOutcome) (some d) H')
theorem sc_shortest_chain : FnScope ["outcomes", "wanted", "chains", "newest", "attempts", "held", "rule", "reached", "rules", "last"] ["outcomes"] (defScope s_shortest_chain) := ⟨rfl, rfl, rfl, by decide +kernel, rfl, by decide +kernel, by decide +kernel⟩
theorem bd_shortest_chain (T : Txt w K mg A0) : Binds K A0.d_shortest_chain ["outcomes"] [] := T.F_shortest_chain.binds fun _ _ _ _ _ _ us hl => match us, hl with | [_], _ => rfl
theorem ok_shortest_chain (T : Txt w K mg A0) : FnOk P w K mg base (L2.CX P w) 5 A0.a_shortest_chain A0.d_shortest_chain ["outcomes"] (sp_shortest_chain K A0) := by
  refine T.F_shortest_chain.okX sc_shortest_chain (fun vs H Q E h => ?_) (fun cdv A outer s H vs Q E hr h => ?_)
  · obtain ⟨t, zs, rfl, _⟩ := h
    rfl
  · obtain ⟨t, zs, rfl, h⟩ := h
    refine ⟨_, (pss_cons (ps_set (i := 1) sc_shortest_chain.nd rfl (Or.inl rfl) (pe_callS (ok_ordered_outcomes T) (hr.mono (by decide)) rfl T.g_ordered_outcomes T.F_ordered_outcomes.kp (bd_ordered_outcomes T) (fun σ => passAt (takes_of rfl rfl rfl rfl) σ) (pa_cons (pv 0) pa_nil)))
        (pss_cons (ps_set (i := 2) sc_shortest_chain.nd rfl (Or.inl rfl) (pe_dispN hr.units (pps_cons (pe_tup pa_nil) (pe_tup (pa_cons (pe_tup pa_nil) (pa_cons pe_bl pa_nil))) (pps_cons (pe_glob (v := .ref A0.v_OUTCOMES) rfl T.gv_OUTCOMES rfl) (pe_tup (pa_cons (pe_tup pa_nil) (pa_cons pe_bl pa_nil))) pps_nil)) (by rfl) (by rfl) (fun z => by cases z) (by decide)))
        (pss_cons (ps_set (i := 3) sc_shortest_chain.nd rfl (Or.inl rfl) (pe_lst (pa_cons (pe_tup pa_nil) (pa_cons (pe_glob (v := .ref A0.v_OUTCOMES) rfl T.gv_OUTCOMES rfl) pa_nil))))
        (pss_cons (ps_while (passes_of rfl) (pt_cmpR (op_notInN hr.units) (pv 1) (pv 2) rfl) (pss_cons (ps_setLc2 (i := 4) (own := [("held", 5), ("rule", 6)]) (vs1 := [6]) (g := gName 5) (g1 := gName 6) rfl sc_shortest_chain.nd rfl rfl (sw_true rfl rfl rfl (by decide +kernel)) (pi_list (pv 3)) (blkOk_by (own := [("held", 5), ("rule", 6)]) (N := ["outcomes", "wanted", "chains", "newest", "attempts", "held", "rule", "reached", "rules", "last"]) (sc := defScope s_shortest_chain) (by decide +kernel)) (by decide) (fun _ _ _ _ _ => pg_name (i := 5) sc_shortest_chain.nd rfl (Or.inl rfl)) (fun _ _ _ _ _ => pts_nil) (fun _ _ _ _ _ => (show PI _ _ _ (iList K _) from pi_list (pe_call0 (ok_all_rules T) (hr.mono (by decide)) rfl T.g_all_rules T.F_all_rules.kp (bd_all_rules T) .nil pass0))) (fun _ _ _ _ _ => pg_name (i := 6) sc_shortest_chain.nd rfl (Or.inl rfl)) (fun _ _ _ _ _ => pts_nil) (fun _ _ _ _ _ => (pe_tup (pa_cons (pv 5) (pa_cons (pv 6) pa_nil)))))
        (pss_cons (ps_set (i := 3) sc_shortest_chain.nd rfl (Or.inl rfl) (pe_lst pa_nil))
        (pss_one (ps_for (passes_of rfl) rfl (pi_list (pv 4)) (pg_tup rfl (pgs_cons (pg_name (i := 5) sc_shortest_chain.nd rfl (Or.inl rfl)) (pgs_cons (pg_name (i := 6) sc_shortest_chain.nd rfl (Or.inl rfl)) pgs_nil))) (pss_cons (ps_set (i := 7) sc_shortest_chain.nd rfl (Or.inl rfl) (pe_call (ok_with_rule T) (hr.mono (by decide)) rfl T.g_with_rule T.F_with_rule.kp (bd_with_rule T) .nil pass0 (pa_cons (pv 5) (pa_cons (pv 6) pa_nil))))
        (pss_one (ps_if (pt_cmpR (op_notInN hr.units) (pv 7) (pv 2) rfl) (pss_cons (ps_asg (pe_ix (ix_nd hr.units) (pv 2) (pv 5) (fun _ _ => rfl)) (pg_tup rfl (pgs_cons (pg_name (i := 8) sc_shortest_chain.nd rfl (Or.inl rfl)) (pgs_cons (pg_name (i := 9) sc_shortest_chain.nd rfl (Or.inl rfl)) pgs_nil))))
        (pss_cons (ps_asg (pe_tup (pa_cons (pe_op op_catT (pe_tup (pa_cons (pv 6) pa_nil)) (pv 8)) (pa_cons (pv 9) pa_nil))) (pg_sub (pv 2) (pv 7) (set_nd hr.units)))
        (pss_one (ps_expr (pe_bmX (K := K) rfl PySem.F.plainAttrs_list PySem.F.slot_list_append PySem.F.type_list_append mt_append (pv 3) (pa_cons (pv 7) pa_nil) rfl rfl rfl rfl rfl))))) pss_nil))))))))
        (pss_one (ps_ret (pe_ix (ix_nd hr.units) (pv 2) (pv 1) (fun _ _ => rfl)))))))), ?_⟩
    obtain ⟨hS, hz, k, e⟩ := h
    refine ⟨_, rfl, t, zs, rfl, hS, hz, fun all wa H1 hw s1 e1 => ?_, fun i z h1 h2 h3 d H1 hd s1 e1 => e i z h1 h2 h3 d H1 hd s1 e1⟩
    obtain ⟨wm, hwm, ew⟩ := mO_all _ (pick_mem fun o => decide (o ∈ zs))
    have wl := List.mem_range.mp hwm
    rw [← ew] at e1
    clear ew
    refine fun c hc => ?_
    refine ⟨(by show 0 ≤ sizeLine; decide), fun k0 hk0 => ⟨(by show 0 ≤ sizeLine; decide), fun r0 hr0 => ⟨(by show 2 ≤ sizeLine; decide), fun v0 hv0 => ?_⟩⟩⟩
    refine ⟨(by show 0 ≤ sizeLine; decide), fun r1 hr1 => ⟨(by show 2 ≤ sizeLine; decide), fun v1 hv1 => ?_⟩⟩
    have e1c := (sameNew hc (o := dRaw P w c [])) _ _ e1
    have ec : (upd H1 c (dRaw P w c [])) c = some (dRaw P w c []) := upd_same
    have s0 : Same H1 (upd H1 c (dRaw P w c [])) := sameNew hc
    have ek0 := ((sameNew hr0 (o := .tup [])).trans ((sameNew hv0 (o := .tup [.ref r0, .bl false])).trans ((sameNew hr1 (o := .tup [])).trans (sameNew hv1 (o := .tup [.ref r1, .bl true]))))) k0 (.tup []) upd_same
    have er0 := ((sameNew hv0 (o := .tup [.ref r0, .bl false])).trans ((sameNew hr1 (o := .tup [])).trans (sameNew hv1 (o := .tup [.ref r1, .bl true])))) r0 (.tup []) upd_same
    have ev0 := ((sameNew hr1 (o := .tup [])).trans (sameNew hv1 (o := .tup [.ref r1, .bl true]))) v0 (.tup [.ref r0, .bl false]) upd_same
    have er1 := (sameNew hv1 (o := .tup [.ref r1, .bl true])) r1 (.tup []) upd_same
    have ev1 := (fun {Hh : Hp} (_ : Hh v1 = none) => (upd_same : upd Hh v1 (.tup [.ref r1, .bl true]) v1 = _)) hv1
    have s5 := (sameNew hk0 (o := .tup [])).trans ((sameNew hr0 (o := .tup [])).trans ((sameNew hv0 (o := .tup [.ref r0, .bl false])).trans ((sameNew hr1 (o := .tup [])).trans (sameNew hv1 (o := .tup [.ref r1, .bl true])))))
    have ec5 := s5 _ _ ec
    have hk : ∀ x ∈ ([(nO 0, k0, .ref v0), (nO 31, A0.v_OUTCOMES, .ref v1)] : NEs), NkAt K _ x.1 (.ref x.2.1) ∧ x.1.depth ≤ 8 := fun x m => by
      rcases List.mem_cons.mp m with rfl | m
      · exact ⟨nO_at (SqT.of ek0), nO_depth 0⟩
      · obtain rfl := List.mem_singleton.mp m
        exact ⟨nO_at T.tv_OUTCOMES.sq, nO_depth 31⟩
    refine ⟨ec5, [(nO 0, k0, .ref v0), (nO 31, A0.v_OUTCOMES, .ref v1)], rfl, hk, (by show 2 ≤ 15; decide), ?_⟩
    have pn : putNs [] [(nO 0, k0, V.ref v0), (nO 31, A0.v_OUTCOMES, V.ref v1)] = [(nO 0, k0, V.ref v0), (nO 31, A0.v_OUTCOMES, V.ref v1)] := by
      show putN (putN [] (nO 0) k0 (.ref v0)) (nO 31) A0.v_OUTCOMES (.ref v1) = _
      rw [putN_new (kvs := []) rfl, putN_new ((ch_val (kvs := [] ++ [(nO 0, k0, V.ref v0)]) (ks := [0]) rfl (by decide) (by decide)).2 (by decide))]
      rfl
    rw [pn]
    have tp5 := TP.dict (o := dRaw P w c [(nO 0, k0, .ref v0), (nO 31, A0.v_OUTCOMES, .ref v1)]) ec5
    have s6 := sameUp (o := dRaw P w c [(nO 0, k0, .ref v0), (nO 31, A0.v_OUTCOMES, .ref v1)]) (s0.trans s5) hc
    have ch6 : Ch K P w _ c (stC 0).1 := ⟨[(nO 0, k0, .ref v0), (nO 31, A0.v_OUTCOMES, .ref v1)], ⟨upd_same, fun x m => let ⟨a, b⟩ := hk x m; ⟨a.mono fun _ _ q => tp5.sq q, b⟩⟩, rfl, fun x m => by
      rcases List.mem_cons.mp m with rfl | m
      · exact ⟨v0, r0, [], false, rfl, tp5.tup ev0, tp5.tup er0, Nat.zero_le _⟩
      · obtain rfl := List.mem_singleton.mp m
        exact ⟨v1, r1, [], true, rfl, tp5.tup ev1, tp5.tup er1, Nat.zero_le _⟩⟩
    clear hk
    refine ⟨(by show 0 ≤ sizeLine; decide), fun k1 hk1 => ⟨(by show 2 ≤ sizeLine; decide), fun n hn => ?_⟩⟩
    have s7 := s6.trans (sameNew hk1 (o := .tup []))
    have ch7 := (ch6.tp (TP.of (sameNew hk1 (o := .tup []))) (fun _ q => (sameNew hk1) _ _ q)).tp (TP.of (sameNew hn (o := .lst [.ref k1, .ref A0.v_OUTCOMES]))) (fun _ q => (sameNew hn) _ _ q)
    have ek1 := (fun {Hh : Hp} (_ : Hh k1 = none) => (upd_same : upd Hh k1 (.tup []) k1 = _)) hk1
    have en := (fun {Hh : Hp} (_ : Hh n = none) => (upd_same : upd Hh n (.lst [.ref k1, .ref A0.v_OUTCOMES]) n = _)) hn
    refine ⟨fun m σ H' => ∃ (kk : Nat) (nl : Addr) (bs : List Addr) (u4 u5 u6 u7 u8 u9 : Option V), kk ≤ 6 ∧ m = 6 - kk ∧ σ = [some (.ref t), some (.ref wa), some (.ref c), some (.ref nl), u4, u5, u6, u7, u8, u9] ∧ Same H1 H' ∧ H1 nl = none ∧ Ch K P w H' c (stC kk).1 ∧ H' nl = some (.lst (bs.map V.ref)) ∧ NwAt K H' bs (stC kk).2,
      ⟨6, 0, n, [k1, A0.v_OUTCOMES], none, none, none, none, none, none, Nat.zero_le _, rfl, rfl, sameUp s7 (s7.free hn), s7.free hn, ch7, en, .cons (SqT.of ((sameNew hn) _ _ ek1)) (.cons T.tv_OUTCOMES.sq .nil)⟩, ?_⟩
    rintro m σ H6 ⟨kk, nl, bs, u4, u5, u6, u7, u8, u9, hk6, rfl, rfl, s7', hnl, ⟨kvs, D, hks, hvs⟩, en', nw⟩
    clear ch7 ch6 tp5 s7 s6 pn ec5 s5 ev1 er1 ev0 er0 ek0 ek1 en hn hk1 s0 ec e1c hv1 hr1 hv0 hr0 hk0
    obtain ⟨lk1, lk2, mk2, lt1⟩ := stC_ok kk (List.mem_range.mpr (by omega))
    have ew := s7' _ _ e1
    obtain ⟨va, vb⟩ := ch_val (m := wm) hks lt1 wl
    refine ⟨_, rfl, _, rfl, wa, c, kvs, nO wm, rfl, rfl, D, nO_at (SqT.of ew), nO_depth wm, _, rfl, ?_⟩
    by_cases mem : wm ∈ (stC kk).1
    · obtain ⟨en2, hen, ev⟩ := va mem
      refine tF (by rw [ev]; rfl) ?_
      exact ⟨_, rfl, _, rfl, c, wa, kvs, nO wm, _, rfl, rfl, D, nO_at (SqT.of ew), nO_depth wm, ev, k all _ _ (s1.trans s7')⟩
    have k5 : kk < 6 := by
      by_cases h : kk = 6
      · exact absurd (h ▸ stC_all wm hwm) mem
      · omega
    refine tT (by rw [vb mem]; rfl) ?_
    refine ⟨fun σ' H' => ∃ (nl : Addr) (bs : List Addr) (u4 u5 u6 u7 u8 u9 : Option V), σ' = [some (.ref t), some (.ref wa), some (.ref c), some (.ref nl), u4, u5, u6, u7, u8, u9] ∧ Same H1 H' ∧ H1 nl = none ∧ Ch K P w H' c (stC (kk + 1)).1 ∧ H' nl = some (.lst (bs.map V.ref)) ∧ NwAt K H' bs (stC (kk + 1)).2, fun σ' H' ⟨nl, bs, u4, u5, u6, u7, u8, u9, h1, h2, h3, h4, h5, h6⟩ => ⟨6 - (kk + 1), by omega, kk + 1, nl, bs, u4, u5, u6, u7, u8, u9, by omega, rfl, h1, h2, h3, h4, h5, h6⟩, ?_⟩
    have lz : bs.length = (stC kk).2.length := Paired.length nw
    have chk : Ch K P w H6 c (stC kk).1 := ⟨kvs, D, hks, hvs⟩
    clear hvs hks D va vb ew
    refine ⟨_, rfl, nl, rfl, ⟨_, SqL.of en'⟩, fun Da hDa => lc2_it (walk_list (xs := bs.map V.ref)) (P := fun i H' => Same H6 H' ∧ ∃ ds : List Addr, H' Da = some (.lst (ds.map V.ref)) ∧ AtAt K H' ds ((atts (stC kk).2).take (24 * i)) ∧ ds.length = 24 * i) ⟨sameNew hDa, [], upd_same, .nil, rfl⟩ (fun i H' _ p => SqL.of (p.1 _ _ en')) ?_ ?_⟩
    · rintro i x H7 H8 hi ⟨s7, ds, eD, at7, ld⟩ ⟨rfl, hx⟩
      obtain ⟨b, hb, rfl⟩ := ref_at hx
      obtain ⟨m, hm, qm⟩ := prg nw hb
      have il : i < 32 := by have := (List.getElem?_eq_some_iff.mp hm).1; omega
      refine ⟨rfl, ?_⟩
      refine yesR ?_
      refine tT rfl ?_
      refine ⟨(), rfl, fun p rs H9 hp s9 e9 R9 => ⟨p, rfl, ⟨_, SqL.of e9⟩, ?_⟩⟩
      have lr : rs.length = 24 := Paired.length R9
      refine lc2_in (walk_list (xs := rs.map V.ref)) (P := fun j H' => H' p = some (.lst (rs.map V.ref)) ∧ TP H9 H' ∧ Same H6 H' ∧ ∃ ds : List Addr, H' Da = some (.lst (ds.map V.ref)) ∧ AtAt K H' ds ((atts (stC kk).2).take (24 * i + j)) ∧ ds.length = 24 * i + j) ⟨e9, TP.refl _, s7.trans s9, ds, s9 _ _ eD, at7.tp (TP.of s9), ld⟩ (fun j H' _ p => SqL.of p.1) ?_ ?_
      · rintro j y H10 H11 hj ⟨e10, s10, s610, ds2, eD2, at2, l2⟩ ⟨rfl, hy⟩
        obtain ⟨q, hq, rfl⟩ := ref_at hy
        obtain ⟨r, hr2, qr⟩ := prg R9 hq
        have jl : j < 24 := by rw [List.length_map, lr] at hj; exact hj
        have rj : rulesC.getD j ("", true) = r := by rw [List.getD_eq_getElem?_getD, hr2]; rfl
        refine ⟨rfl, ?_⟩
        refine yesR ?_
        refine tT rfl ?_
        refine ⟨_, rfl, _, rfl, (by show 2 ≤ sizeLine; decide), fun z hz => ?_⟩
        have sz := sameNew hz (o := .tup [.ref b, .ref q])
        have tz := (TP.of sz).trans (TP.list (o := .lst (ds2.map V.ref ++ [.ref z])) (sz _ _ eD2))
        refine ⟨_, sz _ _ eD2, small1000 (by rw [List.length_map]; omega), ?_, s10.trans tz, sameUp (s610.trans sz) hDa, ds2 ++ [z], by rw [upd_same, List.map_append]; rfl, ?_, by rw [List.length_append]; show ds2.length + 1 = _; omega⟩
        · rw [upd_ne (ne_of_none eD hp).symm]
          exact sz _ _ e10
        · rw [show 24 * i + (j + 1) = 24 * i + j + 1 from rfl, takeS (atts_at hm jl)]
          refine pra (at2.tp tz) (.cons ⟨b, q, ?_, ?_, ?_⟩ .nil)
          · rw [upd_ne (ne_of_none eD2 hz).symm]
            exact upd_same
          · exact tz.sq (sameT s610 qm)
          · dsimp only
            rw [rj]
            exact tz.tup (s10.tup qr)
      · rintro H10 ⟨e10, s10, s610, ds2, eD2, at2, l2⟩
        rw [List.length_map, lr] at at2 l2
        exact ⟨s610, ds2, eD2, at2, l2⟩
    rintro H7 ⟨s67, ds, eD, at7, ld⟩
    rw [List.length_map, lz, ← atts_len, List.take_length] at at7
    rw [List.length_map, lz, ← atts_len] at ld
    have ndc : Da ≠ c := fun z => by
      obtain ⟨kv0, D0, _, _⟩ := chk
      rw [z, D0.at'] at hDa
      cases hDa
    refine ⟨(by show 0 ≤ sizeLine; decide), fun n2 hn2 => ?_⟩
    have s8 := s67.trans (sameNew hn2 (o := .lst []))
    have nn1 : H1 n2 = none := (s7'.trans s67).free hn2
    have ndn : Da ≠ n2 := ne_of_none eD hn2
    have ncn : c ≠ n2 := by
      obtain ⟨kv0, D0, _, _⟩ := chk
      exact ne_of_none (s67 _ _ D0.at') hn2
    refine ⟨_, rfl, Da, rfl, ⟨_, SqL.of ((sameNew hn2) _ _ eD)⟩, for_it (walk_list (xs := ds.map V.ref)) (fun i σ H' => ∃ (bs' : List Addr) (u5 u6 u7 u8 u9 : Option V), σ = [some (.ref t), some (.ref wa), some (.ref c), some (.ref n2), some (.ref Da), u5, u6, u7, u8, u9] ∧ Same H1 H' ∧ H' Da = some (.lst (ds.map V.ref)) ∧ AtAt K H' ds (atts (stC kk).2) ∧ Ch K P w H' c (preC kk i).1 ∧ H' n2 = some (.lst (bs'.map V.ref)) ∧ NwAt K H' bs' (preC kk i).2)
      ⟨[], u5, u6, u7, u8, u9, rfl, s7'.trans s8, (sameNew hn2) _ _ eD, at7.tp (TP.of (sameNew hn2)), chk.tp (TP.of s8) (fun _ q => s8 _ _ q), upd_same, .nil⟩ (fun i σ H' _ p => ?_) ?_ ?_⟩
    · obtain ⟨_, _, _, _, _, _, _, _, eDa, _⟩ := p
      exact SqL.of eDa
    · rintro i x σ H8 H9 hi ⟨bs', u5, u6, u7, u8, u9, rfl, s18, eDa, at8, ch8, en8, nw8⟩ ⟨rfl, hx⟩
      obtain ⟨d, hd, rfl⟩ := ref_at hx
      obtain ⟨⟨m, j⟩, ha, b, q, ed, sb, eq⟩ := prg at8 hd
      obtain ⟨m2, hj⟩ := atts_mem (List.mem_of_getElem? ha)
      dsimp only at sb eq m2 hj
      have m32 := lt1 m (mk2 m m2)
      obtain ⟨p1, p2', p3', p4, p5⟩ := preC_ok (k := kk) (i := i) k5
      have st := preC_succ ha
      refine ⟨d, _, rfl, SqT.of ed, rfl, _, _, rfl, _, _, rfl, rfl, ?_⟩
      refine ⟨_, rfl, _, rfl, b, q, m, j, rfl, m32, hj, sb, eq, fun r H10 hr s10 er => ?_⟩
      have stt : ∀ mm, wr m (rMask.getD j (0, true)) = mm → stepC (preC kk i) (m, j) = if mm ∈ (preC kk i).1 then preC kk i else ((preC kk i).1 ++ [mm], (preC kk i).2 ++ [mm]) := fun mm e => by
        rw [← e]
        rfl
      have mmIn : wr m (rMask.getD j (0, true)) ∈ (preC kk (i + 1)).1 := by
        rw [st, stt _ rfl]
        split
        · assumption
        · exact List.mem_append_right _ (List.mem_singleton.mpr rfl)
      have mm32 := (preC_ok (k := kk) (i := i + 1) k5).2.2.2.1 _ mmIn
      generalize wr m (rMask.getD j (0, true)) = mm at er stt mm32
      have st2 := st.trans (stt mm rfl)
      clear stt mmIn st
      have at10 := at8.tp (TP.of s10)
      have ch10 := ch8.tp (TP.of s10) (fun _ q => s10 _ _ q)
      have eDa10 := s10 _ _ eDa
      have en10 := s10 _ _ en8
      have nw10 := nw8.tp (TP.of s10)
      have sb10 := sameT s10 sb
      have s110 := s18.trans s10
      clear nw8 en8 eDa ch8 at8 s18 sb s10
      obtain ⟨kvs, D, hks, hvs⟩ := id ch10
      obtain ⟨va, vb⟩ := ch_val (m := mm) hks p4 mm32
      refine ⟨_, rfl, _, rfl, r, c, kvs, nO mm, rfl, rfl, D, nO_at (SqT.of er), nO_depth mm, _, rfl, ?_⟩
      by_cases mem2 : mm ∈ (preC kk i).1
      · obtain ⟨e9, he9, ev⟩ := va mem2
        refine tF (by rw [ev]; rfl) ?_
        rw [if_pos mem2] at st2
        exact ⟨bs', _, _, _, _, _, rfl, s110, eDa10, at10, by rw [st2]; exact ch10, en10, by rw [st2]; exact nw10⟩
      rw [if_neg mem2] at st2
      refine tT (by rw [vb mem2]; rfl) ?_
      obtain ⟨e9, he9, ev⟩ := (ch_val (m := m) hks p4 m32).1 (p3' m (mk2 m m2))
      obtain ⟨vp, vr, vx, b0, evp, evr, evx, lvx⟩ := hvs e9 he9
      rw [evp] at ev
      refine ⟨_, rfl, _, rfl, c, b, kvs, nO m, _, rfl, rfl, D, nO_at sb10, nO_depth m, ev, ?_⟩
      refine ⟨vp, _, rfl, SqT.of evr, rfl, _, _, rfl, _, _, rfl, rfl, ?_⟩
      refine ⟨_, rfl, (by show 1 ≤ sizeLine; decide), fun p1' hp1 => ?_⟩
      have s11 := sameNew hp1 (o := .tup [.ref q])
      refine ⟨_, rfl, p1', vr, [.ref q], vx, rfl, rfl, SqT.of upd_same, SqT.of (s11 _ _ evx), (by simp), ?_, ?_, ?_⟩
      · have q := sizeLine_eq
        show 1 + vx.length ≤ sizeLine
        omega
      · intro ez
        have s11b := s11
        have ep2 := (fun {Hh : Hp} (_ : Hh p1' = none) => (upd_same : upd Hh p1' (.tup [.ref q]) p1' = _)) hp1
        have ly : [V.ref q].length ≤ (preC kk i).1.length + 1 := by show 1 ≤ _; omega
        refine ⟨_, rfl, (by show 2 ≤ sizeLine; decide), fun p3 hp3 => ?_⟩
        have s12 := s11b.trans (sameNew hp3 (o := .tup [.ref p1', .bl b0]))
        have ep2b := (sameNew hp3 (o := .tup [.ref p1', .bl b0])) _ _ ep2
        have ep3 := (fun {Hh : Hp} (_ : Hh p3 = none) => (upd_same : upd Hh p3 (.tup [.ref p1', .bl b0]) p3 = _)) hp3
        have D3 := D.same s12
        have hk3 := (nO_at (K := K) (SqT.of er)).same s12
        have lk : kvs.length ≤ 32 := by
          have q := congrArg List.length hks
          rw [List.length_map, List.length_map] at q
          omega
        refine ⟨_, rfl, _, rfl, c, r, kvs, nO mm, rfl, rfl, D3, hk3, nO_depth mm, small1000 (by omega), ?_⟩
        have eD3 := D3.at'
        have D4 := D3.put (b := r) (v := .ref p3) hk3 (nO_depth mm)
        have td := TP.dict (o := dRaw P w c (putN kvs (nO mm) r (.ref p3))) eD3
        have t4 := (TP.of s12).trans td
        have en4 := (upd_ne (o := dRaw P w c (putN kvs (nO mm) r (.ref p3))) (Ne.symm ncn)).trans (s12 _ _ en10)
        have ch4 : Ch K P w _ c ((preC kk i).1 ++ [mm]) := ⟨putN kvs (nO mm) r (.ref p3), D4, by rw [putN_new (vb mem2), List.map_append, List.map_append, hks]; rfl, fun x m => by
          rw [putN_new (vb mem2)] at m
          rcases List.mem_append.mp m with m | m
          · exact (hvs x m).tp t4 (by rw [List.length_append]; omega)
          · obtain rfl := List.mem_singleton.mp m
            exact ⟨p3, p1', _, b0, rfl, td.tup ep3, td.tup ep2b, by rw [show ((preC kk i).1 ++ [mm]).length = (preC kk i).1.length + 1 from by simp]; exact ly⟩⟩
        refine ⟨_, rfl, .inl ⟨rfl, _, SqL.of en4⟩, _, rfl, _, _, _, rfl, rfl, en4, small1000 (by rw [List.length_map]; have := Paired.length nw10; omega), ?_⟩
        have tl := TP.list (o := .lst (bs'.map V.ref ++ [.ref r])) en4
        have tF := t4.trans tl
        refine ⟨bs' ++ [r], _, _, _, _, _, rfl, sameUp (sameUp (s110.trans s12) hc) nn1, ?_, at10.tp tF, ?_, ?_, ?_⟩
        · exact (upd_ne ndn).trans ((upd_ne ndc).trans (s12 _ _ eDa10))
        · rw [st2]
          exact ch4.tp tl (fun _ q => (upd_ne ncn).trans q)
        · rw [upd_same, List.map_append]
          rfl
        · rw [st2]
          exact pra (nw10.tp tF) (.cons (tF.sq (SqT.of er)) .nil)
      · intro _ p2 hp2
        have s11b := s11.trans (sameNew hp2 (o := .tup ([.ref q] ++ vx)))
        have ep2 := (fun {Hh : Hp} (_ : Hh p2 = none) => (upd_same : upd Hh p2 (.tup ([.ref q] ++ vx)) p2 = _)) hp2
        have ly : ([V.ref q] ++ vx).length ≤ (preC kk i).1.length + 1 := by rw [List.length_append]; show 1 + vx.length ≤ _; omega
        refine ⟨_, rfl, (by show 2 ≤ sizeLine; decide), fun p3 hp3 => ?_⟩
        have s12 := s11b.trans (sameNew hp3 (o := .tup [.ref p2, .bl b0]))
        have ep2b := (sameNew hp3 (o := .tup [.ref p2, .bl b0])) _ _ ep2
        have ep3 := (fun {Hh : Hp} (_ : Hh p3 = none) => (upd_same : upd Hh p3 (.tup [.ref p2, .bl b0]) p3 = _)) hp3
        have D3 := D.same s12
        have hk3 := (nO_at (K := K) (SqT.of er)).same s12
        have lk : kvs.length ≤ 32 := by
          have q := congrArg List.length hks
          rw [List.length_map, List.length_map] at q
          omega
        refine ⟨_, rfl, _, rfl, c, r, kvs, nO mm, rfl, rfl, D3, hk3, nO_depth mm, small1000 (by omega), ?_⟩
        have eD3 := D3.at'
        have D4 := D3.put (b := r) (v := .ref p3) hk3 (nO_depth mm)
        have td := TP.dict (o := dRaw P w c (putN kvs (nO mm) r (.ref p3))) eD3
        have t4 := (TP.of s12).trans td
        have en4 := (upd_ne (o := dRaw P w c (putN kvs (nO mm) r (.ref p3))) (Ne.symm ncn)).trans (s12 _ _ en10)
        have ch4 : Ch K P w _ c ((preC kk i).1 ++ [mm]) := ⟨putN kvs (nO mm) r (.ref p3), D4, by rw [putN_new (vb mem2), List.map_append, List.map_append, hks]; rfl, fun x m => by
          rw [putN_new (vb mem2)] at m
          rcases List.mem_append.mp m with m | m
          · exact (hvs x m).tp t4 (by rw [List.length_append]; omega)
          · obtain rfl := List.mem_singleton.mp m
            exact ⟨p3, p2, _, b0, rfl, td.tup ep3, td.tup ep2b, by rw [show ((preC kk i).1 ++ [mm]).length = (preC kk i).1.length + 1 from by simp]; exact ly⟩⟩
        refine ⟨_, rfl, .inl ⟨rfl, _, SqL.of en4⟩, _, rfl, _, _, _, rfl, rfl, en4, small1000 (by rw [List.length_map]; have := Paired.length nw10; omega), ?_⟩
        have tl := TP.list (o := .lst (bs'.map V.ref ++ [.ref r])) en4
        have tF := t4.trans tl
        refine ⟨bs' ++ [r], _, _, _, _, _, rfl, sameUp (sameUp (s110.trans s12) hc) nn1, ?_, at10.tp tF, ?_, ?_, ?_⟩
        · exact (upd_ne ndn).trans ((upd_ne ndc).trans (s12 _ _ eDa10))
        · rw [st2]
          exact ch4.tp tl (fun _ q => (upd_ne ncn).trans q)
        · rw [upd_same, List.map_append]
          rfl
        · rw [st2]
          exact pra (nw10.tp tF) (.cons (tF.sq (SqT.of er)) .nil)
    rintro σ H8 ⟨bs', u5, u6, u7, u8, u9, rfl, s18, eDa, at8, ch8, en8, nw8⟩
    rw [List.length_map, ld, preC_end] at ch8 nw8
    exact ⟨n2, bs', _, _, _, _, _, _, rfl, s18, nn1, ch8, en8, nw8⟩
/-! _law_told -/
def sp_law_told (K : PySem.W.Frag) (A0 : Ad) : Sp := fun vs H Q E => ∃ (d wd : Int) (t : Addr) (xs : List Int) (more : Int) (r : Option (Nat × V)), vs = [.int d, .int wd, .ref t, .int more] ∧ DoorW wd xs more d r ∧ wd ≤ 1000 ∧ more ≤ 1000 ∧ SqT K H t (xs.map V.int) ∧ xs.length ≤ 1000 ∧ ∀ p H', Same H H' → H' p = some (.lst (toldL r)) → Q (.ref p) H'
theorem sc_law_told : FnScope ["door", "wide", "some", "more", "caught", "e"] ["door", "wide", "some", "more"] (defScope s_law_told) := ⟨rfl, rfl, rfl, by decide +kernel, rfl, by decide +kernel, by decide +kernel⟩
theorem bd_law_told (T : Txt w K mg A0) : Binds K A0.d_law_told ["door", "wide", "some", "more"] [] := T.F_law_told.binds fun _ _ _ _ _ _ us hl => match us, hl with | [_, _, _, _], _ => rfl
theorem ok_law_told (T : Txt w K mg A0) : FnOk P w K mg base CX0 5 A0.a_law_told A0.d_law_told ["door", "wide", "some", "more"] (sp_law_told K A0) := by
  refine T.F_law_told.ok sc_law_told (fun vs H Q E h => ?_) (fun cdv A outer s H vs Q E hr h => ?_)
  · obtain ⟨d, wd, t, xs, more, r, rfl, _⟩ := h
    rfl
  · obtain ⟨d, wd, t, xs, more, r, rfl, h⟩ := h
    refine ⟨_, (pss_cons (ps_set (i := 4) sc_law_told.nd rfl (Or.inl rfl) pe_non)
        (Evl.pss_cut (ps_try_kept (i := 5) rfl rfl rfl sc_law_told.nd rfl rfl ⟨rfl, by decide, Or.inl T.gc_BranchError⟩
        (fun W pn xe tk po => (pss_one (ps_if (pt_cmpR op_eq (pv 0) pe_int (nomark _)) (pss_one (ps_expr (pe_callS (ok_signed T) (hr.mono (by decide)) rfl T.g_signed T.F_signed.kp (bd_signed T) (fun σ => passAt tk σ) (pa_cons (pv 1) (pa_cons (pe_ix (show IxR _ (rIxT K) from ix_tup) (pv 2) pe_int (fun _ _ => rfl)) pa_nil))))) (pss_one (ps_if (pt_cmpR op_eq (pv 0) pe_int (nomark _)) (pss_one (ps_expr (pe_callS (ok_outcome T) (hr.mono (by decide)) rfl T.g_outcome T.F_outcome.kp (bd_outcome T) (fun σ => passAt tk σ) (pa_cons (pv 1) (pa_cons (pe_ix (show IxR _ (rIxT K) from ix_tup) (pv 2) pe_int (fun _ _ => rfl)) (pa_cons (pe_ix (show IxR _ (rIxT K) from ix_tup) (pv 2) pe_int (fun _ _ => rfl)) pa_nil)))))) (pss_one (ps_if (pt_cmpR op_eq (pv 0) pe_int (nomark _)) (pss_one (ps_expr (pe_callS (ok_flipped T) (hr.mono (by decide)) rfl T.g_flipped T.F_flipped.kp (bd_flipped T) (fun σ => passAt tk σ) (pa_cons (pv 1) (pa_cons (pv 2) pa_nil))))) (pss_one (ps_if (pt_cmpR op_eq (pv 0) pe_int (nomark _)) (pss_one (ps_expr (pe_callS (ok_inverted T) (hr.mono (by decide)) rfl T.g_inverted T.F_inverted.kp (bd_inverted T) (fun σ => passAt tk σ) (pa_cons (pv 1) (pa_cons (pv 2) pa_nil))))) (pss_one (ps_expr (pe_callS (ok_extended T) (hr.mono (by decide)) rfl T.g_extended T.F_extended.kp (bd_extended T) (fun σ => passAt tk σ) (pa_cons (pv 1) (pa_cons (pv 2) (pa_cons (pv 3) (pa_cons (pe_cmpR op_eq (pv 0) pe_int (nomark _)) pa_nil))))))))))))))))
        (fun a oe cls d pn hz hf => (pss_one (ps_set (i := 4) sc_law_told.nd rfl (Or.inl rfl) (pv 5)))))
        (pss_one (ps_ret (pe_ifExp (pt_cmpR op_isN (pv 4) pe_non (nomark _)) (pe_lst (pa_cons pe_str (pa_cons pe_non pa_nil))) (pe_lst (pa_cons (pe_call (ok_law_kind T) (hr.mono (by decide)) rfl T.g_law_kind T.F_law_kind.kp (bd_law_kind T) .nil pass0 (pa_cons (pv 4) pa_nil)) (pa_cons (pe_errK (pv 4)) pa_nil)))))))), ?_⟩
    obtain ⟨hd, h2, h3, ht, hz, k⟩ := h
    refine ⟨MidK H ([A0.c_InvalidWidth, A0.c_InvalidWords, A0.c_InvalidOutcome, A0.c_InvalidCondition, A0.c_InvalidRanking, A0.c_InvalidKnowledge, A0.c_InvalidProgram, A0.c_InvalidRow, A0.c_InvalidRegister, A0.c_InvalidQuery, A0.c_InvalidTable, A0.c_InvalidNumber, A0.c_UnlikeInputs, A0.c_NothingToUndo, A0.c_Unreadable] : List Addr) [some (.int d), some (.int wd), some (.ref t), some (.int more)] r, ?_, ?_⟩
    · clear k
      cases hd with
      | d0 e0 =>
        rename_i x l
        subst e0
        refine ⟨_, rfl, rfl, _, rfl, ?_⟩
        refine tT rfl ?_
        exact ⟨_, rfl, _, rfl, t, _, 0, .int x, rfl, rfl, ht, at_of (j := 0) rfl rfl, wd, x, rfl, h2, fun h1 hx H' s => MidK.free (CS := ([A0.c_InvalidWidth, A0.c_InvalidWords, A0.c_InvalidOutcome, A0.c_InvalidCondition, A0.c_InvalidRanking, A0.c_InvalidKnowledge, A0.c_InvalidProgram, A0.c_InvalidRow, A0.c_InvalidRegister, A0.c_InvalidQuery, A0.c_InvalidTable, A0.c_InvalidNumber, A0.c_UnlikeInputs, A0.c_NothingToUndo, A0.c_Unreadable] : List Addr)) (l := [some (.int 0), some (.int wd), some (.ref t), some (.int more)]) (r := askR wd [x]) (askR_free h1 (fun y m => by rw [List.mem_singleton.mp m]; exact hx)) s, fun q e H' he s1 e1 => ⟨T.xm_InvalidWidth, fun a ha => ⟨_, rfl, fun hn => MidK.bad (CS := ([A0.c_InvalidWidth, A0.c_InvalidWords, A0.c_InvalidOutcome, A0.c_InvalidCondition, A0.c_InvalidRanking, A0.c_InvalidKnowledge, A0.c_InvalidProgram, A0.c_InvalidRow, A0.c_InvalidRegister, A0.c_InvalidQuery, A0.c_InvalidTable, A0.c_InvalidNumber, A0.c_UnlikeInputs, A0.c_NothingToUndo, A0.c_Unreadable] : List Addr)) (l := [some (.int 0), some (.int wd), some (.ref t), some (.int more)]) (C := A0.c_InvalidWidth) (r := askR wd [x]) (j := 0) rfl (by decide) (askR_width q) s1 e1 hn⟩⟩, fun h1 i bad e H' he s1 e1 => ⟨T.xm_InvalidWords, fun a ha => ⟨_, rfl, fun hn => MidK.bad (CS := ([A0.c_InvalidWidth, A0.c_InvalidWords, A0.c_InvalidOutcome, A0.c_InvalidCondition, A0.c_InvalidRanking, A0.c_InvalidKnowledge, A0.c_InvalidProgram, A0.c_InvalidRow, A0.c_InvalidRegister, A0.c_InvalidQuery, A0.c_InvalidTable, A0.c_InvalidNumber, A0.c_UnlikeInputs, A0.c_NothingToUndo, A0.c_Unreadable] : List Addr)) (l := [some (.int 0), some (.int wd), some (.ref t), some (.int more)]) (C := A0.c_InvalidWords) (r := askR wd [x]) (j := 1) rfl (by decide) (askR_bad h1 bad) s1 e1 hn⟩⟩⟩
      | d1 e0 =>
        rename_i x y l
        subst e0
        refine ⟨_, rfl, rfl, _, rfl, ?_⟩
        refine tF rfl ?_
        refine ⟨_, rfl, rfl, _, rfl, ?_⟩
        refine tT rfl ?_
        exact ⟨_, rfl, _, rfl, t, _, 0, .int x, rfl, rfl, ht, at_of (j := 0) rfl rfl, _, rfl, t, _, 1, .int y, rfl, rfl, ht, at_of (j := 1) rfl rfl, wd, x, y, rfl, h2, fun h1 hx hy H' s => MidK.free (CS := ([A0.c_InvalidWidth, A0.c_InvalidWords, A0.c_InvalidOutcome, A0.c_InvalidCondition, A0.c_InvalidRanking, A0.c_InvalidKnowledge, A0.c_InvalidProgram, A0.c_InvalidRow, A0.c_InvalidRegister, A0.c_InvalidQuery, A0.c_InvalidTable, A0.c_InvalidNumber, A0.c_UnlikeInputs, A0.c_NothingToUndo, A0.c_Unreadable] : List Addr)) (l := [some (.int 1), some (.int wd), some (.ref t), some (.int more)]) (r := askR wd [x, y]) (askR_free h1 (fun z m => by rcases List.mem_cons.mp m with rfl | m; exact hx; rw [List.mem_singleton.mp m]; exact hy)) s, fun q e H' he s1 e1 => ⟨T.xm_InvalidWidth, fun a ha => ⟨_, rfl, fun hn => MidK.bad (CS := ([A0.c_InvalidWidth, A0.c_InvalidWords, A0.c_InvalidOutcome, A0.c_InvalidCondition, A0.c_InvalidRanking, A0.c_InvalidKnowledge, A0.c_InvalidProgram, A0.c_InvalidRow, A0.c_InvalidRegister, A0.c_InvalidQuery, A0.c_InvalidTable, A0.c_InvalidNumber, A0.c_UnlikeInputs, A0.c_NothingToUndo, A0.c_Unreadable] : List Addr)) (l := [some (.int 1), some (.int wd), some (.ref t), some (.int more)]) (C := A0.c_InvalidWidth) (r := askR wd [x, y]) (j := 0) rfl (by decide) (askR_width q) s1 e1 hn⟩⟩, fun h1 i bad e H' he s1 e1 => ⟨T.xm_InvalidWords, fun a ha => ⟨_, rfl, fun hn => MidK.bad (CS := ([A0.c_InvalidWidth, A0.c_InvalidWords, A0.c_InvalidOutcome, A0.c_InvalidCondition, A0.c_InvalidRanking, A0.c_InvalidKnowledge, A0.c_InvalidProgram, A0.c_InvalidRow, A0.c_InvalidRegister, A0.c_InvalidQuery, A0.c_InvalidTable, A0.c_InvalidNumber, A0.c_UnlikeInputs, A0.c_NothingToUndo, A0.c_Unreadable] : List Addr)) (l := [some (.int 1), some (.int wd), some (.ref t), some (.int more)]) (C := A0.c_InvalidWords) (r := askR wd [x, y]) (j := 1) rfl (by decide) (askR_bad h1 bad) s1 e1 hn⟩⟩⟩
      | d2 =>
        refine ⟨_, rfl, rfl, _, rfl, ?_⟩
        refine tF rfl ?_
        refine ⟨_, rfl, rfl, _, rfl, ?_⟩
        refine tF rfl ?_
        refine ⟨_, rfl, rfl, _, rfl, ?_⟩
        refine tT rfl ?_
        exact ⟨_, rfl, _, rfl, wd, t, xs, rfl, h2, ht, hz, fun h1 hx p H' hp s _ => MidK.free (CS := ([A0.c_InvalidWidth, A0.c_InvalidWords, A0.c_InvalidOutcome, A0.c_InvalidCondition, A0.c_InvalidRanking, A0.c_InvalidKnowledge, A0.c_InvalidProgram, A0.c_InvalidRow, A0.c_InvalidRegister, A0.c_InvalidQuery, A0.c_InvalidTable, A0.c_InvalidNumber, A0.c_UnlikeInputs, A0.c_NothingToUndo, A0.c_Unreadable] : List Addr)) (l := [some (.int 2), some (.int wd), some (.ref t), some (.int more)]) (r := askR wd xs) (askR_free h1 hx) s, fun q e H' he s1 e1 => ⟨T.xm_InvalidWidth, fun a ha => ⟨_, rfl, fun hn => MidK.bad (CS := ([A0.c_InvalidWidth, A0.c_InvalidWords, A0.c_InvalidOutcome, A0.c_InvalidCondition, A0.c_InvalidRanking, A0.c_InvalidKnowledge, A0.c_InvalidProgram, A0.c_InvalidRow, A0.c_InvalidRegister, A0.c_InvalidQuery, A0.c_InvalidTable, A0.c_InvalidNumber, A0.c_UnlikeInputs, A0.c_NothingToUndo, A0.c_Unreadable] : List Addr)) (l := [some (.int 2), some (.int wd), some (.ref t), some (.int more)]) (C := A0.c_InvalidWidth) (r := askR wd xs) (j := 0) rfl (by decide) (askR_width q) s1 e1 hn⟩⟩, fun h1 i bad e H' he s1 e1 => ⟨T.xm_InvalidWords, fun a ha => ⟨_, rfl, fun hn => MidK.bad (CS := ([A0.c_InvalidWidth, A0.c_InvalidWords, A0.c_InvalidOutcome, A0.c_InvalidCondition, A0.c_InvalidRanking, A0.c_InvalidKnowledge, A0.c_InvalidProgram, A0.c_InvalidRow, A0.c_InvalidRegister, A0.c_InvalidQuery, A0.c_InvalidTable, A0.c_InvalidNumber, A0.c_UnlikeInputs, A0.c_NothingToUndo, A0.c_Unreadable] : List Addr)) (l := [some (.int 2), some (.int wd), some (.ref t), some (.int more)]) (C := A0.c_InvalidWords) (r := askR wd xs) (j := 1) rfl (by decide) (askR_bad h1 bad) s1 e1 hn⟩⟩⟩
      | d3 =>
        refine ⟨_, rfl, rfl, _, rfl, ?_⟩
        refine tF rfl ?_
        refine ⟨_, rfl, rfl, _, rfl, ?_⟩
        refine tF rfl ?_
        refine ⟨_, rfl, rfl, _, rfl, ?_⟩
        refine tF rfl ?_
        refine ⟨_, rfl, rfl, _, rfl, ?_⟩
        refine tT rfl ?_
        exact ⟨_, rfl, _, rfl, wd, t, xs, rfl, h2, ht, hz, fun h1 hx p H' hp s _ => MidK.free (CS := ([A0.c_InvalidWidth, A0.c_InvalidWords, A0.c_InvalidOutcome, A0.c_InvalidCondition, A0.c_InvalidRanking, A0.c_InvalidKnowledge, A0.c_InvalidProgram, A0.c_InvalidRow, A0.c_InvalidRegister, A0.c_InvalidQuery, A0.c_InvalidTable, A0.c_InvalidNumber, A0.c_UnlikeInputs, A0.c_NothingToUndo, A0.c_Unreadable] : List Addr)) (l := [some (.int 3), some (.int wd), some (.ref t), some (.int more)]) (r := askR wd xs) (askR_free h1 hx) s, fun q e H' he s1 e1 => ⟨T.xm_InvalidWidth, fun a ha => ⟨_, rfl, fun hn => MidK.bad (CS := ([A0.c_InvalidWidth, A0.c_InvalidWords, A0.c_InvalidOutcome, A0.c_InvalidCondition, A0.c_InvalidRanking, A0.c_InvalidKnowledge, A0.c_InvalidProgram, A0.c_InvalidRow, A0.c_InvalidRegister, A0.c_InvalidQuery, A0.c_InvalidTable, A0.c_InvalidNumber, A0.c_UnlikeInputs, A0.c_NothingToUndo, A0.c_Unreadable] : List Addr)) (l := [some (.int 3), some (.int wd), some (.ref t), some (.int more)]) (C := A0.c_InvalidWidth) (r := askR wd xs) (j := 0) rfl (by decide) (askR_width q) s1 e1 hn⟩⟩, fun h1 i bad e H' he s1 e1 => ⟨T.xm_InvalidWords, fun a ha => ⟨_, rfl, fun hn => MidK.bad (CS := ([A0.c_InvalidWidth, A0.c_InvalidWords, A0.c_InvalidOutcome, A0.c_InvalidCondition, A0.c_InvalidRanking, A0.c_InvalidKnowledge, A0.c_InvalidProgram, A0.c_InvalidRow, A0.c_InvalidRegister, A0.c_InvalidQuery, A0.c_InvalidTable, A0.c_InvalidNumber, A0.c_UnlikeInputs, A0.c_NothingToUndo, A0.c_Unreadable] : List Addr)) (l := [some (.int 3), some (.int wd), some (.ref t), some (.int more)]) (C := A0.c_InvalidWords) (r := askR wd xs) (j := 1) rfl (by decide) (askR_bad h1 bad) s1 e1 hn⟩⟩⟩
      | d4 =>
        refine ⟨_, rfl, rfl, _, rfl, ?_⟩
        refine tF rfl ?_
        refine ⟨_, rfl, rfl, _, rfl, ?_⟩
        refine tF rfl ?_
        refine ⟨_, rfl, rfl, _, rfl, ?_⟩
        refine tF rfl ?_
        refine ⟨_, rfl, rfl, _, rfl, ?_⟩
        refine tF rfl ?_
        exact ⟨_, rfl, _, rfl, _, rfl, _, rfl, rfl, wd, t, xs, more, _, rfl, h2, h3, ht, hz, fun h1 hm hx => ⟨fun _ H' s => MidK.free (CS := ([A0.c_InvalidWidth, A0.c_InvalidWords, A0.c_InvalidOutcome, A0.c_InvalidCondition, A0.c_InvalidRanking, A0.c_InvalidKnowledge, A0.c_InvalidProgram, A0.c_InvalidRow, A0.c_InvalidRegister, A0.c_InvalidQuery, A0.c_InvalidTable, A0.c_InvalidNumber, A0.c_UnlikeInputs, A0.c_NothingToUndo, A0.c_Unreadable] : List Addr)) (l := [some (.int 4), some (.int wd), some (.ref t), some (.int more)]) (r := askM wd xs more) (askM_free h1 hm hx) s, fun _ p H' hp s _ => MidK.free (CS := ([A0.c_InvalidWidth, A0.c_InvalidWords, A0.c_InvalidOutcome, A0.c_InvalidCondition, A0.c_InvalidRanking, A0.c_InvalidKnowledge, A0.c_InvalidProgram, A0.c_InvalidRow, A0.c_InvalidRegister, A0.c_InvalidQuery, A0.c_InvalidTable, A0.c_InvalidNumber, A0.c_UnlikeInputs, A0.c_NothingToUndo, A0.c_Unreadable] : List Addr)) (l := [some (.int 4), some (.int wd), some (.ref t), some (.int more)]) (r := askM wd xs more) (askM_free h1 hm hx) s⟩, fun q e H' he s1 e1 => ⟨T.xm_InvalidWidth, fun a ha => ⟨_, rfl, fun hn => MidK.bad (CS := ([A0.c_InvalidWidth, A0.c_InvalidWords, A0.c_InvalidOutcome, A0.c_InvalidCondition, A0.c_InvalidRanking, A0.c_InvalidKnowledge, A0.c_InvalidProgram, A0.c_InvalidRow, A0.c_InvalidRegister, A0.c_InvalidQuery, A0.c_InvalidTable, A0.c_InvalidNumber, A0.c_UnlikeInputs, A0.c_NothingToUndo, A0.c_Unreadable] : List Addr)) (l := [some (.int 4), some (.int wd), some (.ref t), some (.int more)]) (C := A0.c_InvalidWidth) (r := askM wd xs more) (j := 0) rfl (by decide) (askM_width q) s1 e1 hn⟩⟩, fun h1 i bad e H' he s1 e1 => ⟨T.xm_InvalidWords, fun a ha => ⟨_, rfl, fun hn => MidK.bad (CS := ([A0.c_InvalidWidth, A0.c_InvalidWords, A0.c_InvalidOutcome, A0.c_InvalidCondition, A0.c_InvalidRanking, A0.c_InvalidKnowledge, A0.c_InvalidProgram, A0.c_InvalidRow, A0.c_InvalidRegister, A0.c_InvalidQuery, A0.c_InvalidTable, A0.c_InvalidNumber, A0.c_UnlikeInputs, A0.c_NothingToUndo, A0.c_Unreadable] : List Addr)) (l := [some (.int 4), some (.int wd), some (.ref t), some (.int more)]) (C := A0.c_InvalidWords) (r := askM wd xs more) (j := 1) rfl (by decide) (askM_bad h1 bad) s1 e1 hn⟩⟩, fun h1 hx hm e H' he s1 e1 => ⟨T.xm_InvalidWidth, fun a ha => ⟨_, rfl, fun hn => MidK.bad (CS := ([A0.c_InvalidWidth, A0.c_InvalidWords, A0.c_InvalidOutcome, A0.c_InvalidCondition, A0.c_InvalidRanking, A0.c_InvalidKnowledge, A0.c_InvalidProgram, A0.c_InvalidRow, A0.c_InvalidRegister, A0.c_InvalidQuery, A0.c_InvalidTable, A0.c_InvalidNumber, A0.c_UnlikeInputs, A0.c_NothingToUndo, A0.c_Unreadable] : List Addr)) (l := [some (.int 4), some (.int wd), some (.ref t), some (.int more)]) (C := A0.c_InvalidWidth) (r := askM wd xs more) (j := 0) rfl (by decide) (askM_less h1 hx hm) s1 e1 hn⟩⟩⟩
      | d5 =>
        refine ⟨_, rfl, rfl, _, rfl, ?_⟩
        refine tF rfl ?_
        refine ⟨_, rfl, rfl, _, rfl, ?_⟩
        refine tF rfl ?_
        refine ⟨_, rfl, rfl, _, rfl, ?_⟩
        refine tF rfl ?_
        refine ⟨_, rfl, rfl, _, rfl, ?_⟩
        refine tF rfl ?_
        exact ⟨_, rfl, _, rfl, _, rfl, _, rfl, rfl, wd, t, xs, more, _, rfl, h2, h3, ht, hz, fun h1 hm hx => ⟨fun _ H' s => MidK.free (CS := ([A0.c_InvalidWidth, A0.c_InvalidWords, A0.c_InvalidOutcome, A0.c_InvalidCondition, A0.c_InvalidRanking, A0.c_InvalidKnowledge, A0.c_InvalidProgram, A0.c_InvalidRow, A0.c_InvalidRegister, A0.c_InvalidQuery, A0.c_InvalidTable, A0.c_InvalidNumber, A0.c_UnlikeInputs, A0.c_NothingToUndo, A0.c_Unreadable] : List Addr)) (l := [some (.int 5), some (.int wd), some (.ref t), some (.int more)]) (r := askM wd xs more) (askM_free h1 hm hx) s, fun _ p H' hp s _ => MidK.free (CS := ([A0.c_InvalidWidth, A0.c_InvalidWords, A0.c_InvalidOutcome, A0.c_InvalidCondition, A0.c_InvalidRanking, A0.c_InvalidKnowledge, A0.c_InvalidProgram, A0.c_InvalidRow, A0.c_InvalidRegister, A0.c_InvalidQuery, A0.c_InvalidTable, A0.c_InvalidNumber, A0.c_UnlikeInputs, A0.c_NothingToUndo, A0.c_Unreadable] : List Addr)) (l := [some (.int 5), some (.int wd), some (.ref t), some (.int more)]) (r := askM wd xs more) (askM_free h1 hm hx) s⟩, fun q e H' he s1 e1 => ⟨T.xm_InvalidWidth, fun a ha => ⟨_, rfl, fun hn => MidK.bad (CS := ([A0.c_InvalidWidth, A0.c_InvalidWords, A0.c_InvalidOutcome, A0.c_InvalidCondition, A0.c_InvalidRanking, A0.c_InvalidKnowledge, A0.c_InvalidProgram, A0.c_InvalidRow, A0.c_InvalidRegister, A0.c_InvalidQuery, A0.c_InvalidTable, A0.c_InvalidNumber, A0.c_UnlikeInputs, A0.c_NothingToUndo, A0.c_Unreadable] : List Addr)) (l := [some (.int 5), some (.int wd), some (.ref t), some (.int more)]) (C := A0.c_InvalidWidth) (r := askM wd xs more) (j := 0) rfl (by decide) (askM_width q) s1 e1 hn⟩⟩, fun h1 i bad e H' he s1 e1 => ⟨T.xm_InvalidWords, fun a ha => ⟨_, rfl, fun hn => MidK.bad (CS := ([A0.c_InvalidWidth, A0.c_InvalidWords, A0.c_InvalidOutcome, A0.c_InvalidCondition, A0.c_InvalidRanking, A0.c_InvalidKnowledge, A0.c_InvalidProgram, A0.c_InvalidRow, A0.c_InvalidRegister, A0.c_InvalidQuery, A0.c_InvalidTable, A0.c_InvalidNumber, A0.c_UnlikeInputs, A0.c_NothingToUndo, A0.c_Unreadable] : List Addr)) (l := [some (.int 5), some (.int wd), some (.ref t), some (.int more)]) (C := A0.c_InvalidWords) (r := askM wd xs more) (j := 1) rfl (by decide) (askM_bad h1 bad) s1 e1 hn⟩⟩, fun h1 hx hm e H' he s1 e1 => ⟨T.xm_InvalidWidth, fun a ha => ⟨_, rfl, fun hn => MidK.bad (CS := ([A0.c_InvalidWidth, A0.c_InvalidWords, A0.c_InvalidOutcome, A0.c_InvalidCondition, A0.c_InvalidRanking, A0.c_InvalidKnowledge, A0.c_InvalidProgram, A0.c_InvalidRow, A0.c_InvalidRegister, A0.c_InvalidQuery, A0.c_InvalidTable, A0.c_InvalidNumber, A0.c_UnlikeInputs, A0.c_NothingToUndo, A0.c_Unreadable] : List Addr)) (l := [some (.int 5), some (.int wd), some (.ref t), some (.int more)]) (C := A0.c_InvalidWidth) (r := askM wd xs more) (j := 0) rfl (by decide) (askM_less h1 hx hm) s1 e1 hn⟩⟩⟩
    · rintro σ H1 ⟨caught, rfl, s1, hc⟩
      rcases hc with ⟨rfl, hr⟩ | ⟨a, C, j, v, rfl, ea, hC, ho, hr⟩
      · subst hr
        refine ⟨_, rfl, rfl, _, rfl, ?_⟩
        refine tT rfl ?_
        exact ⟨(by show 2 ≤ sizeLine; decide), fun p hp => k p _ (s1.trans (sameNew hp)) upd_same⟩
      · subst hr
        refine ⟨_, rfl, rfl, _, rfl, ?_⟩
        refine tF rfl ?_
        refine ⟨_, rfl, a, j, C, v, rfl, ea, hC, ho, fun H2 s2 => ?_⟩
        obtain ⟨_, xf, nf⟩ := errC T hC
        refine ⟨_, rfl, a, C, v, rfl, ea.same s2, xf, nf, ?_⟩
        exact ⟨(by show 2 ≤ sizeLine; decide), fun p hp => k p _ (s1.trans (s2.trans (sameNew hp))) upd_same⟩
/-! _law_string_told -/
def sp_law_string_told (K : PySem.W.Frag) (A0 : Ad) : Sp := fun vs H Q E => ∃ (d : Int) (za zb : Str) (r : Option (Nat × V)), vs = [.int d, .str za, .str zb] ∧ DoorS za zb d r ∧ ∀ p H', Same H H' → H' p = some (.lst (toldL r)) → Q (.ref p) H'
theorem sc_law_string_told : FnScope ["door", "one", "two", "caught", "e"] ["door", "one", "two"] (defScope s_law_string_told) := ⟨rfl, rfl, rfl, by decide +kernel, rfl, by decide +kernel, by decide +kernel⟩
theorem bd_law_string_told (T : Txt w K mg A0) : Binds K A0.d_law_string_told ["door", "one", "two"] [] := T.F_law_string_told.binds fun _ _ _ _ _ _ us hl => match us, hl with | [_, _, _], _ => rfl
theorem ok_law_string_told (T : Txt w K mg A0) : FnOk P w K mg base CX0 6 A0.a_law_string_told A0.d_law_string_told ["door", "one", "two"] (sp_law_string_told K A0) := by
  refine T.F_law_string_told.ok sc_law_string_told (fun vs H Q E h => ?_) (fun cdv A outer s H vs Q E hr h => ?_)
  · obtain ⟨d, za, zb, r, rfl, _⟩ := h
    rfl
  · obtain ⟨d, za, zb, r, rfl, h⟩ := h
    refine ⟨_, (pss_cons (ps_set (i := 3) sc_law_string_told.nd rfl (Or.inl rfl) pe_non)
        (Evl.pss_cut (ps_try_kept (i := 4) rfl rfl rfl sc_law_string_told.nd rfl rfl ⟨rfl, by decide, Or.inl T.gc_BranchError⟩
        (fun W pn xe tk po => (pss_one (ps_if (pt_cmpR op_eq (pv 0) pe_int (nomark _)) (pss_one (ps_expr (pe_callS (ok_outcomes_of T) (hr.mono (by decide)) rfl T.g_outcomes_of T.F_outcomes_of.kp (bd_outcomes_of T) (fun σ => passAt tk σ) (pa_cons (pv 1) pa_nil)))) (pss_one (ps_if (pt_cmpR op_eq (pv 0) pe_int (nomark _)) (pss_one (ps_expr (pe_callS (ok_exchanged T) (hr.mono (by decide)) rfl T.g_exchanged T.F_exchanged.kp (bd_exchanged T) (fun σ => passAt tk σ) (pa_cons (pv 1) pa_nil)))) (pss_one (ps_if (pt_cmpR op_eq (pv 0) pe_int (nomark _)) (pss_one (ps_expr (pe_callS (ok_reversed_condition T) (hr.mono (by decide)) rfl T.g_reversed_condition T.F_reversed_condition.kp (bd_reversed_condition T) (fun σ => passAt tk σ) (pa_cons (pv 1) pa_nil)))) (pss_one (ps_if (pt_cmpR op_eq (pv 0) pe_int (nomark _)) (pss_one (ps_expr (pe_callS (ok_composed T) (hr.mono (by decide)) rfl T.g_composed T.F_composed.kp (bd_composed T) (fun σ => passAt tk σ) (pa_cons (pv 1) (pa_cons (pv 2) pa_nil))))) (pss_one (ps_if (pt_cmpR op_eq (pv 0) pe_int (nomark _)) (pss_one (ps_expr (pe_callS (ok_condition_of T) (hr.mono (by decide)) rfl T.g_condition_of T.F_condition_of.kp (bd_condition_of T) (fun σ => passAt tk σ) (pa_cons (pe_tup (pa_cons pe_str (pa_cons (pv 1) (pa_cons pe_str (pa_cons (pv 2) pa_nil))))) pa_nil)))) (pss_one (ps_expr (pe_callS (ok_shortest_chain T) (hr.mono (by decide)) rfl T.g_shortest_chain T.F_shortest_chain.kp (bd_shortest_chain T) (fun σ => passAt tk σ) (pa_cons (pe_tup (pa_cons (pv 1) (pa_cons pe_str (pa_cons (pv 2) pa_nil)))) pa_nil)))))))))))))))
        (fun a oe cls d pn hz hf => (pss_one (ps_set (i := 3) sc_law_string_told.nd rfl (Or.inl rfl) (pv 4)))))
        (pss_one (ps_ret (pe_ifExp (pt_cmpR op_isN (pv 3) pe_non (nomark _)) (pe_lst (pa_cons pe_str (pa_cons pe_non pa_nil))) (pe_lst (pa_cons (pe_call (ok_law_kind T) (hr.mono (by decide)) rfl T.g_law_kind T.F_law_kind.kp (bd_law_kind T) .nil pass0 (pa_cons (pv 3) pa_nil)) (pa_cons (pe_errK (pv 3)) pa_nil)))))))), ?_⟩
    obtain ⟨hd, k⟩ := h
    refine ⟨MidK H ([A0.c_InvalidWidth, A0.c_InvalidWords, A0.c_InvalidOutcome, A0.c_InvalidCondition, A0.c_InvalidRanking, A0.c_InvalidKnowledge, A0.c_InvalidProgram, A0.c_InvalidRow, A0.c_InvalidRegister, A0.c_InvalidQuery, A0.c_InvalidTable, A0.c_InvalidNumber, A0.c_UnlikeInputs, A0.c_NothingToUndo, A0.c_Unreadable] : List Addr) [some (.int d), some (.str za), some (.str zb)] r, ?_, ?_⟩
    · clear k
      have c1 : ∀ os, tabC.lookup za = some os → condR za = none := fun os h => by simp [condR, h]
      have c2 : tabC.lookup za = none → condR za = some (3, .str za) := fun h => by simp [condR, h]
      have o1 : za ∈ outs → zb ∈ outs → outR za zb = none := fun h1 h2 => by simp [outR, h1, h2]
      have o2 : za ∉ outs → outR za zb = some (2, .str za) := fun h1 => by simp [outR, h1]
      have o3 : za ∈ outs → zb ∉ outs → outR za zb = some (2, .str zb) := fun h1 h2 => by simp [outR, h1, h2]
      have s := Same.refl H
      cases hd with
      | d0 =>
        refine ⟨_, rfl, rfl, _, rfl, ?_⟩
        refine tT rfl ?_
        exact ⟨_, rfl, za, rfl, fun os p h1 _ => MidK.free (CS := ([A0.c_InvalidWidth, A0.c_InvalidWords, A0.c_InvalidOutcome, A0.c_InvalidCondition, A0.c_InvalidRanking, A0.c_InvalidKnowledge, A0.c_InvalidProgram, A0.c_InvalidRow, A0.c_InvalidRegister, A0.c_InvalidQuery, A0.c_InvalidTable, A0.c_InvalidNumber, A0.c_UnlikeInputs, A0.c_NothingToUndo, A0.c_Unreadable] : List Addr)) (l := [some (.int 0), some (.str za), some (.str zb)]) (r := condR za) (c1 os h1) s, fun h1 e he => ⟨T.xm_InvalidCondition, fun a ha => ⟨_, rfl, fun hn => MidK.bad (CS := ([A0.c_InvalidWidth, A0.c_InvalidWords, A0.c_InvalidOutcome, A0.c_InvalidCondition, A0.c_InvalidRanking, A0.c_InvalidKnowledge, A0.c_InvalidProgram, A0.c_InvalidRow, A0.c_InvalidRegister, A0.c_InvalidQuery, A0.c_InvalidTable, A0.c_InvalidNumber, A0.c_UnlikeInputs, A0.c_NothingToUndo, A0.c_Unreadable] : List Addr)) (l := [some (.int 0), some (.str za), some (.str zb)]) (C := A0.c_InvalidCondition) (r := condR za) (j := 3) rfl (by decide) (c2 h1) (sameNew he) upd_same hn⟩⟩⟩
      | d1 =>
        refine ⟨_, rfl, rfl, _, rfl, ?_⟩
        refine tF rfl ?_
        refine ⟨_, rfl, rfl, _, rfl, ?_⟩
        refine tT rfl ?_
        exact ⟨_, rfl, za, rfl, fun os h1 _ => MidK.free (CS := ([A0.c_InvalidWidth, A0.c_InvalidWords, A0.c_InvalidOutcome, A0.c_InvalidCondition, A0.c_InvalidRanking, A0.c_InvalidKnowledge, A0.c_InvalidProgram, A0.c_InvalidRow, A0.c_InvalidRegister, A0.c_InvalidQuery, A0.c_InvalidTable, A0.c_InvalidNumber, A0.c_UnlikeInputs, A0.c_NothingToUndo, A0.c_Unreadable] : List Addr)) (l := [some (.int 1), some (.str za), some (.str zb)]) (r := condR za) (c1 os h1) s, fun h1 e he => ⟨T.xm_InvalidCondition, fun a ha => ⟨_, rfl, fun hn => MidK.bad (CS := ([A0.c_InvalidWidth, A0.c_InvalidWords, A0.c_InvalidOutcome, A0.c_InvalidCondition, A0.c_InvalidRanking, A0.c_InvalidKnowledge, A0.c_InvalidProgram, A0.c_InvalidRow, A0.c_InvalidRegister, A0.c_InvalidQuery, A0.c_InvalidTable, A0.c_InvalidNumber, A0.c_UnlikeInputs, A0.c_NothingToUndo, A0.c_Unreadable] : List Addr)) (l := [some (.int 1), some (.str za), some (.str zb)]) (C := A0.c_InvalidCondition) (r := condR za) (j := 3) rfl (by decide) (c2 h1) (sameNew he) upd_same hn⟩⟩⟩
      | d2 =>
        refine ⟨_, rfl, rfl, _, rfl, ?_⟩
        refine tF rfl ?_
        refine ⟨_, rfl, rfl, _, rfl, ?_⟩
        refine tF rfl ?_
        refine ⟨_, rfl, rfl, _, rfl, ?_⟩
        refine tT rfl ?_
        exact ⟨_, rfl, za, rfl, fun os h1 _ => MidK.free (CS := ([A0.c_InvalidWidth, A0.c_InvalidWords, A0.c_InvalidOutcome, A0.c_InvalidCondition, A0.c_InvalidRanking, A0.c_InvalidKnowledge, A0.c_InvalidProgram, A0.c_InvalidRow, A0.c_InvalidRegister, A0.c_InvalidQuery, A0.c_InvalidTable, A0.c_InvalidNumber, A0.c_UnlikeInputs, A0.c_NothingToUndo, A0.c_Unreadable] : List Addr)) (l := [some (.int 2), some (.str za), some (.str zb)]) (r := condR za) (c1 os h1) s, fun h1 e he => ⟨T.xm_InvalidCondition, fun a ha => ⟨_, rfl, fun hn => MidK.bad (CS := ([A0.c_InvalidWidth, A0.c_InvalidWords, A0.c_InvalidOutcome, A0.c_InvalidCondition, A0.c_InvalidRanking, A0.c_InvalidKnowledge, A0.c_InvalidProgram, A0.c_InvalidRow, A0.c_InvalidRegister, A0.c_InvalidQuery, A0.c_InvalidTable, A0.c_InvalidNumber, A0.c_UnlikeInputs, A0.c_NothingToUndo, A0.c_Unreadable] : List Addr)) (l := [some (.int 2), some (.str za), some (.str zb)]) (C := A0.c_InvalidCondition) (r := condR za) (j := 3) rfl (by decide) (c2 h1) (sameNew he) upd_same hn⟩⟩⟩
      | d3 =>
        refine ⟨_, rfl, rfl, _, rfl, ?_⟩
        refine tF rfl ?_
        refine ⟨_, rfl, rfl, _, rfl, ?_⟩
        refine tF rfl ?_
        refine ⟨_, rfl, rfl, _, rfl, ?_⟩
        refine tF rfl ?_
        refine ⟨_, rfl, rfl, _, rfl, ?_⟩
        refine tT rfl ?_
        exact ⟨_, rfl, _, rfl, za, zb, rfl, fun h1 h2 p H' s _ => MidK.free (CS := ([A0.c_InvalidWidth, A0.c_InvalidWords, A0.c_InvalidOutcome, A0.c_InvalidCondition, A0.c_InvalidRanking, A0.c_InvalidKnowledge, A0.c_InvalidProgram, A0.c_InvalidRow, A0.c_InvalidRegister, A0.c_InvalidQuery, A0.c_InvalidTable, A0.c_InvalidNumber, A0.c_UnlikeInputs, A0.c_NothingToUndo, A0.c_Unreadable] : List Addr)) (l := [some (.int 3), some (.str za), some (.str zb)]) (r := outR za zb) (o1 h1 h2) s, fun h1 e he => ⟨T.xm_InvalidOutcome, fun a ha => ⟨_, rfl, fun hn => MidK.bad (CS := ([A0.c_InvalidWidth, A0.c_InvalidWords, A0.c_InvalidOutcome, A0.c_InvalidCondition, A0.c_InvalidRanking, A0.c_InvalidKnowledge, A0.c_InvalidProgram, A0.c_InvalidRow, A0.c_InvalidRegister, A0.c_InvalidQuery, A0.c_InvalidTable, A0.c_InvalidNumber, A0.c_UnlikeInputs, A0.c_NothingToUndo, A0.c_Unreadable] : List Addr)) (l := [some (.int 3), some (.str za), some (.str zb)]) (C := A0.c_InvalidOutcome) (r := outR za zb) (j := 2) rfl (by decide) (o2 h1) (sameNew he) upd_same hn⟩⟩, fun h1 h2 e he => ⟨T.xm_InvalidOutcome, fun a ha => ⟨_, rfl, fun hn => MidK.bad (CS := ([A0.c_InvalidWidth, A0.c_InvalidWords, A0.c_InvalidOutcome, A0.c_InvalidCondition, A0.c_InvalidRanking, A0.c_InvalidKnowledge, A0.c_InvalidProgram, A0.c_InvalidRow, A0.c_InvalidRegister, A0.c_InvalidQuery, A0.c_InvalidTable, A0.c_InvalidNumber, A0.c_UnlikeInputs, A0.c_NothingToUndo, A0.c_Unreadable] : List Addr)) (l := [some (.int 3), some (.str za), some (.str zb)]) (C := A0.c_InvalidOutcome) (r := outR za zb) (j := 2) rfl (by decide) (o3 h1 h2) (sameNew he) upd_same hn⟩⟩⟩
      | d4 =>
        refine ⟨_, rfl, rfl, _, rfl, ?_⟩
        refine tF rfl ?_
        refine ⟨_, rfl, rfl, _, rfl, ?_⟩
        refine tF rfl ?_
        refine ⟨_, rfl, rfl, _, rfl, ?_⟩
        refine tF rfl ?_
        refine ⟨_, rfl, rfl, _, rfl, ?_⟩
        refine tF rfl ?_
        refine ⟨_, rfl, rfl, _, rfl, ?_⟩
        refine tT rfl ?_
        refine ⟨_, rfl, _, rfl, (by show 4 ≤ sizeLine; decide), fun t ht => ⟨t, ["E", za, "LA", zb], rfl, SqT.of upd_same, (by show 4 ≤ 1000; decide), fun all H' s' => ?_, fun i z h1 h2 pre e H' he s1 e1 => ?_⟩⟩
        · have s := (sameNew ht (o := .tup [.str "E", .str za, .str "LA", .str zb])).trans s'
          exact MidK.free (CS := ([A0.c_InvalidWidth, A0.c_InvalidWords, A0.c_InvalidOutcome, A0.c_InvalidCondition, A0.c_InvalidRanking, A0.c_InvalidKnowledge, A0.c_InvalidProgram, A0.c_InvalidRow, A0.c_InvalidRegister, A0.c_InvalidQuery, A0.c_InvalidTable, A0.c_InvalidNumber, A0.c_UnlikeInputs, A0.c_NothingToUndo, A0.c_Unreadable] : List Addr)) (l := [some (.int 4), some (.str za), some (.str zb)]) (r := outR za zb) (o1 (all za (by simp)) (all zb (by simp))) s
        · have r2 : outR za zb = some (2, .str z) := pick4 h1 h2 pre
          exact ⟨T.xm_InvalidOutcome, fun a ha => ⟨_, rfl, fun hn => MidK.bad (CS := ([A0.c_InvalidWidth, A0.c_InvalidWords, A0.c_InvalidOutcome, A0.c_InvalidCondition, A0.c_InvalidRanking, A0.c_InvalidKnowledge, A0.c_InvalidProgram, A0.c_InvalidRow, A0.c_InvalidRegister, A0.c_InvalidQuery, A0.c_InvalidTable, A0.c_InvalidNumber, A0.c_UnlikeInputs, A0.c_NothingToUndo, A0.c_Unreadable] : List Addr)) (l := [some (.int 4), some (.str za), some (.str zb)]) (C := A0.c_InvalidOutcome) (r := outR za zb) (j := 2) rfl (by decide) (r2) ((sameNew ht).trans s1) e1 hn⟩⟩
      | d5 =>
        refine ⟨_, rfl, rfl, _, rfl, ?_⟩
        refine tF rfl ?_
        refine ⟨_, rfl, rfl, _, rfl, ?_⟩
        refine tF rfl ?_
        refine ⟨_, rfl, rfl, _, rfl, ?_⟩
        refine tF rfl ?_
        refine ⟨_, rfl, rfl, _, rfl, ?_⟩
        refine tF rfl ?_
        refine ⟨_, rfl, rfl, _, rfl, ?_⟩
        refine tF rfl ?_
        refine ⟨_, rfl, _, rfl, (by show 3 ≤ sizeLine; decide), fun t ht => ⟨t, [za, "GB", zb], rfl, SqT.of upd_same, (by show 3 ≤ 1000; decide), fun all _ H' s' => ?_, fun i z h1 h2 pre e H' he s1 e1 => ?_⟩⟩
        · have s := (sameNew ht (o := .tup [.str za, .str "GB", .str zb])).trans s'
          exact MidK.free (CS := ([A0.c_InvalidWidth, A0.c_InvalidWords, A0.c_InvalidOutcome, A0.c_InvalidCondition, A0.c_InvalidRanking, A0.c_InvalidKnowledge, A0.c_InvalidProgram, A0.c_InvalidRow, A0.c_InvalidRegister, A0.c_InvalidQuery, A0.c_InvalidTable, A0.c_InvalidNumber, A0.c_UnlikeInputs, A0.c_NothingToUndo, A0.c_Unreadable] : List Addr)) (l := [some (.int 5), some (.str za), some (.str zb)]) (r := outR za zb) (o1 (all za (by simp)) (all zb (by simp))) s
        · have r2 : outR za zb = some (2, .str z) := pick3 h1 h2 pre
          exact ⟨T.xm_InvalidOutcome, fun a ha => ⟨_, rfl, fun hn => MidK.bad (CS := ([A0.c_InvalidWidth, A0.c_InvalidWords, A0.c_InvalidOutcome, A0.c_InvalidCondition, A0.c_InvalidRanking, A0.c_InvalidKnowledge, A0.c_InvalidProgram, A0.c_InvalidRow, A0.c_InvalidRegister, A0.c_InvalidQuery, A0.c_InvalidTable, A0.c_InvalidNumber, A0.c_UnlikeInputs, A0.c_NothingToUndo, A0.c_Unreadable] : List Addr)) (l := [some (.int 5), some (.str za), some (.str zb)]) (C := A0.c_InvalidOutcome) (r := outR za zb) (j := 2) rfl (by decide) (r2) ((sameNew ht).trans s1) e1 hn⟩⟩
    · rintro σ H1 ⟨caught, rfl, s1, hc⟩
      rcases hc with ⟨rfl, hr⟩ | ⟨a, C, j, v, rfl, ea, hC, ho, hr⟩
      · subst hr
        refine ⟨_, rfl, rfl, _, rfl, ?_⟩
        refine tT rfl ?_
        exact ⟨(by show 2 ≤ sizeLine; decide), fun p hp => k p _ (s1.trans (sameNew hp)) upd_same⟩
      · subst hr
        refine ⟨_, rfl, rfl, _, rfl, ?_⟩
        refine tF rfl ?_
        refine ⟨_, rfl, a, j, C, v, rfl, ea, hC, ho, fun H2 s2 => ?_⟩
        obtain ⟨_, xf, nf⟩ := errC T hC
        refine ⟨_, rfl, a, C, v, rfl, ea.same s2, xf, nf, ?_⟩
        exact ⟨(by show 2 ≤ sizeLine; decide), fun p hp => k p _ (s1.trans (s2.trans (sameNew hp))) upd_same⟩
/-! _law_words_right -/
def sp_law_words_right (K : PySem.W.Frag) (A0 : Ad) : Sp := fun vs H Q E => ∃ (p : Addr) (n : Nat), vs = [.ref p] ∧ Pool H p n ∧ n ≤ 20000 ∧ ∀ H', Pool H' p (n + 100) → But p H H' → Q (.bl true) H'
theorem sc_law_words_right : FnScope ["pool", "wide", "early", "some", "turn", "spot", "beyond", "top", "bad", "one", "more", "late", "free", "dues", "row", "door"] ["pool"] (defScope s_law_words_right) := ⟨rfl, rfl, rfl, by decide +kernel, rfl, by decide +kernel, by decide +kernel⟩
theorem bd_law_words_right (T : Txt w K mg A0) : Binds K A0.d_law_words_right ["pool"] [] := T.F_law_words_right.binds fun _ _ _ _ _ _ us hl => match us, hl with | [_], _ => rfl
set_option maxHeartbeats 0 in
theorem ok_law_words_right (T : Txt w K mg A0) : FnOk P w K mg base CX0 6 A0.a_law_words_right A0.d_law_words_right ["pool"] (sp_law_words_right K A0) := by
  refine T.F_law_words_right.ok sc_law_words_right (fun vs H Q E h => ?_) (fun cdv A outer s H vs Q E hr h => ?_)
  · obtain ⟨p, n, rfl, _⟩ := h
    rfl
  · obtain ⟨p, n, rfl, h⟩ := h
    refine ⟨_, (pss_cons (ps_asg (pe_tup (pa_cons (pe_call (ok_law_wide T) (hr.mono (by decide)) rfl T.g_law_wide T.F_law_wide.kp (bd_law_wide T) .nil pass0 (pa_cons (pv 0) pa_nil)) (pa_cons (pe_lst pa_nil) pa_nil))) (pg_tup rfl (pgs_cons (pg_name (i := 1) sc_law_words_right.nd rfl (Or.inr rfl)) (pgs_cons (pg_name (i := 2) sc_law_words_right.nd rfl (Or.inl rfl)) pgs_nil))))
        (pss_cons (ps_set (i := 3) sc_law_words_right.nd rfl (Or.inr rfl) (pe_callTy call_list_of (by rfl) T.b_list (by decide +kernel) (pa_cons (pe_call (ok_law_some T) (hr.mono (by decide)) rfl T.g_law_some T.F_law_some.kp (bd_law_some T) .nil pass0 (pa_cons (pv 0) (pa_cons (pv 1) (pa_cons (pe_op op_add pe_int (pe_call (ok_law_draw T) (hr.mono (by decide)) rfl T.g_law_draw T.F_law_draw.kp (bd_law_draw T) .nil pass0 (pa_cons (pv 0) (pa_cons pe_int pa_nil)))) pa_nil)))) pa_nil)))
        (pss_cons (ps_for PassesOwn.never rfl (pi_range1 rfl T.b_range (pa_cons (pe_call (ok_law_draw T) (hr.mono (by decide)) rfl T.g_law_draw T.F_law_draw.kp (bd_law_draw T) .nil pass0 (pa_cons (pv 0) (pa_cons pe_int pa_nil))) pa_nil)) (pg_name (i := 4) sc_law_words_right.nd rfl (Or.inl rfl)) (pss_cons (ps_set (i := 5) sc_law_words_right.nd rfl (Or.inl rfl) (pe_call (ok_law_draw T) (hr.mono (by decide)) rfl T.g_law_draw T.F_law_draw.kp (bd_law_draw T) .nil pass0 (pa_cons (pv 0) (pa_cons (pe_callB call_len_seq (by rfl) T.b_len (by decide +kernel) (pa_cons (pv 3) pa_nil)) pa_nil))))
        (pss_cons (ps_set (i := 6) sc_law_words_right.nd rfl (Or.inl rfl) (pe_op op_add (pe_call (ok_law_power T) (hr.mono (by decide)) rfl T.g_law_power T.F_law_power.kp (bd_law_power T) .nil pass0 (pa_cons (pv 1) pa_nil)) (pe_call (ok_law_draw T) (hr.mono (by decide)) rfl T.g_law_draw T.F_law_draw.kp (bd_law_draw T) .nil pass0 (pa_cons (pv 0) (pa_cons (pe_op op_pow pe_int pe_int) pa_nil)))))
        (pss_one (ps_asg (pe_ix ix_list (pe_lst (pa_cons (pe_un un_neg pe_int) (pa_cons (pe_call (ok_law_power T) (hr.mono (by decide)) rfl T.g_law_power T.F_law_power.kp (bd_law_power T) .nil pass0 (pa_cons (pv 1) pa_nil)) (pa_cons (pv 6) (pa_cons (pe_op op_sub pe_int (pe_op op_pow pe_int pe_int)) pa_nil))))) (pe_call (ok_law_draw T) (hr.mono (by decide)) rfl T.g_law_draw T.F_law_draw.kp (bd_law_draw T) .nil pass0 (pa_cons (pv 0) (pa_cons pe_int pa_nil))) (fun _ _ => rfl)) (pg_sub (pv 3) (pv 5) set_list))))))
        (Evl.pss_cut (ps_if (pt_cmpR op_eq (pe_call (ok_law_draw T) (hr.mono (by decide)) rfl T.g_law_draw T.F_law_draw.kp (bd_law_draw T) .nil pass0 (pa_cons (pv 0) (pa_cons pe_int pa_nil))) pe_int (nomark _)) (pss_cons (ps_set (i := 1) sc_law_words_right.nd rfl (Or.inr rfl) (pe_op op_sub pe_int (pe_ix ix_list (pe_lst (pa_cons pe_int (pa_cons pe_int (pa_cons (pe_call (ok_law_draw T) (hr.mono (by decide)) rfl T.g_law_draw T.F_law_draw.kp (bd_law_draw T) .nil pass0 (pa_cons (pv 0) (pa_cons (pe_op op_pow pe_int pe_int) pa_nil))) pa_nil)))) (pe_call (ok_law_draw T) (hr.mono (by decide)) rfl T.g_law_draw T.F_law_draw.kp (bd_law_draw T) .nil pass0 (pa_cons (pv 0) (pa_cons pe_int pa_nil))) (fun _ _ => rfl))))
        (pss_one (ps_set (i := 2) sc_law_words_right.nd rfl (Or.inl rfl) (pe_lst (pa_cons (pe_lst (pa_cons pe_str (pa_cons (pv 1) pa_nil))) pa_nil))))) pss_nil)
        (pss_cons (ps_set (i := 7) sc_law_words_right.nd rfl (Or.inr rfl) (pe_call (ok_law_power T) (hr.mono (by decide)) rfl T.g_law_power T.F_law_power.kp (bd_law_power T) .nil pass0 (pa_cons (pe_callB (call_max2 rfl) (by rfl) T.b_max (by decide +kernel) (pa_cons pe_int (pa_cons (pv 1) pa_nil))) pa_nil)))
        (pss_cons (ps_setLc (i := 8) (own := [("spot", 5), ("one", 9)]) rfl sc_law_words_right.nd rfl rfl (sw_true rfl rfl rfl (by decide +kernel)) (pi_enum rfl T.b_enumerate (pa_cons (pv 3) pa_nil)) (blkOk_by (own := [("spot", 5), ("one", 9)]) (N := ["pool", "wide", "early", "some", "turn", "spot", "beyond", "top", "bad", "one", "more", "late", "free", "dues", "row", "door"]) (sc := defScope s_law_words_right) (by decide +kernel)) (fun _ _ _ _ _ => (show PG _ _ (gTup K 2 (gCons (gName 5) (gCons (gName 9) gNil))) from pg_tup rfl (pgs_cons (pg_name (i := 5) sc_law_words_right.nd rfl (Or.inl rfl)) (pgs_cons (pg_name (i := 9) sc_law_words_right.nd rfl (Or.inl rfl)) pgs_nil)))) (fun _ _ _ _ _ => pts_one (pt_not (pt_chain op_le op_lt pe_int (pv 9) (pv 7)))) (fun _ _ _ _ _ => (pe_lst (pa_cons pe_str (pa_cons (pv 5) pa_nil)))))
        (pss_cons (ps_asg (pe_tup (pa_cons (pe_op op_add (pv 1) (pe_ix ix_list (pe_lst (pa_cons pe_int (pa_cons pe_int (pa_cons (pe_un un_neg pe_int) (pa_cons (pe_op op_sub pe_int (pe_call (ok_law_draw T) (hr.mono (by decide)) rfl T.g_law_draw T.F_law_draw.kp (bd_law_draw T) .nil pass0 (pa_cons (pv 0) (pa_cons (pe_op op_pow pe_int pe_int) pa_nil)))) pa_nil))))) (pe_call (ok_law_draw T) (hr.mono (by decide)) rfl T.g_law_draw T.F_law_draw.kp (bd_law_draw T) .nil pass0 (pa_cons (pv 0) (pa_cons pe_int pa_nil))) (fun _ _ => rfl))) (pa_cons (pe_lst pa_nil) (pa_cons (pe_lst (pa_cons (pe_lst (pa_cons pe_str (pa_cons pe_non pa_nil))) pa_nil)) pa_nil)))) (pg_tup rfl (pgs_cons (pg_name (i := 10) sc_law_words_right.nd rfl (Or.inr rfl)) (pgs_cons (pg_name (i := 11) sc_law_words_right.nd rfl (Or.inl rfl)) (pgs_cons (pg_name (i := 12) sc_law_words_right.nd rfl (Or.inl rfl)) pgs_nil)))))
        (pss_cons (ps_set (i := 10) sc_law_words_right.nd rfl (Or.inr rfl) (pe_callB (call_min2 rfl) (by rfl) T.b_min (by decide +kernel) (pa_cons pe_int (pa_cons (pv 10) pa_nil))))
        (pss_cons (ps_if (pt_cmpR op_lt (pv 10) (pv 1) (nomark _)) (pss_one (ps_set (i := 11) sc_law_words_right.nd rfl (Or.inl rfl) (pe_lst (pa_cons (pe_lst (pa_cons pe_str (pa_cons (pv 10) pa_nil))) pa_nil)))) pss_nil)
        (pss_cons (ps_set (i := 13) sc_law_words_right.nd rfl (Or.inl rfl) (pe_lst (pa_cons (pe_ix ix_list (pe_op op_cat (pe_op op_cat (pv 2) (pe_lc (own := [("row", 14)]) (g := gName 14) rfl sc_law_words_right.nd (pi_list (pv 8)) (blkOk_by (own := [("row", 14)]) (N := ["pool", "wide", "early", "some", "turn", "spot", "beyond", "top", "bad", "one", "more", "late", "free", "dues", "row", "door"]) (sc := defScope s_law_words_right) (by decide +kernel)) (fun _ _ _ _ _ => pg_name (i := 14) sc_law_words_right.nd rfl (Or.inl rfl)) (fun _ _ _ _ _ => pts_one (pt_cmpR op_lt (pe_ix (show IxR _ (rIxL K) from ix_list) (pv 14) pe_int (fun _ _ => rfl)) pe_int (nomark _))) (fun _ _ _ _ _ => (pv 14)))) (pv 12)) pe_int (fun _ _ => rfl)) pa_nil)))
        (pss_cons (ps_expr (pe_bmX (K := K) rfl PySem.F.plainAttrs_list PySem.F.slot_list_append PySem.F.type_list_append mt_append (pv 13) (pa_cons (pe_ix ix_list (pe_op op_cat (pe_op op_cat (pv 2) (pe_lc (own := [("row", 14)]) (g := gName 14) rfl sc_law_words_right.nd (pi_list (pv 8)) (blkOk_by (own := [("row", 14)]) (N := ["pool", "wide", "early", "some", "turn", "spot", "beyond", "top", "bad", "one", "more", "late", "free", "dues", "row", "door"]) (sc := defScope s_law_words_right) (by decide +kernel)) (fun _ _ _ _ _ => pg_name (i := 14) sc_law_words_right.nd rfl (Or.inl rfl)) (fun _ _ _ _ _ => pts_one (pt_cmpR op_lt (pe_ix (show IxR _ (rIxL K) from ix_list) (pv 14) pe_int (fun _ _ => rfl)) pe_int (nomark _))) (fun _ _ _ _ _ => (pv 14)))) (pv 12)) pe_int (fun _ _ => rfl)) pa_nil) rfl rfl rfl rfl rfl))
        (pss_cons (ps_set (i := 13) sc_law_words_right.nd rfl (Or.inl rfl) (pe_op op_cat (pv 13) (pe_op op_rep (pe_lst (pa_cons (pe_ix ix_list (pe_op op_cat (pe_op op_cat (pv 2) (pv 8)) (pv 12)) pe_int (fun _ _ => rfl)) pa_nil)) pe_int)))
        (pss_cons (ps_set (i := 13) sc_law_words_right.nd rfl (Or.inl rfl) (pe_op op_cat (pv 13) (pe_op op_rep (pe_lst (pa_cons (pe_ix ix_list (pe_op op_cat (pe_op op_cat (pe_op op_cat (pv 2) (pv 8)) (pv 11)) (pv 12)) pe_int (fun _ _ => rfl)) pa_nil)) pe_int)))
        (pss_one (ps_ret (pe_cmpR (op_eqD hr.units) (pe_lc (own := [("door", 15)]) (g := gName 15) rfl sc_law_words_right.nd (pi_range1 rfl T.b_range (pa_cons pe_int pa_nil)) (blkOk_by (own := [("door", 15)]) (N := ["pool", "wide", "early", "some", "turn", "spot", "beyond", "top", "bad", "one", "more", "late", "free", "dues", "row", "door"]) (sc := defScope s_law_words_right) (by decide +kernel)) (fun _ _ _ _ _ => pg_name (i := 15) sc_law_words_right.nd rfl (Or.inl rfl)) (fun _ _ _ _ _ => pts_nil) (fun _ _ _ _ _ => (pe_call (ok_law_told T) (hr.mono (by decide)) rfl T.g_law_told T.F_law_told.kp (bd_law_told T) .nil pass0 (pa_cons (pv 15) (pa_cons (pv 1) (pa_cons (pe_callTy (show CallR _ _ (rTupOf K) from cr_tupOf) (by rfl) T.b_tuple (by decide +kernel) (pa_cons (pv 3) pa_nil)) (pa_cons (pv 10) pa_nil))))))) (pv 13) (nomark _))))))))))))))))), ?_⟩
    obtain ⟨pl, hn, k⟩ := h
    refine ⟨_, rfl, p, n, rfl, pl, by omega, fun wd0 H1 w1 w2 pl1 b1 => ?_⟩
    refine ⟨(by show 0 ≤ sizeLine; decide), fun e0 he0 => ⟨(by show 2 ≤ sizeLine; decide), fun tp htp => ?_⟩⟩
    refine ⟨tp, _, rfl, SqT.of upd_same, rfl, _, _, rfl, _, _, rfl, rfl, ?_⟩
    have s2 : Same H1 (upd (upd H1 e0 (.lst [])) tp (.tup [.int wd0, .ref e0])) := (sameNew he0).trans (sameNew htp)
    have ee2 : (upd (upd H1 e0 (.lst [])) tp (.tup [.int wd0, .ref e0])) e0 = some (.lst []) := (sameNew htp) _ _ upd_same
    have ne0 : e0 ≠ p := pl1.ne he0
    generalize (upd (upd H1 e0 (.lst [])) tp (.tup [.int wd0, .ref e0])) = H2 at s2 ee2 ⊢
    have pl2 := pl1.same s2
    have b02 : But p H H2 := b1.trans (But.of s2)
    refine ⟨_, rfl, _, rfl, _, rfl, p, 5, _, rfl, pl2, by omega, by decide, by decide, fun d1 H3 y0 y1 pl3 b3 => ⟨_, _, rfl, rfl, ?_⟩⟩
    refine ⟨p, wd0, _, _, rfl, pl3, by omega, w1, w2, by omega, by omega, fun t xs H4 lx bx pl4 b4 ntp ht0 et => ⟨t, _, rfl, .inr (SqT.of et), fun l hl => ?_⟩⟩
    have lx2 : 2 ≤ xs.length ∧ xs.length ≤ 6 := by omega
    have nlp : l ≠ p := pl4.ne hl
    have ee4 : H4 e0 = some (.lst []) := b4 e0 _ ne0 (b3 e0 _ ne0 ee2)
    have pl5 := (pl4.mono (show _ ≤ n + 50 by omega)).new hl (o := .lst (xs.map V.int))
    have b05 : But p H (upd H4 l (.lst (xs.map V.int))) := b02.trans (b3.trans (b4.trans (But.new hl)))
    have ee5 := (sameNew hl (o := .lst (xs.map V.int))) _ _ ee4
    have el5 : (upd H4 l (.lst (xs.map V.int))) l = some (.lst (xs.map V.int)) := upd_same
    have nle : e0 ≠ l := ne_of_none ee4 hl
    have hl0 : H l = none := by
      cases e : H l with
      | none => rfl
      | some o => rw [(b02.trans (b3.trans b4)) l o nlp e] at hl; cases hl
    generalize (upd H4 l (.lst (xs.map V.int))) = H5 at pl5 b05 ee5 el5 ⊢
    clear b4 b3 pl4 pl3 ee4 ht0 et ntp bx hl
    refine ⟨_, rfl, p, 3, _, rfl, pl5, by omega, by decide, by decide, fun d2 H6 y20 y21 pl6 b6 => ⟨d2, rfl, by omega, by omega, ?_⟩⟩
    refine for_range (n := d2.toNat) (fun i σ H' => ∃ (ys : List Int) (u4 u5 u6 : Option V), σ = [some (.ref p), some (.int wd0), some (.ref e0), some (.ref l), u4, u5, u6, none, none, none, none, none, none, none, none, none] ∧ ys.length = xs.length ∧ H' l = some (.lst (ys.map V.int)) ∧ H' e0 = some (.lst []) ∧ Pool H' p (n + 51 + 5 * i) ∧ But p H H') ⟨xs, none, none, none, rfl, rfl, b6 l _ nlp el5, b6 e0 _ ne0 ee5, pl6.mono (by omega), b05.trans b6⟩ ?_ ?_
    · rintro i σ H7 hi ⟨ys, u4, u5, u6, rfl, ly, el7, ee7, pl7, b7⟩
      refine ⟨_, rfl, _, rfl, l, _, rfl, .inl (SqL.of el7), p, _, _, rfl, pl7, by omega, by rw [List.length_map]; omega, by rw [List.length_map]; exact Int.lt_of_lt_of_le (show (ys.length : Int) < 2 ^ 20 by omega) (by decide), fun d4 H8 y40 y41 pl8 b8 => ?_⟩
      rw [List.length_map] at y41
      refine ⟨_, rfl, wd0, rfl, by omega, by omega, _, rfl, _, _, rfl, rfl, ⟨by decide, by decide, by decide⟩, p, _, _, rfl, pl8, by omega, by decide, by decide, fun d5 H9 y50 y51 pl9 b9 => ⟨_, _, rfl, rfl, ?_⟩⟩
      refine ⟨_, rfl, _, rfl, wd0, rfl, by omega, by omega, _, rfl, _, _, rfl, rfl, ⟨by decide, by decide, by decide⟩, _, _, rfl, rfl, (by show 4 ≤ sizeLine; decide), fun r hr' => ?_⟩
      have nrp : r ≠ p := pl9.ne hr'
      refine ⟨_, rfl, p, 4, _, rfl, pl9.new hr', by omega, by decide, by decide, fun d6 H10 y60 y61 pl10 b10 => ?_⟩
      obtain ⟨v, ev⟩ : ∃ v : Int, atI [V.int (-1), V.int (2 ^ wd0.toNat), V.int (2 ^ wd0.toNat + d5), V.int (0 - 10 ^ (30 : Int).toNat)] d6 = some (.int v) := by
        have h : d6 = 0 ∨ d6 = 1 ∨ d6 = 2 ∨ d6 = 3 := by omega
        rcases h with rfl | rfl | rfl | rfl <;> exact ⟨_, rfl⟩
      refine ⟨r, _, d6, .int v, rfl, rfl, SqL.of (b10 r _ nrp upd_same), ev, ?_⟩
      have bb : But p H7 H10 := b8.trans (b9.trans ((But.new hr').trans b10))
      have el10 := bb l _ nlp el7
      have ee10 := bb e0 _ ne0 ee7
      refine ⟨_, rfl, _, rfl, l, _, d4, d4.toNat, rfl, rfl, el10, ?_, ?_⟩
      · rw [show d4 = ((d4.toNat : Nat) : Int) by omega]
        exact Evl.ixN_nat (by rw [List.length_map]; omega)
      refine ⟨ys.set d4.toNat v, _, _, _, rfl, by rw [List.length_set]; exact ly, by rw [upd_same, List.map_set], (upd_ne nle).trans ee10, (pl10.put nlp).mono (by omega), fun b o hb e => ?_⟩
      rw [upd_ne (ne_of_none e hl0)]
      exact bb b o hb (b7 b o hb e)
    rintro σ H7 ⟨ys, u4, u5, u6, rfl, ly, el7, ee7, pl7, b7⟩
    refine ⟨fun σ H' => ∃ (wd : Int) (e g0 : Addr) (xs : List Int) (u4 u5 u6 : Option V), σ = [some (.ref p), some (.int wd), some (.ref e), some (.ref l), u4, u5, u6, none, none, none, none, none, none, none, none, none] ∧ wd ≤ 300 ∧ H' e = some (.lst (wideL wd g0)) ∧ (wd < 1 → H' g0 = some (.lst [.str "wide", .int wd])) ∧ H' l = some (.lst (xs.map V.int)) ∧ 2 ≤ xs.length ∧ xs.length ≤ 6 ∧ Pool H' p (n + 80) ∧ But p H H', ?_, ?_⟩
    · clear k
      refine ⟨_, rfl, p, 4, _, rfl, pl7, by omega, by decide, by decide, fun d7 H8 y70 y71 pl8 b8 => ⟨rfl, _, rfl, ?_⟩⟩
      have el8 := b8 l _ nlp el7
      have ee8 := b8 e0 _ ne0 ee7
      cases hc : decide (V.int d7 = V.int 0) with
      | false =>
        refine tF rfl ?_
        exact ⟨wd0, e0, e0, ys, u4, u5, u6, rfl, by omega, by unfold wideL; rw [decide_eq_false (show ¬ wd0 < 1 by omega)]; exact ee8, fun h => by omega, el8, by omega, by omega, pl8.mono (by omega), b7.trans b8⟩
      | true =>
        refine tT rfl ?_
        refine ⟨_, rfl, _, _, rfl, rfl, ⟨by decide, by decide, by decide⟩, p, _, _, rfl, pl8, by omega, by decide, by decide, fun d8 H9 y80 y81 pl9 b9 => ⟨(by show 3 ≤ sizeLine; decide), fun r hr' => ?_⟩⟩
        have nrp : r ≠ p := pl9.ne hr'
        refine ⟨_, rfl, p, 3, _, rfl, pl9.new hr', by omega, by decide, by decide, fun d9 H10 y90 y91 pl10 b10 => ?_⟩
        obtain ⟨v, ev, hv⟩ : ∃ v : Int, atI [V.int 0, V.int 1, V.int d8] d9 = some (.int v) ∧ 0 ≤ v := by
          have h : d9 = 0 ∨ d9 = 1 ∨ d9 = 2 := by omega
          rcases h with rfl | rfl | rfl
          · exact ⟨_, rfl, by decide⟩
          · exact ⟨_, rfl, by decide⟩
          · exact ⟨_, rfl, y80⟩
        refine ⟨r, _, d9, .int v, rfl, rfl, SqL.of (b10 r _ nrp upd_same), ev, _, _, rfl, rfl, ?_⟩
        refine ⟨_, rfl, (by show 2 ≤ sizeLine; decide), fun g0 hg0 => ⟨(by show 1 ≤ sizeLine; decide), fun g1 hg1 => ?_⟩⟩
        have s11 := (sameNew hg0 (o := .lst [.str "wide", .int (0 - v)])).trans (sameNew hg1 (o := .lst [.ref g0]))
        have bb : But p H7 H10 := b8.trans (b9.trans ((But.new hr').trans b10))
        exact ⟨0 - v, g1, g0, ys, u4, u5, u6, rfl, by omega, by unfold wideL; rw [decide_eq_true (show 0 - v < 1 by omega)]; exact upd_same, fun _ => (sameNew hg1) _ _ upd_same, s11 _ _ (bb l _ nlp el7), by omega, by omega, (pl10.same s11).mono (by omega), b7.trans (bb.trans (But.of s11))⟩
    clear pl7 ee7 el7 ly y20 y21 b6 pl6 b05 el5 ee5 pl5 nle hl0 ne0 b02 pl2 ee2 s2
    rintro σ H8 ⟨wd, e, g0, xs, u4, u5, u6, rfl, hw, ee, eg, el, lx1, lx2, pl8, b8⟩
    refine ⟨_, rfl, _, _, rfl, _, rfl, by split <;> omega, by split <;> omega, ?_⟩
    refine ⟨_, rfl, l, xs.map V.int, rfl, SqL.of el, fun B hB => ite_by (xs := xs.map V.int) (fun t H' => Same H8 H' ∧ ∃ bs : List Addr, H' B = some (.lst (bs.map V.ref)) ∧ WNums H' bs (badIx wd xs t) ∧ bs.length ≤ t) ⟨sameNew hB, [], upd_same, .nil, Nat.le_refl _⟩ (fun t H' _ hp => SqL.of (hp.1 _ _ el)) ?_ ?_⟩
    · rintro t x H' T9 hx ⟨s', bs, eB, nb, lb⟩ hT
      obtain ⟨z, hz, rfl⟩ := map_at hx
      refine ⟨T9, _, rfl, SqT.of upd_same, rfl, _, _, rfl, _, _, rfl, rfl, ?_⟩
      refine ⟨rfl, ?_⟩
      have st := badIx_succ (wd := wd) hz
      have tl := (List.getElem?_eq_some_iff.mp hz).1
      have sT : Same H' (upd H' T9 (.tup [.int (t : Nat), .int z])) := sameNew hT
      have good : isW wd z = true → Same H8 (upd H' T9 (.tup [.int (t : Nat), .int z])) ∧ ∃ bs : List Addr, (upd H' T9 (.tup [.int (t : Nat), .int z])) B = some (.lst (bs.map V.ref)) ∧ WNums (upd H' T9 (.tup [.int (t : Nat), .int z])) bs (badIx wd xs (t + 1)) ∧ bs.length ≤ t + 1 := fun y => by
        refine ⟨s'.trans sT, bs, sT _ _ eB, ?_, by omega⟩
        rw [st, if_pos y, List.append_nil]
        exact nb.same sT
      have bad : isW wd z = false → ∀ b, (upd H' T9 (.tup [.int (t : Nat), .int z])) b = none → ∃ acc, (upd (upd H' T9 (.tup [.int (t : Nat), .int z])) b (.lst [.str "words", .int (t : Nat)])) B = some (.lst acc) ∧ acc.length < sizeLine ∧ (Same H8 (upd (upd (upd H' T9 (.tup [.int (t : Nat), .int z])) b (.lst [.str "words", .int (t : Nat)])) B (.lst (acc ++ [.ref b]))) ∧
          ∃ bs : List Addr, (upd (upd (upd H' T9 (.tup [.int (t : Nat), .int z])) b (.lst [.str "words", .int (t : Nat)])) B (.lst (acc ++ [.ref b]))) B = some (.lst (bs.map V.ref)) ∧ WNums (upd (upd (upd H' T9 (.tup [.int (t : Nat), .int z])) b (.lst [.str "words", .int (t : Nat)])) B (.lst (acc ++ [.ref b]))) bs (badIx wd xs (t + 1)) ∧ bs.length ≤ t + 1) := fun y b hb => by
        have s2 := sT.trans (sameNew hb (o := .lst [.str "words", .int (t : Nat)]))
        refine ⟨bs.map V.ref, s2 _ _ eB, small1000 (by rw [List.length_map]; omega), sameUp (s'.trans s2) hB, bs ++ [b], by rw [upd_same, List.map_append]; rfl, ?_, by rw [List.length_append]; show bs.length + 1 ≤ t + 1; omega⟩
        rw [st, y]
        exact WNums.up (pr_app (nb.same s2) (.cons upd_same .nil)) (s2 _ _ eB)
      refine ⟨_, rfl, _, _, rfl, rfl, _, rfl, ?_⟩
      by_cases c1 : 0 ≤ z
      · refine tT (decide_eq_true c1) ?_
        refine ⟨_, rfl, _, _, rfl, rfl, _, rfl, ?_⟩
        by_cases c2 : z < 2 ^ (if wd > 0 then wd else 0).toNat
        · exact tF (by rw [decide_eq_true c2]; rfl) (good (by unfold isW; rw [decide_eq_true c1, decide_eq_true c2]; rfl))
        · refine tT (by rw [decide_eq_false c2]; rfl) ?_
          exact ⟨_, rfl, (by show 2 ≤ sizeLine; decide), fun b hb => bad (by unfold isW; rw [decide_eq_false c2, Bool.and_false]) b hb⟩
      · refine tF (decide_eq_false c1) ?_
        refine ⟨_, rfl, ?_⟩
        refine tT rfl ?_
        exact ⟨_, rfl, (by show 2 ≤ sizeLine; decide), fun b hb => bad (by unfold isW; rw [decide_eq_false c1, Bool.false_and]) b hb⟩
    rintro H9 ⟨s9, bs, eB, nb, lb⟩
    rw [List.length_map] at nb lb
    have pl9 := pl8.same s9
    have el := s9 _ _ el
    have ee := s9 _ _ ee
    have eg := fun c => s9 _ _ (eg c)
    have b9 := b8.trans (But.of s9)
    refine ⟨_, rfl, _, rfl, _, rfl, _, _, rfl, rfl, ⟨by decide, by decide, by decide⟩, p, _, _, rfl, pl9, by omega, by decide, by decide, fun d10 H10 y100 y101 pl10 b10 => ⟨_, _, rfl, rfl, (by show 4 ≤ sizeLine; decide), fun r hr' => ?_⟩⟩
    have nrp : r ≠ p := pl10.ne hr'
    refine ⟨_, rfl, p, 4, _, rfl, pl10.new hr', by omega, by decide, by decide, fun d11 H11 y110 y111 pl11 b11 => ?_⟩
    obtain ⟨v, ev⟩ : ∃ v : Int, atI [V.int 0, V.int 1, V.int (-1), V.int (0 - d10)] d11 = some (.int v) := by
      have h : d11 = 0 ∨ d11 = 1 ∨ d11 = 2 ∨ d11 = 3 := by omega
      rcases h with rfl | rfl | rfl | rfl <;> exact ⟨_, rfl⟩
    refine ⟨r, _, d11, .int v, rfl, rfl, SqL.of (b11 r _ nrp upd_same), ev, _, _, rfl, rfl, ?_⟩
    refine ⟨(by show 0 ≤ sizeLine; decide), fun a0 ha0 => ⟨(by show 2 ≤ sizeLine; decide), fun f0 hf0 => ⟨(by show 1 ≤ sizeLine; decide), fun f1 hf1 => ⟨(by show 3 ≤ sizeLine; decide), fun tp htp => ?_⟩⟩⟩⟩
    refine ⟨tp, _, rfl, SqT.of upd_same, rfl, _, _, rfl, _, _, rfl, _, _, rfl, rfl, ?_⟩
    have bb : But p H9 H11 := b10.trans ((But.new hr').trans b11)
    have sA := (sameNew ha0 (o := .lst [])).trans ((sameNew hf0 (o := .lst [.str "none", .non])).trans ((sameNew hf1 (o := .lst [.ref f0])).trans (sameNew htp (o := .tup [.int (wd + v), .ref a0, .ref f1]))))
    have ea := ((sameNew hf0 (o := .lst [.str "none", .non])).trans ((sameNew hf1 (o := .lst [.ref f0])).trans (sameNew htp (o := .tup [.int (wd + v), .ref a0, .ref f1])))) a0 (.lst []) upd_same
    have ef0 := ((sameNew hf1 (o := .lst [.ref f0])).trans (sameNew htp (o := .tup [.int (wd + v), .ref a0, .ref f1]))) f0 (.lst [.str "none", .non]) upd_same
    have ef1 := (sameNew htp (o := .tup [.int (wd + v), .ref a0, .ref f1])) f1 (.lst [.ref f0]) upd_same
    have np2 : notPool (.lst (wideL wd g0)) = true := by unfold wideL; split <;> rfl
    have keep : ∀ {x : Addr} {o : HO}, H9 x = some o → notPool o = true → _ := fun {x o} q ne => sA _ _ (bb.keep pl9 q ne)
    have el := sA _ _ (bb l _ nlp el)
    have ee := keep ee np2
    have eg := fun c => keep (eg c) rfl
    have eB := keep eB (refs_np bs)
    have nb : WNums _ bs (badIx wd xs xs.length) := pr_mono nb fun a r e => keep e rfl
    have pl12 := (pl11.same sA).mono (show n + 80 + 1 + 1 ≤ n + 100 by omega)
    have b12 := b9.trans (bb.trans (But.of sA))
    clear keep sA bb b11 pl11 b10 pl10 pl9 s9 hB b9
    dsimp only
    obtain ⟨H12, eH⟩ : ∃ H12, H12 = (upd (upd (upd (upd H11 a0 (.lst [])) f0 (.lst [.str "none", .non])) f1 (.lst [.ref f0])) tp (.tup [.int (wd + v), .ref a0, .ref f1])) := ⟨_, rfl⟩
    rw [← eH] at el ee eg eB nb ea ef0 ef1 pl12 b12 ⊢
    clear eH htp hf1 hf0 ha0
    refine ⟨_, rfl, _, _, rfl, ?_⟩
    obtain ⟨mo, hmo⟩ : ∃ mo, mo = (if wd + v < 300 then wd + v else 300) := ⟨_, rfl⟩
    rw [← hmo]
    have hm3 : mo ≤ 300 := by split at hmo <;> omega
    clear hmo
    refine ⟨_, rfl, _, rfl, _, _, rfl, rfl, _, rfl, ?_⟩
    obtain ⟨x, y, rest, rfl⟩ : ∃ x y rest, xs = x :: y :: rest := by
      match xs, lx1 with
      | x :: y :: rest, _ => exact ⟨x, y, rest, rfl⟩
    have t1 := badIx_all (wd := wd) (xs := x :: y :: rest) 1
    have t2 := badIx_all (wd := wd) (xs := x :: y :: rest) 2
    change _ = badIx wd [x] [x].length at t1
    change _ = badIx wd [x, y] [x, y].length at t2
    by_cases c : mo < wd
    · refine tT (decide_eq_true c) ?_
      refine ⟨_, rfl, (by show 2 ≤ sizeLine; decide), fun q0 hq0 => ⟨(by show 1 ≤ sizeLine; decide), fun la hla => ?_⟩⟩
      have ela := (fun {Hh : Hp} (_ : Hh la = none) => (upd_same : upd Hh la (.lst [.ref q0]) la = _)) hla
      have eq0 := (sameNew hla (o := .lst [.ref q0])) q0 (.lst [.str "wide", .int mo]) upd_same
      have slA := (sameNew hq0 (o := .lst [.str "wide", .int mo])).trans (sameNew hla (o := .lst [.ref q0]))
      obtain ⟨HL, eH⟩ : ∃ HL, HL = (upd (upd H12 q0 (.lst [.str "wide", .int mo])) la (.lst [.ref q0])) := ⟨_, rfl⟩
      rw [← eH] at ela eq0 slA ⊢
      clear eH hla hq0
      have h4 : (([V.ref q0] : List V) = [] ∧ (if mo < wd then some ((0 : Nat), V.int mo) else none) = none) ∨ ∃ q, ([V.ref q0] : List V) = [.ref q] ∧ HL q = some (.lst (toldL (if mo < wd then some ((0 : Nat), V.int mo) else none))) ∧ (if mo < wd then some ((0 : Nat), V.int mo) else none).isSome = true := by
        rw [if_pos c]
        exact .inr ⟨q0, rfl, eq0, rfl⟩
      have sl : Same H12 HL := slA
      have el := sl _ _ el
      have ee := sl _ _ ee
      have eg := fun c => sl _ _ (eg c)
      have eB := sl _ _ eB
      have nb := nb.same sl
      have ef0 := sl _ _ ef0
      have ef1 := sl _ _ ef1
      have pl12 := pl12.same sl
      have b12 := b12.trans (But.of sl)
      clear sl
      refine dueE (g0 := g0) (f0 := f0) (wd := wd) (ys := [x]) rfl rfl ee eg ef1 ef0 (fun Q' q => ⟨_, rfl, B, rfl, ⟨_, SqL.of eB⟩, fun D1 hD1 => lc_below 1 eB nb hD1 (fun i b j H' Pn s' hx ej no yes => ?_) (by omega) (fun H' ds s' eD ld nd => q D1 H' ds s' eD (by omega) (by rw [← t1]; exact nd))⟩) fun u1 H13 s13 w1 => ?_
      · refine ⟨rfl, ?_⟩
        refine ⟨_, rfl, b, _, 1, .int (j : Int), rfl, rfl, SqL.of ej, rfl, _, _, rfl, rfl, _, rfl, ?_⟩
        by_cases c1 : j < 1
        · refine tT (decide_eq_true (by omega)) ?_
          exact ⟨_, rfl, yes c1⟩
        · exact tF (decide_eq_false (by omega)) (no c1)
      refine ⟨(by show 1 ≤ sizeLine; decide), fun du hdu => ?_⟩
      have s14 := s13.trans (sameNew hdu (o := .lst [.ref u1]))
      have edu := (fun {Hh : Hp} (_ : Hh du = none) => (upd_same : upd Hh du (.lst [.ref u1]) du = _)) hdu
      have w1 := (sameNew hdu (o := .lst [.ref u1])) _ _ w1
      have fdu := s13.free hdu
      obtain ⟨H14, eH⟩ : ∃ H14, H14 = (upd H13 du (.lst [.ref u1])) := ⟨_, rfl⟩
      rw [← eH] at s14 edu w1 ⊢
      clear eH hdu s13
      refine ⟨_, rfl, .inl ⟨rfl, _, SqL.of edu⟩, ?_⟩
      refine rdCons (dueE (g0 := g0) (f0 := f0) (wd := wd) (ys := [x, y]) rfl rfl (s14 _ _ ee) (fun c => s14 _ _ (eg c)) (s14 _ _ ef1) (s14 _ _ ef0) (fun Q' q => ⟨_, rfl, B, rfl, ⟨_, SqL.of (s14 _ _ eB)⟩, fun D1 hD1 => lc_below 2 (s14 _ _ eB) (nb.same s14) hD1 (fun i b j H' Pn s' hx ej no yes => ?_) (by omega) (fun H' ds s' eD ld nd => q D1 H' ds s' eD (by omega) (by rw [← t2]; exact nd))⟩) fun u2 H15 s15 w2 => rdNil ?_)
      · refine ⟨rfl, ?_⟩
        refine ⟨_, rfl, b, _, 1, .int (j : Int), rfl, rfl, SqL.of ej, rfl, _, _, rfl, rfl, _, rfl, ?_⟩
        by_cases c1 : j < 2
        · refine tT (decide_eq_true (by omega)) ?_
          exact ⟨_, rfl, yes c1⟩
        · exact tF (decide_eq_false (by omega)) (no c1)
      refine ⟨du, _, _, rfl, rfl, s15 _ _ edu, (by show 1 < sizeLine; decide), ?_⟩
      have s16 := sameUp (o := .lst [.ref u1, .ref u2]) (s14.trans s15) fdu
      have toLd : ∀ {d : Addr} {r : Option (Nat × V)}, H15 d = some (.lst (toldL r)) → (upd H15 du (.lst [.ref u1, .ref u2])) d = some (.lst (toldL r)) := fun {d r} e => by
        rw [upd_ne (fun z => told_ne (r := r) (ds := [u1]) (by rw [← z] at edu; exact e.symm.trans (s15 _ _ edu)))]
        exact e
      have w1 := toLd (s15 _ _ w1)
      have w2 := toLd w2
      have edu := (fun (Hh : Hp) => (upd_same : upd Hh du (.lst [.ref u1, .ref u2]) du = _)) H15
      obtain ⟨H16, eH⟩ : ∃ H16, H16 = (upd H15 du (.lst [.ref u1, .ref u2])) := ⟨_, rfl⟩
      change (_ : Ends).nx _ (upd H15 du (.lst [.ref u1, .ref u2]))
      rw [← eH] at s16 w1 w2 edu ⊢
      clear eH toLd s15 s14
      refine ⟨_, rfl, ?_⟩
      refine op_l (rdLst (rdCons (dueE (g0 := g0) (f0 := f0) (wd := wd) (ys := x :: y :: rest) rfl rfl (s16 _ _ ee) (fun c => s16 _ _ (eg c)) (s16 _ _ ef1) (s16 _ _ ef0) (fun Q' q => ⟨_, rfl, q B H16 bs (Same.refl _) (s16 _ _ eB) (by omega) (nb.same s16)⟩) fun u3 H17 s17 w3 => rdNil ?_)))
      refine ⟨(by show 1 ≤ sizeLine; decide), fun q1 hq1 => ⟨q1, 2, [.ref u3], rfl, rfl, upd_same, by decide, by decide, (by show 2 ≤ sizeLine; decide), fun q2 hq2 => ?_⟩⟩
      have s18 := s17.trans ((sameNew hq1 (o := .lst [.ref u3])).trans (sameNew hq2 (o := .lst [.ref u3, .ref u3])))
      refine ⟨du, q2, [.ref u1, .ref u2], [.ref u3, .ref u3], rfl, rfl, s18 _ _ edu, upd_same, (by show 4 ≤ sizeLine; decide), fun q3 hq3 => ?_⟩
      have s19 := s18.trans (sameNew hq3 (o := .lst [.ref u1, .ref u2, .ref u3, .ref u3]))
      have w3 := ((sameNew hq1 (o := .lst [.ref u3])).trans ((sameNew hq2 (o := .lst [.ref u3, .ref u3])).trans (sameNew hq3 (o := .lst [.ref u1, .ref u2, .ref u3, .ref u3])))) _ _ w3
      have hq3 : (upd (upd H17 q1 (.lst [.ref u3])) q2 (.lst [.ref u3, .ref u3])) q3 = none := hq3
      have eq3 := (fun {Hh : Hp} (_ : Hh q3 = none) => (upd_same : upd Hh q3 (.lst [.ref u1, .ref u2, .ref u3, .ref u3]) q3 = _)) hq3
      obtain ⟨H19, eH⟩ : ∃ H19, H19 = (upd (upd (upd H17 q1 (.lst [.ref u3])) q2 (.lst [.ref u3, .ref u3])) q3 (.lst [.ref u1, .ref u2, .ref u3, .ref u3])) := ⟨_, rfl⟩
      change (_ : Ends).nx _ (upd (upd (upd H17 q1 (.lst [.ref u3])) q2 (.lst [.ref u3, .ref u3])) q3 (.lst [.ref u1, .ref u2, .ref u3, .ref u3]))
      rw [← eH] at s19 w3 eq3 ⊢
      clear eH hq3 hq2 hq1 s18 s17 edu
      have w1 := s19 _ _ w1
      have w2 := s19 _ _ w2
      have sHL := s16.trans s19
      refine ⟨_, rfl, ?_⟩
      refine op_l (rdLst (rdCons (dueL (g0 := g0) (f0 := f0) (wd := wd) (ys := x :: y :: rest) (bs := bs) (mo := mo) rfl rfl rfl rfl (sHL _ _ ee) (fun c => sHL _ _ (eg c)) (sHL _ _ ef1) (sHL _ _ ef0) (sHL _ _ eB) (by omega) (nb.same sHL) (sHL _ _ ela) (h4.imp id fun ⟨q, a, b, c⟩ => ⟨q, a, sHL _ _ b, c⟩) fun u4 H20 s20 w4 => rdNil ?_)))
      refine ⟨(by show 1 ≤ sizeLine; decide), fun q1 hq1 => ⟨q1, 2, [.ref u4], rfl, rfl, upd_same, by decide, by decide, (by show 2 ≤ sizeLine; decide), fun q2 hq2 => ?_⟩⟩
      have s21 := s20.trans ((sameNew hq1 (o := .lst [.ref u4])).trans (sameNew hq2 (o := .lst [.ref u4, .ref u4])))
      refine ⟨q3, q2, [.ref u1, .ref u2, .ref u3, .ref u3], [.ref u4, .ref u4], rfl, rfl, s21 _ _ eq3, upd_same, (by show 6 ≤ sizeLine; decide), fun q4 hq4 => ?_⟩
      have s22 := s21.trans (sameNew hq4 (o := .lst [.ref u1, .ref u2, .ref u3, .ref u3, .ref u4, .ref u4]))
      have w4 := ((sameNew hq1 (o := .lst [.ref u4])).trans ((sameNew hq2 (o := .lst [.ref u4, .ref u4])).trans (sameNew hq4 (o := .lst [.ref u1, .ref u2, .ref u3, .ref u3, .ref u4, .ref u4])))) _ _ w4
      have hq4 : (upd (upd H20 q1 (.lst [.ref u4])) q2 (.lst [.ref u4, .ref u4])) q4 = none := hq4
      have eq4 := (fun {Hh : Hp} (_ : Hh q4 = none) => (upd_same : upd Hh q4 (.lst [.ref u1, .ref u2, .ref u3, .ref u3, .ref u4, .ref u4]) q4 = _)) hq4
      obtain ⟨H22, eH⟩ : ∃ H22, H22 = (upd (upd (upd H20 q1 (.lst [.ref u4])) q2 (.lst [.ref u4, .ref u4])) q4 (.lst [.ref u1, .ref u2, .ref u3, .ref u3, .ref u4, .ref u4])) := ⟨_, rfl⟩
      change (_ : Ends).nx _ (upd (upd (upd H20 q1 (.lst [.ref u4])) q2 (.lst [.ref u4, .ref u4])) q4 (.lst [.ref u1, .ref u2, .ref u3, .ref u3, .ref u4, .ref u4]))
      rw [← eH] at s22 w4 eq4 ⊢
      clear eH hq4 hq2 hq1 s21 s20 eq3
      have w1 := s22 _ _ w1
      have w2 := s22 _ _ w2
      have w3 := s22 _ _ w3
      have sHL := sHL.trans s22
      refine ⟨6, rfl, by decide, by decide, fun D hD => lc_range (lo := 0) (n := 6) (fun i H' => Same H22 H' ∧ ∃ ds : List Addr, H' D = some (.lst (ds.map V.ref)) ∧ Paired (fun d r => H' d = some (.lst (toldL r)) ∧ FitI r) ds ((resWs wd x y rest mo).take i) ∧ ds.length = i) ⟨sameNew hD, [], upd_same, .nil, rfl⟩ ?_ ?_⟩
      · rintro i H23 hi ⟨s23, ds, eD, pd, ld⟩
        refine ⟨rfl, ?_⟩
        refine yesR ?_
        refine tT rfl ?_
        obtain ⟨r, hr2, dr, fr⟩ := resWs_at wd x y rest mo hi
        refine ⟨_, rfl, _, rfl, _, rfl, l, _, rfl, .inl ⟨SqL.of (s23 _ _ (sHL _ _ el)), fun tt htt => ?_⟩⟩
        refine ⟨_, rfl, 0 + (i : Nat), wd, tt, x :: y :: rest, mo, r, rfl, dr, by omega, by omega, SqT.of upd_same, by omega, fun v H24 s24 ev => ?_⟩
        have sT := (sameNew htt (o := .tup ((x :: y :: rest).map V.int))).trans s24
        have eD24 := sT _ _ eD
        refine ⟨_, eD24, small1000 (by rw [List.length_map]; omega), sameUp (s23.trans sT) hD, ds ++ [v], by rw [upd_same, List.map_append]; rfl, ?_, by rw [List.length_append]; show ds.length + 1 = _; omega⟩
        rw [takeS hr2]
        have up : ∀ {d : Addr} {r : Option (Nat × V)}, H24 d = some (.lst (toldL r)) → (upd H24 D (.lst (ds.map V.ref ++ [.ref v]))) d = some (.lst (toldL r)) := fun {d r} e => by
          rw [upd_ne (fun z => told_ne (r := r) (ds := ds) (by rw [← z] at eD24; exact e.symm.trans eD24))]
          exact e
        exact pra (prm pd fun d r e => ⟨up (sT _ _ e.1), e.2⟩) (.cons ⟨up ev, fr⟩ .nil)
      rintro H23 ⟨s23, ds, eD, pd, ld⟩
      have fit : ∀ r ∈ resWs wd x y rest mo, Fit 0 r := fun r m => by
        simp only [resWs, List.mem_cons, List.not_mem_nil, or_false] at m
        rcases m with rfl | rfl | rfl | rfl | rfl | rfl
        · exact fitI_fit (fitR ..)
        · exact fitI_fit (fitR ..)
        · exact fitI_fit (fitR ..)
        · exact fitI_fit (fitR ..)
        · exact fitI_fit (fitM ..)
        · exact fitI_fit (fitM ..)
      have sh := told_sh (rs := []) (c := 0) fit
      refine ⟨_, rfl, .list ((resWs wd x y rest mo).map (toldD [] 0)), .list ((resWs wd x y rest mo).map (toldD [] 0)), .lst (SqL.of eD) (toldAllI pd), .lst (SqL.of (s23 _ _ eq4)) (toldAllI (ds := [u1, u2, u3, u3, u4, u4]) (l := resWs wd x y rest mo) (.cons ⟨s23 _ _ w1, fitR ..⟩ (.cons ⟨s23 _ _ w2, fitR ..⟩ (.cons ⟨s23 _ _ w3, fitR ..⟩ (.cons ⟨s23 _ _ w3, fitR ..⟩ (.cons ⟨s23 _ _ w4, fitM ..⟩ (.cons ⟨s23 _ _ w4, fitM ..⟩ .nil))))))), sh, sh, ?_⟩
      rw [SeqAt.eqv_refl _ (SeqAt.canLay_of_shaped sh)]
      have sF := sHL.trans s23
      exact k _ (pl12.same sF) (b12.trans (But.of sF))
    · refine tF (decide_eq_false c) ?_
      have h4 : (([] : List V) = [] ∧ (if mo < wd then some ((0 : Nat), V.int mo) else none) = none) ∨ ∃ q : Addr, ([] : List V) = [V.ref q] ∧ H12 q = some (HO.lst (toldL (if mo < wd then some ((0 : Nat), V.int mo) else none))) ∧ (if mo < wd then some ((0 : Nat), V.int mo) else none).isSome = true := .inl ⟨rfl, if_neg c⟩
      obtain ⟨HL, eH⟩ : ∃ HL, HL = H12 := ⟨_, rfl⟩
      have slA : Same H12 HL := by rw [eH]; exact Same.refl _
      have ela := slA _ _ ea
      have h4 := h4.imp id fun ⟨q, a, b, c⟩ => (⟨q, a, slA _ _ b, c⟩ : ∃ q : Addr, ([] : List V) = [V.ref q] ∧ HL q = some (HO.lst (toldL (if mo < wd then some ((0 : Nat), V.int mo) else none))) ∧ (if mo < wd then some ((0 : Nat), V.int mo) else none).isSome = true)
      refine nxR ?_
      rw [← eH]
      clear eH
      have sl : Same H12 HL := slA
      have el := sl _ _ el
      have ee := sl _ _ ee
      have eg := fun c => sl _ _ (eg c)
      have eB := sl _ _ eB
      have nb := nb.same sl
      have ef0 := sl _ _ ef0
      have ef1 := sl _ _ ef1
      have pl12 := pl12.same sl
      have b12 := b12.trans (But.of sl)
      clear sl
      refine dueE (g0 := g0) (f0 := f0) (wd := wd) (ys := [x]) rfl rfl ee eg ef1 ef0 (fun Q' q => ⟨_, rfl, B, rfl, ⟨_, SqL.of eB⟩, fun D1 hD1 => lc_below 1 eB nb hD1 (fun i b j H' Pn s' hx ej no yes => ?_) (by omega) (fun H' ds s' eD ld nd => q D1 H' ds s' eD (by omega) (by rw [← t1]; exact nd))⟩) fun u1 H13 s13 w1 => ?_
      · refine ⟨rfl, ?_⟩
        refine ⟨_, rfl, b, _, 1, .int (j : Int), rfl, rfl, SqL.of ej, rfl, _, _, rfl, rfl, _, rfl, ?_⟩
        by_cases c1 : j < 1
        · refine tT (decide_eq_true (by omega)) ?_
          exact ⟨_, rfl, yes c1⟩
        · exact tF (decide_eq_false (by omega)) (no c1)
      refine ⟨(by show 1 ≤ sizeLine; decide), fun du hdu => ?_⟩
      have s14 := s13.trans (sameNew hdu (o := .lst [.ref u1]))
      have edu := (fun {Hh : Hp} (_ : Hh du = none) => (upd_same : upd Hh du (.lst [.ref u1]) du = _)) hdu
      have w1 := (sameNew hdu (o := .lst [.ref u1])) _ _ w1
      have fdu := s13.free hdu
      obtain ⟨H14, eH⟩ : ∃ H14, H14 = (upd H13 du (.lst [.ref u1])) := ⟨_, rfl⟩
      rw [← eH] at s14 edu w1 ⊢
      clear eH hdu s13
      refine ⟨_, rfl, .inl ⟨rfl, _, SqL.of edu⟩, ?_⟩
      refine rdCons (dueE (g0 := g0) (f0 := f0) (wd := wd) (ys := [x, y]) rfl rfl (s14 _ _ ee) (fun c => s14 _ _ (eg c)) (s14 _ _ ef1) (s14 _ _ ef0) (fun Q' q => ⟨_, rfl, B, rfl, ⟨_, SqL.of (s14 _ _ eB)⟩, fun D1 hD1 => lc_below 2 (s14 _ _ eB) (nb.same s14) hD1 (fun i b j H' Pn s' hx ej no yes => ?_) (by omega) (fun H' ds s' eD ld nd => q D1 H' ds s' eD (by omega) (by rw [← t2]; exact nd))⟩) fun u2 H15 s15 w2 => rdNil ?_)
      · refine ⟨rfl, ?_⟩
        refine ⟨_, rfl, b, _, 1, .int (j : Int), rfl, rfl, SqL.of ej, rfl, _, _, rfl, rfl, _, rfl, ?_⟩
        by_cases c1 : j < 2
        · refine tT (decide_eq_true (by omega)) ?_
          exact ⟨_, rfl, yes c1⟩
        · exact tF (decide_eq_false (by omega)) (no c1)
      refine ⟨du, _, _, rfl, rfl, s15 _ _ edu, (by show 1 < sizeLine; decide), ?_⟩
      have s16 := sameUp (o := .lst [.ref u1, .ref u2]) (s14.trans s15) fdu
      have toLd : ∀ {d : Addr} {r : Option (Nat × V)}, H15 d = some (.lst (toldL r)) → (upd H15 du (.lst [.ref u1, .ref u2])) d = some (.lst (toldL r)) := fun {d r} e => by
        rw [upd_ne (fun z => told_ne (r := r) (ds := [u1]) (by rw [← z] at edu; exact e.symm.trans (s15 _ _ edu)))]
        exact e
      have w1 := toLd (s15 _ _ w1)
      have w2 := toLd w2
      have edu := (fun (Hh : Hp) => (upd_same : upd Hh du (.lst [.ref u1, .ref u2]) du = _)) H15
      obtain ⟨H16, eH⟩ : ∃ H16, H16 = (upd H15 du (.lst [.ref u1, .ref u2])) := ⟨_, rfl⟩
      change (_ : Ends).nx _ (upd H15 du (.lst [.ref u1, .ref u2]))
      rw [← eH] at s16 w1 w2 edu ⊢
      clear eH toLd s15 s14
      refine ⟨_, rfl, ?_⟩
      refine op_l (rdLst (rdCons (dueE (g0 := g0) (f0 := f0) (wd := wd) (ys := x :: y :: rest) rfl rfl (s16 _ _ ee) (fun c => s16 _ _ (eg c)) (s16 _ _ ef1) (s16 _ _ ef0) (fun Q' q => ⟨_, rfl, q B H16 bs (Same.refl _) (s16 _ _ eB) (by omega) (nb.same s16)⟩) fun u3 H17 s17 w3 => rdNil ?_)))
      refine ⟨(by show 1 ≤ sizeLine; decide), fun q1 hq1 => ⟨q1, 2, [.ref u3], rfl, rfl, upd_same, by decide, by decide, (by show 2 ≤ sizeLine; decide), fun q2 hq2 => ?_⟩⟩
      have s18 := s17.trans ((sameNew hq1 (o := .lst [.ref u3])).trans (sameNew hq2 (o := .lst [.ref u3, .ref u3])))
      refine ⟨du, q2, [.ref u1, .ref u2], [.ref u3, .ref u3], rfl, rfl, s18 _ _ edu, upd_same, (by show 4 ≤ sizeLine; decide), fun q3 hq3 => ?_⟩
      have s19 := s18.trans (sameNew hq3 (o := .lst [.ref u1, .ref u2, .ref u3, .ref u3]))
      have w3 := ((sameNew hq1 (o := .lst [.ref u3])).trans ((sameNew hq2 (o := .lst [.ref u3, .ref u3])).trans (sameNew hq3 (o := .lst [.ref u1, .ref u2, .ref u3, .ref u3])))) _ _ w3
      have hq3 : (upd (upd H17 q1 (.lst [.ref u3])) q2 (.lst [.ref u3, .ref u3])) q3 = none := hq3
      have eq3 := (fun {Hh : Hp} (_ : Hh q3 = none) => (upd_same : upd Hh q3 (.lst [.ref u1, .ref u2, .ref u3, .ref u3]) q3 = _)) hq3
      obtain ⟨H19, eH⟩ : ∃ H19, H19 = (upd (upd (upd H17 q1 (.lst [.ref u3])) q2 (.lst [.ref u3, .ref u3])) q3 (.lst [.ref u1, .ref u2, .ref u3, .ref u3])) := ⟨_, rfl⟩
      change (_ : Ends).nx _ (upd (upd (upd H17 q1 (.lst [.ref u3])) q2 (.lst [.ref u3, .ref u3])) q3 (.lst [.ref u1, .ref u2, .ref u3, .ref u3]))
      rw [← eH] at s19 w3 eq3 ⊢
      clear eH hq3 hq2 hq1 s18 s17 edu
      have w1 := s19 _ _ w1
      have w2 := s19 _ _ w2
      have sHL := s16.trans s19
      refine ⟨_, rfl, ?_⟩
      refine op_l (rdLst (rdCons (dueL (g0 := g0) (f0 := f0) (wd := wd) (ys := x :: y :: rest) (bs := bs) (mo := mo) rfl rfl rfl rfl (sHL _ _ ee) (fun c => sHL _ _ (eg c)) (sHL _ _ ef1) (sHL _ _ ef0) (sHL _ _ eB) (by omega) (nb.same sHL) (sHL _ _ ela) (h4.imp id fun ⟨q, a, b, c⟩ => ⟨q, a, sHL _ _ b, c⟩) fun u4 H20 s20 w4 => rdNil ?_)))
      refine ⟨(by show 1 ≤ sizeLine; decide), fun q1 hq1 => ⟨q1, 2, [.ref u4], rfl, rfl, upd_same, by decide, by decide, (by show 2 ≤ sizeLine; decide), fun q2 hq2 => ?_⟩⟩
      have s21 := s20.trans ((sameNew hq1 (o := .lst [.ref u4])).trans (sameNew hq2 (o := .lst [.ref u4, .ref u4])))
      refine ⟨q3, q2, [.ref u1, .ref u2, .ref u3, .ref u3], [.ref u4, .ref u4], rfl, rfl, s21 _ _ eq3, upd_same, (by show 6 ≤ sizeLine; decide), fun q4 hq4 => ?_⟩
      have s22 := s21.trans (sameNew hq4 (o := .lst [.ref u1, .ref u2, .ref u3, .ref u3, .ref u4, .ref u4]))
      have w4 := ((sameNew hq1 (o := .lst [.ref u4])).trans ((sameNew hq2 (o := .lst [.ref u4, .ref u4])).trans (sameNew hq4 (o := .lst [.ref u1, .ref u2, .ref u3, .ref u3, .ref u4, .ref u4])))) _ _ w4
      have hq4 : (upd (upd H20 q1 (.lst [.ref u4])) q2 (.lst [.ref u4, .ref u4])) q4 = none := hq4
      have eq4 := (fun {Hh : Hp} (_ : Hh q4 = none) => (upd_same : upd Hh q4 (.lst [.ref u1, .ref u2, .ref u3, .ref u3, .ref u4, .ref u4]) q4 = _)) hq4
      obtain ⟨H22, eH⟩ : ∃ H22, H22 = (upd (upd (upd H20 q1 (.lst [.ref u4])) q2 (.lst [.ref u4, .ref u4])) q4 (.lst [.ref u1, .ref u2, .ref u3, .ref u3, .ref u4, .ref u4])) := ⟨_, rfl⟩
      change (_ : Ends).nx _ (upd (upd (upd H20 q1 (.lst [.ref u4])) q2 (.lst [.ref u4, .ref u4])) q4 (.lst [.ref u1, .ref u2, .ref u3, .ref u3, .ref u4, .ref u4]))
      rw [← eH] at s22 w4 eq4 ⊢
      clear eH hq4 hq2 hq1 s21 s20 eq3
      have w1 := s22 _ _ w1
      have w2 := s22 _ _ w2
      have w3 := s22 _ _ w3
      have sHL := sHL.trans s22
      refine ⟨6, rfl, by decide, by decide, fun D hD => lc_range (lo := 0) (n := 6) (fun i H' => Same H22 H' ∧ ∃ ds : List Addr, H' D = some (.lst (ds.map V.ref)) ∧ Paired (fun d r => H' d = some (.lst (toldL r)) ∧ FitI r) ds ((resWs wd x y rest mo).take i) ∧ ds.length = i) ⟨sameNew hD, [], upd_same, .nil, rfl⟩ ?_ ?_⟩
      · rintro i H23 hi ⟨s23, ds, eD, pd, ld⟩
        refine ⟨rfl, ?_⟩
        refine yesR ?_
        refine tT rfl ?_
        obtain ⟨r, hr2, dr, fr⟩ := resWs_at wd x y rest mo hi
        refine ⟨_, rfl, _, rfl, _, rfl, l, _, rfl, .inl ⟨SqL.of (s23 _ _ (sHL _ _ el)), fun tt htt => ?_⟩⟩
        refine ⟨_, rfl, 0 + (i : Nat), wd, tt, x :: y :: rest, mo, r, rfl, dr, by omega, by omega, SqT.of upd_same, by omega, fun v H24 s24 ev => ?_⟩
        have sT := (sameNew htt (o := .tup ((x :: y :: rest).map V.int))).trans s24
        have eD24 := sT _ _ eD
        refine ⟨_, eD24, small1000 (by rw [List.length_map]; omega), sameUp (s23.trans sT) hD, ds ++ [v], by rw [upd_same, List.map_append]; rfl, ?_, by rw [List.length_append]; show ds.length + 1 = _; omega⟩
        rw [takeS hr2]
        have up : ∀ {d : Addr} {r : Option (Nat × V)}, H24 d = some (.lst (toldL r)) → (upd H24 D (.lst (ds.map V.ref ++ [.ref v]))) d = some (.lst (toldL r)) := fun {d r} e => by
          rw [upd_ne (fun z => told_ne (r := r) (ds := ds) (by rw [← z] at eD24; exact e.symm.trans eD24))]
          exact e
        exact pra (prm pd fun d r e => ⟨up (sT _ _ e.1), e.2⟩) (.cons ⟨up ev, fr⟩ .nil)
      rintro H23 ⟨s23, ds, eD, pd, ld⟩
      have fit : ∀ r ∈ resWs wd x y rest mo, Fit 0 r := fun r m => by
        simp only [resWs, List.mem_cons, List.not_mem_nil, or_false] at m
        rcases m with rfl | rfl | rfl | rfl | rfl | rfl
        · exact fitI_fit (fitR ..)
        · exact fitI_fit (fitR ..)
        · exact fitI_fit (fitR ..)
        · exact fitI_fit (fitR ..)
        · exact fitI_fit (fitM ..)
        · exact fitI_fit (fitM ..)
      have sh := told_sh (rs := []) (c := 0) fit
      refine ⟨_, rfl, .list ((resWs wd x y rest mo).map (toldD [] 0)), .list ((resWs wd x y rest mo).map (toldD [] 0)), .lst (SqL.of eD) (toldAllI pd), .lst (SqL.of (s23 _ _ eq4)) (toldAllI (ds := [u1, u2, u3, u3, u4, u4]) (l := resWs wd x y rest mo) (.cons ⟨s23 _ _ w1, fitR ..⟩ (.cons ⟨s23 _ _ w2, fitR ..⟩ (.cons ⟨s23 _ _ w3, fitR ..⟩ (.cons ⟨s23 _ _ w3, fitR ..⟩ (.cons ⟨s23 _ _ w4, fitM ..⟩ (.cons ⟨s23 _ _ w4, fitM ..⟩ .nil))))))), sh, sh, ?_⟩
      rw [SeqAt.eqv_refl _ (SeqAt.canLay_of_shaped sh)]
      have sF := sHL.trans s23
      exact k _ (pl12.same sF) (b12.trans (But.of sF))
/-! _law_strings_right -/
def sp_law_strings_right (K : PySem.W.Frag) (A0 : Ad) : Sp := fun vs H Q E => ∃ (p : Addr) (n : Nat), vs = [.ref p] ∧ Pool H p n ∧ n ≤ 20000 ∧ ∀ H', Pool H' p (n + 10) → But p H H' → Q (.bl true) H'
theorem sc_law_strings_right : FnScope ["pool", "odd", "one", "two", "seen", "conds", "free", "due", "late", "door"] ["pool"] (defScope s_law_strings_right) := ⟨rfl, rfl, rfl, by decide +kernel, rfl, by decide +kernel, by decide +kernel⟩
theorem bd_law_strings_right (T : Txt w K mg A0) : Binds K A0.d_law_strings_right ["pool"] [] := T.F_law_strings_right.binds fun _ _ _ _ _ _ us hl => match us, hl with | [_], _ => rfl
set_option maxHeartbeats 0 in
theorem ok_law_strings_right (T : Txt w K mg A0) : FnOk P w K mg base CX0 7 A0.a_law_strings_right A0.d_law_strings_right ["pool"] (sp_law_strings_right K A0) := by
  refine T.F_law_strings_right.ok sc_law_strings_right (fun vs H Q E h => ?_) (fun cdv A outer s H vs Q E hr h => ?_)
  · obtain ⟨p, n, rfl, _⟩ := h
    rfl
  · obtain ⟨p, n, rfl, h⟩ := h
    refine ⟨_, (pss_cons (ps_set (i := 1) sc_law_strings_right.nd rfl (Or.inl rfl) (pe_lst (pa_cons pe_str (pa_cons pe_str (pa_cons pe_str (pa_cons pe_str (pa_cons pe_str (pa_cons pe_str (pa_cons pe_str (pa_cons pe_str (pa_cons pe_str (pa_cons pe_str (pa_cons pe_str (pa_cons pe_str (pa_cons pe_str (pa_cons pe_str (pa_cons pe_str (pa_cons pe_str pa_nil))))))))))))))))))
        (pss_cons (ps_asg (pe_tup (pa_cons (pe_ix ix_list (pv 1) (pe_call (ok_law_draw T) (hr.mono (by decide)) rfl T.g_law_draw T.F_law_draw.kp (bd_law_draw T) .nil pass0 (pa_cons (pv 0) (pa_cons pe_int pa_nil))) (fun _ _ => rfl)) (pa_cons (pe_ix ix_list (pv 1) (pe_call (ok_law_draw T) (hr.mono (by decide)) rfl T.g_law_draw T.F_law_draw.kp (bd_law_draw T) .nil pass0 (pa_cons (pv 0) (pa_cons pe_int pa_nil))) (fun _ _ => rfl)) pa_nil))) (pg_tup rfl (pgs_cons (pg_name (i := 2) sc_law_strings_right.nd rfl (Or.inr rfl)) (pgs_cons (pg_name (i := 3) sc_law_strings_right.nd rfl (Or.inr rfl)) pgs_nil))))
        (pss_cons (ps_par3 (i := 4) (j := 5) (l := 6) rfl sc_law_strings_right.nd rfl rfl rfl (by decide) (by decide) (by decide) rfl rfl rfl (by exact (pa_cons (pe_lst (pa_cons pe_str (pa_cons pe_str (pa_cons pe_str (pa_cons pe_str (pa_cons pe_str pa_nil)))))) (pa_cons (pe_call0 (ok_law_conds T) (hr.mono (by decide)) rfl T.g_law_conds T.F_law_conds.kp (bd_law_conds T) .nil pass0) (pa_cons (pe_lst (pa_cons (pe_lst (pa_cons pe_str (pa_cons pe_non pa_nil))) pa_nil)) pa_nil)))) rfl)
        (pss_cons (ps_set (i := 7) sc_law_strings_right.nd rfl (Or.inl rfl) (pe_ix ix_list (pe_op op_cat (pe_op op_rep (pe_lst (pa_cons (pe_lst (pa_cons pe_str (pa_cons (pv 2) pa_nil))) pa_nil)) (pe_callTy call_int1 (by rfl) T.b_int (by decide +kernel) (pa_cons (pe_cmpR op_notIn_seq (pv 2) (pv 5) rfl) pa_nil))) (pv 6)) pe_int (fun _ _ => rfl)))
        (pss_cons (ps_set (i := 8) sc_law_strings_right.nd rfl (Or.inl rfl) (pe_ix ix_list (pe_op op_cat (pe_op op_cat (pe_op op_rep (pe_lst (pa_cons (pe_lst (pa_cons pe_str (pa_cons (pv 2) pa_nil))) pa_nil)) (pe_callTy call_int1 (by rfl) T.b_int (by decide +kernel) (pa_cons (pe_cmpR op_notIn_seq (pv 2) (pv 4) rfl) pa_nil))) (pe_op op_rep (pe_lst (pa_cons (pe_lst (pa_cons pe_str (pa_cons (pv 3) pa_nil))) pa_nil)) (pe_callTy call_int1 (by rfl) T.b_int (by decide +kernel) (pa_cons (pe_cmpR op_notIn_seq (pv 3) (pv 4) rfl) pa_nil)))) (pv 6)) pe_int (fun _ _ => rfl)))
        (pss_one (ps_ret (pe_cmpR (op_eqD hr.units) (pe_lc (own := [("door", 9)]) (g := gName 9) rfl sc_law_strings_right.nd (pi_range1 rfl T.b_range (pa_cons pe_int pa_nil)) (blkOk_by (own := [("door", 9)]) (N := ["pool", "odd", "one", "two", "seen", "conds", "free", "due", "late", "door"]) (sc := defScope s_law_strings_right) (by decide +kernel)) (fun _ _ _ _ _ => pg_name (i := 9) sc_law_strings_right.nd rfl (Or.inl rfl)) (fun _ _ _ _ _ => pts_nil) (fun _ _ _ _ _ => (pe_call (ok_law_string_told T) (hr.mono (by decide)) rfl T.g_law_string_told T.F_law_string_told.kp (bd_law_string_told T) .nil pass0 (pa_cons (pv 9) (pa_cons (pv 2) (pa_cons (pv 3) pa_nil)))))) (pe_op op_cat (pe_op op_rep (pe_lst (pa_cons (pv 7) pa_nil)) pe_int) (pe_op op_rep (pe_lst (pa_cons (pv 8) pa_nil)) pe_int)) (nomark _))))))))), ?_⟩
    obtain ⟨pl, hn, k⟩ := h
    refine ⟨(by show 16 ≤ sizeLine; decide), fun ol hol => ?_⟩
    have nol : ol ≠ p := pl.ne hol
    have eo : (upd H ol (.lst (oddS.map V.str))) ol = some (.lst (oddS.map V.str)) := upd_same
    refine ⟨_, rfl, _, rfl, p, 16, n, rfl, pl.new hol, by omega, by decide, by decide, fun d1 H2 l1 u1 pl2 b2 => ?_⟩
    obtain ⟨za, ma, ea⟩ := odd_at d1 l1 u1
    have eo2 := b2 ol _ nol eo
    refine ⟨ol, _, d1, .str za, rfl, rfl, SqL.of eo2, ea, ?_⟩
    refine ⟨_, rfl, _, rfl, p, 16, n + 1, rfl, pl2, by omega, by decide, by decide, fun d2 H3 l2 u2 pl3 b3 => ?_⟩
    obtain ⟨zb, mb, eb⟩ := odd_at d2 l2 u2
    have eo3 := b3 ol _ nol eo2
    refine ⟨ol, _, d2, .str zb, rfl, rfl, SqL.of eo3, eb, ?_⟩
    refine ⟨(by show 2 ≤ sizeLine; decide), fun tp htp => ⟨tp, _, rfl, SqT.of upd_same, rfl, _, _, rfl, _, _, rfl, rfl, ?_⟩⟩
    have s4 : Same H3 (upd H3 tp (.tup [.str za, .str zb])) := sameNew htp
    generalize (upd H3 tp (.tup [.str za, .str zb])) = H4 at s4 ⊢
    have b14 : But p H H4 := (But.new hol).trans (b2.trans (b3.trans (But.of s4)))
    have pl4 := pl3.same s4
    refine ⟨(by show 5 ≤ sizeLine; decide), fun sl hsl => ⟨(), rfl, fun cl H5 hcl s5 ecl => ⟨(by show 2 ≤ sizeLine; decide), fun f0 hf0 => ⟨(by show 1 ≤ sizeLine; decide), fun f1 hf1 => ?_⟩⟩⟩⟩
    have esl := s5 sl (.lst (outs.map V.str)) upd_same
    have t5 := ((sameNew hf0 (o := .lst [.str "none", .non])).trans (sameNew hf1 (o := .lst [.ref f0])))
    have esl6 := t5 _ _ esl
    have ecl6 := t5 _ _ ecl
    have ef0 := (sameNew hf1 (o := .lst [.ref f0])) f0 (.lst [.str "none", .non]) upd_same
    have ef1 := (fun {Hh : Hp} (_ : Hh f1 = none) => (upd_same : upd Hh f1 (.lst [.ref f0]) f1 = _)) hf1
    have s46 := (sameNew hsl (o := .lst (outs.map V.str))).trans (s5.trans t5)
    refine ⟨_, _, _, rfl, ?_⟩
    obtain ⟨H6, eH6⟩ : ∃ H6, H6 = (upd (upd H5 f0 (.lst [.str "none", .non])) f1 (.lst [.ref f0])) := ⟨_, rfl⟩
    rw [← eH6] at esl6 ecl6 ef0 ef1 s46 ⊢
    clear eH6 t5 esl ecl
    refine op_l (op_l (flagL (b := !decide (za ∈ conds)) rfl (fun H' Q' s q => ?_) fun g0 g2 H7 s7 eg0 eg2 => ?_))
    · refine ⟨_, rfl, _, rfl, cl, conds.map V.str, rfl, .inl (SqL.of (s _ _ ecl6)), rfl, flat_strs, ?_⟩
      rw [inV_str]
      exact q _ (Same.refl _)
    obtain ⟨du, hdu, edu⟩ := dueC eg0 (s7 _ _ ef0)
    refine ⟨_, rfl, g2, f1, _, _, rfl, rfl, eg2, s7 _ _ ef1, (by split; exact (by show 2 ≤ sizeLine; decide); exact (by show 1 ≤ sizeLine; decide)), fun c1 hc1 => ⟨c1, _, 0, _, rfl, rfl, SqL.of upd_same, hdu, ?_⟩⟩
    have s8 := s7.trans (sameNew hc1 (o := .lst ((if (!decide (za ∈ conds)) = true then [V.ref g0] else []) ++ [V.ref f0])))
    have edu8 := (sameNew hc1 (o := .lst ((if (!decide (za ∈ conds)) = true then [V.ref g0] else []) ++ [V.ref f0]))) _ _ edu
    obtain ⟨H8, eH8⟩ : ∃ H8, H8 = (upd H7 c1 (.lst ((if (!decide (za ∈ conds)) = true then [V.ref g0] else []) ++ [V.ref f0]))) := ⟨_, rfl⟩
    rw [← eH8] at s8 edu8 ⊢
    clear eH8 eg0 eg2 edu hdu s7 hc1
    refine op_l (op_l (op_l (flagL (b := !decide (za ∈ outs)) rfl (fun H' Q' s q => ?_) fun g0 g2 H9 s9 eg0 eg2 => ?_)))
    · refine ⟨_, rfl, _, rfl, sl, outs.map V.str, rfl, .inl (SqL.of (s _ _ (s8 _ _ esl6))), rfl, flat_strs, ?_⟩
      rw [inV_str]
      exact q _ (Same.refl _)
    refine flagL (b := !decide (zb ∈ outs)) rfl (fun H' Q' s q => ?_) fun k0 k2 H10 s10 ek0 ek2 => ?_
    · refine ⟨_, rfl, _, rfl, sl, outs.map V.str, rfl, .inl (SqL.of (s _ _ (s9 _ _ (s8 _ _ esl6)))), rfl, flat_strs, ?_⟩
      rw [inV_str]
      exact q _ (Same.refl _)
    have s610 := s8.trans (s9.trans s10)
    have l0 : (if (!decide (za ∈ outs)) = true then [V.ref g0] else []).length ≤ 1 := by split <;> simp
    have l1' : (if (!decide (zb ∈ outs)) = true then [V.ref k0] else []).length ≤ 1 := by split <;> simp
    refine ⟨g2, k2, _, _, rfl, rfl, s10 _ _ eg2, ek2, small1000' (by omega), fun c1 hc1 => ?_⟩
    have t1 := sameNew hc1 (o := .lst ((if (!decide (za ∈ outs)) = true then [V.ref g0] else []) ++ (if (!decide (zb ∈ outs)) = true then [V.ref k0] else [])))
    refine ⟨_, rfl, c1, f1, _, _, rfl, rfl, upd_same, t1 _ _ (s610 _ _ ef1), small1000' (by rw [List.length_append]; show _ + 1 ≤ 1000; omega), fun c2 hc2 => ?_⟩
    obtain ⟨lo, hlo, elo⟩ := dueO (s10 _ _ eg0) ek0 (s610 _ _ ef0)
    refine ⟨c2, _, 0, _, rfl, rfl, SqL.of upd_same, hlo, ?_⟩
    have t2 := t1.trans (sameNew hc2 (o := .lst (((if (!decide (za ∈ outs)) = true then [V.ref g0] else []) ++ (if (!decide (zb ∈ outs)) = true then [V.ref k0] else [])) ++ [V.ref f0])))
    have elo2 := t2 _ _ elo
    have edu2 := t2 _ _ ((s9.trans s10) _ _ edu8)
    have s6e := s610.trans t2
    obtain ⟨H11, eH11⟩ : ∃ H11, H11 = (upd (upd H10 c1 (.lst ((if (!decide (za ∈ outs)) = true then [V.ref g0] else []) ++ (if (!decide (zb ∈ outs)) = true then [V.ref k0] else [])))) c2 (.lst (((if (!decide (za ∈ outs)) = true then [V.ref g0] else []) ++ (if (!decide (zb ∈ outs)) = true then [V.ref k0] else [])) ++ [V.ref f0]))) := ⟨_, rfl⟩
    rw [← eH11] at elo2 edu2 s6e ⊢
    clear eH11 t2 hc2 elo hlo t1 hc1 eg0 eg2 ek0 ek2 s610 s9 s10 edu8 s8 l0 l1'
    refine ⟨6, rfl, by decide, by decide, fun D hD => lc_range (lo := 0) (n := 6) (fun i H' => Same H11 H' ∧ ∃ ds : List Addr, H' D = some (.lst (ds.map V.ref)) ∧ Paired (fun d r => H' d = some (.lst (toldL r))) ds ((resS za zb).take i) ∧ ds.length = i) ⟨sameNew hD, [], upd_same, .nil, rfl⟩ ?_ ?_⟩
    · rintro i H12 hi ⟨s12, ds, eD, pd, ld⟩
      refine ⟨rfl, ?_⟩
      refine yesR ?_
      refine tT rfl ?_
      obtain ⟨r, hr, dr⟩ := resS_at za zb hi
      refine ⟨_, rfl, _, rfl, _, rfl, 0 + (i : Nat), za, zb, r, rfl, dr, fun v H13 s13 ev => ?_⟩
      have eD13 := s13 _ _ eD
      refine ⟨_, eD13, small1000 (by rw [List.length_map]; omega), sameUp (s12.trans s13) hD, ds ++ [v], by rw [upd_same, List.map_append]; rfl, ?_, by rw [List.length_append]; show ds.length + 1 = _; omega⟩
      rw [takeS hr]
      have up : ∀ {d : Addr} {r : Option (Nat × V)}, H13 d = some (.lst (toldL r)) → (upd H13 D (.lst (ds.map V.ref ++ [.ref v]))) d = some (.lst (toldL r)) := fun {d r} e => by
        rw [upd_ne (fun z => told_ne (r := r) (ds := ds) (by rw [← z] at eD13; exact e.symm.trans eD13))]
        exact e
      exact pra (prm pd fun d r e => up (s13 _ _ e)) (.cons (up ev) .nil)
    rintro H12 ⟨s12, ds, eD, pd, ld⟩
    refine ⟨_, rfl, (by show 1 ≤ sizeLine; decide), fun q1 hq1 => ⟨q1, 3, [.ref du], rfl, rfl, upd_same, by decide, by decide, (by show 3 ≤ sizeLine; decide), fun q2 hq2 => ?_⟩⟩
    refine ⟨_, rfl, (by show 1 ≤ sizeLine; decide), fun q3 hq3 => ⟨q3, 3, [.ref lo], rfl, rfl, upd_same, by decide, by decide, (by show 3 ≤ sizeLine; decide), fun q4 hq4 => ?_⟩⟩
    refine ⟨q2, q4, _, _, rfl, rfl, ((sameNew hq3).trans (sameNew hq4)) _ _ upd_same, upd_same, (by show 6 ≤ sizeLine; decide), fun q5 hq5 => ?_⟩
    have s15 := (sameNew hq1 (o := .lst [V.ref du])).trans ((sameNew hq2 (o := .lst (List.replicate (Int.toNat 3) [V.ref du]).flatten)).trans ((sameNew hq3 (o := .lst [V.ref lo])).trans ((sameNew hq4 (o := .lst (List.replicate (Int.toNat 3) [V.ref lo]).flatten)).trans (sameNew hq5 (o := .lst ((List.replicate (Int.toNat 3) [V.ref du]).flatten ++ (List.replicate (Int.toNat 3) [V.ref lo]).flatten))))))
    have fC : FitS (condR za) := fitC ma
    have fO : FitS (outR za zb) := fitO ma mb
    have fit : ∀ r ∈ resS za zb, FitS r := fun r m => by
      simp only [resS, List.mem_cons, List.not_mem_nil, or_false] at m
      rcases m with rfl | rfl | rfl | rfl | rfl | rfl <;> assumption
    have dC := told_dpS (K := K) (s15 _ _ (s12 _ _ edu2)) fC
    have dO := told_dpS (K := K) (s15 _ _ (s12 _ _ elo2)) fO
    have sh := toldS_sh fit
    refine ⟨.list ((resS za zb).map toldSD), .list ((resS za zb).map toldSD), .lst (SqL.of (s15 _ _ eD)) (toldAllS (prm pd fun d r e => s15 _ _ e) fit), .lst (SqL.of upd_same) (.cons dC (.cons dC (.cons dC (.cons dO (.cons dO (.cons dO .nil)))))), sh, sh, ?_⟩
    rw [SeqAt.eqv_refl _ (SeqAt.canLay_of_shaped sh)]
    have sS := s46.trans (s6e.trans (s12.trans s15))
    exact k _ ((pl4.same sS).mono (by omega)) (b14.trans (But.of sS))
/-! law -/
def sp_law (K : PySem.W.Frag) : Sp := fun vs H Q E => ∃ (a : Addr) (ns : List Int), vs = [.ref a] ∧ SqL K H a (ns.map V.int) ∧ ns.length ≤ 63 ∧ ∀ H', Q (.bl true) H'
theorem sc_law : FnScope ["script", "at", "pool", "turn"] ["script"] (defScope s_law) := ⟨rfl, rfl, rfl, by decide +kernel, rfl, by decide +kernel, by decide +kernel⟩
theorem bd_law (T : Txt w K mg A0) : Binds K A0.d_law ["script"] [] := T.F_law.binds fun _ _ _ _ _ _ us hl => match us, hl with | [_], _ => rfl
set_option maxHeartbeats 0 in
theorem ok_law (T : Txt w K mg A0) : FnOk P w K mg base CX0 8 A0.a_law A0.d_law ["script"] (sp_law K) := by
  refine T.F_law.ok sc_law (fun vs H Q E h => ?_) (fun cdv A outer s H vs Q E hr h => ?_)
  · obtain ⟨a, ns, rfl, _⟩ := h
    rfl
  · obtain ⟨a, ns, rfl, h⟩ := h
    refine ⟨_, (pss_cons (ps_for PassesOwn.never rfl (pi_range1 rfl T.b_range (pa_cons (pe_callB (call_max2 rfl) (by rfl) T.b_max (by decide +kernel) (pa_cons pe_int (pa_cons (pe_callB (call_min2 rfl) (by rfl) T.b_min (by decide +kernel) (pa_cons pe_int (pa_cons (pe_callB call_len_seq (by rfl) T.b_len (by decide +kernel) (pa_cons (pv 0) pa_nil)) pa_nil))) pa_nil))) pa_nil)) (pg_name (i := 1) sc_law.nd rfl (Or.inl rfl)) (pss_cons (ps_set (i := 2) sc_law.nd rfl (Or.inl rfl) (pe_call (ok_law_pool T) (hr.mono (by decide)) rfl T.g_law_pool T.F_law_pool.kp (bd_law_pool T) .nil pass0 (pa_cons (pv 0) (pa_cons (pv 1) pa_nil))))
        (pss_one (ps_for PassesOwn.never rfl (pi_range1 rfl T.b_range (pa_cons pe_int pa_nil)) (pg_name (i := 3) sc_law.nd rfl (Or.inl rfl)) (pss_one (ps_if (PW.pt (pw_or (pt_not (pt_val (pe_call (ok_law_words_right T) (hr.mono (by decide)) rfl T.g_law_words_right T.F_law_words_right.kp (bd_law_words_right T) .nil pass0 (pa_cons (pv 2) pa_nil)))) (pw_or (pt_not (pt_val (pe_call (ok_law_strings_right T) (hr.mono (by decide)) rfl T.g_law_strings_right T.F_law_strings_right.kp (bd_law_strings_right T) .nil pass0 (pa_cons (pv 2) pa_nil)))) (pw_or1 (pt_not (pt_val (pe_call (ok_law_classes_right T) (hr.mono (by decide)) rfl T.g_law_classes_right T.F_law_classes_right.kp (bd_law_classes_right T) .nil pass0 (pa_cons (pv 2) pa_nil)))))))) (pss_one (ps_ret pe_bl)) pss_nil))))))
        (pss_one (ps_ret (pe_and (pe_cmpR (op_eqD hr.units) (pe_call (ok_law_told T) (hr.mono (by decide)) rfl T.g_law_told T.F_law_told.kp (bd_law_told T) .nil pass0 (pa_cons pe_int (pa_cons pe_int (pa_cons (pe_tup (pa_cons pe_int pa_nil)) (pa_cons pe_int pa_nil))))) (pe_lst (pa_cons pe_str (pa_cons pe_int pa_nil))) (nomark _)) (pe_one (pe_cmpR (op_eqD hr.units) (pe_call (ok_law_told T) (hr.mono (by decide)) rfl T.g_law_told T.F_law_told.kp (bd_law_told T) .nil pass0 (pa_cons pe_int (pa_cons pe_int (pa_cons (pe_tup (pa_cons pe_int pa_nil)) (pa_cons pe_int pa_nil))))) (pe_lst (pa_cons pe_str (pa_cons pe_int pa_nil))) (nomark _))))))), ?_⟩
    obtain ⟨hS, hlen, k⟩ := h
    refine ⟨_, rfl, a, _, rfl, .inl hS, _, _, rfl, _, _, rfl, _, rfl, ?_⟩
    rw [List.length_map]
    obtain ⟨m, hm, em⟩ := laps_of (n := ns.length) (t := 8) (by decide)
    rw [em]
    refine ⟨by omega, by omega, for_range (n := m) (fun i σ H' => ∃ v1 v2 v3, σ = [some (.ref a), v1, v2, v3] ∧ Same H H') ⟨none, none, none, rfl, Same.refl H⟩ ?_ ?_⟩
    · rintro i σ H1 hi ⟨v1, v2, v3, rfl, s1⟩
      refine ⟨_, rfl, _, rfl, a, ns, _, rfl, s1.seq hS, by omega, by omega, hlen, fun p H2 hp s2 pl => ?_⟩
      refine ⟨10, rfl, by decide, by decide, for_range (n := 10) (fun j σ H' => ∃ u3, σ = [some (.ref a), some (.int (0 + (i : Nat))), some (.ref p), u3] ∧ But p H1 H' ∧ Pool H' p (200 * j)) ⟨_, rfl, But.of s2, pl⟩ ?_ ?_⟩
      · rintro j σ H3 hj ⟨u3, rfl, b3, pl3⟩
        refine ⟨_, rfl, p, _, rfl, pl3, by omega, fun H4 pl4 b4 => ⟨true, rfl, ?_⟩⟩
        refine tF rfl ?_
        refine ⟨_, rfl, p, _, rfl, pl4, by omega, fun H5 pl5 b5 => ⟨true, rfl, ?_⟩⟩
        refine tF rfl ?_
        refine ⟨_, rfl, p, _, rfl, pl5, by omega, fun H6 pl6 b6 => ⟨true, rfl, ?_⟩⟩
        refine tF rfl ?_
        exact ⟨_, rfl, b3.trans (b4.trans (b5.trans b6)), pl6.mono (by omega)⟩
      · rintro σ H3 ⟨u3, rfl, b3, pl3⟩
        exact ⟨_, _, _, rfl, fun b o e => b3 b o (ne_of_none (s1 _ _ e) hp) (s1 _ _ e)⟩
    rintro σ H1 ⟨v1, v2, v3, rfl, s1⟩
    refine ⟨(by show 1 ≤ sizeLine; decide), fun t1 ht1 => ?_⟩
    refine ⟨0, 4, t1, [16], 0, _, rfl, .d0 rfl, by decide, by decide, SqT.of upd_same, by decide, fun v0 H2 s2 w0 => ?_⟩
    rw [askR_bad (i := 0) (by decide) ⟨16, rfl, by unfold Word; decide, fun j y z => absurd z (Nat.not_lt_zero j)⟩] at w0
    refine ⟨(by show 2 ≤ sizeLine; decide), fun l1 hl1 => ?_⟩
    refine ⟨.list [.str (kindName 1), .int 0], .list [.str "words", .int 0], .lst (SqL.of ((sameNew hl1) _ _ w0)) (.cons (.str _) (.cons (.int _) .nil)), .lst (SqL.of upd_same) (.cons (.str _) (.cons (.int _) .nil)), by decide +kernel, by decide +kernel, _, rfl, ?_⟩
    refine tT (by decide +kernel) ?_
    refine ⟨(by show 1 ≤ sizeLine; decide), fun t2 ht2 => ?_⟩
    refine ⟨4, 4, t2, [1], 3, _, rfl, .d4, by decide, by decide, SqT.of upd_same, by decide, fun v1 H3 s3 w1 => ?_⟩
    rw [askM_less (by decide) (fun x m => by rw [List.mem_singleton.mp m]; unfold Word; decide) (by decide)] at w1
    refine ⟨(by show 2 ≤ sizeLine; decide), fun l2 hl2 => ?_⟩
    refine ⟨.list [.str (kindName 0), .int 3], .list [.str "wide", .int 3], .lst (SqL.of ((sameNew hl2) _ _ w1)) (.cons (.str _) (.cons (.int _) .nil)), .lst (SqL.of upd_same) (.cons (.str _) (.cons (.int _) .nil)), by decide +kernel, by decide +kernel, ?_⟩
    rw [show PyData.eqv (.list [.str (kindName 0), .int 3]) (.list [.str "wide", .int 3]) = true by decide +kernel]
    exact k _
end
/-! ### the end -/
theorem all_mk {l : PySem.W.OpenLaw} {w : World} {K : PySem.W.Frag} {h : Heap} {mg : Str → Option Value} {fa : Addr} (X : K.In h) (G : h.Ns mainGlobals mg) (hfa : mg "law" = some (.ref fa))
    {f0 : Addr} {od0 an0 : Option Addr} {sl0 : Array (Option Value)} {oc0 kV0 dc0 pm0 cd0 ct0 : Value}
    {f1 : Addr} {od1 an1 : Option Addr} {sl1 : Array (Option Value)} {oc1 kV1 dc1 pm1 cd1 ct1 : Value}
    {f2 : Addr} {od2 an2 : Option Addr} {sl2 : Array (Option Value)} {oc2 kV2 dc2 pm2 cd2 ct2 : Value}
    {f3 : Addr} {od3 an3 : Option Addr} {sl3 : Array (Option Value)} {oc3 kV3 dc3 pm3 cd3 ct3 : Value}
    {f4 : Addr} {od4 an4 : Option Addr} {sl4 : Array (Option Value)} {oc4 kV4 dc4 pm4 cd4 ct4 : Value}
    {f5 : Addr} {od5 an5 : Option Addr} {sl5 : Array (Option Value)} {oc5 kV5 dc5 pm5 cd5 ct5 : Value}
    {f6 : Addr} {od6 an6 : Option Addr} {sl6 : Array (Option Value)} {oc6 kV6 dc6 pm6 cd6 ct6 : Value}
    {f7 : Addr} {od7 an7 : Option Addr} {sl7 : Array (Option Value)} {oc7 kV7 dc7 pm7 cd7 ct7 : Value}
    {f8 : Addr} {od8 an8 : Option Addr} {sl8 : Array (Option Value)} {oc8 kV8 dc8 pm8 cd8 ct8 : Value}
    {f9 : Addr} {od9 an9 : Option Addr} {sl9 : Array (Option Value)} {oc9 kV9 dc9 pm9 cd9 ct9 : Value}
    {f10 : Addr} {od10 an10 : Option Addr} {sl10 : Array (Option Value)} {oc10 kV10 dc10 pm10 cd10 ct10 : Value}
    {f11 : Addr} {od11 an11 : Option Addr} {sl11 : Array (Option Value)} {oc11 kV11 dc11 pm11 cd11 ct11 : Value}
    {f12 : Addr} {od12 an12 : Option Addr} {sl12 : Array (Option Value)} {oc12 kV12 dc12 pm12 cd12 ct12 : Value}
    {f13 : Addr} {od13 an13 : Option Addr} {sl13 : Array (Option Value)} {oc13 kV13 dc13 pm13 cd13 ct13 : Value}
    {f14 : Addr} {od14 an14 : Option Addr} {sl14 : Array (Option Value)} {oc14 kV14 dc14 pm14 cd14 ct14 : Value}
    {f15 : Addr} {od15 an15 : Option Addr} {sl15 : Array (Option Value)} {oc15 kV15 dc15 pm15 cd15 ct15 : Value}
    {f16 : Addr} {od16 an16 : Option Addr} {sl16 : Array (Option Value)} {oc16 kV16 dc16 pm16 cd16 ct16 : Value}
    {f17 : Addr} {od17 an17 : Option Addr} {sl17 : Array (Option Value)} {oc17 kV17 dc17 pm17 cd17 ct17 : Value}
    {f18 : Addr} {od18 an18 : Option Addr} {sl18 : Array (Option Value)} {oc18 kV18 dc18 pm18 cd18 ct18 : Value}
    {f19 : Addr} {od19 an19 : Option Addr} {sl19 : Array (Option Value)} {oc19 kV19 dc19 pm19 cd19 ct19 : Value}
    {f20 : Addr} {od20 an20 : Option Addr} {sl20 : Array (Option Value)} {oc20 kV20 dc20 pm20 cd20 ct20 : Value}
    {f21 : Addr} {od21 an21 : Option Addr} {sl21 : Array (Option Value)} {oc21 kV21 dc21 pm21 cd21 ct21 : Value}
    {f22 : Addr} {od22 an22 : Option Addr} {sl22 : Array (Option Value)} {oc22 kV22 dc22 pm22 cd22 ct22 : Value}
    {f23 : Addr} {od23 an23 : Option Addr} {sl23 : Array (Option Value)} {oc23 kV23 dc23 pm23 cd23 ct23 : Value}
    {f24 : Addr} {od24 an24 : Option Addr} {sl24 : Array (Option Value)} {oc24 kV24 dc24 pm24 cd24 ct24 : Value}
    {f25 : Addr} {od25 an25 : Option Addr} {sl25 : Array (Option Value)} {oc25 kV25 dc25 pm25 cd25 ct25 : Value}
    {f26 : Addr} {od26 an26 : Option Addr} {sl26 : Array (Option Value)} {oc26 kV26 dc26 pm26 cd26 ct26 : Value}
    {f27 : Addr} {od27 an27 : Option Addr} {sl27 : Array (Option Value)} {oc27 kV27 dc27 pm27 cd27 ct27 : Value}
    {f28 : Addr} {od28 an28 : Option Addr} {sl28 : Array (Option Value)} {oc28 kV28 dc28 pm28 cd28 ct28 : Value}
    {f29 : Addr} {od29 an29 : Option Addr} {sl29 : Array (Option Value)} {oc29 kV29 dc29 pm29 cd29 ct29 : Value}
    {f30 : Addr} {od30 an30 : Option Addr} {sl30 : Array (Option Value)} {oc30 kV30 dc30 pm30 cd30 ct30 : Value}
    {f31 : Addr} {od31 an31 : Option Addr} {sl31 : Array (Option Value)} {oc31 kV31 dc31 pm31 cd31 ct31 : Value}
    {f32 : Addr} {od32 an32 : Option Addr} {sl32 : Array (Option Value)} {oc32 kV32 dc32 pm32 cd32 ct32 : Value}
    {f33 : Addr} {od33 an33 : Option Addr} {sl33 : Array (Option Value)} {oc33 kV33 dc33 pm33 cd33 ct33 : Value}
    {f34 : Addr} {od34 an34 : Option Addr} {sl34 : Array (Option Value)} {oc34 kV34 dc34 pm34 cd34 ct34 : Value}
    {f35 : Addr} {od35 an35 : Option Addr} {sl35 : Array (Option Value)} {oc35 kV35 dc35 pm35 cd35 ct35 : Value}
    {f36 : Addr} {od36 an36 : Option Addr} {sl36 : Array (Option Value)} {oc36 kV36 dc36 pm36 cd36 ct36 : Value}
    (a0 : PySem.W.nsIn K mainGlobals "check_width" = some (some (.ref f0))) (l0 : K.lookup f0 = some ⟨oc0, od0, .func (PySem.W.fnOf "check_width" "check_width" (defArgs s_check_width) (defBody s_check_width) (defScope s_check_width) .none kV0 dc0 pm0 an0 cd0 ct0), sl0⟩) (c0 : PySem.W.codeIn K cd0 "check_width" = true) (k0 : PySem.W.keepIn K (.ref f0) = true)
    (a1 : PySem.W.nsIn K mainGlobals "check_words" = some (some (.ref f1))) (l1 : K.lookup f1 = some ⟨oc1, od1, .func (PySem.W.fnOf "check_words" "check_words" (defArgs s_check_words) (defBody s_check_words) (defScope s_check_words) .none kV1 dc1 pm1 an1 cd1 ct1), sl1⟩) (c1 : PySem.W.codeIn K cd1 "check_words" = true) (k1 : PySem.W.keepIn K (.ref f1) = true)
    (a2 : PySem.W.nsIn K mainGlobals "is_word" = some (some (.ref f2))) (l2 : K.lookup f2 = some ⟨oc2, od2, .func (PySem.W.fnOf "is_word" "is_word" (defArgs s_is_word) (defBody s_is_word) (defScope s_is_word) .none kV2 dc2 pm2 an2 cd2 ct2), sl2⟩) (c2 : PySem.W.codeIn K cd2 "is_word" = true) (k2 : PySem.W.keepIn K (.ref f2) = true)
    (a3 : PySem.W.nsIn K mainGlobals "sign_bit" = some (some (.ref f3))) (l3 : K.lookup f3 = some ⟨oc3, od3, .func (PySem.W.fnOf "sign_bit" "sign_bit" (defArgs s_sign_bit) (defBody s_sign_bit) (defScope s_sign_bit) .none kV3 dc3 pm3 an3 cd3 ct3), sl3⟩) (c3 : PySem.W.codeIn K cd3 "sign_bit" = true) (k3 : PySem.W.keepIn K (.ref f3) = true)
    (a4 : PySem.W.nsIn K mainGlobals "outcome_by_cut" = some (some (.ref f4))) (l4 : K.lookup f4 = some ⟨oc4, od4, .func (PySem.W.fnOf "outcome_by_cut" "outcome_by_cut" (defArgs s_outcome_by_cut) (defBody s_outcome_by_cut) (defScope s_outcome_by_cut) .none kV4 dc4 pm4 an4 cd4 ct4), sl4⟩) (c4 : PySem.W.codeIn K cd4 "outcome_by_cut" = true) (k4 : PySem.W.keepIn K (.ref f4) = true)
    (a5 : PySem.W.nsIn K mainGlobals "signed" = some (some (.ref f5))) (l5 : K.lookup f5 = some ⟨oc5, od5, .func (PySem.W.fnOf "signed" "signed" (defArgs s_signed) (defBody s_signed) (defScope s_signed) .none kV5 dc5 pm5 an5 cd5 ct5), sl5⟩) (c5 : PySem.W.codeIn K cd5 "signed" = true) (k5 : PySem.W.keepIn K (.ref f5) = true)
    (a6 : PySem.W.nsIn K mainGlobals "outcome" = some (some (.ref f6))) (l6 : K.lookup f6 = some ⟨oc6, od6, .func (PySem.W.fnOf "outcome" "outcome" (defArgs s_outcome) (defBody s_outcome) (defScope s_outcome) .none kV6 dc6 pm6 an6 cd6 ct6), sl6⟩) (c6 : PySem.W.codeIn K cd6 "outcome" = true) (k6 : PySem.W.keepIn K (.ref f6) = true)
    (a7 : PySem.W.nsIn K mainGlobals "flipped" = some (some (.ref f7))) (l7 : K.lookup f7 = some ⟨oc7, od7, .func (PySem.W.fnOf "flipped" "flipped" (defArgs s_flipped) (defBody s_flipped) (defScope s_flipped) .none kV7 dc7 pm7 an7 cd7 ct7), sl7⟩) (c7 : PySem.W.codeIn K cd7 "flipped" = true) (k7 : PySem.W.keepIn K (.ref f7) = true)
    (a8 : PySem.W.nsIn K mainGlobals "inverted" = some (some (.ref f8))) (l8 : K.lookup f8 = some ⟨oc8, od8, .func (PySem.W.fnOf "inverted" "inverted" (defArgs s_inverted) (defBody s_inverted) (defScope s_inverted) .none kV8 dc8 pm8 an8 cd8 ct8), sl8⟩) (c8 : PySem.W.codeIn K cd8 "inverted" = true) (k8 : PySem.W.keepIn K (.ref f8) = true)
    (a9 : PySem.W.nsIn K mainGlobals "extended" = some (some (.ref f9))) (l9 : K.lookup f9 = some ⟨oc9, od9, .func (PySem.W.fnOf "extended" "extended" (defArgs s_extended) (defBody s_extended) (defScope s_extended) .none kV9 dc9 pm9 an9 cd9 ct9), sl9⟩) (c9 : PySem.W.codeIn K cd9 "extended" = true) (k9 : PySem.W.keepIn K (.ref f9) = true)
    (a10 : PySem.W.nsIn K mainGlobals "_signed_value" = some (some (.ref f10))) (l10 : K.lookup f10 = some ⟨oc10, od10, .func (PySem.W.fnOf "_signed_value" "_signed_value" (defArgs s_signed_value) (defBody s_signed_value) (defScope s_signed_value) .none kV10 dc10 pm10 an10 cd10 ct10), sl10⟩) (c10 : PySem.W.codeIn K cd10 "_signed_value" = true) (k10 : PySem.W.keepIn K (.ref f10) = true)
    (a11 : PySem.W.nsIn K mainGlobals "_changed" = some (some (.ref f11))) (l11 : K.lookup f11 = some ⟨oc11, od11, .func (PySem.W.fnOf "_changed" "_changed" (defArgs s_changed) (defBody s_changed) (defScope s_changed) .none kV11 dc11 pm11 an11 cd11 ct11), sl11⟩) (c11 : PySem.W.codeIn K cd11 "_changed" = true) (k11 : PySem.W.keepIn K (.ref f11) = true)
    (a12 : PySem.W.nsIn K mainGlobals "check_outcome" = some (some (.ref f12))) (l12 : K.lookup f12 = some ⟨oc12, od12, .func (PySem.W.fnOf "check_outcome" "check_outcome" (defArgs s_check_outcome) (defBody s_check_outcome) (defScope s_check_outcome) .none kV12 dc12 pm12 an12 cd12 ct12), sl12⟩) (c12 : PySem.W.codeIn K cd12 "check_outcome" = true) (k12 : PySem.W.keepIn K (.ref f12) = true)
    (a13 : PySem.W.nsIn K mainGlobals "check_condition" = some (some (.ref f13))) (l13 : K.lookup f13 = some ⟨oc13, od13, .func (PySem.W.fnOf "check_condition" "check_condition" (defArgs s_check_condition) (defBody s_check_condition) (defScope s_check_condition) .none kV13 dc13 pm13 an13 cd13 ct13), sl13⟩) (c13 : PySem.W.codeIn K cd13 "check_condition" = true) (k13 : PySem.W.keepIn K (.ref f13) = true)
    (a14 : PySem.W.nsIn K mainGlobals "ordered_outcomes" = some (some (.ref f14))) (l14 : K.lookup f14 = some ⟨oc14, od14, .func (PySem.W.fnOf "ordered_outcomes" "ordered_outcomes" (defArgs s_ordered_outcomes) (defBody s_ordered_outcomes) (defScope s_ordered_outcomes) .none kV14 dc14 pm14 an14 cd14 ct14), sl14⟩) (c14 : PySem.W.codeIn K cd14 "ordered_outcomes" = true) (k14 : PySem.W.keepIn K (.ref f14) = true)
    (a15 : PySem.W.nsIn K mainGlobals "outcomes_of" = some (some (.ref f15))) (l15 : K.lookup f15 = some ⟨oc15, od15, .func (PySem.W.fnOf "outcomes_of" "outcomes_of" (defArgs s_outcomes_of) (defBody s_outcomes_of) (defScope s_outcomes_of) .none kV15 dc15 pm15 an15 cd15 ct15), sl15⟩) (c15 : PySem.W.codeIn K cd15 "outcomes_of" = true) (k15 : PySem.W.keepIn K (.ref f15) = true)
    (a16 : PySem.W.nsIn K mainGlobals "condition_of" = some (some (.ref f16))) (l16 : K.lookup f16 = some ⟨oc16, od16, .func (PySem.W.fnOf "condition_of" "condition_of" (defArgs s_condition_of) (defBody s_condition_of) (defScope s_condition_of) .none kV16 dc16 pm16 an16 cd16 ct16), sl16⟩) (c16 : PySem.W.codeIn K cd16 "condition_of" = true) (k16 : PySem.W.keepIn K (.ref f16) = true)
    (a17 : PySem.W.nsIn K mainGlobals "composed" = some (some (.ref f17))) (l17 : K.lookup f17 = some ⟨oc17, od17, .func (PySem.W.fnOf "composed" "composed" (defArgs s_composed) (defBody s_composed) (defScope s_composed) .none kV17 dc17 pm17 an17 cd17 ct17), sl17⟩) (c17 : PySem.W.codeIn K cd17 "composed" = true) (k17 : PySem.W.keepIn K (.ref f17) = true)
    (a18 : PySem.W.nsIn K mainGlobals "exchanged" = some (some (.ref f18))) (l18 : K.lookup f18 = some ⟨oc18, od18, .func (PySem.W.fnOf "exchanged" "exchanged" (defArgs s_exchanged) (defBody s_exchanged) (defScope s_exchanged) .none kV18 dc18 pm18 an18 cd18 ct18), sl18⟩) (c18 : PySem.W.codeIn K cd18 "exchanged" = true) (k18 : PySem.W.keepIn K (.ref f18) = true)
    (a19 : PySem.W.nsIn K mainGlobals "reversed_condition" = some (some (.ref f19))) (l19 : K.lookup f19 = some ⟨oc19, od19, .func (PySem.W.fnOf "reversed_condition" "reversed_condition" (defArgs s_reversed_condition) (defBody s_reversed_condition) (defScope s_reversed_condition) .none kV19 dc19 pm19 an19 cd19 ct19), sl19⟩) (c19 : PySem.W.codeIn K cd19 "reversed_condition" = true) (k19 : PySem.W.keepIn K (.ref f19) = true)
    (a20 : PySem.W.nsIn K mainGlobals "shortest_chain" = some (some (.ref f20))) (l20 : K.lookup f20 = some ⟨oc20, od20, .func (PySem.W.fnOf "shortest_chain" "shortest_chain" (defArgs s_shortest_chain) (defBody s_shortest_chain) (defScope s_shortest_chain) .none kV20 dc20 pm20 an20 cd20 ct20), sl20⟩) (c20 : PySem.W.codeIn K cd20 "shortest_chain" = true) (k20 : PySem.W.keepIn K (.ref f20) = true)
    (a21 : PySem.W.nsIn K mainGlobals "_all_rules" = some (some (.ref f21))) (l21 : K.lookup f21 = some ⟨oc21, od21, .func (PySem.W.fnOf "_all_rules" "_all_rules" (defArgs s_all_rules) (defBody s_all_rules) (defScope s_all_rules) .none kV21 dc21 pm21 an21 cd21 ct21), sl21⟩) (c21 : PySem.W.codeIn K cd21 "_all_rules" = true) (k21 : PySem.W.keepIn K (.ref f21) = true)
    (a22 : PySem.W.nsIn K mainGlobals "_with_rule" = some (some (.ref f22))) (l22 : K.lookup f22 = some ⟨oc22, od22, .func (PySem.W.fnOf "_with_rule" "_with_rule" (defArgs s_with_rule) (defBody s_with_rule) (defScope s_with_rule) .none kV22 dc22 pm22 an22 cd22 ct22), sl22⟩) (c22 : PySem.W.codeIn K cd22 "_with_rule" = true) (k22 : PySem.W.keepIn K (.ref f22) = true)
    (a23 : PySem.W.nsIn K mainGlobals "_law_pool" = some (some (.ref f23))) (l23 : K.lookup f23 = some ⟨oc23, od23, .func (PySem.W.fnOf "_law_pool" "_law_pool" (defArgs s_law_pool) (defBody s_law_pool) (defScope s_law_pool) .none kV23 dc23 pm23 an23 cd23 ct23), sl23⟩) (c23 : PySem.W.codeIn K cd23 "_law_pool" = true) (k23 : PySem.W.keepIn K (.ref f23) = true)
    (a24 : PySem.W.nsIn K mainGlobals "_law_draw" = some (some (.ref f24))) (l24 : K.lookup f24 = some ⟨oc24, od24, .func (PySem.W.fnOf "_law_draw" "_law_draw" (defArgs s_law_draw) (defBody s_law_draw) (defScope s_law_draw) .none kV24 dc24 pm24 an24 cd24 ct24), sl24⟩) (c24 : PySem.W.codeIn K cd24 "_law_draw" = true) (k24 : PySem.W.keepIn K (.ref f24) = true)
    (a25 : PySem.W.nsIn K mainGlobals "_law_wide" = some (some (.ref f25))) (l25 : K.lookup f25 = some ⟨oc25, od25, .func (PySem.W.fnOf "_law_wide" "_law_wide" (defArgs s_law_wide) (defBody s_law_wide) (defScope s_law_wide) .none kV25 dc25 pm25 an25 cd25 ct25), sl25⟩) (c25 : PySem.W.codeIn K cd25 "_law_wide" = true) (k25 : PySem.W.keepIn K (.ref f25) = true)
    (a26 : PySem.W.nsIn K mainGlobals "_law_power" = some (some (.ref f26))) (l26 : K.lookup f26 = some ⟨oc26, od26, .func (PySem.W.fnOf "_law_power" "_law_power" (defArgs s_law_power) (defBody s_law_power) (defScope s_law_power) .none kV26 dc26 pm26 an26 cd26 ct26), sl26⟩) (c26 : PySem.W.codeIn K cd26 "_law_power" = true) (k26 : PySem.W.keepIn K (.ref f26) = true)
    (a27 : PySem.W.nsIn K mainGlobals "_law_word" = some (some (.ref f27))) (l27 : K.lookup f27 = some ⟨oc27, od27, .func (PySem.W.fnOf "_law_word" "_law_word" (defArgs s_law_word) (defBody s_law_word) (defScope s_law_word) .none kV27 dc27 pm27 an27 cd27 ct27), sl27⟩) (c27 : PySem.W.codeIn K cd27 "_law_word" = true) (k27 : PySem.W.keepIn K (.ref f27) = true)
    (a28 : PySem.W.nsIn K mainGlobals "_law_some" = some (some (.ref f28))) (l28 : K.lookup f28 = some ⟨oc28, od28, .func (PySem.W.fnOf "_law_some" "_law_some" (defArgs s_law_some) (defBody s_law_some) (defScope s_law_some) .none kV28 dc28 pm28 an28 cd28 ct28), sl28⟩) (c28 : PySem.W.codeIn K cd28 "_law_some" = true) (k28 : PySem.W.keepIn K (.ref f28) = true)
    (a29 : PySem.W.nsIn K mainGlobals "_law_conds" = some (some (.ref f29))) (l29 : K.lookup f29 = some ⟨oc29, od29, .func (PySem.W.fnOf "_law_conds" "_law_conds" (defArgs s_law_conds) (defBody s_law_conds) (defScope s_law_conds) .none kV29 dc29 pm29 an29 cd29 ct29), sl29⟩) (c29 : PySem.W.codeIn K cd29 "_law_conds" = true) (k29 : PySem.W.keepIn K (.ref f29) = true)
    (a30 : PySem.W.nsIn K mainGlobals "_law_kind" = some (some (.ref f30))) (l30 : K.lookup f30 = some ⟨oc30, od30, .func (PySem.W.fnOf "_law_kind" "_law_kind" (defArgs s_law_kind) (defBody s_law_kind) (defScope s_law_kind) .none kV30 dc30 pm30 an30 cd30 ct30), sl30⟩) (c30 : PySem.W.codeIn K cd30 "_law_kind" = true) (k30 : PySem.W.keepIn K (.ref f30) = true)
    (a31 : PySem.W.nsIn K mainGlobals "_law_told" = some (some (.ref f31))) (l31 : K.lookup f31 = some ⟨oc31, od31, .func (PySem.W.fnOf "_law_told" "_law_told" (defArgs s_law_told) (defBody s_law_told) (defScope s_law_told) .none kV31 dc31 pm31 an31 cd31 ct31), sl31⟩) (c31 : PySem.W.codeIn K cd31 "_law_told" = true) (k31 : PySem.W.keepIn K (.ref f31) = true)
    (a32 : PySem.W.nsIn K mainGlobals "_law_string_told" = some (some (.ref f32))) (l32 : K.lookup f32 = some ⟨oc32, od32, .func (PySem.W.fnOf "_law_string_told" "_law_string_told" (defArgs s_law_string_told) (defBody s_law_string_told) (defScope s_law_string_told) .none kV32 dc32 pm32 an32 cd32 ct32), sl32⟩) (c32 : PySem.W.codeIn K cd32 "_law_string_told" = true) (k32 : PySem.W.keepIn K (.ref f32) = true)
    (a33 : PySem.W.nsIn K mainGlobals "_law_words_right" = some (some (.ref f33))) (l33 : K.lookup f33 = some ⟨oc33, od33, .func (PySem.W.fnOf "_law_words_right" "_law_words_right" (defArgs s_law_words_right) (defBody s_law_words_right) (defScope s_law_words_right) .none kV33 dc33 pm33 an33 cd33 ct33), sl33⟩) (c33 : PySem.W.codeIn K cd33 "_law_words_right" = true) (k33 : PySem.W.keepIn K (.ref f33) = true)
    (a34 : PySem.W.nsIn K mainGlobals "_law_strings_right" = some (some (.ref f34))) (l34 : K.lookup f34 = some ⟨oc34, od34, .func (PySem.W.fnOf "_law_strings_right" "_law_strings_right" (defArgs s_law_strings_right) (defBody s_law_strings_right) (defScope s_law_strings_right) .none kV34 dc34 pm34 an34 cd34 ct34), sl34⟩) (c34 : PySem.W.codeIn K cd34 "_law_strings_right" = true) (k34 : PySem.W.keepIn K (.ref f34) = true)
    (a35 : PySem.W.nsIn K mainGlobals "_law_classes_right" = some (some (.ref f35))) (l35 : K.lookup f35 = some ⟨oc35, od35, .func (PySem.W.fnOf "_law_classes_right" "_law_classes_right" (defArgs s_law_classes_right) (defBody s_law_classes_right) (defScope s_law_classes_right) .none kV35 dc35 pm35 an35 cd35 ct35), sl35⟩) (c35 : PySem.W.codeIn K cd35 "_law_classes_right" = true) (k35 : PySem.W.keepIn K (.ref f35) = true)
    (a36 : PySem.W.nsIn K mainGlobals "law" = some (some (.ref f36))) (l36 : K.lookup f36 = some ⟨oc36, od36, .func (PySem.W.fnOf "law" "law" (defArgs s_law) (defBody s_law) (defScope s_law) .none kV36 dc36 pm36 an36 cd36 ct36), sl36⟩) (c36 : PySem.W.codeIn K cd36 "law" = true) (k36 : PySem.W.keepIn K (.ref f36) = true)
    (z_ValueError : PySem.W.nsIn K mainGlobals "ValueError" = some none)
    (z_abs : PySem.W.nsIn K mainGlobals "abs" = some none)
    (z_all : PySem.W.nsIn K mainGlobals "all" = some none)
    (z_enumerate : PySem.W.nsIn K mainGlobals "enumerate" = some none)
    (z_int : PySem.W.nsIn K mainGlobals "int" = some none)
    (z_isinstance : PySem.W.nsIn K mainGlobals "isinstance" = some none)
    (z_len : PySem.W.nsIn K mainGlobals "len" = some none)
    (z_list : PySem.W.nsIn K mainGlobals "list" = some none)
    (z_max : PySem.W.nsIn K mainGlobals "max" = some none)
    (z_min : PySem.W.nsIn K mainGlobals "min" = some none)
    (z_range : PySem.W.nsIn K mainGlobals "range" = some none)
    (z_set : PySem.W.nsIn K mainGlobals "set" = some none)
    (z_tuple : PySem.W.nsIn K mainGlobals "tuple" = some none)
    {vv_OUTCOMES : Addr} (av_OUTCOMES : PySem.W.nsIn K mainGlobals "OUTCOMES" = some (some (.ref vv_OUTCOMES)))
    {oo_OUTCOMES : Obj} {it_OUTCOMES : Array Value} {nn_OUTCOMES : Nat} (lk_OUTCOMES : K.lookup vv_OUTCOMES = some oo_OUTCOMES) (cl_OUTCOMES : oo_OUTCOMES.cls = .type "tuple") (dt_OUTCOMES : oo_OUTCOMES.data = .seq it_OUTCOMES nn_OUTCOMES) (el_OUTCOMES : it_OUTCOMES.toList.map strV = (["E", "LB", "GA", "GB", "LA"] : List Str).map some)
    {vv_CONDITIONS : Addr} (av_CONDITIONS : PySem.W.nsIn K mainGlobals "CONDITIONS" = some (some (.ref vv_CONDITIONS)))
    {es_CONDITIONS : Array DictEntry} {nn_CONDITIONS : Nat} (lk_CONDITIONS : K.lookup vv_CONDITIONS = some ⟨.type "dict", none, .dict es_CONDITIONS nn_CONDITIONS, #[]⟩) (kk_CONDITIONS : es_CONDITIONS.toList.map He.keyOf = He.keysIn w.params ["e", "ne", "l", "le", "g", "ge", "b", "be", "a", "ae", "same", "mixed"]) (lo_CONDITIONS : (vv_CONDITIONS == sysModules) = false)
    {pp_CONDITIONS_0 : Addr} {pp_CONDITIONS_1 : Addr} {pp_CONDITIONS_2 : Addr} {pp_CONDITIONS_3 : Addr} {pp_CONDITIONS_4 : Addr} {pp_CONDITIONS_5 : Addr} {pp_CONDITIONS_6 : Addr} {pp_CONDITIONS_7 : Addr} {pp_CONDITIONS_8 : Addr} {pp_CONDITIONS_9 : Addr} {pp_CONDITIONS_10 : Addr} {pp_CONDITIONS_11 : Addr} (vl_CONDITIONS : es_CONDITIONS.toList.map (·.val) = [.ref pp_CONDITIONS_0, .ref pp_CONDITIONS_1, .ref pp_CONDITIONS_2, .ref pp_CONDITIONS_3, .ref pp_CONDITIONS_4, .ref pp_CONDITIONS_5, .ref pp_CONDITIONS_6, .ref pp_CONDITIONS_7, .ref pp_CONDITIONS_8, .ref pp_CONDITIONS_9, .ref pp_CONDITIONS_10, .ref pp_CONDITIONS_11])
    {oo_CONDITIONS_0 : Obj} {it_CONDITIONS_0 : Array Value} {nn_CONDITIONS_0 : Nat} (lk_CONDITIONS_0 : K.lookup pp_CONDITIONS_0 = some oo_CONDITIONS_0) (cl_CONDITIONS_0 : oo_CONDITIONS_0.cls = .type "tuple") (dt_CONDITIONS_0 : oo_CONDITIONS_0.data = .seq it_CONDITIONS_0 nn_CONDITIONS_0) (el_CONDITIONS_0 : it_CONDITIONS_0.toList.map strV = (["E"] : List Str).map some)
    {oo_CONDITIONS_1 : Obj} {it_CONDITIONS_1 : Array Value} {nn_CONDITIONS_1 : Nat} (lk_CONDITIONS_1 : K.lookup pp_CONDITIONS_1 = some oo_CONDITIONS_1) (cl_CONDITIONS_1 : oo_CONDITIONS_1.cls = .type "tuple") (dt_CONDITIONS_1 : oo_CONDITIONS_1.data = .seq it_CONDITIONS_1 nn_CONDITIONS_1) (el_CONDITIONS_1 : it_CONDITIONS_1.toList.map strV = (["LB", "GA", "GB", "LA"] : List Str).map some)
    {oo_CONDITIONS_2 : Obj} {it_CONDITIONS_2 : Array Value} {nn_CONDITIONS_2 : Nat} (lk_CONDITIONS_2 : K.lookup pp_CONDITIONS_2 = some oo_CONDITIONS_2) (cl_CONDITIONS_2 : oo_CONDITIONS_2.cls = .type "tuple") (dt_CONDITIONS_2 : oo_CONDITIONS_2.data = .seq it_CONDITIONS_2 nn_CONDITIONS_2) (el_CONDITIONS_2 : it_CONDITIONS_2.toList.map strV = (["LB", "LA"] : List Str).map some)
    {oo_CONDITIONS_3 : Obj} {it_CONDITIONS_3 : Array Value} {nn_CONDITIONS_3 : Nat} (lk_CONDITIONS_3 : K.lookup pp_CONDITIONS_3 = some oo_CONDITIONS_3) (cl_CONDITIONS_3 : oo_CONDITIONS_3.cls = .type "tuple") (dt_CONDITIONS_3 : oo_CONDITIONS_3.data = .seq it_CONDITIONS_3 nn_CONDITIONS_3) (el_CONDITIONS_3 : it_CONDITIONS_3.toList.map strV = (["E", "LB", "LA"] : List Str).map some)
    {oo_CONDITIONS_4 : Obj} {it_CONDITIONS_4 : Array Value} {nn_CONDITIONS_4 : Nat} (lk_CONDITIONS_4 : K.lookup pp_CONDITIONS_4 = some oo_CONDITIONS_4) (cl_CONDITIONS_4 : oo_CONDITIONS_4.cls = .type "tuple") (dt_CONDITIONS_4 : oo_CONDITIONS_4.data = .seq it_CONDITIONS_4 nn_CONDITIONS_4) (el_CONDITIONS_4 : it_CONDITIONS_4.toList.map strV = (["GA", "GB"] : List Str).map some)
    {oo_CONDITIONS_5 : Obj} {it_CONDITIONS_5 : Array Value} {nn_CONDITIONS_5 : Nat} (lk_CONDITIONS_5 : K.lookup pp_CONDITIONS_5 = some oo_CONDITIONS_5) (cl_CONDITIONS_5 : oo_CONDITIONS_5.cls = .type "tuple") (dt_CONDITIONS_5 : oo_CONDITIONS_5.data = .seq it_CONDITIONS_5 nn_CONDITIONS_5) (el_CONDITIONS_5 : it_CONDITIONS_5.toList.map strV = (["E", "GA", "GB"] : List Str).map some)
    {oo_CONDITIONS_6 : Obj} {it_CONDITIONS_6 : Array Value} {nn_CONDITIONS_6 : Nat} (lk_CONDITIONS_6 : K.lookup pp_CONDITIONS_6 = some oo_CONDITIONS_6) (cl_CONDITIONS_6 : oo_CONDITIONS_6.cls = .type "tuple") (dt_CONDITIONS_6 : oo_CONDITIONS_6.data = .seq it_CONDITIONS_6 nn_CONDITIONS_6) (el_CONDITIONS_6 : it_CONDITIONS_6.toList.map strV = (["LB", "GB"] : List Str).map some)
    {oo_CONDITIONS_7 : Obj} {it_CONDITIONS_7 : Array Value} {nn_CONDITIONS_7 : Nat} (lk_CONDITIONS_7 : K.lookup pp_CONDITIONS_7 = some oo_CONDITIONS_7) (cl_CONDITIONS_7 : oo_CONDITIONS_7.cls = .type "tuple") (dt_CONDITIONS_7 : oo_CONDITIONS_7.data = .seq it_CONDITIONS_7 nn_CONDITIONS_7) (el_CONDITIONS_7 : it_CONDITIONS_7.toList.map strV = (["E", "LB", "GB"] : List Str).map some)
    {oo_CONDITIONS_8 : Obj} {it_CONDITIONS_8 : Array Value} {nn_CONDITIONS_8 : Nat} (lk_CONDITIONS_8 : K.lookup pp_CONDITIONS_8 = some oo_CONDITIONS_8) (cl_CONDITIONS_8 : oo_CONDITIONS_8.cls = .type "tuple") (dt_CONDITIONS_8 : oo_CONDITIONS_8.data = .seq it_CONDITIONS_8 nn_CONDITIONS_8) (el_CONDITIONS_8 : it_CONDITIONS_8.toList.map strV = (["GA", "LA"] : List Str).map some)
    {oo_CONDITIONS_9 : Obj} {it_CONDITIONS_9 : Array Value} {nn_CONDITIONS_9 : Nat} (lk_CONDITIONS_9 : K.lookup pp_CONDITIONS_9 = some oo_CONDITIONS_9) (cl_CONDITIONS_9 : oo_CONDITIONS_9.cls = .type "tuple") (dt_CONDITIONS_9 : oo_CONDITIONS_9.data = .seq it_CONDITIONS_9 nn_CONDITIONS_9) (el_CONDITIONS_9 : it_CONDITIONS_9.toList.map strV = (["E", "GA", "LA"] : List Str).map some)
    {oo_CONDITIONS_10 : Obj} {it_CONDITIONS_10 : Array Value} {nn_CONDITIONS_10 : Nat} (lk_CONDITIONS_10 : K.lookup pp_CONDITIONS_10 = some oo_CONDITIONS_10) (cl_CONDITIONS_10 : oo_CONDITIONS_10.cls = .type "tuple") (dt_CONDITIONS_10 : oo_CONDITIONS_10.data = .seq it_CONDITIONS_10 nn_CONDITIONS_10) (el_CONDITIONS_10 : it_CONDITIONS_10.toList.map strV = (["E", "LB", "GA"] : List Str).map some)
    {oo_CONDITIONS_11 : Obj} {it_CONDITIONS_11 : Array Value} {nn_CONDITIONS_11 : Nat} (lk_CONDITIONS_11 : K.lookup pp_CONDITIONS_11 = some oo_CONDITIONS_11) (cl_CONDITIONS_11 : oo_CONDITIONS_11.cls = .type "tuple") (dt_CONDITIONS_11 : oo_CONDITIONS_11.data = .seq it_CONDITIONS_11 nn_CONDITIONS_11) (el_CONDITIONS_11 : it_CONDITIONS_11.toList.map strV = (["GB", "LA"] : List Str).map some)
    {vv_EXCHANGED : Addr} (av_EXCHANGED : PySem.W.nsIn K mainGlobals "EXCHANGED" = some (some (.ref vv_EXCHANGED)))
    {es_EXCHANGED : Array DictEntry} {nn_EXCHANGED : Nat} (lk_EXCHANGED : K.lookup vv_EXCHANGED = some ⟨.type "dict", none, .dict es_EXCHANGED nn_EXCHANGED, #[]⟩) (kk_EXCHANGED : es_EXCHANGED.toList.map He.keyOf = He.keysIn w.params ["l", "le", "g", "ge", "b", "be", "a", "ae"]) (lo_EXCHANGED : (vv_EXCHANGED == sysModules) = false)
    {tt_EXCHANGED_0 : Tok} {tt_EXCHANGED_1 : Tok} {tt_EXCHANGED_2 : Tok} {tt_EXCHANGED_3 : Tok} {tt_EXCHANGED_4 : Tok} {tt_EXCHANGED_5 : Tok} {tt_EXCHANGED_6 : Tok} {tt_EXCHANGED_7 : Tok} (vl_EXCHANGED : es_EXCHANGED.toList.map (·.val) = [.str "b" tt_EXCHANGED_0, .str "be" tt_EXCHANGED_1, .str "a" tt_EXCHANGED_2, .str "ae" tt_EXCHANGED_3, .str "l" tt_EXCHANGED_4, .str "le" tt_EXCHANGED_5, .str "g" tt_EXCHANGED_6, .str "ge" tt_EXCHANGED_7])
    {vv_REVERSED : Addr} (av_REVERSED : PySem.W.nsIn K mainGlobals "REVERSED" = some (some (.ref vv_REVERSED)))
    {es_REVERSED : Array DictEntry} {nn_REVERSED : Nat} (lk_REVERSED : K.lookup vv_REVERSED = some ⟨.type "dict", none, .dict es_REVERSED nn_REVERSED, #[]⟩) (kk_REVERSED : es_REVERSED.toList.map He.keyOf = He.keysIn w.params ["l", "le", "g", "ge", "b", "be", "a", "ae"]) (lo_REVERSED : (vv_REVERSED == sysModules) = false)
    {tt_REVERSED_0 : Tok} {tt_REVERSED_1 : Tok} {tt_REVERSED_2 : Tok} {tt_REVERSED_3 : Tok} {tt_REVERSED_4 : Tok} {tt_REVERSED_5 : Tok} {tt_REVERSED_6 : Tok} {tt_REVERSED_7 : Tok} (vl_REVERSED : es_REVERSED.toList.map (·.val) = [.str "g" tt_REVERSED_0, .str "ge" tt_REVERSED_1, .str "l" tt_REVERSED_2, .str "le" tt_REVERSED_3, .str "a" tt_REVERSED_4, .str "ae" tt_REVERSED_5, .str "b" tt_REVERSED_6, .str "be" tt_REVERSED_7])
    {cB : Addr} (aB : PySem.W.nsIn K mainGlobals "BranchError" = some (some (.ref cB))) (kB : PySem.W.keepIn K (.ref cB) = true) (qB : PySem.W.excIn K cB [.type "ValueError", .type "Exception", .type "BaseException", .type "object"] "ValueError.__new__" = true)
    (e1B : PySem.W.findIn K (.ref cB) "__getattribute__" = some (some (.builtin "BaseException.__getattribute__"))) (e2B : PySem.W.findIn K (.ref cB) "__getattr__" = some none) (e3B : PySem.W.subIn K (.ref cB) (.type "BaseException") = some true) (e4B : PySem.W.hasDictIn K cB = true) (e5B : PySem.W.findIn K (.ref cB) "__class__" = some (some (.builtin "object.__class__"))) (e6B : PySem.W.mroIn K cB (.type "object") = some true)
    (sg : PySem.W.specialIn K (.builtin "object.__class__") "__get__" = some (some (.builtin "getset_descriptor.__get__"))) (st : PySem.W.takesIn K (.builtin "object.__class__") = some true)
    {ce0 ie0 Ne0 : Addr} {ne0 qe0 : Str} {be0 : List Value} {se0 : List Str} {ue0 : List Value} {ve0 : Bool} {we0 : Option Bool} {xe0 : Option Addr} {ma0 mb0 mc0 md0 me0 : Option Value}
    {oi0 ai0 : Option Addr} {li0 : Array (Option Value)} {ci0 ki0 di0 pi0 gi0 ti0 : Value}
    (E1_0 : PySem.W.nsIn K mainGlobals "InvalidWidth" = some (some (.ref ce0))) (E2_0 : K.lookup ce0 = some (excClassObj ne0 qe0 ce0 Ne0 be0 [.ref cB, .type "ValueError", .type "Exception", .type "BaseException", .type "object"] true se0 ue0 ve0 we0 xe0 ma0 mb0 mc0 md0 me0 "ValueError.__new__"))
    (E3_0 : PySem.W.findIn K (.ref ce0) "__setattr__" = some (some (.builtin "object.__setattr__"))) (E4_0 : PySem.W.typeIn K (.ref ce0) = some (.type "type")) (E5_0 : PySem.W.keepIn K (.ref ce0) = true) (E6_0 : PySem.W.findIn K (.ref ce0) "value" = some none)
    (E7_0 : PySem.W.findIn K (.ref ce0) "__init__" = some (some (.ref ie0))) (E8_0 : PySem.W.typeIn K (.ref ie0) = some (.type "function")) (E9_0 : K.lookup ie0 = some ⟨ci0, oi0, .func (PySem.W.fnOf "__init__" "InvalidWidth.__init__" (defArgs s_InvalidWidth) (defBody s_InvalidWidth) (defScope s_InvalidWidth) .none ki0 di0 pi0 ai0 gi0 ti0), li0⟩) (Ea_0 : PySem.W.codeIn K gi0 "InvalidWidth.__init__" = true) (Eb_0 : PySem.W.keepIn K (.ref ie0) = true)
    (e1_0 : PySem.W.findIn K (.ref ce0) "__getattribute__" = some (some (.builtin "BaseException.__getattribute__"))) (e2_0 : PySem.W.findIn K (.ref ce0) "__getattr__" = some none) (e3_0 : PySem.W.subIn K (.ref ce0) (.type "BaseException") = some true) (e4_0 : PySem.W.hasDictIn K ce0 = true) (e5_0 : PySem.W.findIn K (.ref ce0) "__class__" = some (some (.builtin "object.__class__"))) (e6_0 : PySem.W.mroIn K ce0 (.type "object") = some true)
    {ce1 ie1 Ne1 : Addr} {ne1 qe1 : Str} {be1 : List Value} {se1 : List Str} {ue1 : List Value} {ve1 : Bool} {we1 : Option Bool} {xe1 : Option Addr} {ma1 mb1 mc1 md1 me1 : Option Value}
    {oi1 ai1 : Option Addr} {li1 : Array (Option Value)} {ci1 ki1 di1 pi1 gi1 ti1 : Value}
    (E1_1 : PySem.W.nsIn K mainGlobals "InvalidWords" = some (some (.ref ce1))) (E2_1 : K.lookup ce1 = some (excClassObj ne1 qe1 ce1 Ne1 be1 [.ref cB, .type "ValueError", .type "Exception", .type "BaseException", .type "object"] true se1 ue1 ve1 we1 xe1 ma1 mb1 mc1 md1 me1 "ValueError.__new__"))
    (E3_1 : PySem.W.findIn K (.ref ce1) "__setattr__" = some (some (.builtin "object.__setattr__"))) (E4_1 : PySem.W.typeIn K (.ref ce1) = some (.type "type")) (E5_1 : PySem.W.keepIn K (.ref ce1) = true) (E6_1 : PySem.W.findIn K (.ref ce1) "value" = some none)
    (E7_1 : PySem.W.findIn K (.ref ce1) "__init__" = some (some (.ref ie1))) (E8_1 : PySem.W.typeIn K (.ref ie1) = some (.type "function")) (E9_1 : K.lookup ie1 = some ⟨ci1, oi1, .func (PySem.W.fnOf "__init__" "InvalidWords.__init__" (defArgs s_InvalidWords) (defBody s_InvalidWords) (defScope s_InvalidWords) .none ki1 di1 pi1 ai1 gi1 ti1), li1⟩) (Ea_1 : PySem.W.codeIn K gi1 "InvalidWords.__init__" = true) (Eb_1 : PySem.W.keepIn K (.ref ie1) = true)
    (e1_1 : PySem.W.findIn K (.ref ce1) "__getattribute__" = some (some (.builtin "BaseException.__getattribute__"))) (e2_1 : PySem.W.findIn K (.ref ce1) "__getattr__" = some none) (e3_1 : PySem.W.subIn K (.ref ce1) (.type "BaseException") = some true) (e4_1 : PySem.W.hasDictIn K ce1 = true) (e5_1 : PySem.W.findIn K (.ref ce1) "__class__" = some (some (.builtin "object.__class__"))) (e6_1 : PySem.W.mroIn K ce1 (.type "object") = some true)
    {ce2 ie2 Ne2 : Addr} {ne2 qe2 : Str} {be2 : List Value} {se2 : List Str} {ue2 : List Value} {ve2 : Bool} {we2 : Option Bool} {xe2 : Option Addr} {ma2 mb2 mc2 md2 me2 : Option Value}
    {oi2 ai2 : Option Addr} {li2 : Array (Option Value)} {ci2 ki2 di2 pi2 gi2 ti2 : Value}
    (E1_2 : PySem.W.nsIn K mainGlobals "InvalidOutcome" = some (some (.ref ce2))) (E2_2 : K.lookup ce2 = some (excClassObj ne2 qe2 ce2 Ne2 be2 [.ref cB, .type "ValueError", .type "Exception", .type "BaseException", .type "object"] true se2 ue2 ve2 we2 xe2 ma2 mb2 mc2 md2 me2 "ValueError.__new__"))
    (E3_2 : PySem.W.findIn K (.ref ce2) "__setattr__" = some (some (.builtin "object.__setattr__"))) (E4_2 : PySem.W.typeIn K (.ref ce2) = some (.type "type")) (E5_2 : PySem.W.keepIn K (.ref ce2) = true) (E6_2 : PySem.W.findIn K (.ref ce2) "value" = some none)
    (E7_2 : PySem.W.findIn K (.ref ce2) "__init__" = some (some (.ref ie2))) (E8_2 : PySem.W.typeIn K (.ref ie2) = some (.type "function")) (E9_2 : K.lookup ie2 = some ⟨ci2, oi2, .func (PySem.W.fnOf "__init__" "InvalidOutcome.__init__" (defArgs s_InvalidOutcome) (defBody s_InvalidOutcome) (defScope s_InvalidOutcome) .none ki2 di2 pi2 ai2 gi2 ti2), li2⟩) (Ea_2 : PySem.W.codeIn K gi2 "InvalidOutcome.__init__" = true) (Eb_2 : PySem.W.keepIn K (.ref ie2) = true)
    (e1_2 : PySem.W.findIn K (.ref ce2) "__getattribute__" = some (some (.builtin "BaseException.__getattribute__"))) (e2_2 : PySem.W.findIn K (.ref ce2) "__getattr__" = some none) (e3_2 : PySem.W.subIn K (.ref ce2) (.type "BaseException") = some true) (e4_2 : PySem.W.hasDictIn K ce2 = true) (e5_2 : PySem.W.findIn K (.ref ce2) "__class__" = some (some (.builtin "object.__class__"))) (e6_2 : PySem.W.mroIn K ce2 (.type "object") = some true)
    {ce3 ie3 Ne3 : Addr} {ne3 qe3 : Str} {be3 : List Value} {se3 : List Str} {ue3 : List Value} {ve3 : Bool} {we3 : Option Bool} {xe3 : Option Addr} {ma3 mb3 mc3 md3 me3 : Option Value}
    {oi3 ai3 : Option Addr} {li3 : Array (Option Value)} {ci3 ki3 di3 pi3 gi3 ti3 : Value}
    (E1_3 : PySem.W.nsIn K mainGlobals "InvalidCondition" = some (some (.ref ce3))) (E2_3 : K.lookup ce3 = some (excClassObj ne3 qe3 ce3 Ne3 be3 [.ref cB, .type "ValueError", .type "Exception", .type "BaseException", .type "object"] true se3 ue3 ve3 we3 xe3 ma3 mb3 mc3 md3 me3 "ValueError.__new__"))
    (E3_3 : PySem.W.findIn K (.ref ce3) "__setattr__" = some (some (.builtin "object.__setattr__"))) (E4_3 : PySem.W.typeIn K (.ref ce3) = some (.type "type")) (E5_3 : PySem.W.keepIn K (.ref ce3) = true) (E6_3 : PySem.W.findIn K (.ref ce3) "value" = some none)
    (E7_3 : PySem.W.findIn K (.ref ce3) "__init__" = some (some (.ref ie3))) (E8_3 : PySem.W.typeIn K (.ref ie3) = some (.type "function")) (E9_3 : K.lookup ie3 = some ⟨ci3, oi3, .func (PySem.W.fnOf "__init__" "InvalidCondition.__init__" (defArgs s_InvalidCondition) (defBody s_InvalidCondition) (defScope s_InvalidCondition) .none ki3 di3 pi3 ai3 gi3 ti3), li3⟩) (Ea_3 : PySem.W.codeIn K gi3 "InvalidCondition.__init__" = true) (Eb_3 : PySem.W.keepIn K (.ref ie3) = true)
    (e1_3 : PySem.W.findIn K (.ref ce3) "__getattribute__" = some (some (.builtin "BaseException.__getattribute__"))) (e2_3 : PySem.W.findIn K (.ref ce3) "__getattr__" = some none) (e3_3 : PySem.W.subIn K (.ref ce3) (.type "BaseException") = some true) (e4_3 : PySem.W.hasDictIn K ce3 = true) (e5_3 : PySem.W.findIn K (.ref ce3) "__class__" = some (some (.builtin "object.__class__"))) (e6_3 : PySem.W.mroIn K ce3 (.type "object") = some true)
    {ce4 ie4 Ne4 : Addr} {ne4 qe4 : Str} {be4 : List Value} {se4 : List Str} {ue4 : List Value} {ve4 : Bool} {we4 : Option Bool} {xe4 : Option Addr} {ma4 mb4 mc4 md4 me4 : Option Value}
    {oi4 ai4 : Option Addr} {li4 : Array (Option Value)} {ci4 ki4 di4 pi4 gi4 ti4 : Value}
    (E1_4 : PySem.W.nsIn K mainGlobals "InvalidRanking" = some (some (.ref ce4))) (E2_4 : K.lookup ce4 = some (excClassObj ne4 qe4 ce4 Ne4 be4 [.ref cB, .type "ValueError", .type "Exception", .type "BaseException", .type "object"] true se4 ue4 ve4 we4 xe4 ma4 mb4 mc4 md4 me4 "ValueError.__new__"))
    (E3_4 : PySem.W.findIn K (.ref ce4) "__setattr__" = some (some (.builtin "object.__setattr__"))) (E4_4 : PySem.W.typeIn K (.ref ce4) = some (.type "type")) (E5_4 : PySem.W.keepIn K (.ref ce4) = true) (E6_4 : PySem.W.findIn K (.ref ce4) "value" = some none)
    (E7_4 : PySem.W.findIn K (.ref ce4) "__init__" = some (some (.ref ie4))) (E8_4 : PySem.W.typeIn K (.ref ie4) = some (.type "function")) (E9_4 : K.lookup ie4 = some ⟨ci4, oi4, .func (PySem.W.fnOf "__init__" "InvalidRanking.__init__" (defArgs s_InvalidRanking) (defBody s_InvalidRanking) (defScope s_InvalidRanking) .none ki4 di4 pi4 ai4 gi4 ti4), li4⟩) (Ea_4 : PySem.W.codeIn K gi4 "InvalidRanking.__init__" = true) (Eb_4 : PySem.W.keepIn K (.ref ie4) = true)
    (e1_4 : PySem.W.findIn K (.ref ce4) "__getattribute__" = some (some (.builtin "BaseException.__getattribute__"))) (e2_4 : PySem.W.findIn K (.ref ce4) "__getattr__" = some none) (e3_4 : PySem.W.subIn K (.ref ce4) (.type "BaseException") = some true) (e4_4 : PySem.W.hasDictIn K ce4 = true) (e5_4 : PySem.W.findIn K (.ref ce4) "__class__" = some (some (.builtin "object.__class__"))) (e6_4 : PySem.W.mroIn K ce4 (.type "object") = some true)
    {ce5 ie5 Ne5 : Addr} {ne5 qe5 : Str} {be5 : List Value} {se5 : List Str} {ue5 : List Value} {ve5 : Bool} {we5 : Option Bool} {xe5 : Option Addr} {ma5 mb5 mc5 md5 me5 : Option Value}
    {oi5 ai5 : Option Addr} {li5 : Array (Option Value)} {ci5 ki5 di5 pi5 gi5 ti5 : Value}
    (E1_5 : PySem.W.nsIn K mainGlobals "InvalidKnowledge" = some (some (.ref ce5))) (E2_5 : K.lookup ce5 = some (excClassObj ne5 qe5 ce5 Ne5 be5 [.ref cB, .type "ValueError", .type "Exception", .type "BaseException", .type "object"] true se5 ue5 ve5 we5 xe5 ma5 mb5 mc5 md5 me5 "ValueError.__new__"))
    (E3_5 : PySem.W.findIn K (.ref ce5) "__setattr__" = some (some (.builtin "object.__setattr__"))) (E4_5 : PySem.W.typeIn K (.ref ce5) = some (.type "type")) (E5_5 : PySem.W.keepIn K (.ref ce5) = true) (E6_5 : PySem.W.findIn K (.ref ce5) "value" = some none)
    (E7_5 : PySem.W.findIn K (.ref ce5) "__init__" = some (some (.ref ie5))) (E8_5 : PySem.W.typeIn K (.ref ie5) = some (.type "function")) (E9_5 : K.lookup ie5 = some ⟨ci5, oi5, .func (PySem.W.fnOf "__init__" "InvalidKnowledge.__init__" (defArgs s_InvalidKnowledge) (defBody s_InvalidKnowledge) (defScope s_InvalidKnowledge) .none ki5 di5 pi5 ai5 gi5 ti5), li5⟩) (Ea_5 : PySem.W.codeIn K gi5 "InvalidKnowledge.__init__" = true) (Eb_5 : PySem.W.keepIn K (.ref ie5) = true)
    (e1_5 : PySem.W.findIn K (.ref ce5) "__getattribute__" = some (some (.builtin "BaseException.__getattribute__"))) (e2_5 : PySem.W.findIn K (.ref ce5) "__getattr__" = some none) (e3_5 : PySem.W.subIn K (.ref ce5) (.type "BaseException") = some true) (e4_5 : PySem.W.hasDictIn K ce5 = true) (e5_5 : PySem.W.findIn K (.ref ce5) "__class__" = some (some (.builtin "object.__class__"))) (e6_5 : PySem.W.mroIn K ce5 (.type "object") = some true)
    {ce6 ie6 Ne6 : Addr} {ne6 qe6 : Str} {be6 : List Value} {se6 : List Str} {ue6 : List Value} {ve6 : Bool} {we6 : Option Bool} {xe6 : Option Addr} {ma6 mb6 mc6 md6 me6 : Option Value}
    {oi6 ai6 : Option Addr} {li6 : Array (Option Value)} {ci6 ki6 di6 pi6 gi6 ti6 : Value}
    (E1_6 : PySem.W.nsIn K mainGlobals "InvalidProgram" = some (some (.ref ce6))) (E2_6 : K.lookup ce6 = some (excClassObj ne6 qe6 ce6 Ne6 be6 [.ref cB, .type "ValueError", .type "Exception", .type "BaseException", .type "object"] true se6 ue6 ve6 we6 xe6 ma6 mb6 mc6 md6 me6 "ValueError.__new__"))
    (E3_6 : PySem.W.findIn K (.ref ce6) "__setattr__" = some (some (.builtin "object.__setattr__"))) (E4_6 : PySem.W.typeIn K (.ref ce6) = some (.type "type")) (E5_6 : PySem.W.keepIn K (.ref ce6) = true) (E6_6 : PySem.W.findIn K (.ref ce6) "value" = some none)
    (E7_6 : PySem.W.findIn K (.ref ce6) "__init__" = some (some (.ref ie6))) (E8_6 : PySem.W.typeIn K (.ref ie6) = some (.type "function")) (E9_6 : K.lookup ie6 = some ⟨ci6, oi6, .func (PySem.W.fnOf "__init__" "InvalidProgram.__init__" (defArgs s_InvalidProgram) (defBody s_InvalidProgram) (defScope s_InvalidProgram) .none ki6 di6 pi6 ai6 gi6 ti6), li6⟩) (Ea_6 : PySem.W.codeIn K gi6 "InvalidProgram.__init__" = true) (Eb_6 : PySem.W.keepIn K (.ref ie6) = true)
    (e1_6 : PySem.W.findIn K (.ref ce6) "__getattribute__" = some (some (.builtin "BaseException.__getattribute__"))) (e2_6 : PySem.W.findIn K (.ref ce6) "__getattr__" = some none) (e3_6 : PySem.W.subIn K (.ref ce6) (.type "BaseException") = some true) (e4_6 : PySem.W.hasDictIn K ce6 = true) (e5_6 : PySem.W.findIn K (.ref ce6) "__class__" = some (some (.builtin "object.__class__"))) (e6_6 : PySem.W.mroIn K ce6 (.type "object") = some true)
    {ce7 ie7 Ne7 : Addr} {ne7 qe7 : Str} {be7 : List Value} {se7 : List Str} {ue7 : List Value} {ve7 : Bool} {we7 : Option Bool} {xe7 : Option Addr} {ma7 mb7 mc7 md7 me7 : Option Value}
    {oi7 ai7 : Option Addr} {li7 : Array (Option Value)} {ci7 ki7 di7 pi7 gi7 ti7 : Value}
    (E1_7 : PySem.W.nsIn K mainGlobals "InvalidRow" = some (some (.ref ce7))) (E2_7 : K.lookup ce7 = some (excClassObj ne7 qe7 ce7 Ne7 be7 [.ref cB, .type "ValueError", .type "Exception", .type "BaseException", .type "object"] true se7 ue7 ve7 we7 xe7 ma7 mb7 mc7 md7 me7 "ValueError.__new__"))
    (E3_7 : PySem.W.findIn K (.ref ce7) "__setattr__" = some (some (.builtin "object.__setattr__"))) (E4_7 : PySem.W.typeIn K (.ref ce7) = some (.type "type")) (E5_7 : PySem.W.keepIn K (.ref ce7) = true) (E6_7 : PySem.W.findIn K (.ref ce7) "value" = some none)
    (E7_7 : PySem.W.findIn K (.ref ce7) "__init__" = some (some (.ref ie7))) (E8_7 : PySem.W.typeIn K (.ref ie7) = some (.type "function")) (E9_7 : K.lookup ie7 = some ⟨ci7, oi7, .func (PySem.W.fnOf "__init__" "InvalidRow.__init__" (defArgs s_InvalidRow) (defBody s_InvalidRow) (defScope s_InvalidRow) .none ki7 di7 pi7 ai7 gi7 ti7), li7⟩) (Ea_7 : PySem.W.codeIn K gi7 "InvalidRow.__init__" = true) (Eb_7 : PySem.W.keepIn K (.ref ie7) = true)
    (e1_7 : PySem.W.findIn K (.ref ce7) "__getattribute__" = some (some (.builtin "BaseException.__getattribute__"))) (e2_7 : PySem.W.findIn K (.ref ce7) "__getattr__" = some none) (e3_7 : PySem.W.subIn K (.ref ce7) (.type "BaseException") = some true) (e4_7 : PySem.W.hasDictIn K ce7 = true) (e5_7 : PySem.W.findIn K (.ref ce7) "__class__" = some (some (.builtin "object.__class__"))) (e6_7 : PySem.W.mroIn K ce7 (.type "object") = some true)
    {ce8 ie8 Ne8 : Addr} {ne8 qe8 : Str} {be8 : List Value} {se8 : List Str} {ue8 : List Value} {ve8 : Bool} {we8 : Option Bool} {xe8 : Option Addr} {ma8 mb8 mc8 md8 me8 : Option Value}
    {oi8 ai8 : Option Addr} {li8 : Array (Option Value)} {ci8 ki8 di8 pi8 gi8 ti8 : Value}
    (E1_8 : PySem.W.nsIn K mainGlobals "InvalidRegister" = some (some (.ref ce8))) (E2_8 : K.lookup ce8 = some (excClassObj ne8 qe8 ce8 Ne8 be8 [.ref cB, .type "ValueError", .type "Exception", .type "BaseException", .type "object"] true se8 ue8 ve8 we8 xe8 ma8 mb8 mc8 md8 me8 "ValueError.__new__"))
    (E3_8 : PySem.W.findIn K (.ref ce8) "__setattr__" = some (some (.builtin "object.__setattr__"))) (E4_8 : PySem.W.typeIn K (.ref ce8) = some (.type "type")) (E5_8 : PySem.W.keepIn K (.ref ce8) = true) (E6_8 : PySem.W.findIn K (.ref ce8) "value" = some none)
    (E7_8 : PySem.W.findIn K (.ref ce8) "__init__" = some (some (.ref ie8))) (E8_8 : PySem.W.typeIn K (.ref ie8) = some (.type "function")) (E9_8 : K.lookup ie8 = some ⟨ci8, oi8, .func (PySem.W.fnOf "__init__" "InvalidRegister.__init__" (defArgs s_InvalidRegister) (defBody s_InvalidRegister) (defScope s_InvalidRegister) .none ki8 di8 pi8 ai8 gi8 ti8), li8⟩) (Ea_8 : PySem.W.codeIn K gi8 "InvalidRegister.__init__" = true) (Eb_8 : PySem.W.keepIn K (.ref ie8) = true)
    (e1_8 : PySem.W.findIn K (.ref ce8) "__getattribute__" = some (some (.builtin "BaseException.__getattribute__"))) (e2_8 : PySem.W.findIn K (.ref ce8) "__getattr__" = some none) (e3_8 : PySem.W.subIn K (.ref ce8) (.type "BaseException") = some true) (e4_8 : PySem.W.hasDictIn K ce8 = true) (e5_8 : PySem.W.findIn K (.ref ce8) "__class__" = some (some (.builtin "object.__class__"))) (e6_8 : PySem.W.mroIn K ce8 (.type "object") = some true)
    {ce9 ie9 Ne9 : Addr} {ne9 qe9 : Str} {be9 : List Value} {se9 : List Str} {ue9 : List Value} {ve9 : Bool} {we9 : Option Bool} {xe9 : Option Addr} {ma9 mb9 mc9 md9 me9 : Option Value}
    {oi9 ai9 : Option Addr} {li9 : Array (Option Value)} {ci9 ki9 di9 pi9 gi9 ti9 : Value}
    (E1_9 : PySem.W.nsIn K mainGlobals "InvalidQuery" = some (some (.ref ce9))) (E2_9 : K.lookup ce9 = some (excClassObj ne9 qe9 ce9 Ne9 be9 [.ref cB, .type "ValueError", .type "Exception", .type "BaseException", .type "object"] true se9 ue9 ve9 we9 xe9 ma9 mb9 mc9 md9 me9 "ValueError.__new__"))
    (E3_9 : PySem.W.findIn K (.ref ce9) "__setattr__" = some (some (.builtin "object.__setattr__"))) (E4_9 : PySem.W.typeIn K (.ref ce9) = some (.type "type")) (E5_9 : PySem.W.keepIn K (.ref ce9) = true) (E6_9 : PySem.W.findIn K (.ref ce9) "value" = some none)
    (E7_9 : PySem.W.findIn K (.ref ce9) "__init__" = some (some (.ref ie9))) (E8_9 : PySem.W.typeIn K (.ref ie9) = some (.type "function")) (E9_9 : K.lookup ie9 = some ⟨ci9, oi9, .func (PySem.W.fnOf "__init__" "InvalidQuery.__init__" (defArgs s_InvalidQuery) (defBody s_InvalidQuery) (defScope s_InvalidQuery) .none ki9 di9 pi9 ai9 gi9 ti9), li9⟩) (Ea_9 : PySem.W.codeIn K gi9 "InvalidQuery.__init__" = true) (Eb_9 : PySem.W.keepIn K (.ref ie9) = true)
    (e1_9 : PySem.W.findIn K (.ref ce9) "__getattribute__" = some (some (.builtin "BaseException.__getattribute__"))) (e2_9 : PySem.W.findIn K (.ref ce9) "__getattr__" = some none) (e3_9 : PySem.W.subIn K (.ref ce9) (.type "BaseException") = some true) (e4_9 : PySem.W.hasDictIn K ce9 = true) (e5_9 : PySem.W.findIn K (.ref ce9) "__class__" = some (some (.builtin "object.__class__"))) (e6_9 : PySem.W.mroIn K ce9 (.type "object") = some true)
    {ce10 ie10 Ne10 : Addr} {ne10 qe10 : Str} {be10 : List Value} {se10 : List Str} {ue10 : List Value} {ve10 : Bool} {we10 : Option Bool} {xe10 : Option Addr} {ma10 mb10 mc10 md10 me10 : Option Value}
    {oi10 ai10 : Option Addr} {li10 : Array (Option Value)} {ci10 ki10 di10 pi10 gi10 ti10 : Value}
    (E1_10 : PySem.W.nsIn K mainGlobals "InvalidTable" = some (some (.ref ce10))) (E2_10 : K.lookup ce10 = some (excClassObj ne10 qe10 ce10 Ne10 be10 [.ref cB, .type "ValueError", .type "Exception", .type "BaseException", .type "object"] true se10 ue10 ve10 we10 xe10 ma10 mb10 mc10 md10 me10 "ValueError.__new__"))
    (E3_10 : PySem.W.findIn K (.ref ce10) "__setattr__" = some (some (.builtin "object.__setattr__"))) (E4_10 : PySem.W.typeIn K (.ref ce10) = some (.type "type")) (E5_10 : PySem.W.keepIn K (.ref ce10) = true) (E6_10 : PySem.W.findIn K (.ref ce10) "value" = some none)
    (E7_10 : PySem.W.findIn K (.ref ce10) "__init__" = some (some (.ref ie10))) (E8_10 : PySem.W.typeIn K (.ref ie10) = some (.type "function")) (E9_10 : K.lookup ie10 = some ⟨ci10, oi10, .func (PySem.W.fnOf "__init__" "InvalidTable.__init__" (defArgs s_InvalidTable) (defBody s_InvalidTable) (defScope s_InvalidTable) .none ki10 di10 pi10 ai10 gi10 ti10), li10⟩) (Ea_10 : PySem.W.codeIn K gi10 "InvalidTable.__init__" = true) (Eb_10 : PySem.W.keepIn K (.ref ie10) = true)
    (e1_10 : PySem.W.findIn K (.ref ce10) "__getattribute__" = some (some (.builtin "BaseException.__getattribute__"))) (e2_10 : PySem.W.findIn K (.ref ce10) "__getattr__" = some none) (e3_10 : PySem.W.subIn K (.ref ce10) (.type "BaseException") = some true) (e4_10 : PySem.W.hasDictIn K ce10 = true) (e5_10 : PySem.W.findIn K (.ref ce10) "__class__" = some (some (.builtin "object.__class__"))) (e6_10 : PySem.W.mroIn K ce10 (.type "object") = some true)
    {ce11 ie11 Ne11 : Addr} {ne11 qe11 : Str} {be11 : List Value} {se11 : List Str} {ue11 : List Value} {ve11 : Bool} {we11 : Option Bool} {xe11 : Option Addr} {ma11 mb11 mc11 md11 me11 : Option Value}
    {oi11 ai11 : Option Addr} {li11 : Array (Option Value)} {ci11 ki11 di11 pi11 gi11 ti11 : Value}
    (E1_11 : PySem.W.nsIn K mainGlobals "InvalidNumber" = some (some (.ref ce11))) (E2_11 : K.lookup ce11 = some (excClassObj ne11 qe11 ce11 Ne11 be11 [.ref cB, .type "ValueError", .type "Exception", .type "BaseException", .type "object"] true se11 ue11 ve11 we11 xe11 ma11 mb11 mc11 md11 me11 "ValueError.__new__"))
    (E3_11 : PySem.W.findIn K (.ref ce11) "__setattr__" = some (some (.builtin "object.__setattr__"))) (E4_11 : PySem.W.typeIn K (.ref ce11) = some (.type "type")) (E5_11 : PySem.W.keepIn K (.ref ce11) = true) (E6_11 : PySem.W.findIn K (.ref ce11) "value" = some none)
    (E7_11 : PySem.W.findIn K (.ref ce11) "__init__" = some (some (.ref ie11))) (E8_11 : PySem.W.typeIn K (.ref ie11) = some (.type "function")) (E9_11 : K.lookup ie11 = some ⟨ci11, oi11, .func (PySem.W.fnOf "__init__" "InvalidNumber.__init__" (defArgs s_InvalidNumber) (defBody s_InvalidNumber) (defScope s_InvalidNumber) .none ki11 di11 pi11 ai11 gi11 ti11), li11⟩) (Ea_11 : PySem.W.codeIn K gi11 "InvalidNumber.__init__" = true) (Eb_11 : PySem.W.keepIn K (.ref ie11) = true)
    (e1_11 : PySem.W.findIn K (.ref ce11) "__getattribute__" = some (some (.builtin "BaseException.__getattribute__"))) (e2_11 : PySem.W.findIn K (.ref ce11) "__getattr__" = some none) (e3_11 : PySem.W.subIn K (.ref ce11) (.type "BaseException") = some true) (e4_11 : PySem.W.hasDictIn K ce11 = true) (e5_11 : PySem.W.findIn K (.ref ce11) "__class__" = some (some (.builtin "object.__class__"))) (e6_11 : PySem.W.mroIn K ce11 (.type "object") = some true)
    {ce12 ie12 Ne12 : Addr} {ne12 qe12 : Str} {be12 : List Value} {se12 : List Str} {ue12 : List Value} {ve12 : Bool} {we12 : Option Bool} {xe12 : Option Addr} {ma12 mb12 mc12 md12 me12 : Option Value}
    {oi12 ai12 : Option Addr} {li12 : Array (Option Value)} {ci12 ki12 di12 pi12 gi12 ti12 : Value}
    (E1_12 : PySem.W.nsIn K mainGlobals "UnlikeInputs" = some (some (.ref ce12))) (E2_12 : K.lookup ce12 = some (excClassObj ne12 qe12 ce12 Ne12 be12 [.ref cB, .type "ValueError", .type "Exception", .type "BaseException", .type "object"] true se12 ue12 ve12 we12 xe12 ma12 mb12 mc12 md12 me12 "ValueError.__new__"))
    (E3_12 : PySem.W.findIn K (.ref ce12) "__setattr__" = some (some (.builtin "object.__setattr__"))) (E4_12 : PySem.W.typeIn K (.ref ce12) = some (.type "type")) (E5_12 : PySem.W.keepIn K (.ref ce12) = true) (E6_12 : PySem.W.findIn K (.ref ce12) "value" = some none)
    (E7_12 : PySem.W.findIn K (.ref ce12) "__init__" = some (some (.ref ie12))) (E8_12 : PySem.W.typeIn K (.ref ie12) = some (.type "function")) (E9_12 : K.lookup ie12 = some ⟨ci12, oi12, .func (PySem.W.fnOf "__init__" "UnlikeInputs.__init__" (defArgs s_UnlikeInputs) (defBody s_UnlikeInputs) (defScope s_UnlikeInputs) .none ki12 di12 pi12 ai12 gi12 ti12), li12⟩) (Ea_12 : PySem.W.codeIn K gi12 "UnlikeInputs.__init__" = true) (Eb_12 : PySem.W.keepIn K (.ref ie12) = true)
    (e1_12 : PySem.W.findIn K (.ref ce12) "__getattribute__" = some (some (.builtin "BaseException.__getattribute__"))) (e2_12 : PySem.W.findIn K (.ref ce12) "__getattr__" = some none) (e3_12 : PySem.W.subIn K (.ref ce12) (.type "BaseException") = some true) (e4_12 : PySem.W.hasDictIn K ce12 = true) (e5_12 : PySem.W.findIn K (.ref ce12) "__class__" = some (some (.builtin "object.__class__"))) (e6_12 : PySem.W.mroIn K ce12 (.type "object") = some true)
    {ce13 ie13 Ne13 : Addr} {ne13 qe13 : Str} {be13 : List Value} {se13 : List Str} {ue13 : List Value} {ve13 : Bool} {we13 : Option Bool} {xe13 : Option Addr} {ma13 mb13 mc13 md13 me13 : Option Value}
    {oi13 ai13 : Option Addr} {li13 : Array (Option Value)} {ci13 ki13 di13 pi13 gi13 ti13 : Value}
    (E1_13 : PySem.W.nsIn K mainGlobals "NothingToUndo" = some (some (.ref ce13))) (E2_13 : K.lookup ce13 = some (excClassObj ne13 qe13 ce13 Ne13 be13 [.ref cB, .type "ValueError", .type "Exception", .type "BaseException", .type "object"] true se13 ue13 ve13 we13 xe13 ma13 mb13 mc13 md13 me13 "ValueError.__new__"))
    (E3_13 : PySem.W.findIn K (.ref ce13) "__setattr__" = some (some (.builtin "object.__setattr__"))) (E4_13 : PySem.W.typeIn K (.ref ce13) = some (.type "type")) (E5_13 : PySem.W.keepIn K (.ref ce13) = true) (E6_13 : PySem.W.findIn K (.ref ce13) "value" = some none)
    (E7_13 : PySem.W.findIn K (.ref ce13) "__init__" = some (some (.ref ie13))) (E8_13 : PySem.W.typeIn K (.ref ie13) = some (.type "function")) (E9_13 : K.lookup ie13 = some ⟨ci13, oi13, .func (PySem.W.fnOf "__init__" "NothingToUndo.__init__" (defArgs s_NothingToUndo) (defBody s_NothingToUndo) (defScope s_NothingToUndo) .none ki13 di13 pi13 ai13 gi13 ti13), li13⟩) (Ea_13 : PySem.W.codeIn K gi13 "NothingToUndo.__init__" = true) (Eb_13 : PySem.W.keepIn K (.ref ie13) = true)
    (e1_13 : PySem.W.findIn K (.ref ce13) "__getattribute__" = some (some (.builtin "BaseException.__getattribute__"))) (e2_13 : PySem.W.findIn K (.ref ce13) "__getattr__" = some none) (e3_13 : PySem.W.subIn K (.ref ce13) (.type "BaseException") = some true) (e4_13 : PySem.W.hasDictIn K ce13 = true) (e5_13 : PySem.W.findIn K (.ref ce13) "__class__" = some (some (.builtin "object.__class__"))) (e6_13 : PySem.W.mroIn K ce13 (.type "object") = some true)
    {ce14 ie14 Ne14 : Addr} {ne14 qe14 : Str} {be14 : List Value} {se14 : List Str} {ue14 : List Value} {ve14 : Bool} {we14 : Option Bool} {xe14 : Option Addr} {ma14 mb14 mc14 md14 me14 : Option Value}
    {oi14 ai14 : Option Addr} {li14 : Array (Option Value)} {ci14 ki14 di14 pi14 gi14 ti14 : Value}
    (E1_14 : PySem.W.nsIn K mainGlobals "Unreadable" = some (some (.ref ce14))) (E2_14 : K.lookup ce14 = some (excClassObj ne14 qe14 ce14 Ne14 be14 [.ref cB, .type "ValueError", .type "Exception", .type "BaseException", .type "object"] true se14 ue14 ve14 we14 xe14 ma14 mb14 mc14 md14 me14 "ValueError.__new__"))
    (E3_14 : PySem.W.findIn K (.ref ce14) "__setattr__" = some (some (.builtin "object.__setattr__"))) (E4_14 : PySem.W.typeIn K (.ref ce14) = some (.type "type")) (E5_14 : PySem.W.keepIn K (.ref ce14) = true) (E6_14 : PySem.W.findIn K (.ref ce14) "value" = some none)
    (E7_14 : PySem.W.findIn K (.ref ce14) "__init__" = some (some (.ref ie14))) (E8_14 : PySem.W.typeIn K (.ref ie14) = some (.type "function")) (E9_14 : K.lookup ie14 = some ⟨ci14, oi14, .func (PySem.W.fnOf "__init__" "Unreadable.__init__" (defArgs s_Unreadable) (defBody s_Unreadable) (defScope s_Unreadable) .none ki14 di14 pi14 ai14 gi14 ti14), li14⟩) (Ea_14 : PySem.W.codeIn K gi14 "Unreadable.__init__" = true) (Eb_14 : PySem.W.keepIn K (.ref ie14) = true)
    (e1_14 : PySem.W.findIn K (.ref ce14) "__getattribute__" = some (some (.builtin "BaseException.__getattribute__"))) (e2_14 : PySem.W.findIn K (.ref ce14) "__getattr__" = some none) (e3_14 : PySem.W.subIn K (.ref ce14) (.type "BaseException") = some true) (e4_14 : PySem.W.hasDictIn K ce14 = true) (e5_14 : PySem.W.findIn K (.ref ce14) "__class__" = some (some (.builtin "object.__class__"))) (e6_14 : PySem.W.mroIn K ce14 (.type "object") = some true)
    (xm_0 : PySem.W.exmOne K (.ref ce0) (.ref cB) = some true)
    (xm_1 : PySem.W.exmOne K (.ref ce1) (.ref cB) = some true)
    (xm_2 : PySem.W.exmOne K (.ref ce2) (.ref cB) = some true)
    (xm_3 : PySem.W.exmOne K (.ref ce3) (.ref cB) = some true)
    (xm_4 : PySem.W.exmOne K (.ref ce4) (.ref cB) = some true)
    (xm_5 : PySem.W.exmOne K (.ref ce5) (.ref cB) = some true)
    (xm_6 : PySem.W.exmOne K (.ref ce6) (.ref cB) = some true)
    (xm_7 : PySem.W.exmOne K (.ref ce7) (.ref cB) = some true)
    (xm_8 : PySem.W.exmOne K (.ref ce8) (.ref cB) = some true)
    (xm_9 : PySem.W.exmOne K (.ref ce9) (.ref cB) = some true)
    (xm_10 : PySem.W.exmOne K (.ref ce10) (.ref cB) = some true)
    (xm_11 : PySem.W.exmOne K (.ref ce11) (.ref cB) = some true)
    (xm_12 : PySem.W.exmOne K (.ref ce12) (.ref cB) = some true)
    (xm_13 : PySem.W.exmOne K (.ref ce13) (.ref cB) = some true)
    (xm_14 : PySem.W.exmOne K (.ref ce14) (.ref cB) = some true)
    (tab : kitTab K [ce0, ce1, ce2, ce3, ce4, ce5, ce6, ce7, ce8, ce9, ce10, ce11, ce12, ce13, ce14] cB = true)
    : ∃ fd : FuncData, (∀ (s : Shared) (v : Value), BindsTo s fd ⟨[v], []⟩ [("script", v)]) ∧ ∀ base : Heap, K.In base → base.Ns mainGlobals mg → FnOk l.prog w K mg base CX0 8 fa fd ["script"] (sp_law K) := by
  have e := hfa.symm.trans (PySem.W.mg_of X G a36)
  cases e
  have T : Txt w K mg ⟨vv_OUTCOMES, vv_CONDITIONS, pp_CONDITIONS_0, pp_CONDITIONS_1, pp_CONDITIONS_2, pp_CONDITIONS_3, pp_CONDITIONS_4, pp_CONDITIONS_5, pp_CONDITIONS_6, pp_CONDITIONS_7, pp_CONDITIONS_8, pp_CONDITIONS_9, pp_CONDITIONS_10, pp_CONDITIONS_11, vv_EXCHANGED, vv_REVERSED, ce0, ce1, ce2, ce3, ce4, ce5, ce6, ce7, ce8, ce9, ce10, ce11, ce12, ce13, ce14, cB, ie0, (PySem.W.fnOf "__init__" "InvalidWidth.__init__" (defArgs s_InvalidWidth) (defBody s_InvalidWidth) (defScope s_InvalidWidth) .none ki0 di0 pi0 ai0 gi0 ti0), ie1, (PySem.W.fnOf "__init__" "InvalidWords.__init__" (defArgs s_InvalidWords) (defBody s_InvalidWords) (defScope s_InvalidWords) .none ki1 di1 pi1 ai1 gi1 ti1), ie2, (PySem.W.fnOf "__init__" "InvalidOutcome.__init__" (defArgs s_InvalidOutcome) (defBody s_InvalidOutcome) (defScope s_InvalidOutcome) .none ki2 di2 pi2 ai2 gi2 ti2), ie3, (PySem.W.fnOf "__init__" "InvalidCondition.__init__" (defArgs s_InvalidCondition) (defBody s_InvalidCondition) (defScope s_InvalidCondition) .none ki3 di3 pi3 ai3 gi3 ti3), ie4, (PySem.W.fnOf "__init__" "InvalidRanking.__init__" (defArgs s_InvalidRanking) (defBody s_InvalidRanking) (defScope s_InvalidRanking) .none ki4 di4 pi4 ai4 gi4 ti4), ie5, (PySem.W.fnOf "__init__" "InvalidKnowledge.__init__" (defArgs s_InvalidKnowledge) (defBody s_InvalidKnowledge) (defScope s_InvalidKnowledge) .none ki5 di5 pi5 ai5 gi5 ti5), ie6, (PySem.W.fnOf "__init__" "InvalidProgram.__init__" (defArgs s_InvalidProgram) (defBody s_InvalidProgram) (defScope s_InvalidProgram) .none ki6 di6 pi6 ai6 gi6 ti6), ie7, (PySem.W.fnOf "__init__" "InvalidRow.__init__" (defArgs s_InvalidRow) (defBody s_InvalidRow) (defScope s_InvalidRow) .none ki7 di7 pi7 ai7 gi7 ti7), ie8, (PySem.W.fnOf "__init__" "InvalidRegister.__init__" (defArgs s_InvalidRegister) (defBody s_InvalidRegister) (defScope s_InvalidRegister) .none ki8 di8 pi8 ai8 gi8 ti8), ie9, (PySem.W.fnOf "__init__" "InvalidQuery.__init__" (defArgs s_InvalidQuery) (defBody s_InvalidQuery) (defScope s_InvalidQuery) .none ki9 di9 pi9 ai9 gi9 ti9), ie10, (PySem.W.fnOf "__init__" "InvalidTable.__init__" (defArgs s_InvalidTable) (defBody s_InvalidTable) (defScope s_InvalidTable) .none ki10 di10 pi10 ai10 gi10 ti10), ie11, (PySem.W.fnOf "__init__" "InvalidNumber.__init__" (defArgs s_InvalidNumber) (defBody s_InvalidNumber) (defScope s_InvalidNumber) .none ki11 di11 pi11 ai11 gi11 ti11), ie12, (PySem.W.fnOf "__init__" "UnlikeInputs.__init__" (defArgs s_UnlikeInputs) (defBody s_UnlikeInputs) (defScope s_UnlikeInputs) .none ki12 di12 pi12 ai12 gi12 ti12), ie13, (PySem.W.fnOf "__init__" "NothingToUndo.__init__" (defArgs s_NothingToUndo) (defBody s_NothingToUndo) (defScope s_NothingToUndo) .none ki13 di13 pi13 ai13 gi13 ti13), ie14, (PySem.W.fnOf "__init__" "Unreadable.__init__" (defArgs s_Unreadable) (defBody s_Unreadable) (defScope s_Unreadable) .none ki14 di14 pi14 ai14 gi14 ti14), f0, (PySem.W.fnOf "check_width" "check_width" (defArgs s_check_width) (defBody s_check_width) (defScope s_check_width) .none kV0 dc0 pm0 an0 cd0 ct0), f1, (PySem.W.fnOf "check_words" "check_words" (defArgs s_check_words) (defBody s_check_words) (defScope s_check_words) .none kV1 dc1 pm1 an1 cd1 ct1), f2, (PySem.W.fnOf "is_word" "is_word" (defArgs s_is_word) (defBody s_is_word) (defScope s_is_word) .none kV2 dc2 pm2 an2 cd2 ct2), f3, (PySem.W.fnOf "sign_bit" "sign_bit" (defArgs s_sign_bit) (defBody s_sign_bit) (defScope s_sign_bit) .none kV3 dc3 pm3 an3 cd3 ct3), f4, (PySem.W.fnOf "outcome_by_cut" "outcome_by_cut" (defArgs s_outcome_by_cut) (defBody s_outcome_by_cut) (defScope s_outcome_by_cut) .none kV4 dc4 pm4 an4 cd4 ct4), f5, (PySem.W.fnOf "signed" "signed" (defArgs s_signed) (defBody s_signed) (defScope s_signed) .none kV5 dc5 pm5 an5 cd5 ct5), f6, (PySem.W.fnOf "outcome" "outcome" (defArgs s_outcome) (defBody s_outcome) (defScope s_outcome) .none kV6 dc6 pm6 an6 cd6 ct6), f7, (PySem.W.fnOf "flipped" "flipped" (defArgs s_flipped) (defBody s_flipped) (defScope s_flipped) .none kV7 dc7 pm7 an7 cd7 ct7), f8, (PySem.W.fnOf "inverted" "inverted" (defArgs s_inverted) (defBody s_inverted) (defScope s_inverted) .none kV8 dc8 pm8 an8 cd8 ct8), f9, (PySem.W.fnOf "extended" "extended" (defArgs s_extended) (defBody s_extended) (defScope s_extended) .none kV9 dc9 pm9 an9 cd9 ct9), f10, (PySem.W.fnOf "_signed_value" "_signed_value" (defArgs s_signed_value) (defBody s_signed_value) (defScope s_signed_value) .none kV10 dc10 pm10 an10 cd10 ct10), f11, (PySem.W.fnOf "_changed" "_changed" (defArgs s_changed) (defBody s_changed) (defScope s_changed) .none kV11 dc11 pm11 an11 cd11 ct11), f12, (PySem.W.fnOf "check_outcome" "check_outcome" (defArgs s_check_outcome) (defBody s_check_outcome) (defScope s_check_outcome) .none kV12 dc12 pm12 an12 cd12 ct12), f13, (PySem.W.fnOf "check_condition" "check_condition" (defArgs s_check_condition) (defBody s_check_condition) (defScope s_check_condition) .none kV13 dc13 pm13 an13 cd13 ct13), f14, (PySem.W.fnOf "ordered_outcomes" "ordered_outcomes" (defArgs s_ordered_outcomes) (defBody s_ordered_outcomes) (defScope s_ordered_outcomes) .none kV14 dc14 pm14 an14 cd14 ct14), f15, (PySem.W.fnOf "outcomes_of" "outcomes_of" (defArgs s_outcomes_of) (defBody s_outcomes_of) (defScope s_outcomes_of) .none kV15 dc15 pm15 an15 cd15 ct15), f16, (PySem.W.fnOf "condition_of" "condition_of" (defArgs s_condition_of) (defBody s_condition_of) (defScope s_condition_of) .none kV16 dc16 pm16 an16 cd16 ct16), f17, (PySem.W.fnOf "composed" "composed" (defArgs s_composed) (defBody s_composed) (defScope s_composed) .none kV17 dc17 pm17 an17 cd17 ct17), f18, (PySem.W.fnOf "exchanged" "exchanged" (defArgs s_exchanged) (defBody s_exchanged) (defScope s_exchanged) .none kV18 dc18 pm18 an18 cd18 ct18), f19, (PySem.W.fnOf "reversed_condition" "reversed_condition" (defArgs s_reversed_condition) (defBody s_reversed_condition) (defScope s_reversed_condition) .none kV19 dc19 pm19 an19 cd19 ct19), f20, (PySem.W.fnOf "shortest_chain" "shortest_chain" (defArgs s_shortest_chain) (defBody s_shortest_chain) (defScope s_shortest_chain) .none kV20 dc20 pm20 an20 cd20 ct20), f21, (PySem.W.fnOf "_all_rules" "_all_rules" (defArgs s_all_rules) (defBody s_all_rules) (defScope s_all_rules) .none kV21 dc21 pm21 an21 cd21 ct21), f22, (PySem.W.fnOf "_with_rule" "_with_rule" (defArgs s_with_rule) (defBody s_with_rule) (defScope s_with_rule) .none kV22 dc22 pm22 an22 cd22 ct22), f23, (PySem.W.fnOf "_law_pool" "_law_pool" (defArgs s_law_pool) (defBody s_law_pool) (defScope s_law_pool) .none kV23 dc23 pm23 an23 cd23 ct23), f24, (PySem.W.fnOf "_law_draw" "_law_draw" (defArgs s_law_draw) (defBody s_law_draw) (defScope s_law_draw) .none kV24 dc24 pm24 an24 cd24 ct24), f25, (PySem.W.fnOf "_law_wide" "_law_wide" (defArgs s_law_wide) (defBody s_law_wide) (defScope s_law_wide) .none kV25 dc25 pm25 an25 cd25 ct25), f26, (PySem.W.fnOf "_law_power" "_law_power" (defArgs s_law_power) (defBody s_law_power) (defScope s_law_power) .none kV26 dc26 pm26 an26 cd26 ct26), f27, (PySem.W.fnOf "_law_word" "_law_word" (defArgs s_law_word) (defBody s_law_word) (defScope s_law_word) .none kV27 dc27 pm27 an27 cd27 ct27), f28, (PySem.W.fnOf "_law_some" "_law_some" (defArgs s_law_some) (defBody s_law_some) (defScope s_law_some) .none kV28 dc28 pm28 an28 cd28 ct28), f29, (PySem.W.fnOf "_law_conds" "_law_conds" (defArgs s_law_conds) (defBody s_law_conds) (defScope s_law_conds) .none kV29 dc29 pm29 an29 cd29 ct29), f30, (PySem.W.fnOf "_law_kind" "_law_kind" (defArgs s_law_kind) (defBody s_law_kind) (defScope s_law_kind) .none kV30 dc30 pm30 an30 cd30 ct30), f31, (PySem.W.fnOf "_law_told" "_law_told" (defArgs s_law_told) (defBody s_law_told) (defScope s_law_told) .none kV31 dc31 pm31 an31 cd31 ct31), f32, (PySem.W.fnOf "_law_string_told" "_law_string_told" (defArgs s_law_string_told) (defBody s_law_string_told) (defScope s_law_string_told) .none kV32 dc32 pm32 an32 cd32 ct32), f33, (PySem.W.fnOf "_law_words_right" "_law_words_right" (defArgs s_law_words_right) (defBody s_law_words_right) (defScope s_law_words_right) .none kV33 dc33 pm33 an33 cd33 ct33), f34, (PySem.W.fnOf "_law_strings_right" "_law_strings_right" (defArgs s_law_strings_right) (defBody s_law_strings_right) (defScope s_law_strings_right) .none kV34 dc34 pm34 an34 cd34 ct34), f35, (PySem.W.fnOf "_law_classes_right" "_law_classes_right" (defArgs s_law_classes_right) (defBody s_law_classes_right) (defScope s_law_classes_right) .none kV35 dc35 pm35 an35 cd35 ct35), fa, (PySem.W.fnOf "law" "law" (defArgs s_law) (defBody s_law) (defScope s_law) .none kV36 dc36 pm36 an36 cd36 ct36)⟩ := {
    g_check_width := PySem.W.mg_of X G a0, F_check_width := fun_mk (st := s_check_width) l0 c0 k0,
    g_check_words := PySem.W.mg_of X G a1, F_check_words := fun_mk (st := s_check_words) l1 c1 k1,
    g_is_word := PySem.W.mg_of X G a2, F_is_word := fun_mk (st := s_is_word) l2 c2 k2,
    g_sign_bit := PySem.W.mg_of X G a3, F_sign_bit := fun_mk (st := s_sign_bit) l3 c3 k3,
    g_outcome_by_cut := PySem.W.mg_of X G a4, F_outcome_by_cut := fun_mk (st := s_outcome_by_cut) l4 c4 k4,
    g_signed := PySem.W.mg_of X G a5, F_signed := fun_mk (st := s_signed) l5 c5 k5,
    g_outcome := PySem.W.mg_of X G a6, F_outcome := fun_mk (st := s_outcome) l6 c6 k6,
    g_flipped := PySem.W.mg_of X G a7, F_flipped := fun_mk (st := s_flipped) l7 c7 k7,
    g_inverted := PySem.W.mg_of X G a8, F_inverted := fun_mk (st := s_inverted) l8 c8 k8,
    g_extended := PySem.W.mg_of X G a9, F_extended := fun_mk (st := s_extended) l9 c9 k9,
    g_signed_value := PySem.W.mg_of X G a10, F_signed_value := fun_mk (st := s_signed_value) l10 c10 k10,
    g_changed := PySem.W.mg_of X G a11, F_changed := fun_mk (st := s_changed) l11 c11 k11,
    g_check_outcome := PySem.W.mg_of X G a12, F_check_outcome := fun_mk (st := s_check_outcome) l12 c12 k12,
    g_check_condition := PySem.W.mg_of X G a13, F_check_condition := fun_mk (st := s_check_condition) l13 c13 k13,
    g_ordered_outcomes := PySem.W.mg_of X G a14, F_ordered_outcomes := fun_mk (st := s_ordered_outcomes) l14 c14 k14,
    g_outcomes_of := PySem.W.mg_of X G a15, F_outcomes_of := fun_mk (st := s_outcomes_of) l15 c15 k15,
    g_condition_of := PySem.W.mg_of X G a16, F_condition_of := fun_mk (st := s_condition_of) l16 c16 k16,
    g_composed := PySem.W.mg_of X G a17, F_composed := fun_mk (st := s_composed) l17 c17 k17,
    g_exchanged := PySem.W.mg_of X G a18, F_exchanged := fun_mk (st := s_exchanged) l18 c18 k18,
    g_reversed_condition := PySem.W.mg_of X G a19, F_reversed_condition := fun_mk (st := s_reversed_condition) l19 c19 k19,
    g_shortest_chain := PySem.W.mg_of X G a20, F_shortest_chain := fun_mk (st := s_shortest_chain) l20 c20 k20,
    g_all_rules := PySem.W.mg_of X G a21, F_all_rules := fun_mk (st := s_all_rules) l21 c21 k21,
    g_with_rule := PySem.W.mg_of X G a22, F_with_rule := fun_mk (st := s_with_rule) l22 c22 k22,
    g_law_pool := PySem.W.mg_of X G a23, F_law_pool := fun_mk (st := s_law_pool) l23 c23 k23,
    g_law_draw := PySem.W.mg_of X G a24, F_law_draw := fun_mk (st := s_law_draw) l24 c24 k24,
    g_law_wide := PySem.W.mg_of X G a25, F_law_wide := fun_mk (st := s_law_wide) l25 c25 k25,
    g_law_power := PySem.W.mg_of X G a26, F_law_power := fun_mk (st := s_law_power) l26 c26 k26,
    g_law_word := PySem.W.mg_of X G a27, F_law_word := fun_mk (st := s_law_word) l27 c27 k27,
    g_law_some := PySem.W.mg_of X G a28, F_law_some := fun_mk (st := s_law_some) l28 c28 k28,
    g_law_conds := PySem.W.mg_of X G a29, F_law_conds := fun_mk (st := s_law_conds) l29 c29 k29,
    g_law_kind := PySem.W.mg_of X G a30, F_law_kind := fun_mk (st := s_law_kind) l30 c30 k30,
    g_law_told := PySem.W.mg_of X G a31, F_law_told := fun_mk (st := s_law_told) l31 c31 k31,
    g_law_string_told := PySem.W.mg_of X G a32, F_law_string_told := fun_mk (st := s_law_string_told) l32 c32 k32,
    g_law_words_right := PySem.W.mg_of X G a33, F_law_words_right := fun_mk (st := s_law_words_right) l33 c33 k33,
    g_law_strings_right := PySem.W.mg_of X G a34, F_law_strings_right := fun_mk (st := s_law_strings_right) l34 c34 k34,
    g_law_classes_right := PySem.W.mg_of X G a35, F_law_classes_right := fun_mk (st := s_law_classes_right) l35 c35 k35,
    g_law := PySem.W.mg_of X G a36, F_law := fun_mk (st := s_law) l36 c36 k36,
    gv_OUTCOMES := PySem.W.mg_of X G av_OUTCOMES,
    tv_OUTCOMES := tupK_of lk_OUTCOMES cl_OUTCOMES dt_OUTCOMES el_OUTCOMES,
    gv_CONDITIONS := PySem.W.mg_of X G av_CONDITIONS,
    kt_CONDITIONS := fun P => ktab_of (kus := [("e", .ref pp_CONDITIONS_0), ("ne", .ref pp_CONDITIONS_1), ("l", .ref pp_CONDITIONS_2), ("le", .ref pp_CONDITIONS_3), ("g", .ref pp_CONDITIONS_4), ("ge", .ref pp_CONDITIONS_5), ("b", .ref pp_CONDITIONS_6), ("be", .ref pp_CONDITIONS_7), ("a", .ref pp_CONDITIONS_8), ("ae", .ref pp_CONDITIONS_9), ("same", .ref pp_CONDITIONS_10), ("mixed", .ref pp_CONDITIONS_11)]) lk_CONDITIONS kk_CONDITIONS vl_CONDITIONS (.cons ⟨rfl, rfl⟩ (.cons ⟨rfl, rfl⟩ (.cons ⟨rfl, rfl⟩ (.cons ⟨rfl, rfl⟩ (.cons ⟨rfl, rfl⟩ (.cons ⟨rfl, rfl⟩ (.cons ⟨rfl, rfl⟩ (.cons ⟨rfl, rfl⟩ (.cons ⟨rfl, rfl⟩ (.cons ⟨rfl, rfl⟩ (.cons ⟨rfl, rfl⟩ (.cons ⟨rfl, rfl⟩ (.nil))))))))))))) (show (["e", "ne", "l", "le", "g", "ge", "b", "be", "a", "ae", "same", "mixed"] : List Str).Nodup by decide) lo_CONDITIONS,
    tv_CONDITIONS_0 := tupK_of lk_CONDITIONS_0 cl_CONDITIONS_0 dt_CONDITIONS_0 el_CONDITIONS_0,
    tv_CONDITIONS_1 := tupK_of lk_CONDITIONS_1 cl_CONDITIONS_1 dt_CONDITIONS_1 el_CONDITIONS_1,
    tv_CONDITIONS_2 := tupK_of lk_CONDITIONS_2 cl_CONDITIONS_2 dt_CONDITIONS_2 el_CONDITIONS_2,
    tv_CONDITIONS_3 := tupK_of lk_CONDITIONS_3 cl_CONDITIONS_3 dt_CONDITIONS_3 el_CONDITIONS_3,
    tv_CONDITIONS_4 := tupK_of lk_CONDITIONS_4 cl_CONDITIONS_4 dt_CONDITIONS_4 el_CONDITIONS_4,
    tv_CONDITIONS_5 := tupK_of lk_CONDITIONS_5 cl_CONDITIONS_5 dt_CONDITIONS_5 el_CONDITIONS_5,
    tv_CONDITIONS_6 := tupK_of lk_CONDITIONS_6 cl_CONDITIONS_6 dt_CONDITIONS_6 el_CONDITIONS_6,
    tv_CONDITIONS_7 := tupK_of lk_CONDITIONS_7 cl_CONDITIONS_7 dt_CONDITIONS_7 el_CONDITIONS_7,
    tv_CONDITIONS_8 := tupK_of lk_CONDITIONS_8 cl_CONDITIONS_8 dt_CONDITIONS_8 el_CONDITIONS_8,
    tv_CONDITIONS_9 := tupK_of lk_CONDITIONS_9 cl_CONDITIONS_9 dt_CONDITIONS_9 el_CONDITIONS_9,
    tv_CONDITIONS_10 := tupK_of lk_CONDITIONS_10 cl_CONDITIONS_10 dt_CONDITIONS_10 el_CONDITIONS_10,
    tv_CONDITIONS_11 := tupK_of lk_CONDITIONS_11 cl_CONDITIONS_11 dt_CONDITIONS_11 el_CONDITIONS_11,
    gv_EXCHANGED := PySem.W.mg_of X G av_EXCHANGED,
    kt_EXCHANGED := fun P => ktab_of (kus := [("l", .str "b" tt_EXCHANGED_0), ("le", .str "be" tt_EXCHANGED_1), ("g", .str "a" tt_EXCHANGED_2), ("ge", .str "ae" tt_EXCHANGED_3), ("b", .str "l" tt_EXCHANGED_4), ("be", .str "le" tt_EXCHANGED_5), ("a", .str "g" tt_EXCHANGED_6), ("ae", .str "ge" tt_EXCHANGED_7)]) lk_EXCHANGED kk_EXCHANGED vl_EXCHANGED (.cons ⟨rfl, ⟨_, rfl⟩⟩ (.cons ⟨rfl, ⟨_, rfl⟩⟩ (.cons ⟨rfl, ⟨_, rfl⟩⟩ (.cons ⟨rfl, ⟨_, rfl⟩⟩ (.cons ⟨rfl, ⟨_, rfl⟩⟩ (.cons ⟨rfl, ⟨_, rfl⟩⟩ (.cons ⟨rfl, ⟨_, rfl⟩⟩ (.cons ⟨rfl, ⟨_, rfl⟩⟩ (.nil))))))))) (show (["l", "le", "g", "ge", "b", "be", "a", "ae"] : List Str).Nodup by decide) lo_EXCHANGED,
    gv_REVERSED := PySem.W.mg_of X G av_REVERSED,
    kt_REVERSED := fun P => ktab_of (kus := [("l", .str "g" tt_REVERSED_0), ("le", .str "ge" tt_REVERSED_1), ("g", .str "l" tt_REVERSED_2), ("ge", .str "le" tt_REVERSED_3), ("b", .str "a" tt_REVERSED_4), ("be", .str "ae" tt_REVERSED_5), ("a", .str "b" tt_REVERSED_6), ("ae", .str "be" tt_REVERSED_7)]) lk_REVERSED kk_REVERSED vl_REVERSED (.cons ⟨rfl, ⟨_, rfl⟩⟩ (.cons ⟨rfl, ⟨_, rfl⟩⟩ (.cons ⟨rfl, ⟨_, rfl⟩⟩ (.cons ⟨rfl, ⟨_, rfl⟩⟩ (.cons ⟨rfl, ⟨_, rfl⟩⟩ (.cons ⟨rfl, ⟨_, rfl⟩⟩ (.cons ⟨rfl, ⟨_, rfl⟩⟩ (.cons ⟨rfl, ⟨_, rfl⟩⟩ (.nil))))))))) (show (["l", "le", "g", "ge", "b", "be", "a", "ae"] : List Str).Nodup by decide) lo_REVERSED,
    gc_InvalidWidth := PySem.W.mg_of X G E1_0, er_InvalidWidth := ⟨⟨⟨_, _, _, _, _, _, _, _, _, _, _, _, _, _, _, E2_0, rfl⟩, E3_0, e3_0, E4_0, E5_0⟩, ⟨e1_0, e2_0, e3_0, e4_0, e5_0, sg, st, e6_0⟩, E6_0, E7_0, E8_0⟩, FI_InvalidWidth := fun_mk (st := s_InvalidWidth) E9_0 Ea_0 Eb_0,
    gc_InvalidWords := PySem.W.mg_of X G E1_1, er_InvalidWords := ⟨⟨⟨_, _, _, _, _, _, _, _, _, _, _, _, _, _, _, E2_1, rfl⟩, E3_1, e3_1, E4_1, E5_1⟩, ⟨e1_1, e2_1, e3_1, e4_1, e5_1, sg, st, e6_1⟩, E6_1, E7_1, E8_1⟩, FI_InvalidWords := fun_mk (st := s_InvalidWords) E9_1 Ea_1 Eb_1,
    gc_InvalidOutcome := PySem.W.mg_of X G E1_2, er_InvalidOutcome := ⟨⟨⟨_, _, _, _, _, _, _, _, _, _, _, _, _, _, _, E2_2, rfl⟩, E3_2, e3_2, E4_2, E5_2⟩, ⟨e1_2, e2_2, e3_2, e4_2, e5_2, sg, st, e6_2⟩, E6_2, E7_2, E8_2⟩, FI_InvalidOutcome := fun_mk (st := s_InvalidOutcome) E9_2 Ea_2 Eb_2,
    gc_InvalidCondition := PySem.W.mg_of X G E1_3, er_InvalidCondition := ⟨⟨⟨_, _, _, _, _, _, _, _, _, _, _, _, _, _, _, E2_3, rfl⟩, E3_3, e3_3, E4_3, E5_3⟩, ⟨e1_3, e2_3, e3_3, e4_3, e5_3, sg, st, e6_3⟩, E6_3, E7_3, E8_3⟩, FI_InvalidCondition := fun_mk (st := s_InvalidCondition) E9_3 Ea_3 Eb_3,
    gc_InvalidRanking := PySem.W.mg_of X G E1_4, er_InvalidRanking := ⟨⟨⟨_, _, _, _, _, _, _, _, _, _, _, _, _, _, _, E2_4, rfl⟩, E3_4, e3_4, E4_4, E5_4⟩, ⟨e1_4, e2_4, e3_4, e4_4, e5_4, sg, st, e6_4⟩, E6_4, E7_4, E8_4⟩, FI_InvalidRanking := fun_mk (st := s_InvalidRanking) E9_4 Ea_4 Eb_4,
    gc_InvalidKnowledge := PySem.W.mg_of X G E1_5, er_InvalidKnowledge := ⟨⟨⟨_, _, _, _, _, _, _, _, _, _, _, _, _, _, _, E2_5, rfl⟩, E3_5, e3_5, E4_5, E5_5⟩, ⟨e1_5, e2_5, e3_5, e4_5, e5_5, sg, st, e6_5⟩, E6_5, E7_5, E8_5⟩, FI_InvalidKnowledge := fun_mk (st := s_InvalidKnowledge) E9_5 Ea_5 Eb_5,
    gc_InvalidProgram := PySem.W.mg_of X G E1_6, er_InvalidProgram := ⟨⟨⟨_, _, _, _, _, _, _, _, _, _, _, _, _, _, _, E2_6, rfl⟩, E3_6, e3_6, E4_6, E5_6⟩, ⟨e1_6, e2_6, e3_6, e4_6, e5_6, sg, st, e6_6⟩, E6_6, E7_6, E8_6⟩, FI_InvalidProgram := fun_mk (st := s_InvalidProgram) E9_6 Ea_6 Eb_6,
    gc_InvalidRow := PySem.W.mg_of X G E1_7, er_InvalidRow := ⟨⟨⟨_, _, _, _, _, _, _, _, _, _, _, _, _, _, _, E2_7, rfl⟩, E3_7, e3_7, E4_7, E5_7⟩, ⟨e1_7, e2_7, e3_7, e4_7, e5_7, sg, st, e6_7⟩, E6_7, E7_7, E8_7⟩, FI_InvalidRow := fun_mk (st := s_InvalidRow) E9_7 Ea_7 Eb_7,
    gc_InvalidRegister := PySem.W.mg_of X G E1_8, er_InvalidRegister := ⟨⟨⟨_, _, _, _, _, _, _, _, _, _, _, _, _, _, _, E2_8, rfl⟩, E3_8, e3_8, E4_8, E5_8⟩, ⟨e1_8, e2_8, e3_8, e4_8, e5_8, sg, st, e6_8⟩, E6_8, E7_8, E8_8⟩, FI_InvalidRegister := fun_mk (st := s_InvalidRegister) E9_8 Ea_8 Eb_8,
    gc_InvalidQuery := PySem.W.mg_of X G E1_9, er_InvalidQuery := ⟨⟨⟨_, _, _, _, _, _, _, _, _, _, _, _, _, _, _, E2_9, rfl⟩, E3_9, e3_9, E4_9, E5_9⟩, ⟨e1_9, e2_9, e3_9, e4_9, e5_9, sg, st, e6_9⟩, E6_9, E7_9, E8_9⟩, FI_InvalidQuery := fun_mk (st := s_InvalidQuery) E9_9 Ea_9 Eb_9,
    gc_InvalidTable := PySem.W.mg_of X G E1_10, er_InvalidTable := ⟨⟨⟨_, _, _, _, _, _, _, _, _, _, _, _, _, _, _, E2_10, rfl⟩, E3_10, e3_10, E4_10, E5_10⟩, ⟨e1_10, e2_10, e3_10, e4_10, e5_10, sg, st, e6_10⟩, E6_10, E7_10, E8_10⟩, FI_InvalidTable := fun_mk (st := s_InvalidTable) E9_10 Ea_10 Eb_10,
    gc_InvalidNumber := PySem.W.mg_of X G E1_11, er_InvalidNumber := ⟨⟨⟨_, _, _, _, _, _, _, _, _, _, _, _, _, _, _, E2_11, rfl⟩, E3_11, e3_11, E4_11, E5_11⟩, ⟨e1_11, e2_11, e3_11, e4_11, e5_11, sg, st, e6_11⟩, E6_11, E7_11, E8_11⟩, FI_InvalidNumber := fun_mk (st := s_InvalidNumber) E9_11 Ea_11 Eb_11,
    gc_UnlikeInputs := PySem.W.mg_of X G E1_12, er_UnlikeInputs := ⟨⟨⟨_, _, _, _, _, _, _, _, _, _, _, _, _, _, _, E2_12, rfl⟩, E3_12, e3_12, E4_12, E5_12⟩, ⟨e1_12, e2_12, e3_12, e4_12, e5_12, sg, st, e6_12⟩, E6_12, E7_12, E8_12⟩, FI_UnlikeInputs := fun_mk (st := s_UnlikeInputs) E9_12 Ea_12 Eb_12,
    gc_NothingToUndo := PySem.W.mg_of X G E1_13, er_NothingToUndo := ⟨⟨⟨_, _, _, _, _, _, _, _, _, _, _, _, _, _, _, E2_13, rfl⟩, E3_13, e3_13, E4_13, E5_13⟩, ⟨e1_13, e2_13, e3_13, e4_13, e5_13, sg, st, e6_13⟩, E6_13, E7_13, E8_13⟩, FI_NothingToUndo := fun_mk (st := s_NothingToUndo) E9_13 Ea_13 Eb_13,
    gc_Unreadable := PySem.W.mg_of X G E1_14, er_Unreadable := ⟨⟨⟨_, _, _, _, _, _, _, _, _, _, _, _, _, _, _, E2_14, rfl⟩, E3_14, e3_14, E4_14, E5_14⟩, ⟨e1_14, e2_14, e3_14, e4_14, e5_14, sg, st, e6_14⟩, E6_14, E7_14, E8_14⟩, FI_Unreadable := fun_mk (st := s_Unreadable) E9_14 Ea_14 Eb_14,
    xm_InvalidWidth := xm_0,
    xm_InvalidWords := xm_1,
    xm_InvalidOutcome := xm_2,
    xm_InvalidCondition := xm_3,
    xm_InvalidRanking := xm_4,
    xm_InvalidKnowledge := xm_5,
    xm_InvalidProgram := xm_6,
    xm_InvalidRow := xm_7,
    xm_InvalidRegister := xm_8,
    xm_InvalidQuery := xm_9,
    xm_InvalidTable := xm_10,
    xm_InvalidNumber := xm_11,
    xm_UnlikeInputs := xm_12,
    xm_NothingToUndo := xm_13,
    xm_Unreadable := xm_14,
    gc_BranchError := PySem.W.mg_of X G aB, xb := qB, kb := kB, eb := ⟨e1B, e2B, e3B, e4B, e5B, sg, st, e6B⟩, tab := tab,
    b_ValueError := PySem.W.mg_none_of X G z_ValueError, b_abs := PySem.W.mg_none_of X G z_abs, b_all := PySem.W.mg_none_of X G z_all, b_enumerate := PySem.W.mg_none_of X G z_enumerate, b_int := PySem.W.mg_none_of X G z_int, b_isinstance := PySem.W.mg_none_of X G z_isinstance, b_len := PySem.W.mg_none_of X G z_len, b_list := PySem.W.mg_none_of X G z_list, b_max := PySem.W.mg_none_of X G z_max, b_min := PySem.W.mg_none_of X G z_min, b_range := PySem.W.mg_none_of X G z_range, b_set := PySem.W.mg_none_of X G z_set, b_tuple := PySem.W.mg_none_of X G z_tuple }
  exact ⟨(PySem.W.fnOf "law" "law" (defArgs s_law) (defBody s_law) (defScope s_law) .none kV36 dc36 pm36 an36 cd36 ct36), fun s v => .of_eq rfl, fun base _ _ => ok_law T⟩
theorem walk {l : PySem.W.OpenLaw} {q : Program} {loose : List Str} {XP : (Str → Option Value) → Heap → Prop} {YP : World → Heap → Prop} {d : DefRec} {K : Params → PySem.W.Frag} (hn : l.most = some 63) (hdf : d.params.defaults = [])
    (hY : ∀ (w : World) (h : Heap), YP w h → (K w.params).In h) (F : ∀ (w : World) (mg : Str → Option Value) (fa : Addr) (h : Heap), (K w.params).In h → h.Ns mainGlobals mg → mg d.name = some (.ref fa) →
      ∃ fd : FuncData, (∀ (s : Shared) (u : Value), BindsTo s fd ⟨[u], []⟩ [("script", u)]) ∧ ∀ base : Heap, (K w.params).In base → base.Ns mainGlobals mg → FnOk l.prog w (K w.params) mg base CX0 8 fa fd ["script"] (sp_law (K w.params))) :
    PySem.W.WalkO q loose XP YP l.row.toRowW d [] (fun f vs => PySem.call f vs) :=
  L2.walk_ofK (n := 63) (k := 8) (x := "script") (CX := CX0) (sp := sp_law) hn (by decide) hdf ⟨rfl, by decide, by decide⟩ hY F (fun K H a ns hl _ hS => ⟨a, ns, rfl, hS, hl, fun _ => rfl⟩) fun _ _ _ _ z => z
end BR
open PySem PySem.W PyProof.Rows
set_option maxRecDepth 100000 in
set_option maxHeartbeats 0 in
theorem PySem.Challenge.cw_branchorders_k06_errors_of_words_and_out_holds : PySem.Challenge.rw_branchorders_k06_errors_of_words_and_out.Holds := by
  w_on; o_law; k_head; (case hw => w_witness2)
  k_fill
  refine BR.walk (l := PySem.Challenge.rw_branchorders_k06_errors_of_words_and_out) rfl rfl (fun w h Y => PySem.W.kIn_of Y) ?F
  case F =>
    intro w mg fa h KX G hmg
    refine' BR.all_mk KX G hmg ?a0 ?l0 ?c0 ?k0 ?a1 ?l1 ?c1 ?k1 ?a2 ?l2 ?c2 ?k2 ?a3 ?l3 ?c3 ?k3 ?a4 ?l4 ?c4 ?k4 ?a5 ?l5 ?c5 ?k5 ?a6 ?l6 ?c6 ?k6 ?a7 ?l7 ?c7 ?k7 ?a8 ?l8 ?c8 ?k8 ?a9 ?l9 ?c9 ?k9 ?a10 ?l10 ?c10 ?k10 ?a11 ?l11 ?c11 ?k11 ?a12 ?l12 ?c12 ?k12 ?a13 ?l13 ?c13 ?k13 ?a14 ?l14 ?c14 ?k14 ?a15 ?l15 ?c15 ?k15 ?a16 ?l16 ?c16 ?k16 ?a17 ?l17 ?c17 ?k17 ?a18 ?l18 ?c18 ?k18 ?a19 ?l19 ?c19 ?k19 ?a20 ?l20 ?c20 ?k20 ?a21 ?l21 ?c21 ?k21 ?a22 ?l22 ?c22 ?k22 ?a23 ?l23 ?c23 ?k23 ?a24 ?l24 ?c24 ?k24 ?a25 ?l25 ?c25 ?k25 ?a26 ?l26 ?c26 ?k26 ?a27 ?l27 ?c27 ?k27 ?a28 ?l28 ?c28 ?k28 ?a29 ?l29 ?c29 ?k29 ?a30 ?l30 ?c30 ?k30 ?a31 ?l31 ?c31 ?k31 ?a32 ?l32 ?c32 ?k32 ?a33 ?l33 ?c33 ?k33 ?a34 ?l34 ?c34 ?k34 ?a35 ?l35 ?c35 ?k35 ?a36 ?l36 ?c36 ?k36 ?z_ValueError ?z_abs ?z_all ?z_enumerate ?z_int ?z_isinstance ?z_len ?z_list ?z_max ?z_min ?z_range ?z_set ?z_tuple ?av_OUTCOMES ?lk_OUTCOMES ?cl_OUTCOMES ?dt_OUTCOMES ?el_OUTCOMES ?av_CONDITIONS ?lk_CONDITIONS ?kk_CONDITIONS ?lo_CONDITIONS ?vl_CONDITIONS ?lk_CONDITIONS_0 ?cl_CONDITIONS_0 ?dt_CONDITIONS_0 ?el_CONDITIONS_0 ?lk_CONDITIONS_1 ?cl_CONDITIONS_1 ?dt_CONDITIONS_1 ?el_CONDITIONS_1 ?lk_CONDITIONS_2 ?cl_CONDITIONS_2 ?dt_CONDITIONS_2 ?el_CONDITIONS_2 ?lk_CONDITIONS_3 ?cl_CONDITIONS_3 ?dt_CONDITIONS_3 ?el_CONDITIONS_3 ?lk_CONDITIONS_4 ?cl_CONDITIONS_4 ?dt_CONDITIONS_4 ?el_CONDITIONS_4 ?lk_CONDITIONS_5 ?cl_CONDITIONS_5 ?dt_CONDITIONS_5 ?el_CONDITIONS_5 ?lk_CONDITIONS_6 ?cl_CONDITIONS_6 ?dt_CONDITIONS_6 ?el_CONDITIONS_6 ?lk_CONDITIONS_7 ?cl_CONDITIONS_7 ?dt_CONDITIONS_7 ?el_CONDITIONS_7 ?lk_CONDITIONS_8 ?cl_CONDITIONS_8 ?dt_CONDITIONS_8 ?el_CONDITIONS_8 ?lk_CONDITIONS_9 ?cl_CONDITIONS_9 ?dt_CONDITIONS_9 ?el_CONDITIONS_9 ?lk_CONDITIONS_10 ?cl_CONDITIONS_10 ?dt_CONDITIONS_10 ?el_CONDITIONS_10 ?lk_CONDITIONS_11 ?cl_CONDITIONS_11 ?dt_CONDITIONS_11 ?el_CONDITIONS_11 ?av_EXCHANGED ?lk_EXCHANGED ?kk_EXCHANGED ?lo_EXCHANGED ?vl_EXCHANGED ?av_REVERSED ?lk_REVERSED ?kk_REVERSED ?lo_REVERSED ?vl_REVERSED ?aB ?kB ?qB ?e1B ?e2B ?e3B ?e4B ?e5B ?e6B ?sg ?st ?E1_0 ?E2_0 ?E3_0 ?E4_0 ?E5_0 ?E6_0 ?E7_0 ?E8_0 ?E9_0 ?Ea_0 ?Eb_0 ?e1_0 ?e2_0 ?e3_0 ?e4_0 ?e5_0 ?e6_0 ?E1_1 ?E2_1 ?E3_1 ?E4_1 ?E5_1 ?E6_1 ?E7_1 ?E8_1 ?E9_1 ?Ea_1 ?Eb_1 ?e1_1 ?e2_1 ?e3_1 ?e4_1 ?e5_1 ?e6_1 ?E1_2 ?E2_2 ?E3_2 ?E4_2 ?E5_2 ?E6_2 ?E7_2 ?E8_2 ?E9_2 ?Ea_2 ?Eb_2 ?e1_2 ?e2_2 ?e3_2 ?e4_2 ?e5_2 ?e6_2 ?E1_3 ?E2_3 ?E3_3 ?E4_3 ?E5_3 ?E6_3 ?E7_3 ?E8_3 ?E9_3 ?Ea_3 ?Eb_3 ?e1_3 ?e2_3 ?e3_3 ?e4_3 ?e5_3 ?e6_3 ?E1_4 ?E2_4 ?E3_4 ?E4_4 ?E5_4 ?E6_4 ?E7_4 ?E8_4 ?E9_4 ?Ea_4 ?Eb_4 ?e1_4 ?e2_4 ?e3_4 ?e4_4 ?e5_4 ?e6_4 ?E1_5 ?E2_5 ?E3_5 ?E4_5 ?E5_5 ?E6_5 ?E7_5 ?E8_5 ?E9_5 ?Ea_5 ?Eb_5 ?e1_5 ?e2_5 ?e3_5 ?e4_5 ?e5_5 ?e6_5 ?E1_6 ?E2_6 ?E3_6 ?E4_6 ?E5_6 ?E6_6 ?E7_6 ?E8_6 ?E9_6 ?Ea_6 ?Eb_6 ?e1_6 ?e2_6 ?e3_6 ?e4_6 ?e5_6 ?e6_6 ?E1_7 ?E2_7 ?E3_7 ?E4_7 ?E5_7 ?E6_7 ?E7_7 ?E8_7 ?E9_7 ?Ea_7 ?Eb_7 ?e1_7 ?e2_7 ?e3_7 ?e4_7 ?e5_7 ?e6_7 ?E1_8 ?E2_8 ?E3_8 ?E4_8 ?E5_8 ?E6_8 ?E7_8 ?E8_8 ?E9_8 ?Ea_8 ?Eb_8 ?e1_8 ?e2_8 ?e3_8 ?e4_8 ?e5_8 ?e6_8 ?E1_9 ?E2_9 ?E3_9 ?E4_9 ?E5_9 ?E6_9 ?E7_9 ?E8_9 ?E9_9 ?Ea_9 ?Eb_9 ?e1_9 ?e2_9 ?e3_9 ?e4_9 ?e5_9 ?e6_9 ?E1_10 ?E2_10 ?E3_10 ?E4_10 ?E5_10 ?E6_10 ?E7_10 ?E8_10 ?E9_10 ?Ea_10 ?Eb_10 ?e1_10 ?e2_10 ?e3_10 ?e4_10 ?e5_10 ?e6_10 ?E1_11 ?E2_11 ?E3_11 ?E4_11 ?E5_11 ?E6_11 ?E7_11 ?E8_11 ?E9_11 ?Ea_11 ?Eb_11 ?e1_11 ?e2_11 ?e3_11 ?e4_11 ?e5_11 ?e6_11 ?E1_12 ?E2_12 ?E3_12 ?E4_12 ?E5_12 ?E6_12 ?E7_12 ?E8_12 ?E9_12 ?Ea_12 ?Eb_12 ?e1_12 ?e2_12 ?e3_12 ?e4_12 ?e5_12 ?e6_12 ?E1_13 ?E2_13 ?E3_13 ?E4_13 ?E5_13 ?E6_13 ?E7_13 ?E8_13 ?E9_13 ?Ea_13 ?Eb_13 ?e1_13 ?e2_13 ?e3_13 ?e4_13 ?e5_13 ?e6_13 ?E1_14 ?E2_14 ?E3_14 ?E4_14 ?E5_14 ?E6_14 ?E7_14 ?E8_14 ?E9_14 ?Ea_14 ?Eb_14 ?e1_14 ?e2_14 ?e3_14 ?e4_14 ?e5_14 ?e6_14 ?xm_0 ?xm_1 ?xm_2 ?xm_3 ?xm_4 ?xm_5 ?xm_6 ?xm_7 ?xm_8 ?xm_9 ?xm_10 ?xm_11 ?xm_12 ?xm_13 ?xm_14 ?tab
    (case a0 => k_is)
    (case l0 => k_is)
    (case c0 => k_is)
    (case k0 => k_is)
    (case a1 => k_is)
    (case l1 => k_is)
    (case c1 => k_is)
    (case k1 => k_is)
    (case a2 => k_is)
    (case l2 => k_is)
    (case c2 => k_is)
    (case k2 => k_is)
    (case a3 => k_is)
    (case l3 => k_is)
    (case c3 => k_is)
    (case k3 => k_is)
    (case a4 => k_is)
    (case l4 => k_is)
    (case c4 => k_is)
    (case k4 => k_is)
    (case a5 => k_is)
    (case l5 => k_is)
    (case c5 => k_is)
    (case k5 => k_is)
    (case a6 => k_is)
    (case l6 => k_is)
    (case c6 => k_is)
    (case k6 => k_is)
    (case a7 => k_is)
    (case l7 => k_is)
    (case c7 => k_is)
    (case k7 => k_is)
    (case a8 => k_is)
    (case l8 => k_is)
    (case c8 => k_is)
    (case k8 => k_is)
    (case a9 => k_is)
    (case l9 => k_is)
    (case c9 => k_is)
    (case k9 => k_is)
    (case a10 => k_is)
    (case l10 => k_is)
    (case c10 => k_is)
    (case k10 => k_is)
    (case a11 => k_is)
    (case l11 => k_is)
    (case c11 => k_is)
    (case k11 => k_is)
    (case a12 => k_is)
    (case l12 => k_is)
    (case c12 => k_is)
    (case k12 => k_is)
    (case a13 => k_is)
    (case l13 => k_is)
    (case c13 => k_is)
    (case k13 => k_is)
    (case a14 => k_is)
    (case l14 => k_is)
    (case c14 => k_is)
    (case k14 => k_is)
    (case a15 => k_is)
    (case l15 => k_is)
    (case c15 => k_is)
    (case k15 => k_is)
    (case a16 => k_is)
    (case l16 => k_is)
    (case c16 => k_is)
    (case k16 => k_is)
    (case a17 => k_is)
    (case l17 => k_is)
    (case c17 => k_is)
    (case k17 => k_is)
    (case a18 => k_is)
    (case l18 => k_is)
    (case c18 => k_is)
    (case k18 => k_is)
    (case a19 => k_is)
    (case l19 => k_is)
    (case c19 => k_is)
    (case k19 => k_is)
    (case a20 => k_is)
    (case l20 => k_is)
    (case c20 => k_is)
    (case k20 => k_is)
    (case a21 => k_is)
    (case l21 => k_is)
    (case c21 => k_is)
    (case k21 => k_is)
    (case a22 => k_is)
    (case l22 => k_is)
    (case c22 => k_is)
    (case k22 => k_is)
    (case a23 => k_is)
    (case l23 => k_is)
    (case c23 => k_is)
    (case k23 => k_is)
    (case a24 => k_is)
    (case l24 => k_is)
    (case c24 => k_is)
    (case k24 => k_is)
    (case a25 => k_is)
    (case l25 => k_is)
    (case c25 => k_is)
    (case k25 => k_is)
    (case a26 => k_is)
    (case l26 => k_is)
    (case c26 => k_is)
    (case k26 => k_is)
    (case a27 => k_is)
    (case l27 => k_is)
    (case c27 => k_is)
    (case k27 => k_is)
    (case a28 => k_is)
    (case l28 => k_is)
    (case c28 => k_is)
    (case k28 => k_is)
    (case a29 => k_is)
    (case l29 => k_is)
    (case c29 => k_is)
    (case k29 => k_is)
    (case a30 => k_is)
    (case l30 => k_is)
    (case c30 => k_is)
    (case k30 => k_is)
    (case a31 => k_is)
    (case l31 => k_is)
    (case c31 => k_is)
    (case k31 => k_is)
    (case a32 => k_is)
    (case l32 => k_is)
    (case c32 => k_is)
    (case k32 => k_is)
    (case a33 => k_is)
    (case l33 => k_is)
    (case c33 => k_is)
    (case k33 => k_is)
    (case a34 => k_is)
    (case l34 => k_is)
    (case c34 => k_is)
    (case k34 => k_is)
    (case a35 => k_is)
    (case l35 => k_is)
    (case c35 => k_is)
    (case k35 => k_is)
    (case a36 => k_is)
    (case l36 => k_is)
    (case c36 => k_is)
    (case k36 => k_is)
    (case z_ValueError => k_is)
    (case z_abs => k_is)
    (case z_all => k_is)
    (case z_enumerate => k_is)
    (case z_int => k_is)
    (case z_isinstance => k_is)
    (case z_len => k_is)
    (case z_list => k_is)
    (case z_max => k_is)
    (case z_min => k_is)
    (case z_range => k_is)
    (case z_set => k_is)
    (case z_tuple => k_is)
    (case av_OUTCOMES => k_is)
    (case lk_OUTCOMES => k_is)
    (case cl_OUTCOMES => first | rfl | kernel_rfl | k_is)
    (case dt_OUTCOMES => first | rfl | kernel_rfl | k_is)
    (case el_OUTCOMES => first | rfl | kernel_rfl | k_is)
    (case av_CONDITIONS => k_is)
    (case lk_CONDITIONS => k_is)
    (case kk_CONDITIONS => first | rfl | kernel_rfl | k_is)
    (case lo_CONDITIONS => first | rfl | kernel_rfl | k_is)
    (case vl_CONDITIONS => first | rfl | kernel_rfl | k_is)
    (case lk_CONDITIONS_0 => k_is)
    (case cl_CONDITIONS_0 => first | rfl | kernel_rfl | k_is)
    (case dt_CONDITIONS_0 => first | rfl | kernel_rfl | k_is)
    (case el_CONDITIONS_0 => first | rfl | kernel_rfl | k_is)
    (case lk_CONDITIONS_1 => k_is)
    (case cl_CONDITIONS_1 => first | rfl | kernel_rfl | k_is)
    (case dt_CONDITIONS_1 => first | rfl | kernel_rfl | k_is)
    (case el_CONDITIONS_1 => first | rfl | kernel_rfl | k_is)
    (case lk_CONDITIONS_2 => k_is)
    (case cl_CONDITIONS_2 => first | rfl | kernel_rfl | k_is)
    (case dt_CONDITIONS_2 => first | rfl | kernel_rfl | k_is)
    (case el_CONDITIONS_2 => first | rfl | kernel_rfl | k_is)
    (case lk_CONDITIONS_3 => k_is)
    (case cl_CONDITIONS_3 => first | rfl | kernel_rfl | k_is)
    (case dt_CONDITIONS_3 => first | rfl | kernel_rfl | k_is)
    (case el_CONDITIONS_3 => first | rfl | kernel_rfl | k_is)
    (case lk_CONDITIONS_4 => k_is)
    (case cl_CONDITIONS_4 => first | rfl | kernel_rfl | k_is)
    (case dt_CONDITIONS_4 => first | rfl | kernel_rfl | k_is)
    (case el_CONDITIONS_4 => first | rfl | kernel_rfl | k_is)
    (case lk_CONDITIONS_5 => k_is)
    (case cl_CONDITIONS_5 => first | rfl | kernel_rfl | k_is)
    (case dt_CONDITIONS_5 => first | rfl | kernel_rfl | k_is)
    (case el_CONDITIONS_5 => first | rfl | kernel_rfl | k_is)
    (case lk_CONDITIONS_6 => k_is)
    (case cl_CONDITIONS_6 => first | rfl | kernel_rfl | k_is)
    (case dt_CONDITIONS_6 => first | rfl | kernel_rfl | k_is)
    (case el_CONDITIONS_6 => first | rfl | kernel_rfl | k_is)
    (case lk_CONDITIONS_7 => k_is)
    (case cl_CONDITIONS_7 => first | rfl | kernel_rfl | k_is)
    (case dt_CONDITIONS_7 => first | rfl | kernel_rfl | k_is)
    (case el_CONDITIONS_7 => first | rfl | kernel_rfl | k_is)
    (case lk_CONDITIONS_8 => k_is)
    (case cl_CONDITIONS_8 => first | rfl | kernel_rfl | k_is)
    (case dt_CONDITIONS_8 => first | rfl | kernel_rfl | k_is)
    (case el_CONDITIONS_8 => first | rfl | kernel_rfl | k_is)
    (case lk_CONDITIONS_9 => k_is)
    (case cl_CONDITIONS_9 => first | rfl | kernel_rfl | k_is)
    (case dt_CONDITIONS_9 => first | rfl | kernel_rfl | k_is)
    (case el_CONDITIONS_9 => first | rfl | kernel_rfl | k_is)
    (case lk_CONDITIONS_10 => k_is)
    (case cl_CONDITIONS_10 => first | rfl | kernel_rfl | k_is)
    (case dt_CONDITIONS_10 => first | rfl | kernel_rfl | k_is)
    (case el_CONDITIONS_10 => first | rfl | kernel_rfl | k_is)
    (case lk_CONDITIONS_11 => k_is)
    (case cl_CONDITIONS_11 => first | rfl | kernel_rfl | k_is)
    (case dt_CONDITIONS_11 => first | rfl | kernel_rfl | k_is)
    (case el_CONDITIONS_11 => first | rfl | kernel_rfl | k_is)
    (case av_EXCHANGED => k_is)
    (case lk_EXCHANGED => k_is)
    (case kk_EXCHANGED => first | rfl | kernel_rfl | k_is)
    (case lo_EXCHANGED => first | rfl | kernel_rfl | k_is)
    (case vl_EXCHANGED => first | rfl | kernel_rfl | k_is)
    (case av_REVERSED => k_is)
    (case lk_REVERSED => k_is)
    (case kk_REVERSED => first | rfl | kernel_rfl | k_is)
    (case lo_REVERSED => first | rfl | kernel_rfl | k_is)
    (case vl_REVERSED => first | rfl | kernel_rfl | k_is)
    (case aB => k_is)
    (case kB => k_is)
    (case qB => k_exc)
    (case e1B => k_is)
    (case e2B => k_is)
    (case e3B => k_is)
    (case e4B => k_is)
    (case e5B => k_is)
    (case e6B => k_is)
    (case sg => k_is)
    (case st => k_is)
    (case E1_0 => k_is)
    (case E2_0 => k_is)
    (case E3_0 => k_is)
    (case E4_0 => k_is)
    (case E5_0 => k_is)
    (case E6_0 => k_is)
    (case E7_0 => k_is)
    (case E8_0 => k_is)
    (case E9_0 => k_is)
    (case Ea_0 => k_is)
    (case Eb_0 => k_is)
    (case e1_0 => k_is)
    (case e2_0 => k_is)
    (case e3_0 => k_is)
    (case e4_0 => k_is)
    (case e5_0 => k_is)
    (case e6_0 => k_is)
    (case E1_1 => k_is)
    (case E2_1 => k_is)
    (case E3_1 => k_is)
    (case E4_1 => k_is)
    (case E5_1 => k_is)
    (case E6_1 => k_is)
    (case E7_1 => k_is)
    (case E8_1 => k_is)
    (case E9_1 => k_is)
    (case Ea_1 => k_is)
    (case Eb_1 => k_is)
    (case e1_1 => k_is)
    (case e2_1 => k_is)
    (case e3_1 => k_is)
    (case e4_1 => k_is)
    (case e5_1 => k_is)
    (case e6_1 => k_is)
    (case E1_2 => k_is)
    (case E2_2 => k_is)
    (case E3_2 => k_is)
    (case E4_2 => k_is)
    (case E5_2 => k_is)
    (case E6_2 => k_is)
    (case E7_2 => k_is)
    (case E8_2 => k_is)
    (case E9_2 => k_is)
    (case Ea_2 => k_is)
    (case Eb_2 => k_is)
    (case e1_2 => k_is)
    (case e2_2 => k_is)
    (case e3_2 => k_is)
    (case e4_2 => k_is)
    (case e5_2 => k_is)
    (case e6_2 => k_is)
    (case E1_3 => k_is)
    (case E2_3 => k_is)
    (case E3_3 => k_is)
    (case E4_3 => k_is)
    (case E5_3 => k_is)
    (case E6_3 => k_is)
    (case E7_3 => k_is)
    (case E8_3 => k_is)
    (case E9_3 => k_is)
    (case Ea_3 => k_is)
    (case Eb_3 => k_is)
    (case e1_3 => k_is)
    (case e2_3 => k_is)
    (case e3_3 => k_is)
    (case e4_3 => k_is)
    (case e5_3 => k_is)
    (case e6_3 => k_is)
    (case E1_4 => k_is)
    (case E2_4 => k_is)
    (case E3_4 => k_is)
    (case E4_4 => k_is)
    (case E5_4 => k_is)
    (case E6_4 => k_is)
    (case E7_4 => k_is)
    (case E8_4 => k_is)
    (case E9_4 => k_is)
    (case Ea_4 => k_is)
    (case Eb_4 => k_is)
    (case e1_4 => k_is)
    (case e2_4 => k_is)
    (case e3_4 => k_is)
    (case e4_4 => k_is)
    (case e5_4 => k_is)
    (case e6_4 => k_is)
    (case E1_5 => k_is)
    (case E2_5 => k_is)
    (case E3_5 => k_is)
    (case E4_5 => k_is)
    (case E5_5 => k_is)
    (case E6_5 => k_is)
    (case E7_5 => k_is)
    (case E8_5 => k_is)
    (case E9_5 => k_is)
    (case Ea_5 => k_is)
    (case Eb_5 => k_is)
    (case e1_5 => k_is)
    (case e2_5 => k_is)
    (case e3_5 => k_is)
    (case e4_5 => k_is)
    (case e5_5 => k_is)
    (case e6_5 => k_is)
    (case E1_6 => k_is)
    (case E2_6 => k_is)
    (case E3_6 => k_is)
    (case E4_6 => k_is)
    (case E5_6 => k_is)
    (case E6_6 => k_is)
    (case E7_6 => k_is)
    (case E8_6 => k_is)
    (case E9_6 => k_is)
    (case Ea_6 => k_is)
    (case Eb_6 => k_is)
    (case e1_6 => k_is)
    (case e2_6 => k_is)
    (case e3_6 => k_is)
    (case e4_6 => k_is)
    (case e5_6 => k_is)
    (case e6_6 => k_is)
    (case E1_7 => k_is)
    (case E2_7 => k_is)
    (case E3_7 => k_is)
    (case E4_7 => k_is)
    (case E5_7 => k_is)
    (case E6_7 => k_is)
    (case E7_7 => k_is)
    (case E8_7 => k_is)
    (case E9_7 => k_is)
    (case Ea_7 => k_is)
    (case Eb_7 => k_is)
    (case e1_7 => k_is)
    (case e2_7 => k_is)
    (case e3_7 => k_is)
    (case e4_7 => k_is)
    (case e5_7 => k_is)
    (case e6_7 => k_is)
    (case E1_8 => k_is)
    (case E2_8 => k_is)
    (case E3_8 => k_is)
    (case E4_8 => k_is)
    (case E5_8 => k_is)
    (case E6_8 => k_is)
    (case E7_8 => k_is)
    (case E8_8 => k_is)
    (case E9_8 => k_is)
    (case Ea_8 => k_is)
    (case Eb_8 => k_is)
    (case e1_8 => k_is)
    (case e2_8 => k_is)
    (case e3_8 => k_is)
    (case e4_8 => k_is)
    (case e5_8 => k_is)
    (case e6_8 => k_is)
    (case E1_9 => k_is)
    (case E2_9 => k_is)
    (case E3_9 => k_is)
    (case E4_9 => k_is)
    (case E5_9 => k_is)
    (case E6_9 => k_is)
    (case E7_9 => k_is)
    (case E8_9 => k_is)
    (case E9_9 => k_is)
    (case Ea_9 => k_is)
    (case Eb_9 => k_is)
    (case e1_9 => k_is)
    (case e2_9 => k_is)
    (case e3_9 => k_is)
    (case e4_9 => k_is)
    (case e5_9 => k_is)
    (case e6_9 => k_is)
    (case E1_10 => k_is)
    (case E2_10 => k_is)
    (case E3_10 => k_is)
    (case E4_10 => k_is)
    (case E5_10 => k_is)
    (case E6_10 => k_is)
    (case E7_10 => k_is)
    (case E8_10 => k_is)
    (case E9_10 => k_is)
    (case Ea_10 => k_is)
    (case Eb_10 => k_is)
    (case e1_10 => k_is)
    (case e2_10 => k_is)
    (case e3_10 => k_is)
    (case e4_10 => k_is)
    (case e5_10 => k_is)
    (case e6_10 => k_is)
    (case E1_11 => k_is)
    (case E2_11 => k_is)
    (case E3_11 => k_is)
    (case E4_11 => k_is)
    (case E5_11 => k_is)
    (case E6_11 => k_is)
    (case E7_11 => k_is)
    (case E8_11 => k_is)
    (case E9_11 => k_is)
    (case Ea_11 => k_is)
    (case Eb_11 => k_is)
    (case e1_11 => k_is)
    (case e2_11 => k_is)
    (case e3_11 => k_is)
    (case e4_11 => k_is)
    (case e5_11 => k_is)
    (case e6_11 => k_is)
    (case E1_12 => k_is)
    (case E2_12 => k_is)
    (case E3_12 => k_is)
    (case E4_12 => k_is)
    (case E5_12 => k_is)
    (case E6_12 => k_is)
    (case E7_12 => k_is)
    (case E8_12 => k_is)
    (case E9_12 => k_is)
    (case Ea_12 => k_is)
    (case Eb_12 => k_is)
    (case e1_12 => k_is)
    (case e2_12 => k_is)
    (case e3_12 => k_is)
    (case e4_12 => k_is)
    (case e5_12 => k_is)
    (case e6_12 => k_is)
    (case E1_13 => k_is)
    (case E2_13 => k_is)
    (case E3_13 => k_is)
    (case E4_13 => k_is)
    (case E5_13 => k_is)
    (case E6_13 => k_is)
    (case E7_13 => k_is)
    (case E8_13 => k_is)
    (case E9_13 => k_is)
    (case Ea_13 => k_is)
    (case Eb_13 => k_is)
    (case e1_13 => k_is)
    (case e2_13 => k_is)
    (case e3_13 => k_is)
    (case e4_13 => k_is)
    (case e5_13 => k_is)
    (case e6_13 => k_is)
    (case E1_14 => k_is)
    (case E2_14 => k_is)
    (case E3_14 => k_is)
    (case E4_14 => k_is)
    (case E5_14 => k_is)
    (case E6_14 => k_is)
    (case E7_14 => k_is)
    (case E8_14 => k_is)
    (case E9_14 => k_is)
    (case Ea_14 => k_is)
    (case Eb_14 => k_is)
    (case e1_14 => k_is)
    (case e2_14 => k_is)
    (case e3_14 => k_is)
    (case e4_14 => k_is)
    (case e5_14 => k_is)
    (case e6_14 => k_is)
    (case xm_0 => first | rfl | kernel_rfl | k_is)
    (case xm_1 => first | rfl | kernel_rfl | k_is)
    (case xm_2 => first | rfl | kernel_rfl | k_is)
    (case xm_3 => first | rfl | kernel_rfl | k_is)
    (case xm_4 => first | rfl | kernel_rfl | k_is)
    (case xm_5 => first | rfl | kernel_rfl | k_is)
    (case xm_6 => first | rfl | kernel_rfl | k_is)
    (case xm_7 => first | rfl | kernel_rfl | k_is)
    (case xm_8 => first | rfl | kernel_rfl | k_is)
    (case xm_9 => first | rfl | kernel_rfl | k_is)
    (case xm_10 => first | rfl | kernel_rfl | k_is)
    (case xm_11 => first | rfl | kernel_rfl | k_is)
    (case xm_12 => first | rfl | kernel_rfl | k_is)
    (case xm_13 => first | rfl | kernel_rfl | k_is)
    (case xm_14 => first | rfl | kernel_rfl | k_is)
    (case tab => first | kernel_rfl | decide +kernel)
#print axioms PySem.Challenge.cw_branchorders_k06_errors_of_words_and_out_holds
