import PyProof.Rows.All
import Wide.All
import OpenK.AllK
import Wide.FinOn
import PyProof.ReprRoads
import HandS.ForMost
import HandS.Wide
import HandS.Walk
import KE.GoesEnum
import KE.GoesMore
import PyProof.ReprLen
import PyProof.Rows.RegStrFacts
import HandS.IsInst
import HandS.ExcInit
import HandS.ExcValue
import KE.KExcIs
import KE.KIsAll
import HandS.ExcField
import HandS.ExcIs
import HandS.Evl
import KE.DataFind
import HandS.WordsExc
import HandS.Text
import HandS.More
import HandS.Iter
import HandS.HeadHook3
import HandS.Style
import HandS.Small
import HandS.Strs
import HandS.SetFor
import HandS.Star
import HandS.Conv
import HandS.TupLe
import HandS.TupSets
import HandS.Zip
import KE.DataMinMax
import HandS.Gcd
import HandS.Deep
import HandS.TupAny
import KE.KMathGC
import HandS.StrMore
import HandS.MapJoin
import PySem.Challenge.RW_branchorders_k54_words_in_texts
set_option Elab.async false
set_option linter.all false
set_option maxRecDepth 100000
set_option maxHeartbeats 2000000

namespace BR
open PySem PySem.Spec PyProof.Rows L2
/-! ### own rules: great powers, calls by keywords alone, repr of data where no repr runs, enumerate of a tuple -/
section
variable {X : Cx}
def CPowB (i j : Int) : Prop := 0 ≤ j ∧ (Builtin.Int.intBits i : Int) * j ≤ 2 ^ 27
theorem op_powB : OpR X (binaryOp .Pow) (rI CPowB fun i j => .int (i ^ j.toNat)) :=
  opI fun _ _ _ _ _ _ _ c h => pow_int c.1 c.2 h
theorem powB_of {i j : Int} {a : Nat} (ha : i.natAbs < 2 ^ a) (h0 : 0 < a) (hj : 0 ≤ j) (hz : ((a : Int) + 1) * j ≤ 2 ^ 27) : CPowB i j := by
  refine ⟨hj, Int.le_trans (Int.mul_le_mul_of_nonneg_right ?_ hj) hz⟩
  have e := PySem.Flt.log2_lt_of h0 ha
  have b : Builtin.Int.intBits i ≤ i.natAbs.log2 + 1 := by
    unfold Builtin.Int.intBits
    split
    · exact Nat.zero_le _
    · omega
  omega
end

section
variable {X : Cx} {CX : CXT} {k : Nat} {f : Addr} {fd : FuncData} {ps ks : List Str} {sp : Sp} {E : XK} {x : Str}
/-- f(k = v, ..): keywords alone -/
theorem pe_callK0 {p pos : Pos} {kws : List Keyword} {tk : TA} {g : List Value → List Value → List Value} {gV : List V → List V → List V} (F : FnOk X.prog X.w X.K X.mg X.base CX k f fd ps sp) (room : Room k X.A) (hg : Gl X x)
    (hm : X.mg x = some (.ref f)) (kp : PySem.W.keepIn X.K (.ref f) = true) (b : KBinds X.K fd ps ks g gV) (hx : Passes CX X E) (hkw : PK X kws tk)
    (all1 : (backToKw pos (keywordEach kws X.env)).all (·.1.isSome) = true := by rfl) (nms : (backToKw pos (keywordEach kws X.env)).filterMap (·.1) = ks := by rfl)
    (nodb : (x == ("__debug__" : Str)) = false := by decide) (pl : ((backTo pos (starEach [] X.env)).any (·.1) || (backToKw pos (keywordEach kws X.env)).any (·.1.isNone)) = false := by rfl) :
    PE X (.Call (.Name x p) [] kws pos) (tCallK sp gV E tNil tk) := by
  refine ⟨fun pins s σ H Q I0 hh => ?_⟩
  refine wpAny_Call_Name_kw (ld_glob I0 hg hm ?_ nodb)
  refine PySem.W.callWith_KW0 (h₀ := X.base) I0.ok.mod.kin kp all1 (thn (hkw.run pos pins s σ H _ I0 hh) fun ws s2 ⟨zs, H2, I2, rz, q2⟩ => ?_) pl
  refine ⟨I2.kIn, ?_⟩
  rw [nms]
  exact run_fnk (us := []) (vs := []) F room b hx I2 .nil rz q2
end

/-! ### defs that run where no repr runs -/
structure FnG (P : Program) (w : World) (K : PySem.W.Frag) (mg : Str → Option Value) (base : Heap) (CX : CXT) (k : Nat) (f : Addr) (fd : FuncData) (ps : List Str) (sp : Sp) : Prop where
  ln : ∀ vs H Q E, sp vs H Q E → vs.length = ps.length
  go : ∀ (A : Around) (outer : List Env) (s : Shared) (H : Hp) (args : Args) (us : List Value) (vs : List V) (Q : VK) (E : XK), A.guards = some [] → Room k A → Env0 P w K mg base A outer s H →
    BindsTo s fd args (ps.zip us) → Vals vs us → sp vs H Q E → codeAny (model P w) A (.call (.ref f) args) (CR CX outer P w H s Q E) s
section
variable {P : Program} {w : World} {K : PySem.W.Frag} {mg : Str → Option Value} {base : Heap}
theorem Fun.okG {x qual : Str} {st : Stmt} {f : Addr} {fd : FuncData} {N ps : List Str} {k : Nat} {sp : Sp} (F : Fun K x qual st f fd) (S : FnScope N ps (defScope st)) (ln : ∀ vs H Q E, sp vs H Q E → vs.length = ps.length)
    (body : ∀ (cdv : Value) (A : Around) (outer : List Env) (s : Shared) (H : Hp) (vs : List V) (Q : VK) (E : XK), A.guards = some [] → Room k (A.deeper (envOfC qual (defScope st) s.heap.objs.size f cdv)) → sp vs H Q E →
      ∃ t, PSs (cxOf CX0 P w K mg base N qual (defScope st) f cdv A outer s H E).nox (defBody st) t ∧ t { nx := fun _ H' => Q .non H', rt := Q } (start N vs) H) : FnG P w K mg base CX0 (k + 1) f fd ps sp := by
  obtain ⟨oc, od, kV, doc, pm, an, cdv, ct, osl, rfl, lk, hcd⟩ := F.ex
  refine ⟨ln, fun A outer s H args us vs Q E gg hr e0 hb r hsp => ?_⟩
  have hl := ln _ _ _ _ hsp
  have kin : K.In s.heap := e0.mod.kin.keeps fun b o e => (e0.bs b o e).1
  have nolim : s.heap.NoLimit := e0.mod.nolimit.keeps fun b o e => (e0.bs b o e).1
  have kinds : ∀ y ∈ ps.zip us, (defScope st).names.lookup y.1 = some .local ∨ ((defScope st).names.lookup y.1 = some .cell ∧ ((cellsFrom (s.heap.objs.size + 1) (defScope st).names []).lookup y.1).isSome = true) := by
    rintro ⟨n, v⟩ hy
    rcases S.par n (List.of_mem_zip hy).1 with q | q
    · exact .inl q
    · exact .inr ⟨q, PySem.W.cellsFrom_some _ _ _ (.inl q)⟩
  refine codeAny_call_function hr.depth (kin _ _ lk) rfl S.co S.gen rfl (PySem.W.codeRec_of kin hcd) (hb _ _ _ _ ?_)
  refine wpAny_newFunctionEnv_cells S.kind kinds fun env he s1 xc => ?_
  subst he
  refine ⟨nolim.keeps xc.toInCall.keep, codeAny_func ?_⟩
  obtain ⟨t, ht0, hq⟩ := body cdv A outer s H vs Q E gg (hr.deeper _) hsp
  have ht := ht0.nox
  have I1 := inv_start (CX := CX0) (E := E) S hr.hd e0 hl r xc
  refine wpAny_mono (ht.run [] s1 (start N vs) H _ I1 hq) (fun fl s' hs => ?_) fun e s' hs => hs
  cases fl with
  | ret u =>
    obtain ⟨v, σ', H', J, rv, q⟩ := hs
    exact ⟨v, H', J.os, J.bare, J.base, J.hok, rv, q⟩
  | next =>
    obtain ⟨σ', H', J, q⟩ := hs
    exact ⟨.non, H', J.os, J.bare, J.base, J.hok, rfl, q⟩
  | brk => obtain ⟨_, _, _, q⟩ := hs; exact q.elim
  | cont => obtain ⟨_, _, _, q⟩ := hs; exact q.elim
end
section
variable {X : Cx} {CX : CXT} {k : Nat} {f : Addr} {fd : FuncData} {ps : List Str} {sp : Sp} {E : XK} {x : Str} {ds : List Value} {dvs : List V} {p pos : Pos} {e : Expr} {es : List Expr} {t : TA}
theorem pe_callG (F : FnG X.prog X.w X.K X.mg X.base CX k f fd ps sp) (gg : X.A.guards = some []) (room : Room k X.A) (hg : Gl X x) (hm : X.mg x = some (.ref f)) (kp : PySem.W.keepIn X.K (.ref f) = true)
    (b : Binds X.K fd ps ds) (hd : Vals dvs ds) (hx : Passes CX X E) (args : PA X (e :: es) t) (nodb : (x == ("__debug__" : Str)) = false := by decide)
    (st1 : starEach (e :: es) X.env = (false, eval e X.env) :: starEach es X.env := by rfl) (st2 : (backTo pos (starEach es X.env)).any (·.1) = false := by rfl) :
    PE X (.Call (.Name x p) (e :: es) [] pos) (tCall sp dvs E t) := by
  refine ⟨fun pins s σ H Q I0 hh => ?_⟩
  refine wpAny_Call_Name_kw (ld_glob I0 hg hm ?_ nodb)
  refine PySem.W.callWith_K (h₀ := X.base) I0.ok.mod.kin kp (thn (args.run pos pins s σ H _ I0 hh) ?_) st1 st2
  rintro us s1 ⟨vs, H1, I1, r, q⟩
  refine ⟨I1.kIn, ?_⟩
  have r2 : Vals (vs ++ dvs) (us ++ ds) := r.append hd
  have hl : (us ++ ds).length = ps.length := by rw [← r2.length]; exact F.ln _ _ _ _ q
  refine wpAny_call (codeAny_mono (F.go X.A X.stack s1 H1 ⟨us, []⟩ (us ++ ds) (vs ++ dvs) Q E gg room I1.env0 (b s1 us I1.kIn hl) r2 q) fun res s' hq => ?_)
  cases res with
  | error e => exact hx pins σ H1 s1 e s' I1 hq
  | ok fl =>
    cases fl with
    | ret u => exact I1.after hq
    | next => exact hq.elim
    | brk => exact hq.elim
    | cont => exact hq.elim
/-- repr of a list or tuple of plain data -/
theorem call_reprD (gg : X.A.guards = some []) (hu : X.A.units + 64 < cLine) : CallR X (.builtin "repr") (fun xs H Q => ∃ a d, xs = [.ref a] ∧ Dp X.K H (.ref a) d ∧ d.showable = true ∧ d.hasDict = false ∧ d.depth ≤ 60 ∧ d.shown.length ≤ sizeLine ∧ Q (.str d.shown) H) := by
  rintro pins s σ H xs us Q I r ⟨a, d, rfl, hd, h1, h2, h3, h4, q⟩
  cases r with
  | cons r1 rr =>
    cases rr
    obtain ⟨as, rd⟩ := Dp.reads I d (.ref a) _ hd r1
    cases r1
    refine repr_of_reads' rd h1 (fun z => by rw [h2] at z; cases z) gg (by omega) (fun _ _ z => z) (fun h' u tk hk => ?_) h4
    exact ⟨.str d.shown, H, I.kept (t' := tk) hk, ⟨u, rfl⟩, q⟩
end
end BR

namespace BR
open PySem PySem.Spec PyProof.Rows L2
/-! ### a law's end for such defs -/
theorem law_callG {P : Program} {w : World} {K : PySem.W.Frag} {mg mb : Str → Option Value} {k : Nat} {fa a : Addr} {fd : FuncData} {x : Str} {sp : Sp} {s₁ : Shared} {vs : List Value} {ns : List Int}
    (kin : K.In s₁.heap) (hns : s₁.heap.Ns mainGlobals mg) (hb : s₁.heap.Ns builtinsNs mb) (hbb : ∀ y : Str, y ≠ "__name__" → mb y = bootBuiltins y) (nolim : s₁.heap.NoLimit) (nogen : s₁.gens = #[])
    (ha : s₁.heap.get? a = some { cls := .type "list", data := .seq vs.toArray }) (hi : IntsAre vs ns) (hl : ns.length ≤ sizeLine) (hr : Room k callerA)
    (F : ∀ base : Heap, K.In base → base.Ns mainGlobals mg → FnG P w K mg base CX0 k fa fd [x] sp) (hbind : ∀ (s : Shared) (u : Value), BindsTo s fd ⟨[u], []⟩ [(x, u)])
    (hsp : ∀ H : Hp, Only H → SqL K H a (ns.map V.int) → sp [.ref a] H (fun v _ => v = .bl true) fun _ _ _ => False) :
    codeAny (model P w) callerA (.call (.ref fa) ⟨[.ref a], []⟩) (fun r s' => r = .ok (.ret (.bool true)) ∧ OldK s₁.heap s'.heap ∧ s'.os = s₁.os ∧ AllBare s'.gens) s₁ := by
  have rv := vals_ints hi
  have lenV := hi.length
  have core : ∀ H : Hp, Only H → SqL K H a (ns.map V.int) → HOk P w H s₁.heap → (∀ b, H b ≠ none → b = a) → (H a ≠ none → K.lookup a = none) →
      codeAny (model P w) callerA (.call (.ref fa) ⟨[.ref a], []⟩) (fun r s' => r = .ok (.ret (.bool true)) ∧ OldK s₁.heap s'.heap ∧ s'.os = s₁.os ∧ AllBare s'.gens) s₁ := by
    intro H only sq hok hA hK
    have isA : ∀ {b : Addr} {u : HO}, H b = some u → b = a := fun {b u} q => hA b (by rw [q]; exact fun z => nomatch z)
    have hid : ∀ {b : Addr} {o : Obj}, s₁.heap.get? b = some o → H b = none → (hidT s₁.heap H).get? b = some o := fun e n => hidT_get e n
    have noA : ∀ {b : Addr} {o : Obj} {es : Array DictEntry} {ep : Nat}, s₁.heap.get? b = some o → o.data = .dict es ep → H b = none := by
      intro b o es ep e d
      cases q : H b with
      | none => rfl
      | some u =>
        have eb := isA q
        subst eb
        rw [ha] at e
        cases e
        exact absurd (show Data.seq vs.toArray _ = Data.dict es ep from d) (by intro z; cases z)
    have nsK : ∀ {b : Addr} {m : Str → Option Value}, s₁.heap.Ns b m → (hidT s₁.heap H).Ns b m := by
      rintro b m ⟨o, es, ep, e, d, r⟩
      exact ⟨o, es, ep, hid e (noA e d), d, r⟩
    have kinB : K.In (hidT s₁.heap H) := by
      intro b o e
      refine hid (kin b o e) ?_
      cases q : H b with
      | none => rfl
      | some u =>
        have eb := isA q
        subst eb
        rw [hK (by rw [q]; exact fun z => nomatch z)] at e
        cases e
    obtain ⟨mc, l1, l2⟩ := nolim
    have md : Mod K mg (hidT s₁.heap H) := ⟨kinB, nsK hns, ⟨mb, nsK hb, hbb⟩, ⟨mc, nsK l1, l2⟩⟩
    have e0 : Env0 P w K mg (hidT s₁.heap H) callerA [] s₁ H := ⟨rfl, md, fun b o e => of_hidT e, Nat.le_of_eq (hidT_size _ _), trivial, fun b z => absurd (show b ∈ ([] : List Addr) from z) (by simp), hok, .of_eq nogen⟩
    refine codeAny_mono ((F _ kinB (nsK hns)).go callerA [] s₁ H ⟨[.ref a], []⟩ [.ref a] [.ref a] _ _ rfl hr e0 (hbind s₁ (.ref a)) (.cons rfl .nil) (hsp H only sq)) fun r s' hh => ?_
    cases r with
    | error e => exact False.elim hh
    | ok fl =>
      cases fl with
      | next => exact hh.elim
      | brk => exact hh.elim
      | cont => exact hh.elim
      | ret u =>
        obtain ⟨v, H', os, bare, un, hok', r', q⟩ := hh
        obtain rfl : v = V.bl true := q
        obtain rfl : u = Value.bool true := r'
        refine ⟨rfl, OldK.of_keep fun b o e => ?_, os, bare⟩
        cases q : H b with
        | none => exact un.keep b o e q (fun z => absurd (show b ∈ ([] : List Addr) from z) (by simp)) (by simp)
        | some u =>
          rcases only b with z | ⟨ob, xs, z⟩
          · rw [q] at z; cases z
          · obtain ⟨e1, _⟩ := hok b _ z
            obtain ⟨e2, _⟩ := hok' b _ (un.frzs b ob _ z)
            rw [e] at e1
            cases e1
            exact e2
  cases hk : K.lookup a with
  | some o =>
    have e := kin a o hk
    rw [ha] at e
    cases e
    exact core (fun _ => none) (fun _ => .inl rfl) (.inr ⟨_, vs.toArray, _, hk, rfl, rfl, rfl, by rw [List.size_toArray, lenV]; exact hl, by simpa using rv⟩) (fun b u z => nomatch (show (none : Option HO) = some u from z)) (fun b z => absurd rfl z) fun z => absurd rfl z
  | none =>
    refine core (fun b => if b = a then some (.frz { cls := .type "list", data := .seq vs.toArray } (.lst (ns.map V.int))) else none) (fun b => ?_) (.inl (.inr ⟨_, if_pos rfl⟩)) (fun b u z => ?_) (fun b z => ?_) fun _ => hk
    · by_cases hb : b = a
      · exact .inr ⟨_, _, if_pos hb⟩
      · exact .inl (if_neg hb)
    · have z1 : (if b = a then some (HO.frz { cls := .type "list", data := .seq vs.toArray } (.lst (ns.map V.int))) else none) = some u := z
      by_cases hb : b = a
      · subst hb
        rw [if_pos rfl] at z1
        cases z1
        refine ⟨ha, ?_, vs, _, rv, ha⟩
        rw [List.length_map]
        exact hl
      · rw [if_neg hb] at z1
        cases z1
    · refine Decidable.byContradiction fun hb => z ?_
      exact if_neg hb
theorem walk_ofG {l : PySem.W.OpenLaw} {n k : Nat} {q : Program} {loose : List Str} {XP : (Str → Option Value) → Heap → Prop} {YP : World → Heap → Prop} {d : DefRec} {K : Params → PySem.W.Frag} {sp : PySem.W.Frag → Sp} {x : Str}
    (most : l.most = some n) (small : n ≤ sizeLine) (nodef : d.params.defaults = []) (hr : Room k callerA) (hY : ∀ (w : World) (h : Heap), YP w h → (K w.params).In h)
    (F : ∀ (w : World) (mg : Str → Option Value) (fa : Addr) (h : Heap), (K w.params).In h → h.Ns mainGlobals mg → mg d.name = some (.ref fa) → ∃ fd : FuncData, (∀ (s : Shared) (u : Value), BindsTo s fd ⟨[u], []⟩ [(x, u)]) ∧
      ∀ base : Heap, (K w.params).In base → base.Ns mainGlobals mg → FnG l.prog w (K w.params) mg base CX0 k fa fd [x] (sp (K w.params)))
    (hsp : ∀ (K : PySem.W.Frag) (H : Hp) (a : Addr) (ns : List Int), ns.length ≤ n → Only H → SqL K H a (ns.map V.int) → sp K [.ref a] H (fun v _ => v = .bl true) fun _ _ _ => False) :
    PySem.W.WalkO q loose XP YP l.row.toRowW d [] (fun f vs => PySem.call f vs) := by
  refine Att.attach_call most nodef fun w s₀ s₁ mg mb fa o pm cd doc a vs ns G Y ho hd hcd hmg hobj hints hlen hg => ?_
  have kin := hY w _ Y
  obtain ⟨fd, bnd, ok⟩ := F w mg fa _ kin G.T.g hmg
  exact law_callG kin G.T.g G.T.b G.T.builtins G.T.nolimit hg hobj hints (Nat.le_trans hlen small) hr ok bnd fun H only sq => hsp _ H a ns hlen only sq
/-! ### for i, x in enumerate(t), t a tuple -/
set_option maxHeartbeats 4000000 in
theorem meets_enumT (l : Addr) (items : Array Value) (n : Nat) (dct : Option Addr) (sl : Array (Option Value)) :
    Meets (Builtin.«enumerate.__new__» ⟨[.type "enumerate", .ref l], []⟩) (fun _ R s => s.heap.get? l = some { cls := .type "tuple", dict := dct, data := .seq items n, slots := sl } ∧
      R (.ok (.ret (.ref (s.heap.push { cls := .type "tuple_iterator", data := .fields #[.ref l, .int 0 0] }).objs.size)))
        { s with heap := (s.heap.push { cls := .type "tuple_iterator", data := .fields #[.ref l, .int 0 0] }).push { cls := .type "enumerate", data := .fields #[.none, .bool false, .ref s.heap.objs.size, rawInt 0, .none, .none] } }) :=
  .of_wp fun prog w A R s hh => by
    obtain ⟨hp, g, d, tk, os⟩ := s
    obtain ⟨hl, hh⟩ := hh
    have sub := sub_enumerate
    have isT : Heap.IsTuple (Shared.heap ⟨hp, g, d, tk, os⟩) l items := ⟨_, hl, rfl, n, rfl⟩
    wp_walk using AutoSeq1.wpAny_loadPart' hl
    refine wpAny_stack_any fun st0 => wpAny_pure ?_
    split
    · rename_i c _ _ _ _ _
      cases (c == Value.type "enumerate")
      · wp_walk using AutoSeq1.wpAny_loadPart' hl, wpAny_pyIter_tuple isT
        exact ⟨_, rfl, hh⟩
      · wp_walk using AutoSeq1.wpAny_loadPart' hl, wpAny_pyIter_tuple isT
        exact ⟨_, rfl, hh⟩
    · wp_walk using AutoSeq1.wpAny_loadPart' hl, wpAny_pyIter_tuple isT
      exact ⟨_, rfl, hh⟩
section
variable {prog : Program} {w : World} {A : Around} {E : Value → Shared → Prop} {s : Shared}
theorem call_enumT {l : Addr} {items : Array Value} {Q : Value → Shared → Prop} (isT : s.heap.IsTuple l items)
    (hh : ∀ h', IsEnum h' (s.heap.objs.size + 1) s.heap.objs.size 0 .none → h'.IsTupleIter s.heap.objs.size l 0 → h'.objs.size = s.heap.objs.size + 2 →
      (∀ b o, s.heap.get? b = some o → h'.get? b = some o) → Q (.ref (s.heap.objs.size + 1)) { s with heap := h' }) :
    wpAny (model prog w) A (call (.type "enumerate") [.ref l]) Q E s := by
  obtain ⟨⟨c, dct, dt, sl⟩, hl, hc, n, hd⟩ := isT
  obtain rfl : c = .type "tuple" := hc
  obtain rfl : dt = .seq items n := hd
  refine callType_new F.called_enumerate (by decide) (F.typeCall_enumerate_1 _) (F.newCall_enumerate_1 _) (fun obj => F.args_object_init_2 obj _) F.entry_enumerate_new (meets_enumT l items n dct sl) ⟨hl, ?_⟩
  generalize hI : s.heap.push { cls := .type "tuple_iterator", data := .fields #[.ref l, .int 0 0] } = h1
  have sz : h1.objs.size = s.heap.objs.size + 1 := by rw [← hI]; exact Heap.size_push ..
  show _ ∧ _
  rw [sz]
  have he : IsEnum (h1.push { cls := .type "enumerate", data := .fields #[.none, .bool false, .ref s.heap.objs.size, rawInt 0, .none, .none] }) (s.heap.objs.size + 1) s.heap.objs.size 0 .none := by
    have e := Heap.get?_push_size h1 (o := { cls := .type "enumerate", data := .fields #[.none, .bool false, .ref s.heap.objs.size, rawInt 0, .none, .none] }) rfl
    rw [sz] at e
    exact e
  refine ⟨⟨_, he, rfl⟩, hh _ he ⟨_, Heap.get?_push_of_some _ (by rw [← hI]; exact Heap.get?_push_size _ rfl), rfl, rfl⟩ (by rw [Heap.size_push, sz]) fun b o e => Heap.get?_push_of_some _ ?_⟩
  rw [← hI]
  exact Heap.get?_push_of_some _ e
end
end BR

namespace BR
open PySem PySem.Spec PyProof.Rows L2
def IteT (K : PySem.W.Frag) (a : Addr) (xs : List V) : It :=
  ⟨fun i H => SqT K H a xs ∧ i < xs.length, fun i H v H' => ∃ T x, v = .ref T ∧ H T = none ∧ H' = upd H T (.tup [.int (i : Nat), x]) ∧ xs[i]? = some x, fun i H => SqT K H a xs ∧ xs.length ≤ i⟩
theorem diff_cls {h : Heap} {a b : Addr} {o u : Obj} {c d : String} (h1 : h.get? a = some o) (h2 : h.get? b = some u) (e1 : o.cls = .type c) (e2 : u.cls = .type d) (ne : c ≠ d) : a ≠ b := by
  rintro rfl
  rw [h1] at h2
  cases h2
  rw [e1] at e2
  cases e2
  exact ne rfl
theorem turn_enumT {P : Program} {w : World} {K : PySem.W.Frag} {elts : List Expr} {kk : Nat} {tpos : Pos} (a e it : Addr) (xs : List V) :
    Turn P w K (.Tuple elts kk tpos) (IteT K a xs) [e, it] e (fun i h => (∃ old, IsEnum h e it ((i : Nat) : Int) old) ∧ h.IsTupleIter it a i ∧ e ≠ it ∧ i ≤ xs.length) where
  mem := by simp
  obj := by
    rintro i h ⟨⟨old, he⟩, ⟨o, ho, hc, hd⟩, _⟩ b hb
    rcases List.mem_cons.mp hb with rfl | hb
    · exact ⟨_, he, fun v q => nomatch q⟩
    · obtain rfl := List.mem_singleton.mp hb
      exact ⟨o, ho, fun v q => by rw [hd] at q; cases q⟩
  keep := by
    rintro i h h' ⟨⟨old, he⟩, hi, hne, hz⟩ k
    exact ⟨⟨old, k e (by simp) _ he⟩, hi.at fun o q => k it (by simp) o q, hne, hz⟩
  item := by
    intro X hP hw hK hc i pins s σ H E I hf st hg
    subst hP hw hK
    obtain ⟨⟨old, he⟩, hit, hne, hz⟩ := st
    obtain ⟨hq, hlt⟩ := hg
    obtain ⟨its, rv, isT, _⟩ := I.tuple hq
    have hl := rv.length
    obtain ⟨ot, hot, hct, _⟩ := id isT
    obtain ⟨oi, hoi, hci, _⟩ := id hit
    have nta : it ≠ a := diff_cls hoi hot hci hct (by decide)
    have nea : e ≠ a := diff_cls he hot rfl hct (by decide)
    have hel : e < s.heap.objs.size := Heap.lt_size he
    have hil : it < s.heap.objs.size := Heap.lt_size hoi
    have D := Draws.tuple (prog := X.prog) (w := X.w) (A := X.A.in1) (show X.A.in1.handled = none from I.ok.hd hc) it a (Ne.symm nta) its.toArray
    refine wpAny_pyNext_enum_itemD D he ⟨hit, isT⟩ (by simp; omega) hne (by simp [hne, nea]) fun x h' tk hx ho hit' hT hsz hk => ?_
    obtain ⟨hit1, isT1⟩ := hit'
    refine ⟨_, rfl, wpAny_letOwnedTupleGo_enum (s := { s with heap := h', toks := tk + 1 }) ho fun h2 he2 sb => ?_⟩
    have hT2 : h2.get? s.heap.objs.size = some { cls := .type "tuple", data := .seq #[.int i tk, x] } := (sb.2 _ (Nat.ne_of_gt hel)).trans hT
    have hxi : i < its.length := by omega
    obtain ⟨y, hy, ry⟩ : ∃ y, xs[i]? = some y ∧ RelV y x := by
      have e1 : xs[i]? = some xs[i] := by simp [hlt]
      obtain ⟨u, hu, ru⟩ := rv.get e1
      have e2 : its[i]? = some x := by simpa using hx
      rw [e2] at hu
      cases hu
      exact ⟨_, e1, ru⟩
    have new : ObjOk X.prog X.w (upd H s.heap.objs.size (.tup [.int (i : Nat), y])) h2 s.heap.objs.size (.tup [.int (i : Nat), y]) :=
      ⟨by show 2 ≤ sizeLine; decide, [.int i tk, x], .cons ⟨_, rfl⟩ (.cons ry .nil), ⟨_, hT2, rfl, _, rfl⟩⟩
    have I1 : Inv X pins σ (upd H s.heap.objs.size (.tup [.int (i : Nat), y])) { s with heap := h2, toks := tk + 1 } := by
      refine I.turnedNew (ch := [e, it]) (fun b ob hb q => ?_) hf (Nat.le_refl _) new
      have b1 : b ≠ e := fun z => hb (by simp [z])
      exact (sb.2 b b1).trans (hk b ob b1 (fun z => hb (by simp [z])) q)
    refine ⟨.ref s.heap.objs.size, _, I1, rfl, ⟨_, y, rfl, I.hok.fresh (Nat.le_refl _), rfl, hy⟩, ⟨⟨x, ?_⟩, hit1.at fun o q => (sb.2 it (Ne.symm hne)).trans q, hne, hlt⟩, fun b hb => ?_⟩
    · have e1 : ((i + 1 : Nat) : Int) = (i : Int) + 1 := by omega
      rw [e1]
      exact he2
    · have hb' : b < s.heap.objs.size := by
        rcases List.mem_cons.mp hb with rfl | hb
        · exact hel
        · obtain rfl := List.mem_singleton.mp hb
          exact hil
      rw [upd_ne (Nat.ne_of_lt hb')]
      exact (hf b hb).1
  done := by
    intro X hP hw hK hc i pins s σ H E I hf st hg
    subst hP hw hK
    obtain ⟨⟨old, he⟩, hit, hne, hz⟩ := st
    obtain ⟨hq, hge⟩ := hg
    obtain ⟨its, rv, isT, _⟩ := I.tuple hq
    have hl := rv.length
    obtain rfl : i = its.toArray.size := by simp; omega
    obtain ⟨ot, hot, hct, _⟩ := id isT
    obtain ⟨oi, hoi, hci, _⟩ := id hit
    have nta : it ≠ a := diff_cls hoi hot hci hct (by decide)
    have D := Draws.tuple (prog := X.prog) (w := X.w) (A := X.A.in1) (show X.A.in1.handled = none from I.ok.hd hc) it a (Ne.symm nta) its.toArray
    obtain ⟨f0, f1, f2, f3, f4, f5⟩ := hf it (by simp)
    exact wpAny_pyNext_enum_endD D he ⟨hit, isT⟩ fun h' eb => ⟨rfl, I.turned (t' := s.toks) (fun b o hb q => eb b o hb q) f0 f1 f3 f4 f5⟩
  self := fun A i s Q E st h => let ⟨⟨_, he⟩, _⟩ := st; wpAny_pyIter_enum he h
def iEnumT (K : PySem.W.Frag) (ta : TA) : TI := fun σ H R => ta σ H fun vs H1 => ∃ a xs, vs = [.ref a] ∧ SqT K H1 a xs ∧ R (IteT K a xs) H1
theorem pi_enumT {X : Cx} {e : Expr} {ta : TA} {p pos tpos : Pos} {elts : List Expr} {kk : Nat} (hg : Gl X "enumerate") (hm : X.mg "enumerate" = none) (args : PA X [e] ta) (st1 : starEach [e] X.env = [(false, eval e X.env)] := by rfl) :
    PI X (.Tuple elts kk tpos) (.Call (.Name "enumerate" p) [e] [] pos) (iEnumT X.K ta) := by
  refine ⟨fun pins s σ H R I h => ?_⟩
  refine Call_ (ld_blt I hg hm boot_enumerate (PyProof.Rows.callWith_type1 (thn (args.run pos pins s σ H _ I h) ?_) st1 rfl))
  rintro us s1 ⟨vs, H1, I1, r1, a, xs, rfl, hq, q⟩
  cases r1 with
  | cons r rr =>
    cases rr
    cases r
    obtain ⟨its, rv, isT, hz⟩ := I1.tuple hq
    refine call_enumT isT fun h' he hit hsz hk => wpAny_pyIter_enum he ?_
    have I2 : Inv X pins σ H1 { s1 with heap := h' } := I1.kept (t' := s1.toks) hk
    refine ⟨s1.heap.objs.size + 1, [s1.heap.objs.size + 1, s1.heap.objs.size], _, _, H1, rfl, I2, turn_enumT a (s1.heap.objs.size + 1) s1.heap.objs.size xs, ⟨⟨.none, he⟩, hit, Nat.succ_ne_self _, Nat.zero_le _⟩, fun b hb => ?_, q⟩
    have hle : s1.heap.objs.size ≤ b := by
      rcases List.mem_cons.mp hb with rfl | hb
      · exact Nat.le_add_right _ _
      · obtain rfl := List.mem_singleton.mp hb
        exact Nat.le_refl _
    exact I1.fpOk hle (I1.hok.fresh hle)
theorem walk_enumT {K : PySem.W.Frag} {a : Addr} {xs : List V} : Walk (IteT K a xs) xs.length (fun H => SqT K H a xs) (YPair (fun i => some (.int (i : Nat))) (fun i => xs[i]?)) := by
  refine ⟨fun i _ hi q => ⟨q, hi⟩, fun _ q => ⟨q, Nat.le_refl _⟩, ?_⟩
  rintro i H v H' _ q ⟨T, x, h1, h2, h3, h4⟩
  exact ⟨T, .int (i : Nat), x, h1, h2, h3, rfl, h4⟩
end BR

namespace BR
open PySem PySem.Spec PyProof.Rows L2
/-! ### the draws' pool, heaps, words -/
theorem tT {c : Bool} {A B : Prop} (hc : c = true) (h : A) : if c = true then A else B := by
  rw [if_pos hc]
  exact h
theorem tF {c : Bool} {A B : Prop} (hc : c = false) (h : B) : if c = true then A else B := by
  rw [hc, if_neg Bool.false_ne_true]
  exact h
theorem sameNew {H : Hp} {p : Addr} {o : HO} (h : H p = none) : Same H (upd H p o) := fun b u e => by
  rw [upd_ne (ne_of_none e h)]
  exact e
theorem sameT {K : PySem.W.Frag} {H H' : Hp} {a : Addr} {xs : List V} (e : Same H H') (h : SqT K H a xs) : SqT K H' a xs := by
  rcases h with (h | ⟨o, h⟩) | h
  · exact .inl (.inl (e _ _ h))
  · exact .inl (.inr ⟨o, e _ _ h⟩)
  · exact .inr h
theorem map_at {xs : List Int} {i : Nat} {v : V} (h : (xs.map V.int)[i]? = some v) : ∃ z, xs[i]? = some z ∧ v = V.int z := by
  rw [List.getElem?_map] at h
  cases e : xs[i]? with
  | none => rw [e] at h; cases h
  | some z => rw [e] at h; exact ⟨z, rfl, (Option.some.inj h).symm⟩
/-- all but p as it was -/
def But (p : Addr) (H H' : Hp) : Prop := ∀ b o, b ≠ p → H b = some o → H' b = some o
theorem But.refl {p : Addr} (H : Hp) : But p H H := fun _ _ _ e => e
theorem But.trans {p : Addr} {H H1 H2 : Hp} (a : But p H H1) (b : But p H1 H2) : But p H H2 := fun c o n e => b c o n (a c o n e)
theorem But.of {p : Addr} {H H' : Hp} (s : Same H H') : But p H H' := fun b o _ e => s b o e
theorem But.upd {p : Addr} {H : Hp} {o : HO} : But p H (upd H p o) := fun b u n e => by
  rw [upd_ne n]
  exact e
theorem But.new {p q : Addr} {H : Hp} {o : HO} (h : H q = none) : But p H (L2.upd H q o) := But.of (sameNew h)
/-- the pool at p, not more than n numbers mixed -/
def Pool (H : Hp) (p : Addr) (n : Nat) : Prop := ∃ g b c : Int, H p = some (.lst [.int g, .int b, .int c]) ∧ 0 ≤ g ∧ 0 ≤ b ∧ b < 2 ^ 62 ∧ 0 ≤ c ∧ c ≤ (n : Int)
theorem Pool.same {H H' : Hp} {p : Addr} {n : Nat} (h : Pool H p n) (s : Same H H') : Pool H' p n := by
  obtain ⟨g, b, c, e, r⟩ := h
  exact ⟨g, b, c, s _ _ e, r⟩
theorem Pool.mono {H : Hp} {p : Addr} {n m : Nat} (h : Pool H p n) (l : n ≤ m) : Pool H p m := by
  obtain ⟨g, b, c, e, r1, r2, r3, r4, r5⟩ := h
  exact ⟨g, b, c, e, r1, r2, r3, r4, by omega⟩
theorem Pool.new {H : Hp} {p q : Addr} {o : HO} {n : Nat} (h : Pool H p n) (hq : H q = none) : Pool (L2.upd H q o) p n := h.same (sameNew hq)
theorem Pool.ne {H : Hp} {p q : Addr} {n : Nat} (h : Pool H p n) (hq : H q = none) : q ≠ p := by
  obtain ⟨g, b, c, e, _⟩ := h
  exact (ne_of_none e hq).symm
theorem Pool.put {H : Hp} {p q : Addr} {o : HO} {n : Nat} (h : Pool H p n) (nq : q ≠ p) : Pool (L2.upd H q o) p n := by
  obtain ⟨g, b, c, e, r⟩ := h
  exact ⟨g, b, c, by rw [upd_ne nq.symm]; exact e, r⟩
theorem pow_pos (n : Nat) : (0 : Int) < 2 ^ n := by
  have h : (2 : Int) ^ n = ((2 ^ n : Nat) : Int) := by norm_cast
  rw [h]
  have := Nat.two_pow_pos n
  omega
theorem pow_lt {a b : Nat} (h : a < b) : (2 : Int) ^ a < 2 ^ b := by
  have h1 : (2 : Int) ^ a = ((2 ^ a : Nat) : Int) := by norm_cast
  have h2 : (2 : Int) ^ b = ((2 ^ b : Nat) : Int) := by norm_cast
  have h3 : 2 ^ a < 2 ^ b := Nat.pow_lt_pow_right (by decide) h
  rw [h1, h2]
  omega
theorem log_ok {m : Int} (h0 : 0 < m) (h1 : m < 2 ^ 400) : m.natAbs.log2 < 9000 := by
  have h : m.natAbs < 2 ^ 400 := by
    have e : ((2 : Int) ^ 400) = ((2 ^ 400 : Nat) : Int) := by norm_cast
    rw [e] at h1
    omega
  exact Nat.lt_of_lt_of_le (PySem.Flt.log2_lt_of (by decide) h) (by decide)
/-- signed value, outcome -/
def sv (wd x : Int) : Int := if (2 : Int) ^ (wd - 1).toNat ≤ x then x - 2 ^ wd.toNat else x
def oc (wd x y : Int) : Str := if x = y then "E" else if sv wd x < sv wd y then (if x < y then "LB" else "LA") else (if x < y then "GB" else "GA")
theorem oc_short (wd x y : Int) : (oc wd x y).length ≤ 2 := by
  unfold oc
  split
  · decide +kernel
  · split <;> split <;> decide +kernel
theorem ints_all {K : PySem.W.Frag} {H : Hp} : ∀ xs : List Int, DpAll K H (xs.map V.int) (xs.map PyData.int)
  | [] => .nil
  | x :: r => .cons (.int x) (ints_all r)
theorem ints_lay : ∀ xs : List Int, PyData.canLayAll0 (xs.map PyData.int) = true ∧ PyData.depthAll (xs.map PyData.int) = 0
  | [] => ⟨rfl, rfl⟩
  | x :: r => by
    obtain ⟨h1, h2⟩ := ints_lay r
    refine ⟨?_, ?_⟩
    · show (PyData.canLay0 (.int x) && PyData.canLayAll0 (r.map PyData.int)) = true
      rw [h1]
      rfl
    · show max (PyData.depth (.int x)) (PyData.depthAll (r.map PyData.int)) = 0
      rw [h2]
      rfl
theorem ints_shaped (xs : List Int) : SeqAt.shaped (.list (xs.map PyData.int)) = true := by
  obtain ⟨h1, h2⟩ := ints_lay xs
  unfold SeqAt.shaped
  show (PyData.canLayAll0 (xs.map PyData.int) && decide (PyData.depthAll (xs.map PyData.int) + 1 ≤ 64)) = true
  rw [h1, h2]
  rfl
/-- what is small enough to be shown -/
def Tame (m : Int) : Prop := m.natAbs.log2 < 1920
theorem Tame.of {m : Int} {k : Nat} (k0 : 0 < k) (hk : k ≤ 1900) (h0 : -(2 ^ k) < m) (h1 : m < 2 ^ k) : Tame m := by
  have e : ((2 : Int) ^ k) = ((2 ^ k : Nat) : Int) := by norm_cast
  rw [e] at h0 h1
  have h : m.natAbs < 2 ^ k := by omega
  exact Nat.lt_of_lt_of_le (PySem.Flt.log2_lt_of k0 h) (by omega)
theorem tame_short {m : Int} (h : Tame m) : (PyData.shown (.int m)).length ≤ 1921 := int_text_len_1921 h
theorem tame_weight {m : Int} (h : Tame m) : (PyData.int m).weight ≤ 1920 := by
  show (if m == 0 then 0 else m.natAbs.log2 + 1) ≤ 1920
  have := show m.natAbs.log2 < 1920 from h
  split <;> omega
theorem oc_is (wd x y : Int) : oc wd x y = "E" ∨ oc wd x y = "LB" ∨ oc wd x y = "LA" ∨ oc wd x y = "GB" ∨ oc wd x y = "GA" := by
  unfold oc
  split
  · exact .inl rfl
  · split <;> split <;> simp
theorem sv_tame {wd x : Int} (h1 : 1 ≤ wd) (h2 : wd ≤ 300) (h : 0 ≤ x ∧ x < 2 ^ wd.toNat) : Tame (sv wd x) := by
  have p := pow_pos wd.toNat
  refine Tame.of (k := wd.toNat + 1) (by omega) (by omega) ?_ ?_
  · have q : (2 : Int) ^ (wd.toNat + 1) = 2 ^ wd.toNat * 2 := Int.pow_succ ..
    unfold sv
    split <;> omega
  · have q : (2 : Int) ^ (wd.toNat + 1) = 2 ^ wd.toNat * 2 := Int.pow_succ ..
    unfold sv
    split <;> omega
theorem shown_small {d : PyData} (h : d.leavesShort 1921 = true) (hw : d.weight ≤ 8000) : d.shown.length ≤ sizeLine := by
  have e := PyData.shown_le 1921 (by decide) d h
  have : (1921 + 2) * d.weight ≤ (1921 + 2) * 8000 := Nat.mul_le_mul_left _ hw
  exact Nat.le_trans e (Nat.le_trans (Nat.add_le_add_right this _) (by decide))
theorem shown_ok {wd x y : Int} (h1 : 1 ≤ wd) (h2 : wd ≤ 300) (h3 : 0 ≤ x ∧ x < 2 ^ wd.toNat) (h4 : 0 ≤ y ∧ y < 2 ^ wd.toNat) :
    (PyData.list [.int (sv wd x), .str (oc wd x y)]).showable = true ∧ (PyData.list [.int (sv wd x), .str (oc wd x y)]).hasDict = false ∧ (PyData.list [.int (sv wd x), .str (oc wd x y)]).depth ≤ 60 ∧
      (PyData.list [.int (sv wd x), .str (oc wd x y)]).shown.length ≤ sizeLine := by
  have t := sv_tame h1 h2 h3
  have a1 := tame_short t
  have a2 := tame_weight t
  have b : (PyData.str (oc wd x y)).leavesShort 1921 = true ∧ (PyData.str (oc wd x y)).weight ≤ 2 := by
    rcases oc_is wd x y with e | e | e | e | e <;> rw [e] <;> exact ⟨by decide +kernel, by decide +kernel⟩
  refine ⟨?_, rfl, ?_, shown_small ?_ ?_⟩
  · show (decide ((sv wd x).natAbs.log2 < 1920) && (true && true)) = true
    rw [decide_eq_true (show (sv wd x).natAbs.log2 < 1920 from t)]
    rfl
  · show max 0 (max 0 0) + 1 ≤ 60
    decide
  · show (decide ((PyData.shown (.int (sv wd x))).length ≤ 1921) && ((PyData.str (oc wd x y)).leavesShort 1921 && true)) = true
    rw [decide_eq_true a1, b.1]
    rfl
  · show (PyData.int (sv wd x)).weight + 1 + ((PyData.str (oc wd x y)).weight + 1 + 0) ≤ 8000
    omega
theorem laps_of {n : Nat} {t : Int} (ht : 1 ≤ t) : ∃ m : Nat, (m : Int) ≤ t ∧ (if (if (n : Int) < t then (n : Int) else t) > 1 then (if (n : Int) < t then (n : Int) else t) else 1) = (m : Int) := by
  by_cases h : (n : Int) < t
  · rw [if_pos h]
    by_cases h1 : (n : Int) > 1
    · rw [if_pos h1]; exact ⟨n, by omega, rfl⟩
    · rw [if_neg h1]; exact ⟨1, by omega, rfl⟩
  · rw [if_neg h]
    refine ⟨t.toNat, by omega, ?_⟩
    split <;> omega
end BR

namespace BR
open PySem PySem.Spec PyProof.Rows L2
/-! ### words changed; comprehensions over ints -/
def fl (wd x : Int) : Int := if x < 2 ^ (wd - 1).toNat then x + 2 ^ (wd - 1).toNat else x - 2 ^ (wd - 1).toNat
def iv (wd x : Int) : Int := 2 ^ wd.toNat - 1 - x
def ex (wd wi x : Int) : Int := if (2 : Int) ^ (wd - 1).toNat ≤ x then x + (2 ^ wi.toNat - 2 ^ wd.toNat) else x
theorem two_half {wd : Int} (h : 1 ≤ wd) : (2 : Int) ^ wd.toNat = 2 * 2 ^ (wd - 1).toNat := by
  have e : wd.toNat = (wd - 1).toNat + 1 := by omega
  rw [e, Int.pow_succ, Int.mul_comm]
theorem pow_le {a b : Nat} (h : a ≤ b) : (2 : Int) ^ a ≤ 2 ^ b := by
  have h1 : (2 : Int) ^ a = ((2 ^ a : Nat) : Int) := by norm_cast
  have h2 : (2 : Int) ^ b = ((2 ^ b : Nat) : Int) := by norm_cast
  have h3 : 2 ^ a ≤ 2 ^ b := Nat.pow_le_pow_right (by decide) h
  rw [h1, h2]
  omega
theorem nat_cast_pow (n : Nat) : (2 : Int) ^ n = ((2 ^ n : Nat) : Int) := by norm_cast
theorem fl_word {wd x : Int} (h : 1 ≤ wd) (hx : 0 ≤ x ∧ x < 2 ^ wd.toNat) : 0 ≤ fl wd x ∧ fl wd x < 2 ^ wd.toNat := by
  have e := two_half h
  have p := pow_pos (wd - 1).toNat
  unfold fl
  split <;> omega
theorem fl_fl {wd x : Int} (h : 1 ≤ wd) (hx : 0 ≤ x ∧ x < 2 ^ wd.toNat) : fl wd (fl wd x) = x := by
  have e := two_half h
  have p := pow_pos (wd - 1).toNat
  unfold fl
  split <;> split <;> omega
theorem iv_word {wd x : Int} (hx : 0 ≤ x ∧ x < 2 ^ wd.toNat) : 0 ≤ iv wd x ∧ iv wd x < 2 ^ wd.toNat := by
  unfold iv
  omega
theorem iv_iv (wd x : Int) : iv wd (iv wd x) = x := by
  unfold iv
  omega
theorem ex_word {wd wi x : Int} (h1 : 1 ≤ wd) (h2 : wd ≤ wi) (hx : 0 ≤ x ∧ x < 2 ^ wd.toNat) : 0 ≤ ex wd wi x ∧ ex wd wi x < 2 ^ wi.toNat := by
  have q := pow_le (a := wd.toNat) (b := wi.toNat) (by omega)
  unfold ex
  split <;> omega
theorem sv_ex {wd wi x : Int} (h1 : 1 ≤ wd) (h2 : wd ≤ wi) (hx : 0 ≤ x ∧ x < 2 ^ wd.toNat) : sv wi (ex wd wi x) = sv wd x := by
  have q := pow_le (a := (wd - 1).toNat) (b := (wi - 1).toNat) (by omega)
  have e1 := two_half h1
  have e2 := two_half (show 1 ≤ wi by omega)
  have p := pow_pos (wd - 1).toNat
  unfold sv ex
  split <;> split <;> omega
theorem and_bit {n a : Nat} (h : a < 2 ^ (n + 1)) : a &&& 2 ^ n = if a < 2 ^ n then 0 else 2 ^ n := by
  apply Nat.eq_of_testBit_eq
  intro i
  rw [Nat.testBit_and, Nat.testBit_two_pow]
  by_cases c : a < 2 ^ n
  · rw [if_pos c]
    by_cases e : n = i
    · subst e
      rw [Nat.testBit_lt_two_pow c]
      simp
    · simp [e]
  · rw [if_neg c, Nat.testBit_two_pow]
    by_cases e : n = i
    · subst e
      have hk : 2 ^ (n + 1) = 2 ^ n * 2 := Nat.pow_succ ..
      have z : a / 2 ^ n = 1 := by
        have p : 0 < 2 ^ n := Nat.two_pow_pos n
        have h1 : 1 ≤ a / 2 ^ n := (Nat.le_div_iff_mul_le p).mpr (by omega)
        have h2 : a / 2 ^ n < 2 := (Nat.div_lt_iff_lt_mul p).mpr (by omega)
        omega
      have t : a.testBit n = true := by
        rw [Nat.testBit_eq_decide_div_mod_eq, z]
        rfl
      simp [t]
    · simp [e]
theorem xor_half {wd x : Int} (h : 1 ≤ wd) (hx : 0 ≤ x ∧ x < 2 ^ wd.toNat) : Builtin.bitXor x (2 ^ (wd - 1).toNat) = fl wd x := by
  have e := two_half h
  have p := pow_pos (wd - 1).toNat
  rw [Bits.bitXor_pp hx.1 (by omega)]
  rw [nat_cast_pow] at p e ⊢
  unfold fl
  rw [nat_cast_pow]
  generalize (wd - 1).toNat = n at p e ⊢
  obtain ⟨a, rfl⟩ := Int.eq_ofNat_of_zero_le hx.1
  rw [Int.toNat_natCast, Int.toNat_natCast]
  have k := Bits.nat_xor_add_and a (2 ^ n)
  have b1 : (a : Int) < 2 * 2 ^ n := by rw [← e]; exact hx.2
  have p2 : ((2 ^ n : Nat) : Int) = 2 ^ n := (nat_cast_pow n).symm
  have hk : 2 ^ (n + 1) = 2 ^ n * 2 := Nat.pow_succ ..
  rw [and_bit (n := n) (a := a) (by omega)] at k
  by_cases c : a < 2 ^ n
  · rw [if_pos c] at k
    rw [if_pos (by omega)]
    omega
  · rw [if_neg c] at k
    rw [if_neg (by omega)]
    omega
theorem xor_all {wd x : Int} (hx : 0 ≤ x ∧ x < 2 ^ wd.toNat) : Builtin.bitXor x (2 ^ wd.toNat - 1) = iv wd x := by
  have p := pow_pos wd.toNat
  rw [Bits.bitXor_pp hx.1 (by omega)]
  unfold iv
  have b1 := hx.2
  rw [nat_cast_pow] at p b1 ⊢
  generalize wd.toNat = n at p b1 ⊢
  obtain ⟨a, rfl⟩ := Int.eq_ofNat_of_zero_le hx.1
  have et : (((2 ^ n : Nat) : Int) - 1).toNat = 2 ^ n - 1 := by omega
  rw [Int.toNat_natCast, et]
  have k := Bits.nat_xor_add_and a (2 ^ n - 1)
  rw [Nat.and_two_pow_sub_one_eq_mod, Nat.mod_eq_of_lt (by omega)] at k
  omega
theorem map_take_succ {f : Int → Int} {xs : List Int} {i : Nat} {z : Int} (h : xs[i]? = some z) : ((xs.take (i + 1)).map f).map V.int = ((xs.take i).map f).map V.int ++ [V.int (f z)] := by
  have e : xs.take (i + 1) = xs.take i ++ [z] := by
    rw [List.take_add_one, h]
    rfl
  rw [e, List.map_append, List.map_append]
  rfl
/-- [e for x in t], t a tuple of ints, e an int of x alone -/
theorem lc_ints {K : PySem.W.Frag} {a : Addr} {xs : List Int} {j : Nat} {te : TE} {vs : List Nat} {σ : L2.St} {H1 : Hp} {D : Addr} {Qd : Hp → Prop} (f : Int → Int) (hT : SqT K H1 a (xs.map V.int)) (hz : xs.length ≤ 1000) (hD : H1 D = none)
    (hw : ∀ x : V, wipe ((wipe σ vs).set j (some x)) vs = wipe σ vs)
    (he : ∀ (x : Int) (H2 : Hp) (Q : VK), x ∈ xs → Same H1 H2 → (∀ H3, Same H2 H3 → Q (.int (f x)) H3) → te ((wipe σ vs).set j (some (.int x))) H2 Q)
    (hd : ∀ H, Same H1 H → H D = some (.lst ((xs.map f).map V.int)) → Qd H) :
    ∃ W : Nat → Nat → Hp → Prop, (∃ m, W 0 m (L2.upd H1 D (.lst []))) ∧ ∀ i m H, W i m H →
      ((Itt K a).stop i H ∧ Qd H) ∨ ((Itt K a).go i H ∧ ∃ Nx : Hp → Prop, (∀ H', Nx H' → ∃ m', m' < m ∧ W (i + 1) m' H') ∧ ∀ x H', (Itt K a).yld i H x H' → gName j x (wipe σ vs) H' fun σ2 H2 => wipe σ2 vs = wipe σ vs ∧ tYes σ2 H2 fun b H3 =>
        if b = true then te σ2 H3 fun y H4 => ∃ acc, H4 D = some (.lst acc) ∧ acc.length < sizeLine ∧ Nx (L2.upd H4 D (.lst (acc ++ [y]))) else Nx H3) := by
  refine lc_tup (xs := xs.map V.int) (fun i H => Same H1 H ∧ H D = some (.lst (((xs.take i).map f).map V.int))) ⟨sameNew hD, upd_same⟩ (fun i H _ p => sameT p.1 hT) ?_ ?_
  · rintro i x H hx ⟨s, hH⟩
    obtain ⟨z, hz1, rfl⟩ := map_at hx
    refine ⟨hw _, ?_⟩
    show te ((wipe σ vs).set j (some (V.int z))) H _
    refine he z H _ (List.mem_of_getElem? hz1) s fun H3 s3 => ?_
    refine ⟨_, s3 _ _ hH, small1000 (by rw [List.length_map, List.length_map, List.length_take]; omega), ?_, ?_⟩
    · intro b o e
      rw [upd_ne (ne_of_none e hD)]
      exact s3 _ _ (s _ _ e)
    · rw [upd_same, map_take_succ hz1]
  · rintro H ⟨s, hH⟩
    rw [List.length_map, List.take_length] at hH
    exact hd H s hH
end BR
namespace BR
open PySem PySem.Spec PyProof.Rows L2
/-! ### what tuples of words look like when they are shown -/
theorem ints_show : ∀ {ys : List Int}, (∀ y ∈ ys, 0 ≤ y ∧ y < 2 ^ 300) → PyData.showableAll (ys.map PyData.int) = true ∧ PyData.hasDictAll (ys.map PyData.int) = false ∧ PyData.leavesShortAll 301 (ys.map PyData.int) = true ∧ PyData.weightAll (ys.map PyData.int) ≤ 301 * ys.length
  | [], _ => ⟨rfl, rfl, rfl, Nat.zero_le _⟩
  | y :: r, h => by
    obtain ⟨h1, h2, h3, h4⟩ := ints_show (ys := r) fun z m => h z (List.mem_cons_of_mem _ m)
    have hy := h y List.mem_cons_self
    have n : y.natAbs < 2 ^ 300 := by
      have e := nat_cast_pow 300
      have b := hy.2
      rw [e] at b
      omega
    have l := PySem.Flt.log2_lt_of (k := 300) (by decide) n
    refine ⟨?_, ?_, ?_, ?_⟩
    · show (decide (y.natAbs.log2 < 1920) && PyData.showableAll (r.map PyData.int)) = true
      rw [h1, decide_eq_true (by omega)]
      rfl
    · show (false || PyData.hasDictAll (r.map PyData.int)) = false
      rw [h2]
      rfl
    · show (decide ((PyData.shown (.int y)).length ≤ 301) && PyData.leavesShortAll 301 (r.map PyData.int)) = true
      have e : (PyData.shown (.int y)).length ≤ 301 := by
        show (PySem.Str.ofString (toString y)).length ≤ 301
        rw [PySem.ofString_length]
        exact PySem.int_text_length_le (k := 300) (by decide) l
      rw [h3, decide_eq_true e]
      rfl
    · show (if y == 0 then 0 else y.natAbs.log2 + 1) + 1 + PyData.weightAll (r.map PyData.int) ≤ 301 * (r.length + 1)
      split <;> omega
theorem shown_tup {ys : List Int} (h : ∀ y ∈ ys, 0 ≤ y ∧ y < 2 ^ 300) (hz : ys.length ≤ 41) :
    (PyData.tuple (ys.map PyData.int)).showable = true ∧ (PyData.tuple (ys.map PyData.int)).hasDict = false ∧ (PyData.tuple (ys.map PyData.int)).depth ≤ 60 ∧ (PyData.tuple (ys.map PyData.int)).shown.length ≤ sizeLine := by
  obtain ⟨h1, h2, h3, h4⟩ := ints_show h
  obtain ⟨_, h6⟩ := ints_lay ys
  refine ⟨h1, h2, ?_, ?_⟩
  · show PyData.depthAll (ys.map PyData.int) + 1 ≤ 60
    omega
  · have e := PyData.shown_le 301 (by decide) (.tuple (ys.map PyData.int)) h3
    have w : (PyData.tuple (ys.map PyData.int)).weight ≤ 12341 := by
      show PyData.weightAll (ys.map PyData.int) ≤ 12341
      omega
    have : (301 + 2) * (PyData.tuple (ys.map PyData.int)).weight ≤ (301 + 2) * 12341 := Nat.mul_le_mul_left _ w
    exact Nat.le_trans e (Nat.le_trans (Nat.add_le_add_right this _) (by decide))
theorem shown_two {ys : List Int} (h : ∀ y ∈ ys, 0 ≤ y ∧ y < 2 ^ 300) (hz : ys.length ≤ 41) :
    (PyData.list [.tuple (ys.map PyData.int), .tuple (ys.map PyData.int)]).showable = true ∧ (PyData.list [.tuple (ys.map PyData.int), .tuple (ys.map PyData.int)]).hasDict = false ∧
      (PyData.list [.tuple (ys.map PyData.int), .tuple (ys.map PyData.int)]).depth ≤ 60 ∧ (PyData.list [.tuple (ys.map PyData.int), .tuple (ys.map PyData.int)]).shown.length ≤ sizeLine := by
  obtain ⟨h1, h2, h3, h4⟩ := ints_show h
  obtain ⟨_, h6⟩ := ints_lay ys
  refine ⟨?_, ?_, ?_, ?_⟩
  · show (PyData.showableAll (ys.map PyData.int) && (PyData.showableAll (ys.map PyData.int) && true)) = true
    rw [h1]
    rfl
  · show (PyData.hasDictAll (ys.map PyData.int) || (PyData.hasDictAll (ys.map PyData.int) || false)) = false
    rw [h2]
    rfl
  · show max (PyData.depthAll (ys.map PyData.int) + 1) (max (PyData.depthAll (ys.map PyData.int) + 1) 0) + 1 ≤ 60
    omega
  · have e := PyData.shown_le 301 (by decide) (.list [.tuple (ys.map PyData.int), .tuple (ys.map PyData.int)]) (by
      show (PyData.leavesShortAll 301 (ys.map PyData.int) && (PyData.leavesShortAll 301 (ys.map PyData.int) && true)) = true
      rw [h3]
      rfl)
    have w : (PyData.list [.tuple (ys.map PyData.int), .tuple (ys.map PyData.int)]).weight ≤ 24684 := by
      show PyData.weightAll (ys.map PyData.int) + 1 + (PyData.weightAll (ys.map PyData.int) + 1 + 0) ≤ 24684
      omega
    have : (301 + 2) * (PyData.list [.tuple (ys.map PyData.int), .tuple (ys.map PyData.int)]).weight ≤ (301 + 2) * 24684 := Nat.mul_le_mul_left _ w
    exact Nat.le_trans e (Nat.le_trans (Nat.add_le_add_right this _) (by decide))
theorem tup_shaped (xs : List Int) : SeqAt.shaped (.tuple (xs.map PyData.int)) = true := by
  obtain ⟨h1, h2⟩ := ints_lay xs
  unfold SeqAt.shaped
  show (PyData.canLayAll0 (xs.map PyData.int) && decide (PyData.depthAll (xs.map PyData.int) + 1 ≤ 64)) = true
  rw [h1, h2]
  rfl
theorem eqv_tup (xs : List Int) : PyData.eqv (.tuple (xs.map PyData.int)) (.tuple (xs.map PyData.int)) = true := SeqAt.eqv_refl _ (SeqAt.canLay_of_shaped (tup_shaped xs))
theorem eqv_lst (xs : List Int) : PyData.eqv (.list (xs.map PyData.int)) (.list (xs.map PyData.int)) = true := SeqAt.eqv_refl _ (SeqAt.canLay_of_shaped (ints_shaped xs))
end BR

namespace BR
open PySem PySem.Spec PyProof.Rows L2
/-! ### outcomes told by a cut -/
def ocut (c x y : Int) : Str := if x = y then "E" else if x < y then (if (decide (x < c) != decide (y < c)) = true then "GB" else "LB") else (if (decide (x < c) != decide (y < c)) = true then "LA" else "GA")
theorem mixed_is (a b : Bool) : (!decide (V.bl a = V.bl b)) = (a != b) := by
  cases a <;> cases b <;> rfl
theorem oc_cut {wd x y : Int} (h : 1 ≤ wd) (hx : 0 ≤ x ∧ x < 2 ^ wd.toNat) (hy : 0 ≤ y ∧ y < 2 ^ wd.toNat) : ocut (2 ^ (wd - 1).toNat) x y = oc wd x y := by
  have e := two_half h
  have p := pow_pos (wd - 1).toNat
  unfold ocut oc
  by_cases c : x = y
  · rw [if_pos c, if_pos c]
  rw [if_neg c, if_neg c]
  by_cases cx : x < 2 ^ (wd - 1).toNat
  · have sx : sv wd x = x := by unfold sv; rw [if_neg (by omega)]
    by_cases cy : y < 2 ^ (wd - 1).toNat
    · have sy : sv wd y = y := by unfold sv; rw [if_neg (by omega)]
      rw [sx, sy, decide_eq_true cx, decide_eq_true cy, if_neg (show ¬ ((true != true) = true) by decide), if_neg (show ¬ ((true != true) = true) by decide)]
      by_cases l : x < y
      · rw [if_pos l, if_pos l, if_pos l]
      · rw [if_neg l, if_neg l, if_neg l]
    · have sy : sv wd y = y - 2 ^ wd.toNat := by unfold sv; rw [if_pos (by omega)]
      rw [sx, sy, decide_eq_true cx, decide_eq_false cy, if_pos (show (true != false) = true by decide), if_pos (show (true != false) = true by decide)]
      rw [if_pos (show x < y by omega), if_neg (show ¬ x < y - 2 ^ wd.toNat by omega), if_pos (show x < y by omega)]
  · have sx : sv wd x = x - 2 ^ wd.toNat := by unfold sv; rw [if_pos (by omega)]
    by_cases cy : y < 2 ^ (wd - 1).toNat
    · have sy : sv wd y = y := by unfold sv; rw [if_neg (by omega)]
      rw [sx, sy, decide_eq_false cx, decide_eq_true cy, if_pos (show (false != true) = true by decide), if_pos (show (false != true) = true by decide)]
      rw [if_neg (show ¬ x < y by omega), if_pos (show x - 2 ^ wd.toNat < y by omega), if_neg (show ¬ x < y by omega)]
    · have sy : sv wd y = y - 2 ^ wd.toNat := by unfold sv; rw [if_pos (by omega)]
      rw [sx, sy, decide_eq_false cx, decide_eq_false cy, if_neg (show ¬ ((false != false) = true) by decide), if_neg (show ¬ ((false != false) = true) by decide)]
      by_cases l : x < y
      · rw [if_pos l, if_pos (show x - 2 ^ wd.toNat < y - 2 ^ wd.toNat by omega), if_pos l]
      · rw [if_neg l, if_neg (show ¬ x - 2 ^ wd.toNat < y - 2 ^ wd.toNat by omega), if_neg l]
end BR

/-! ### own errors held as values: made by position and by keyword -/
namespace PySem
namespace BRX
open PySem.W PySem.Calls PyProof.Rows PySem.HandSPX
section
variable {M : Model} {prog : Program} {w : World} {A : Around} {E : Value → Shared → Prop} {R : Result → Shared → Prop} {h : Heap} {g : Array GenState} {d : Drawn} {t : Nat} {os : OsState}
variable {nm q : Str} {C N : Addr} {bs bm bmB : List Value} {hd0 : Bool} {sn : List Str} {sub : List Value} {ab : Bool} {col : Option Bool} {dd : Option Addr} {k0 k1 k2 k3 k5 : Option Value} {B newId initId : String} {kw : List (Str × Value)}
theorem check_newK (F : ExcBaseFacts B newId initId bmB) (hT : ∀ X : String, bm.contains (.type X) = bmB.contains (.type X)) {Q : Unit → Shared → Prop}
    (cl : h.get? C = some (excClassObj nm q C N bs bm hd0 sn sub ab col dd k0 k1 k2 k3 k5 newId)) (go : Q () ⟨h, g, d, t, os⟩) : wpAny M A (checkBuiltinCall newId ⟨[.ref C], kw⟩) Q E ⟨h, g, d, t, os⟩ := by
  have inB : (Value.ref C :: bm).contains (.type B) = true := by rw [List.contains_cons, hT, F.hasB, Bool.or_true]
  have star := F.noStar
  simp only [checkBuiltinCall, F.newKind, F.newSplit, F.newRow]
  repeat (first | refine wpAny_loadPart_at cl ?_ | (refine wpAny_isSubtype_exc cl ?_; rw [inB]) | refine wpAny_staticBase_exc cl ?_ | refine wpAny_madeBy_exc cl ?_ | simp only [bne_self_eq_false, Bool.false_eq_true, if_false] | wp_step)
  exact go
theorem newK (F : ExcBaseFacts B newId initId bmB) (hT : ∀ X : String, bm.contains (.type X) = bmB.contains (.type X))
    (cl : h.get? C = some (excClassObj nm q C N bs bm hd0 sn sub ab col dd k0 k1 k2 k3 k5 newId))
    (go : R (.ok (.ret (.ref (h.objs.size + 1)))) ⟨(h.push { cls := .type "tuple", data := .seq #[] }).push { cls := .ref C, data := .fields #[.ref h.objs.size, .none, .none, .none, .bool false, .none] }, g, d, t, os⟩) :
    codeAny (model prog w) A (.builtin newId ⟨[.ref C], kw⟩) R ⟨h, g, d, t, os⟩ := by
  have ends := F.ends
  have inB : (Value.ref C :: bm).contains (.type B) = true := by rw [List.contains_cons, hT, F.hasB, Bool.or_true]
  have inA : (Value.ref C :: bm).contains (.type "AttributeError") = false := by rw [List.contains_cons, hT, F.noAttr]; rfl
  have inN : (Value.ref C :: bm).contains (.type "NameError") = false := by rw [List.contains_cons, hT, F.noName]; rfl
  refine codeAny_builtinAt F.entry ?_
  unfold Builtin.«BaseException.__new__»
  refine wpAt_bind ?_
  show wpAt _ _ _ (stack >>= _) _ _ _
  refine wpAt_bind (wpAt_stack fun p below => wpAt_of_wpAny ?_)
  wp_walk
  refine wpAt_of_wpAny ?_
  rw [F.owner]
  repeat (first | with_reducible refine wpAny_madeHere_exc F.canon cl ?_ | with_reducible refine wpAny_loadPart_at cl ?_ | (with_reducible refine wpAny_isSubtype_exc cl ?_; first | rw [inB] | rw [inA] | rw [inN]) | wp_step)
  show R _ _
  rw [Heap.size_push]
  exact go
theorem type_callK (F : ExcBaseFacts B newId initId bmB) (hT : ∀ X : String, bm.contains (.type X) = bmB.contains (.type X)) {fI : Addr} {Q : Fin → Shared → Prop}
    (cl : h.get? C = some (excClassObj nm q C N bs bm hd0 sn sub ab col dd k0 k1 k2 k3 k5 newId))
    (li : W.Looks (model prog w) h (typeLookup (.ref C) "__init__") (some (.ref fI))) (lb : ∀ self, W.Looks (model prog w) h (bindSpecial (.ref fI) self) (.ref fI, [self]))
    (go : codeAny (model prog w) A (.call (.ref fI) ⟨[.ref (h.objs.size + 1)], kw⟩) (fun r s' => match r with | .ok (.ret v) => v = .none ∧ Q (.done (.ret (.ref (h.objs.size + 1)))) s' | .ok _ => False | .error e => E e s')
      ⟨(h.push (W.kdv_tup [])).push (excO C h.objs.size), g, d, t, os⟩) : wpAny (model prog w) A (Builtin.«type.__call__» ⟨[.ref C], kw⟩) Q E ⟨h, g, d, t, os⟩ := by
  repeat (first | with_reducible refine wpAny_loadPart_at cl ?_ | with_reducible refine wpAny_madeBy_exc cl ?_ | wp_step)
  refine codeAny_call_builtin_code (Code.quiet_builtin _ F.quiet) (check_newK F hT cl ?_)
  refine newK F hT cl ?_
  show wpAny _ _ _ _ _ _
  have kp : ∀ b o, h.get? b = some o → ((h.push (W.kdv_tup [])).push (excO C h.objs.size)).get? b = some o := fun b o e => Heap.get?_push_of_some _ (Heap.get?_push_of_some _ e)
  have cl1 := kp _ _ cl
  have new : ((h.push (W.kdv_tup [])).push (excO C h.objs.size)).get? (h.objs.size + 1) = some (excO C h.objs.size) := by heap_get
  have inC : (Value.ref C :: bm).contains (.ref C) = true := by simp
  have i1 := li.keeps kp
  have b1 := (lb (.ref (h.objs.size + 1))).keeps kp
  unfold isInstance
  repeat (first | with_reducible refine wpAny_loadPart_at new ?_ | (with_reducible refine wpAny_isSubtype_exc cl1 ?_; rw [inC]) | wp_step)
  show wpAny _ _ (typeLookup (.ref C) _) _ _ _
  refine i1.at ?_
  refine wpAny_holding (wpAny_bind (b1.at ?_))
  refine wpAny_bind (wpAny_call (codeAny_mono go fun r s' z => ?_))
  rcases r with e | (v | _ | _ | _) <;> first | exact z | exact z.elim | skip
  obtain ⟨rfl, z⟩ := z
  first
    | exact wpAny_pure (wpAny_pure z)
    | (wp_walk; exact z)
theorem call_ownK (F : ExcBaseFacts B newId initId bmB) (hT : ∀ X : String, bm.contains (.type X) = bmB.contains (.type X)) {fI : Addr}
    (cl : h.get? C = some (excClassObj nm q C N bs bm hd0 sn sub ab col dd k0 k1 k2 k3 k5 newId))
    (li : W.Looks (model prog w) h (typeLookup (.ref C) "__init__") (some (.ref fI))) (lb : ∀ self, W.Looks (model prog w) h (bindSpecial (.ref fI) self) (.ref fI, [self]))
    (go : codeAny (model prog w) (A.under (.builtin "type.__call__" ⟨[.ref C], kw⟩)) (.call (.ref fI) ⟨[.ref (h.objs.size + 1)], kw⟩) (W.InitBack (h.objs.size + 1) R) ⟨(h.push (W.kdv_tup [])).push (excO C h.objs.size), g, d, t, os⟩) :
    codeAny (model prog w) A (.call (.ref C) ⟨[], kw⟩) R ⟨h, g, d, t, os⟩ := by
  have f1 := tc_lookup
  have f2 := tc_bind (.ref C)
  have isTy : (⟨h, g, d, t, os⟩ : Shared).TypeIs (.ref C) "type" := ⟨_, cl, rfl⟩
  refine codeAny_of_tree ?_
  show wpAny _ _ (callAny (.ref C) _) _ _ _
  repeat (any_goals (first | assumption | with_reducible refine wpAny_loadPart_at cl ?_ | wp_step))
  refine ⟨rfl, ?_⟩
  refine codeAny_call_builtin_at (Code.quiet_builtin _ (by decide +kernel)) entry_typeCall (wpAny_check_type_call_sub cl (type_callK F hT cl li lb ?_))
  refine codeAny_mono go fun r s' z => ?_
  rcases r with e | (v | _ | _ | _) <;> exact z
end
end BRX
end PySem

namespace BR
open PySem PySem.Spec PyProof.Rows L2
/-! ### C(e), C(value = e): a new error, held as a value -/
def tOexV (C : Addr) (sp : Sp) (ta : TA) : TE := fun σ H Q => ta σ H fun vs H1 => vs.length ≤ 1000 ∧ ∀ e, H1 e = none → sp (.ref e :: vs) (L2.upd H1 e (exo e C none)) (fun v H2 => v = .non ∧ Q (.ref e) H2) fun _ _ _ => False
section
variable {X : Cx} {CX : CXT} {k : Nat} {fI C : Addr} {fd : FuncData} {ps : List Str} {sp : Sp} {x : Str} {p pos kpos : Pos} {e : Expr} {es : List Expr} {ta : TA} {te : TE}
theorem pe_oexV (T : OexC X.K C) (iC : PySem.W.findIn X.K (.ref C) "__init__" = some (some (.ref fI))) (tI : PySem.W.typeIn X.K (.ref fI) = some (.type "function"))
    (F1 : FnOk X.prog X.w X.K X.mg X.base CX k fI fd ps sp) (room : Room (k + 1) X.A) (b : Binds X.K fd ps []) (hx : Passes CX X (fun _ _ _ => False)) (hg : Gl X x) (hm : X.mg x = some (.ref C)) (args : PA X (e :: es) ta)
    (nodb : (x == ("__debug__" : Str)) = false := by decide) (st1 : starEach (e :: es) X.env = (false, eval e X.env) :: starEach es X.env := by rfl) (st2 : (backTo pos (starEach es X.env)).any (·.1) = false := by rfl) :
    PE X (.Call (.Name x p) (e :: es) [] pos) (tOexV C sp ta) := by
  refine ⟨fun pins s σ H Q I0 hh => ?_⟩
  obtain ⟨nm, q, N, bs, bm, sn, sub, ab, col, dd, k0, k1, k2, k3, k5, hC, hbm⟩ := T.cls
  refine wpAny_Call_Name_kw (ld_glob I0 hg hm ?_ nodb)
  refine PySem.W.callWith_K (h₀ := X.base) I0.ok.mod.kin T.kC (thn (args.run pos pins s σ H _ I0 hh) ?_) st1 st2
  rintro us s1 ⟨vs, H1, I1, r1, hz, q1⟩
  refine ⟨I1.kIn, ?_⟩
  show wpAny _ _ (call (.ref C) us) _ _ _
  obtain ⟨hp, g, dr, tk, os⟩ := s1
  have le1 : hp.objs.size ≤ hp.objs.size + 1 := Nat.le_succ _
  have free : H1 (hp.objs.size + 1) = none := I1.hok.fresh le1
  have hq := q1 (hp.objs.size + 1) free
  have kp : ∀ b o, hp.get? b = some o → ((hp.push (PySem.W.kdv_tup us)).push (PySem.HandSPX.excO C hp.objs.size)).get? b = some o := fun b o z => Heap.get?_push_of_some _ (Heap.get?_push_of_some _ z)
  have new : ((hp.push (PySem.W.kdv_tup us)).push (PySem.HandSPX.excO C hp.objs.size)).get? (hp.objs.size + 1) = some (PySem.HandSPX.excO C hp.objs.size) := by heap_get
  have I2 := I1.laid (t' := tk) (a := hp.objs.size + 1) (o := exo (hp.objs.size + 1) C none) kp le1 (exo_ok new)
  have r2 : Vals (V.ref (hp.objs.size + 1) :: vs) (Value.ref (hp.objs.size + 1) :: us) := .cons rfl r1
  have hl : (Value.ref (hp.objs.size + 1) :: us).length = ps.length := r2.length.symm.trans (F1.len _ _ _ _ hq)
  have lus : us.length ≤ sizeLine := by
    rw [← Paired.length r1, sizeLine_eq]
    omega
  have bd := b _ (Value.ref (hp.objs.size + 1) :: us) I2.kIn (by rw [List.append_nil]; exact hl)
  rw [List.append_nil] at bd
  refine wpAny_call (PySem.HandSPX.call_own F.excBase_ValueError (fun Y => PySem.HandSPX.refsVE_contains Y bm hbm) (I1.kIn _ _ hC) (PySem.W.looks_findIn I1.kIn iC) (fun self => PySem.W.bind_fn I1.kIn self tI) lus ?_)
  refine codeAny_mono (F1.run _ X.stack _ _ ⟨Value.ref (hp.objs.size + 1) :: us, []⟩ (Value.ref (hp.objs.size + 1) :: us) _ _ (fun _ _ _ => False) (room.make C us []) (I2.env0.make C us []) bd r2 hq) fun r s' hq' => ?_
  cases r with
  | error er => exact hx pins σ _ _ er s' I2 hq'
  | ok flw =>
    cases flw with
    | ret u =>
      obtain ⟨v, H2, I3, rv, ev, q2⟩ := I2.after hq'
      subst ev
      exact ⟨rv, ⟨.ref (hp.objs.size + 1), H2, I3, rfl, q2⟩⟩
    | next => exact hq'.elim
    | brk => exact hq'.elim
    | cont => exact hq'.elim
theorem pe_oexK {nk : Str} (T : OexC X.K C) (iC : PySem.W.findIn X.K (.ref C) "__init__" = some (some (.ref fI))) (tI : PySem.W.typeIn X.K (.ref fI) = some (.type "function"))
    (F1 : FnOk X.prog X.w X.K X.mg X.base CX k fI fd ps sp) (room : Room (k + 1) X.A) (b : ∀ (s : Shared) (u v : Value), BindsTo s fd ⟨[u], [(nk, v)]⟩ (ps.zip [u, v])) (l2 : ps.length = 2) (hx : Passes CX X (fun _ _ _ => False)) (hg : Gl X x) (hm : X.mg x = some (.ref C)) (he : PE X e te)
    (all1 : (backToKw pos (keywordEach [⟨some nk, e, kpos⟩] X.env)).all (·.1.isSome) = true := by rfl) (nms : (backToKw pos (keywordEach [⟨some nk, e, kpos⟩] X.env)).filterMap (·.1) = [nk] := by rfl)
    (nodb : (x == ("__debug__" : Str)) = false := by decide) (pl : ((backTo pos (starEach [] X.env)).any (·.1) || (backToKw pos (keywordEach [⟨some nk, e, kpos⟩] X.env)).any (·.1.isNone)) = false := by rfl) :
    PE X (.Call (.Name x p) [] [⟨some nk, e, kpos⟩] pos) (tOexV C sp (tCons te tNil)) := by
  refine ⟨fun pins s σ H Q I0 hh => ?_⟩
  obtain ⟨nm, q, N, bs, bm, sn, sub, ab, col, dd, k0, k1, k2, k3, k5, hC, hbm⟩ := T.cls
  refine wpAny_Call_Name_kw (ld_glob I0 hg hm ?_ nodb)
  refine PySem.W.callWith_KW0 (h₀ := X.base) I0.ok.mod.kin T.kC all1 (thn ((pk_cons he pk_nil).run pos pins s σ H _ I0 hh) ?_) pl
  rintro us s1 ⟨vs, H1, I1, r1, hz, q1⟩
  refine ⟨I1.kIn, ?_⟩
  rw [nms]
  obtain ⟨hp, g, dr, tk, os⟩ := s1
  have le1 : hp.objs.size ≤ hp.objs.size + 1 := Nat.le_succ _
  have free : H1 (hp.objs.size + 1) = none := I1.hok.fresh le1
  have hq := q1 (hp.objs.size + 1) free
  have hlv : vs.length + 1 = 2 := by
    have z := F1.len _ _ _ _ hq
    rw [l2] at z
    exact z
  obtain ⟨v1, rfl⟩ : ∃ v1, vs = [v1] := by
    match vs, hlv with
    | [v1], _ => exact ⟨v1, rfl⟩
  cases r1 with
  | @cons _ u1 _ _ ru rr =>
  cases rr
  show wpAny _ _ (call (.ref C) [] [(nk, u1)]) _ _ _
  have kp : ∀ b o, hp.get? b = some o → ((hp.push (PySem.W.kdv_tup [])).push (PySem.HandSPX.excO C hp.objs.size)).get? b = some o := fun b o z => Heap.get?_push_of_some _ (Heap.get?_push_of_some _ z)
  have new : ((hp.push (PySem.W.kdv_tup [])).push (PySem.HandSPX.excO C hp.objs.size)).get? (hp.objs.size + 1) = some (PySem.HandSPX.excO C hp.objs.size) := by heap_get
  have I2 := I1.laid (t' := tk) (a := hp.objs.size + 1) (o := exo (hp.objs.size + 1) C none) kp le1 (exo_ok new)
  have r2 : Vals [V.ref (hp.objs.size + 1), v1] [Value.ref (hp.objs.size + 1), u1] := .cons rfl (.cons ru .nil)
  refine wpAny_call (PySem.BRX.call_ownK F.excBase_ValueError (fun Y => PySem.HandSPX.refsVE_contains Y bm hbm) (I1.kIn _ _ hC) (PySem.W.looks_findIn I1.kIn iC) (fun self => PySem.W.bind_fn I1.kIn self tI) ?_)
  refine codeAny_mono (F1.run _ X.stack _ _ ⟨[Value.ref (hp.objs.size + 1)], [(nk, u1)]⟩ [Value.ref (hp.objs.size + 1), u1] _ _ (fun _ _ _ => False) (room.make C [] [(nk, u1)]) (I2.env0.make C [] [(nk, u1)]) (b _ _ _) r2 hq) fun r s' hq' => ?_
  cases r with
  | error er => exact hx pins σ _ _ er s' I2 hq'
  | ok flw =>
    cases flw with
    | ret u =>
      obtain ⟨v, H2, I3, rv, ev, q2⟩ := I2.after hq'
      subst ev
      exact ⟨rv, ⟨.ref (hp.objs.size + 1), H2, I3, rfl, q2⟩⟩
    | next => exact hq'.elim
    | brk => exact hq'.elim
    | cont => exact hq'.elim
end
/-! ### e.value -/
/-- an error of the class at C stands at a; its one field f holds v -/
def ErrAt (H : Hp) (a C : Addr) (f : Str) (v : V) : Prop := ∃ d, H a = some (exo a C (some d)) ∧ H d = some (exd d [(f, v)])
theorem ErrAt.same {H H' : Hp} {a C : Addr} {f : Str} {v : V} (h : ErrAt H a C f v) (s : Same H H') : ErrAt H' a C f v := by
  obtain ⟨d, h1, h2⟩ := h
  exact ⟨d, s _ _ h1, s _ _ h2⟩
def tErrF (K : PySem.W.Frag) (f : Str) (te : TE) : TE := fun σ H Q => te σ H fun x H1 => ∃ a C v, x = .ref a ∧ ErrAt H1 a C f v ∧ XfC K C ∧ PySem.W.findIn K (.ref C) f = some none ∧ Q v H1
theorem err_inst {X : Cx} {pins : List (Addr × Obj)} {σ : L2.St} {H : Hp} {s : Shared} {a C : Addr} {f : Str} {v : V} (I : Inv X pins σ H s) (h : ErrAt H a C f v) :
    ∃ (ox od : Obj) (u : Value), PySem.W.InstAt s.heap a ox C (some od) ∧ RelV v u ∧ PySem.W.lookIn f od = some (some u) := by
  obtain ⟨d, h1, h2⟩ := h
  obtain ⟨t1, e1⟩ := exo_at I.hok h1
  obtain ⟨mA, hns, hr⟩ := exd_at I.hok h2
  obtain ⟨od, ho, hl⟩ := lookIn_ns hns
  have l : List.lookup f [(f, v)] = some v := by simp [List.lookup]
  obtain ⟨u, hu, ru⟩ := RelO.some_of (v := v) (o := mA f) (by rw [← l]; exact hr f)
  exact ⟨_, od, u, ⟨e1, rfl, rfl, ho⟩, ru, by rw [hl, hu]⟩
theorem pe_errF {X : Cx} {e : Expr} {te : TE} {pos : Pos} {n : Str} (he : PE X e te) (hb : attributeBase e n X.env (eval e X.env) = eval e X.env := by rfl) : PE X (.Attribute e n pos) (tErrF X.K n te) := by
  refine ⟨fun pins s σ H Q I h => ?_⟩
  refine attr_of hb (thn (he.run pins s σ H _ I h) fun u s1 hh => ?_)
  obtain ⟨x, H1, I1, rx, a, C, v, rfl, ea, T, no, q⟩ := hh
  obtain rfl : u = Value.ref a := rx
  obtain ⟨ox, od, u, J, ru, hl⟩ := err_inst I1 ea
  exact HandSPX.exc_get I1.kIn J T.ga T.gg T.exC (PySem.W.findObj_own T.hdC no rfl hl) (handed_of ru) ⟨v, H1, I1.tok _, ru, q⟩
/-! ### isinstance(e, c), e such an error -/
def rIsErr (K : PySem.W.Frag) : List V → Hp → VK → Prop := fun xs H Q => ∃ a C f v c u b, xs = [.ref a, c] ∧ ErrAt H a C f v ∧ ExcC K C ∧ ClsV c u ∧ PySem.W.kitOne K (.ref C) u = some b ∧ Q (.bl b) H
theorem call_isErr {X : Cx} : CallR X (.builtin "isinstance") (rIsErr X.K) := by
  rintro pins s σ H xs us Q I r ⟨a, C, f, v, c, u, b, rfl, ea, T, kc, ek, q⟩
  obtain ⟨u1, u2, rfl, r1, r2⟩ := vals2 r
  obtain rfl : u1 = Value.ref a := r1
  have e2 := kc.eq r2
  subst e2
  obtain ⟨ox, od, w, J, _, _⟩ := err_inst I ea
  have hcl : (PySem.W.clsIn X.K C).isSome = true := by
    have := T.hd
    unfold PySem.W.hasDictIn at this
    cases z : PySem.W.clsIn X.K C with
    | none => rw [z] at this; exact absurd this (by decide)
    | some y => rfl
  exact PySem.W.kia_one (PySem.W.kitx_exc hcl T.hg T.hk T.hs T.ha T.hn T.ht T.hm) I.kIn J ek (fun z => nomatch z) fun tk => ⟨.bl b, H, I.kept (t' := tk) fun _ _ z => z, rfl, q⟩
def rIsExO (K : PySem.W.Frag) : List V → Hp → VK → Prop := fun xs H Q => ∃ a C c u b, xs = [.ref a, c] ∧ H a = some (ExO (.ref C) a) ∧ ExcC K C ∧ ClsV c u ∧ PySem.W.kitOne K (.ref C) u = some b ∧ Q (.bl b) H
/-- either kind -/
def rIsX (K : PySem.W.Frag) : List V → Hp → VK → Prop := fun xs H Q => rIsErr K xs H Q ∨ rIsExO K xs H Q
theorem call_isX {X : Cx} : CallR X (.builtin "isinstance") (rIsX X.K) := by
  rintro pins s σ H xs us Q I r (h | ⟨a, C, c, u, b, rfl, ea, T, kc, ek, q⟩)
  · exact call_isErr pins s σ H xs us Q I r h
  obtain ⟨u1, u2, rfl, r1, r2⟩ := vals2 r
  obtain rfl : u1 = Value.ref a := r1
  have e2 := kc.eq r2
  subst e2
  obtain ⟨⟨oe, vs, ho, hz, hd, _⟩, _, _⟩ := I.hok a _ ea
  have J : PySem.W.InstAt s.heap a oe C none := by
    obtain ⟨oc, od, oda, osl⟩ := oe
    obtain ⟨h1, h2⟩ := hz
    dsimp only at h1 h2 hd
    subst h1 h2 hd
    exact ⟨ho, rfl, rfl, trivial⟩
  exact PySem.W.kia_one (PySem.W.handS_kitx_exc T.hg T.hk T.hs T.hd T.ha T.hn T.ht T.hm) I.kIn J ek (fun z => nomatch z) fun tk => ⟨.bl b, H, I.kept (t' := tk) fun _ _ z => z, rfl, q⟩
/-! ### repr of None, a text, an int, or data -/
def rReprA (K : PySem.W.Frag) : List V → Hp → VK → Prop := fun xs H Q => ∃ x d, xs = [x] ∧ Dp K H x d ∧ d.showable = true ∧ d.hasDict = false ∧ d.depth ≤ 60 ∧ d.shown.length ≤ sizeLine ∧ Q (.str d.shown) H
theorem call_reprA {X : Cx} (gg : X.A.guards = some []) (hu : X.A.units + 64 < cLine) : CallR X (.builtin "repr") (rReprA X.K) := by
  rintro pins s σ H xs us Q I r ⟨x, d, rfl, hd, h1, h2, h3, h4, q⟩
  obtain ⟨u, rfl, ru⟩ := vals1 r
  cases hd with
  | non =>
    obtain rfl : u = Value.none := ru
    exact PySem.P.repr_of_none ⟨.str _, H, I.tok _, ⟨_, rfl⟩, q⟩
  | bl b =>
    obtain rfl : u = Value.bool b := ru
    exact PySem.P.repr_of_bool ⟨.str _, H, I.tok _, ⟨_, rfl⟩, q⟩
  | int i =>
    obtain ⟨t, rfl⟩ := ru
    exact PySem.P.repr_of_int (of_decide_eq_true h1) ⟨.str _, H, I.tok _, ⟨_, rfl⟩, q⟩
  | str y =>
    obtain ⟨t, rfl⟩ := ru
    exact PySem.P.repr_of_str ⟨.str _, H, I.tok _, ⟨_, rfl⟩, q⟩ h4
  | lst hs ha => exact call_reprD gg hu pins s σ H _ _ Q I r ⟨_, _, rfl, .lst hs ha, h1, h2, h3, h4, q⟩
  | tup hs ha => exact call_reprD gg hu pins s σ H _ _ Q I r ⟨_, _, rfl, .tup hs ha, h1, h2, h3, h4, q⟩
end BR

namespace BR
open PySem PySem.Spec PyProof.Rows L2
/-- what the top says of an error class whose __init__ stores value -/
structure ErrTxt (K : PySem.W.Frag) (C fI : Addr) : Prop where
  ox : OexC K C
  ec : ExcC K C
  no : PySem.W.findIn K (.ref C) "value" = some none
  ii : PySem.W.findIn K (.ref C) "__init__" = some (some (.ref fI))
  ti : PySem.W.typeIn K (.ref fI) = some (.type "function")
theorem xf_of {K : PySem.W.Frag} {C : Addr} (e : ExcC K C) : XfC K C := ⟨e.hg, e.hk, e.hs, e.hd⟩
def sp_err (C : Addr) : Sp := fun vs H Q _ => ∃ (a : Addr) (v : V), vs = [.ref a, v] ∧ H a = some (exo a C none) ∧ ∀ d, H d = none → d ≠ a → Q .non (L2.upd (L2.upd H d (exd d [("value", v)])) a (exo a C (some d)))
theorem oex_var {C : Addr} {i : Nat} {v : V} {σ : L2.St} {H : Hp} {Q : VK} (hv : σ[i]? = some (some v)) (k : ∀ e H', H e = none → Same H H' → ErrAt H' e C "value" v → Q (.ref e) H') : tOexV C (sp_err C) (tCons (tVar i) tNil) σ H Q := by
  refine ⟨v, hv, (by show 1 ≤ 1000; decide), fun e he => ⟨e, v, rfl, upd_same, fun d hd ne => ⟨rfl, ?_⟩⟩⟩
  rw [upd_ne ne] at hd
  refine k e _ he (fun b o z => ?_) ⟨d, upd_same, ?_⟩
  · rw [upd_ne (ne_of_none z he), upd_ne (ne_of_none z hd), upd_ne (ne_of_none z he)]
    exact z
  · rw [upd_ne ne, upd_same]
/-- two errors of the class at C in a tuple at t -/
def PairAt (H : Hp) (t C : Addr) (v : V) : Prop := ∃ e1 e2, H t = some (.tup [.ref e1, .ref e2]) ∧ ErrAt H e1 C "value" v ∧ ErrAt H e2 C "value" v
theorem PairAt.same {H H' : Hp} {t C : Addr} {v : V} (h : PairAt H t C v) (s : Same H H') : PairAt H' t C v := by
  obtain ⟨e1, e2, h1, h2, h3⟩ := h
  exact ⟨e1, e2, s _ _ h1, h2.same s, h3.same s⟩
theorem ErrAt.but {H H' : Hp} {a C l : Addr} {f : Str} {v : V} {xs : List V} (h : ErrAt H a C f v) (hl : H l = some (.lst xs)) (s : But l H H') : ErrAt H' a C f v := by
  obtain ⟨d, h1, h2⟩ := h
  refine ⟨d, s _ _ (fun z => ?_) h1, s _ _ (fun z => ?_) h2⟩
  · rw [z, hl] at h1
    cases (show HO.lst xs = HO.ext _ from Option.some.inj h1)
  · rw [z, hl] at h2
    cases (show HO.lst xs = HO.ext _ from Option.some.inj h2)
theorem PairAt.but {H H' : Hp} {t C l : Addr} {v : V} {xs : List V} (h : PairAt H t C v) (hl : H l = some (.lst xs)) (s : But l H H') : PairAt H' t C v := by
  obtain ⟨e1, e2, h1, h2, h3⟩ := h
  refine ⟨e1, e2, s _ _ (fun z => ?_) h1, h2.but hl s, h3.but hl s⟩
  rw [z, hl] at h1
  cases h1
theorem rdTup {ta : TA} {σ : L2.St} {H : Hp} {Q : VK} (h : ta σ H fun xs H1 => xs.length ≤ sizeLine ∧ ∀ p, H1 p = none → Q (.ref p) (L2.upd H1 p (.tup xs))) : tTup ta σ H Q := h
theorem rdLst {ta : TA} {σ : L2.St} {H : Hp} {Q : VK} (h : ta σ H fun xs H1 => xs.length ≤ sizeLine ∧ ∀ p, H1 p = none → Q (.ref p) (L2.upd H1 p (.lst xs))) : tLst ta σ H Q := h
theorem rdCons {te : TE} {t : TA} {σ : L2.St} {H : Hp} {Q : List V → Hp → Prop} (h : te σ H fun x H1 => t σ H1 fun xs H2 => Q (x :: xs) H2) : tCons te t σ H Q := h
theorem rdSeq {t u : TS} {D : Ends} {σ : L2.St} {H : Hp} (h : t { D with nx := u D } σ H) : tSeq t u D σ H := h
theorem rdAsg {te : TE} {i : Nat} {D : Ends} {σ : L2.St} {H : Hp} (h : te σ H fun v H1 => D.nx (σ.set i (some v)) H1) : tAsg te (gName i) D σ H := h
theorem rdNil {σ : L2.St} {H : Hp} {Q : List V → Hp → Prop} (h : Q [] H) : tNil σ H Q := h
abbrev tPairE (C : Addr) : TE := tTup (tCons (tOexV C (sp_err C) (tCons (tVar 0) tNil)) (tCons (tOexV C (sp_err C) (tCons (tVar 0) tNil)) tNil))
theorem pair_made {C : Addr} {v : V} {σ : L2.St} {H : Hp} {Q : VK} (hv : σ[0]? = some (some v)) (k : ∀ t H', H t = none → Same H H' → PairAt H' t C v → Q (.ref t) H') : tPairE C σ H Q := by
  refine rdTup (rdCons (oex_var hv fun e1 H1 f1 s1 r1 => rdCons (oex_var hv fun e2 H2 f2 s2 r2 => rdNil ?_)))
  refine ⟨(by show 2 ≤ sizeLine; decide), fun t ht => ?_⟩
  have s3 := sameNew ht (o := .tup [.ref e1, .ref e2])
  exact k t _ ((s1.trans s2).free ht) (s1.trans (s2.trans s3)) ⟨e1, e2, upd_same, r1.same (s2.trans s3), r2.same s3⟩
/-- the list at l: a pair of errors for each class -/
def MadeAt (H : Hp) (l : Addr) (Cs : List Addr) (v : V) : Prop := ∃ ts : List Addr, H l = some (.lst (ts.map V.ref)) ∧ ts.length = Cs.length ∧ ∀ (j : Nat) (t C : Addr), ts[j]? = some t → Cs[j]? = some C → PairAt H t C v
theorem app_pair {K : PySem.W.Frag} {C l : Addr} {Cs : List Addr} {v : V} {σ : L2.St} {H : Hp} {D : Ends} (hv : σ[0]? = some (some v)) (hl : σ[1]? = some (some (.ref l))) (m : MadeAt H l Cs v) (hz : Cs.length ≤ 100)
    (k : ∀ H', But l H H' → MadeAt H' l (Cs ++ [C]) v → D.nx σ H') : tDrop (tBM K "list" rAppend (tVar 1) (tCons (tPairE C) tNil)) D σ H := by
  obtain ⟨ts, h1, h2, h3⟩ := m
  refine ⟨_, hl, .inl ⟨rfl, _, SqL.of h1⟩, ?_⟩
  refine rdCons (pair_made hv fun t H1 ht s1 p => rdNil ?_)
  have h1' := s1 _ _ h1
  refine ⟨l, _, _, rfl, rfl, h1', small1000 (by rw [List.length_map]; omega), ?_⟩
  have b : But l H1 (L2.upd H1 l (.lst (ts.map V.ref ++ [V.ref t]))) := But.upd
  refine k _ ((But.of s1).trans b) ⟨ts ++ [t], ?_, by rw [List.length_append, List.length_append, h2]; rfl, fun j u C' hj hC => ?_⟩
  · rw [upd_same, List.map_append]
    rfl
  · by_cases hjl : j < ts.length
    · rw [List.getElem?_append_left hjl] at hj
      rw [List.getElem?_append_left (by omega)] at hC
      exact ((h3 j u C' hj hC).same s1).but h1' b
    · rw [List.getElem?_append_right (by omega)] at hj hC
      have e : j - ts.length = 0 := by
        have := (List.getElem?_eq_some_iff.mp hj).1
        simp at this
        omega
      rw [e] at hj
      rw [show j - Cs.length = 0 by omega] at hC
      cases hj
      cases hC
      exact p.but h1' b
/-! ### isinstance, class by class -/
def kitTab (K : PySem.W.Frag) (Cs : List Addr) (B : Addr) : Bool :=
  (Cs.zipIdx.all fun p => Cs.zipIdx.all fun q => decide (PySem.W.kitOne K (.ref p.1) (.ref q.1) = some (decide (p.2 = q.2)))) &&
    Cs.all fun c => decide (PySem.W.kitOne K (.ref c) (.ref B) = some true) && decide (PySem.W.kitOne K (.ref c) (.type "ValueError") = some true) && decide (PySem.W.kitOne K (.ref B) (.ref c) = some false)
section
variable {K : PySem.W.Frag} {Cs : List Addr} {B : Addr}
theorem kit_ij (h : kitTab K Cs B = true) {i j : Nat} {c d : Addr} (hi : Cs[i]? = some c) (hj : Cs[j]? = some d) : PySem.W.kitOne K (.ref c) (.ref d) = some (decide (i = j)) := by
  have h1 := (Bool.and_eq_true_iff.mp h).1
  have h2 := List.all_eq_true.mp h1 (c, i) (List.mk_mem_zipIdx_iff_getElem?.mpr hi)
  have h3 := List.all_eq_true.mp h2 (d, j) (List.mk_mem_zipIdx_iff_getElem?.mpr hj)
  exact of_decide_eq_true h3
theorem kit_b (h : kitTab K Cs B = true) {i : Nat} {c : Addr} (hi : Cs[i]? = some c) : PySem.W.kitOne K (.ref c) (.ref B) = some true ∧ PySem.W.kitOne K (.ref c) (.type "ValueError") = some true ∧ PySem.W.kitOne K (.ref B) (.ref c) = some false := by
  have h1 := (Bool.and_eq_true_iff.mp h).2
  have h2 := List.all_eq_true.mp h1 c (List.mem_of_getElem? hi)
  have h3 := Bool.and_eq_true_iff.mp h2
  have h4 := Bool.and_eq_true_iff.mp h3.1
  exact ⟨of_decide_eq_true h4.1, of_decide_eq_true h4.2, of_decide_eq_true h3.2⟩
end
/-! ### lists of bools -/
theorem bls_all {K : PySem.W.Frag} {H : Hp} : ∀ bs : List Bool, DpAll K H (bs.map V.bl) (bs.map PyData.bool)
  | [] => .nil
  | b :: r => .cons (.bl b) (bls_all r)
theorem bls_lay : ∀ bs : List Bool, PyData.canLayAll0 (bs.map PyData.bool) = true ∧ PyData.depthAll (bs.map PyData.bool) = 0
  | [] => ⟨rfl, rfl⟩
  | b :: r => by
    obtain ⟨h1, h2⟩ := bls_lay r
    refine ⟨?_, ?_⟩
    · show (PyData.canLay0 (.bool b) && PyData.canLayAll0 (r.map PyData.bool)) = true
      rw [h1]
      rfl
    · show max (PyData.depth (.bool b)) (PyData.depthAll (r.map PyData.bool)) = 0
      rw [h2]
      rfl
theorem bls_shaped (bs : List Bool) : SeqAt.shaped (.list (bs.map PyData.bool)) = true := by
  obtain ⟨h1, h2⟩ := bls_lay bs
  unfold SeqAt.shaped
  show (PyData.canLayAll0 (bs.map PyData.bool) && decide (PyData.depthAll (bs.map PyData.bool) + 1 ≤ 64)) = true
  rw [h1, h2]
  rfl
theorem eqv_bls (bs : List Bool) : PyData.eqv (.list (bs.map PyData.bool)) (.list (bs.map PyData.bool)) = true := SeqAt.eqv_refl _ (SeqAt.canLay_of_shaped (bls_shaped bs))
theorem seq0 {n : Nat} (h : 0 < n) : seqIndex? 0 n = some 0 := by
  unfold seqIndex?
  simp
  omega
/-- [e for x in range(15)] and its like: bools -/
theorem lc_bools {n : Nat} {j : Nat} {te : TE} {vs : List Nat} {σ : L2.St} {H1 : Hp} {D : Addr} {Qd : Hp → Prop} (f : Nat → Bool) (hz : n ≤ 1000) (hD : H1 D = none)
    (hw : ∀ x : V, wipe ((wipe σ vs).set j (some x)) vs = wipe σ vs)
    (he : ∀ (i : Nat) (H2 : Hp) (Q : VK), Same H1 H2 → (∀ H3, Same H2 H3 → Q (.bl (f i)) H3) → te ((wipe σ vs).set j (some (.int (0 + (i : Nat))))) H2 Q)
    (hd : ∀ H, Same H1 H → H D = some (.lst (((List.range n).map f).map V.bl)) → Qd H) :
    ∃ W : Nat → Nat → Hp → Prop, (∃ m, W 0 m (L2.upd H1 D (.lst []))) ∧ ∀ i m H, W i m H →
      ((Itr 0 n).stop i H ∧ Qd H) ∨ ((Itr 0 n).go i H ∧ ∃ Nx : Hp → Prop, (∀ H', Nx H' → ∃ m', m' < m ∧ W (i + 1) m' H') ∧ ∀ x H', (Itr 0 n).yld i H x H' → gName j x (wipe σ vs) H' fun σ2 H2 => wipe σ2 vs = wipe σ vs ∧ tYes σ2 H2 fun b H3 =>
        if b = true then te σ2 H3 fun y H4 => ∃ acc, H4 D = some (.lst acc) ∧ acc.length < sizeLine ∧ Nx (L2.upd H4 D (.lst (acc ++ [y]))) else Nx H3) := by
  refine lc_range (lo := 0) (n := n) (fun i H => Same H1 H ∧ H D = some (.lst (((List.range i).map f).map V.bl)) ∧ i ≤ n) ⟨sameNew hD, upd_same, Nat.zero_le _⟩ ?_ (fun H p => hd H p.1 p.2.1)
  rintro i H hi ⟨s, hH, _⟩
  refine ⟨hw _, ?_⟩
  show te ((wipe σ vs).set j (some (.int (0 + (i : Nat))))) H _
  refine he i H _ s fun H3 s3 => ?_
  refine ⟨_, s3 _ _ hH, small1000 (by rw [List.length_map, List.length_map, List.length_range]; omega), fun b o e => ?_, ?_, hi⟩
  · rw [upd_ne (ne_of_none e hD)]
    exact s3 _ _ (s _ _ e)
  · rw [upd_same, List.range_succ, List.map_append, List.map_append]
    rfl
/-- what is handed to the errors -/
structure Shows (K : PySem.W.Frag) (H : Hp) (v : V) (d : PyData) : Prop where
  dp : ∀ H', Same H H' → Dp K H' v d
  o1 : d.showable = true
  o2 : d.hasDict = false
  o3 : d.depth ≤ 60
  o4 : d.shown.length ≤ sizeLine
/-! ### the bag -/
abbrev bagK (l : Addr) (left turn blend : Int) : List (Key × V) := [(.inr "great", .ref l), (.inr "left", .int left), (.inr "turn", .int turn), (.inr "blend", .int blend)]
theorem bag_left (l : Addr) (a b c : Int) : valV (bagK l a b c) (.inr "left" : Key) = some (.int a) := rfl
theorem bag_great (l : Addr) (a b c : Int) : valV (bagK l a b c) (.inr "great" : Key) = some (.ref l) := rfl
theorem bag_turn (l : Addr) (a b c : Int) : valV (bagK l a b c) (.inr "turn" : Key) = some (.int b) := rfl
theorem bag_blend (l : Addr) (a b c : Int) : valV (bagK l a b c) (.inr "blend" : Key) = some (.int c) := rfl
theorem bag_put_left (l : Addr) (a b c z : Int) : putK (bagK l a b c) (.inr "left" : Key) (.int z) = bagK l z b c := rfl
theorem bag_put_turn (l : Addr) (a b c z : Int) : putK (bagK l a b c) (.inr "turn" : Key) (.int z) = bagK l a z c := rfl
theorem bag_merge (l : Addr) (a b c : Int) : mergeK [] (bagK l a b c) = bagK l a b c := rfl
end BR

/-! ### try: .. except x as n: suite, where the error is kept behind the suite -/
namespace BR
open PySem PySem.Spec PyProof.Rows L2
/-- an error of the class cls, its dict at d, stands at a -/
def exk (a : Addr) (cls : Value) (d : Option Addr) : HO := .ext fun h => ∃ (oe : Obj) (vs : Array Value), h.get? a = some oe ∧ Zc cls d oe ∧ oe.data = .fields vs
theorem exk_ok {P : Program} {w : World} {H : Hp} {h : Heap} {a : Addr} {cls : Value} {d : Option Addr} {oe : Obj} {vs : Array Value} (e : h.get? a = some oe) (z : Zc cls d oe) (dd : oe.data = .fields vs) : ObjOk P w H h a (exk a cls d) :=
  ⟨⟨oe, vs, e, z, dd⟩, ⟨oe, e⟩, fun h1 h2 q k => by
    obtain ⟨o1, v1, q1, q2, q3⟩ := q
    exact ⟨o1, v1, k _ q1, q2, q3⟩⟩
section
variable {X : Cx} {pins : List (Addr × Obj)} {σ : L2.St} {H : Hp} {s : Shared} {a : Addr} {o : Obj} {ob : HO}
/-- what is pinned becomes a thing of the abstract heap -/
theorem inv_track (I : Inv X ((a, o) :: pins) σ H s) (new : X.s_0.heap.get? a = none) (apart : ∀ p ∈ X.pn ++ pins, p.1 ≠ a) (is : ObjOk X.prog X.w (L2.upd H a ob) s.heap a ob) : Inv X pins σ (L2.upd H a ob) s := by
  obtain ⟨ha, hn, nL, nF, nc⟩ := I.pin (a, o) (List.mem_append_right _ List.mem_cons_self)
  have old : ∀ {b : Addr} {u : Obj}, X.s_0.heap.get? b = some u → b ≠ a := fun {b u} q e => by
    rw [e, new] at q
    cases q
  refine ⟨I.ok, I.os, I.bare, { keep := I.base.keep, slot := I.base.slot, there := I.base.there, free := fun b u q n x => ?_, tups := fun b xs q => ?_, frzs := fun b u v q => ?_, tbls := fun b ps q => ?_ }, I.loc, I.cell, ?_, fun x c q => ?_, fun p hp => ?_, fun b u q => ?_, I.len⟩
  · rw [upd_ne (old q)]
    exact I.base.free b u q n x
  · have z := I.base.tups b xs q
    rw [upd_ne (ne_of_none z hn)]
    exact z
  · have z := I.base.frzs b u v q
    rw [upd_ne (ne_of_none z hn)]
    exact z
  · obtain ⟨m, z⟩ := I.base.tbls b ps q
    exact ⟨m, by rw [upd_ne (ne_of_none z hn)]; exact z⟩
  · rw [upd_ne (Ne.symm nL)]
    exact I.free
  · obtain ⟨v, u, q1, q2⟩ := I.cell x c q
    have ca : c ≠ a := fun e => by
      rw [e] at q1
      rw [ha] at q1
      cases q1
      exact nc v q2
    rw [upd_ne ca]
    exact I.freeC x c q
  · have ne := apart p hp
    have mem : p ∈ X.pn ++ (a, o) :: pins := by
      rcases List.mem_append.mp hp with z | z
      · exact List.mem_append_left _ z
      · exact List.mem_append_right _ (List.mem_cons_of_mem _ z)
    obtain ⟨y1, y2, y3, y4, y5⟩ := I.pin p mem
    exact ⟨y1, by rw [upd_ne ne]; exact y2, y3, y4, y5⟩
  · by_cases e : b = a
    · subst e
      rw [upd_same] at q
      cases q
      exact is
    · rw [upd_ne e] at q
      exact (I.hok b u q).stay (fun c v _ y => y) (fun c y => by rw [upd_ne (ne_of_none y hn)]; exact y) fun c xs y => by rw [upd_ne (ne_of_none y hn)]; exact y
/-- behind the suite: the error is a pin of the frame's own -/
theorem inv_outSuite (I : Inv (X.suite a ((a, o) :: (X.pn ++ pins))) [] σ H s) (ok : X.Ok) : Inv X ((a, o) :: pins) σ H s :=
  ⟨ok, I.os, I.bare, I.base, I.loc, I.cell, I.free, I.freeC, fun p hp => I.pin p (by
    refine List.mem_append_left _ ?_
    rcases List.mem_append.mp hp with z | z
    · exact List.mem_cons_of_mem _ (List.mem_append_left _ z)
    · rcases List.mem_cons.mp z with z | z
      · rw [z]
        exact List.mem_cons_self
      · exact List.mem_cons_of_mem _ (List.mem_append_right _ z)), I.hok, I.len⟩
end
/-- what is wished of an error that the body lets out -/
def wKept (K : PySem.W.Frag) (c : Value) (i : Nat) (ts : Addr → Value → Option Addr → TS) (D : Ends) : WX := fun cls d σ H =>
  PySem.W.exmOne K cls c = some true ∧ ∀ a, H a = none → ts a cls d { nx := fun σ1 H1 => H1 a = none → D.nx (σ1.set i none) (L2.upd H1 a (exk a cls d)), rt := fun _ _ => False } (σ.set i (some (.ref a))) H
section
variable {X : Cx} {x n : Str} {c : Value} {i : Nat} {body suite : List Stmt} {st0 : Stmt} {np pos hpos : Pos} {tb : WX → TS} {ts : Addr → Value → Option Addr → TS}
theorem ps_try_kept (stk : X.stack = X.env :: X.outer) (lf : X.env.frame = some X.env.locals) (ex0 : X.ex = []) (nd : X.N.Nodup) (ix : X.N[i]? = some n) (kl : X.env.kindOf n = some .local) (nc : Names X x c)
    (bodyOk : ∀ (W : WX) (pn : List (Addr × Obj)) (xe : Value → Shared → Prop), Takes (X.tr pn xe) W → PassesOwn (model X.prog X.w) X.A X.env xe → PSs (X.tr pn xe) body (tb W))
    (suiteOk : ∀ (a : Addr) (oe : Obj) (cls : Value) (d : Option Addr) (pn : List (Addr × Obj)), Zc cls d oe → (∃ vs, oe.data = .fields vs) → PSs (X.suite a ((a, oe) :: pn)) (st0 :: suite) (ts a cls d)) :
    PS X (.Try body [.ExceptHandler (some (.Name x np)) (some n) (st0 :: suite) hpos] [] [] pos) (fun D σ H => tb (wKept X.K c i ts D) D σ H) := by
  refine ⟨fun pins s σ H D I0 wish => ?_⟩
  have okX := I0.ok
  have frames : X.A.frames = some (X.env :: X.outer) := okX.frames.trans (by rw [stk])
  refine wpAny_Try_except (wpAny_mono ((bodyOk (wKept X.K c i ts D) (X.pn ++ pins) (fun er s1 => wpAny (model X.prog X.w) X.A (noteFrame er X.env) (fun _ s2 => wpAny (model X.prog X.w) X.A (setFlight er none)
    (fun _ s3 => wpAny (model X.prog X.w) X.A (handleBy er X.env [.ExceptHandler (some (.Name x np)) (some n) (st0 :: suite) hpos]) (SP X pins D) X.xe s3) X.xe s2) X.xe s1) ?caught PassesOwn.looking).run [] s σ H D (I0.toTry _) wish) ?through fun _ _ z => z)
  case through =>
    intro fl s1 sp
    cases fl with
    | next =>
      obtain ⟨σ1, H1, J, q⟩ := sp
      exact wpAny_execs_nil ⟨σ1, H1, J.ofTry okX, q⟩
    | ret v =>
      obtain ⟨v1, σ1, H1, J, r, q⟩ := sp
      exact ⟨v1, σ1, H1, J.ofTry okX, r, q⟩
    | brk =>
      obtain ⟨σ1, H1, J, q⟩ := sp
      exact ⟨σ1, H1, J.ofTry okX, q⟩
    | cont =>
      obtain ⟨σ1, H1, J, q⟩ := sp
      exact ⟨σ1, H1, J.ofTry okX, q⟩
  case caught =>
    rintro u s1 ⟨a, B, sI, pins1, σ1, H1, cls, d, rfl, J0, nb, up, sky, na, os1, bare1, match1, wish1⟩
    have J : Inv X pins σ1 H1 sI := J0.ofTry okX
    have sky1 : Sky B (X.env :: X.outer) a (Zc cls d) X.env.locals s1.heap := by
      rw [← stk]
      exact sky
    have fresh : B.get? a = none := by
      rcases sky1 with ⟨_, z, _⟩ | ⟨_, z, _⟩ | ⟨_, z, _⟩ <;> exact z
    show wpAny (model X.prog X.w) X.A (noteFrame (.ref a) X.env) _ _ _
    refine Sky.land Zc.steady frames lf sky1 fun h2 fly2 up2 => ?_
    obtain ⟨oe2, vs2, at2, z2, d2⟩ := fly2.there
    have noFrame : a ∉ frs (X.env :: X.outer) := fun m => by
      obtain ⟨_, o', e', nf⟩ := fly2.2.2.1.mem m
      rw [at2] at e'
      cases e'
      exact nf _ d2
    have noI : sI.heap.get? a = none := by
      cases z : sI.heap.get? a with
      | none => rfl
      | some o =>
        have y := nb a o z (by rw [stk]; exact noFrame)
        rw [fresh] at y
        cases y
    have new0 : X.s_0.heap.get? a = none := by
      cases z : X.s_0.heap.get? a with
      | none => rfl
      | some o =>
        obtain ⟨o', y⟩ := J.base.there a o z (by rw [ex0]; simp)
        rw [noI] at y
        cases y
    have apart : ∀ p ∈ X.pn ++ pins, p.1 ≠ a := fun p hp e => by
      have y := (J.pin p hp).1
      rw [e, noI] at y
      cases y
    have nL : a ≠ X.env.locals := fun e => noFrame (List.mem_filterMap.mpr ⟨X.env, List.mem_cons_self, by rw [lf, e]⟩)
    have nF : a ∉ X.fs := fun m => by
      obtain ⟨en, hen, q⟩ := List.mem_filterMap.mp m
      exact noFrame (List.mem_filterMap.mpr ⟨en, List.mem_cons_of_mem _ hen, q⟩)
    have J2 : Inv X pins σ1 H1 { s1 with heap := h2 } := J.landed nb fly2.1 (up.trans up2) os1 bare1
    have S2 := J2.suite at2 d2 na nL nF
    refine wpAny_handleBy_cons (codeAny_handlers_test ?_) (by intro q; cases q)
    have ty : PySem.W.Looks (model X.prog X.w) h2 (typeOf (.ref a)) cls := fun A Q E s k q => wpAny_typeOf_ref (k _ _ at2) (by rw [z2.1]; exact q)
    have named : ∀ {Q : Value → Shared → Prop} {E : Value → Shared → Prop}, Q c { s1 with heap := h2 } → wpAny (model X.prog X.w) (X.A.mark (some (.ref a))) (eval (.Name x np) X.env) Q E { s1 with heap := h2 } := fun {Q E} q => by
      obtain ⟨g1, g2, g3⟩ := nc
      rcases g3 with g3 | ⟨g3, g4, g5⟩
      · exact ld_glob (X := X.suite a ((a, oe2) :: (X.pn ++ pins))) S2 g1 g3 q g2
      · exact ld_blt (X := X.suite a ((a, oe2) :: (X.pn ++ pins))) S2 g1 g3 g4 q g5 g2
    refine named ((PySem.W.exm_one (M := model X.prog X.w) J2.kIn ty match1).here (codeAny_handlers_suite_as (HandSPX.lands_againZ fly2 fun h3 fly3 up3 => ?_)))
    obtain ⟨oe3, vs3, at3, z3, d3⟩ := fly3.there
    have J3 : Inv X pins σ1 H1 { s1 with heap := h3 } := J.landed nb fly3.1 ((up.trans up2).trans up3) os1 bare1
    refine store_ok (X := X.suite a ((a, oe3) :: (X.pn ++ pins))) (v := .ref a) (J3.suite at3 d3 na nL nF) nd ix (.inl kl) rfl (fun s4 S4 => ?_) (.inr kl)
    refine wpAny_mono ((suiteOk a oe3 cls d (X.pn ++ pins) z3 ⟨_, d3⟩).run [] s4 _ H1 _ S4 (wish1 a na)) (fun fl s5 sp => ?_) fun _ _ z => False.elim z
    cases fl with
    | next =>
      obtain ⟨σ5, H5, S5, q5⟩ := sp
      refine gone_ok (inv_outSuite S5 okX) nd ix kl fun s6 J6 => ?_
      obtain ⟨at6, n6, _⟩ := J6.pin (a, oe3) (List.mem_append_right _ List.mem_cons_self)
      exact ⟨_, _, inv_track J6 new0 apart (exk_ok at6 z3 d3), q5 n6⟩
    | brk =>
      obtain ⟨_, _, _, z⟩ := sp
      exact z.elim
    | cont =>
      obtain ⟨_, _, _, z⟩ := sp
      exact z.elim
    | ret v =>
      obtain ⟨_, _, _, _, _, z⟩ := sp
      exact z.elim
end
end BR

/-! ### an error that was caught and kept: its field, isinstance -/
namespace BR
open PySem PySem.Spec PyProof.Rows L2
/-- an error of the class at C that was caught stands at a; its one field f holds v -/
def ErrK (H : Hp) (a C : Addr) (f : Str) (v : V) : Prop := ∃ d, H a = some (exk a (.ref C) (some d)) ∧ H d = some (.xd [(f, v)])
theorem ErrK.same {H H' : Hp} {a C : Addr} {f : Str} {v : V} (h : ErrK H a C f v) (s : Same H H') : ErrK H' a C f v := by
  obtain ⟨d, h1, h2⟩ := h
  exact ⟨d, s _ _ h1, s _ _ h2⟩
theorem errK_inst {X : Cx} {pins : List (Addr × Obj)} {σ : L2.St} {H : Hp} {s : Shared} {a C : Addr} {f : Str} {v : V} (I : Inv X pins σ H s) (h : ErrK H a C f v) :
    ∃ (ox od : Obj) (u : Value), PySem.W.InstAt s.heap a ox C (some od) ∧ RelV v u ∧ PySem.W.lookIn f od = some (some u) := by
  obtain ⟨d, h1, h2⟩ := h
  have x : ObjOk X.prog X.w H s.heap a (.ext fun h => ∃ (oe : Obj) (vs : Array Value), h.get? a = some oe ∧ Zc (.ref C) (some d) oe ∧ oe.data = .fields vs) := I.hok a _ h1
  obtain ⟨⟨oe, vs, e1, z, hd⟩, _, _⟩ := x
  have y : ObjOk X.prog X.w H s.heap d (.xd [(f, v)]) := I.hok d _ h2
  obtain ⟨mA, hns, hr⟩ := y
  obtain ⟨od, ho, hl⟩ := lookIn_ns hns
  have l : List.lookup f [(f, v)] = some v := by simp [List.lookup]
  obtain ⟨u, hu, ru⟩ := RelO.some_of (v := v) (o := mA f) (by rw [← l]; exact hr f)
  exact ⟨oe, od, u, ⟨e1, z.1, by unfold PySem.W.notCls; rw [hd] <;> rfl, by rw [z.2]; exact ho⟩, ru, by rw [hl, hu]⟩
def tErrK (K : PySem.W.Frag) (f : Str) (te : TE) : TE := fun σ H Q => te σ H fun x H1 => ∃ a C v, x = .ref a ∧ ErrK H1 a C f v ∧ XfC K C ∧ PySem.W.findIn K (.ref C) f = some none ∧ Q v H1
theorem pe_errK {X : Cx} {e : Expr} {te : TE} {pos : Pos} {n : Str} (he : PE X e te) (hb : attributeBase e n X.env (eval e X.env) = eval e X.env := by rfl) : PE X (.Attribute e n pos) (tErrK X.K n te) := by
  refine ⟨fun pins s σ H Q I h => attr_of hb (thn (he.run pins s σ H _ I h) ?_)⟩
  rintro u s1 ⟨x, H1, I1, rx, a, C, v, rfl, ea, T, no, q⟩
  obtain rfl : u = Value.ref a := rx
  obtain ⟨ox, od, w, J, ru, hl⟩ := errK_inst I1 ea
  exact HandSPX.exc_get I1.kIn J T.ga T.gg T.exC (PySem.W.findObj_own T.hdC no rfl hl) (handed_of ru) ⟨v, H1, I1.tok _, ru, q⟩
theorem cls_of {K : PySem.W.Frag} {C : Addr} (T : ExcC K C) : (PySem.W.clsIn K C).isSome = true := by
  have z := T.hd
  unfold PySem.W.hasDictIn at z
  cases y : PySem.W.clsIn K C with
  | none =>
    rw [y] at z
    exact absurd z (by decide)
  | some c => rfl
/-- isinstance(e, c) -/
def rIsK1 (K : PySem.W.Frag) : List V → Hp → VK → Prop := fun xs H Q => ∃ a C f v c u b, xs = [.ref a, c] ∧ ErrK H a C f v ∧ ExcC K C ∧ ClsV c u ∧ PySem.W.kitOne K (.ref C) u = some b ∧ Q (.bl b) H
/-- isinstance(e, (c, ..)) -/
def rIsKT (K : PySem.W.Frag) : List V → Hp → VK → Prop := fun xs H Q => ∃ a C f v tp cs us b, xs = [.ref a, .ref tp] ∧ ErrK H a C f v ∧ ExcC K C ∧ H tp = some (.tup cs) ∧ Paired ClsV cs us ∧ PySem.W.kitAny K (.ref C) us = some b ∧ Q (.bl b) H
def rIsK (K : PySem.W.Frag) : List V → Hp → VK → Prop := fun xs H Q => rIsK1 K xs H Q ∨ rIsKT K xs H Q
theorem call_isK {X : Cx} : CallR X (.builtin "isinstance") (rIsK X.K) := by
  rintro pins s σ H xs us Q I r (⟨a, C, f, v, c, u, b, rfl, ea, T, kc, ek, q⟩ | ⟨a, C, f, v, tp, cs, ws, b, rfl, ea, T, ht, kc, ek, q⟩)
  · obtain ⟨u1, u2, rfl, r1, r2⟩ := vals2 r
    obtain rfl : u1 = Value.ref a := r1
    have e2 := kc.eq r2
    subst e2
    obtain ⟨ox, od, w, J, _, _⟩ := errK_inst I ea
    exact PySem.W.kia_one (PySem.W.kitx_exc (cls_of T) T.hg T.hk T.hs T.ha T.hn T.ht T.hm) I.kIn J ek (fun z => nomatch z) fun tk => ⟨.bl b, H, I.kept (t' := tk) fun _ _ z => z, rfl, q⟩
  · obtain ⟨u1, u2, rfl, r1, r2⟩ := vals2 r
    obtain rfl : u1 = Value.ref a := r1
    obtain rfl : u2 = Value.ref tp := r2
    obtain ⟨ox, od, w, J, _, _⟩ := errK_inst I ea
    have y : ObjOk X.prog X.w H s.heap tp (.tup cs) := I.hok tp _ ht
    obtain ⟨_, its, rv, o, g1, g2, n, g3⟩ := y
    obtain rfl := ClsV.all kc rv
    obtain ⟨oc, odi, oda, osl⟩ := o
    dsimp only at g2 g3
    subst g2 g3
    exact PySem.W.kia_tup (PySem.W.kitx_exc (cls_of T) T.hg T.hk T.hs T.ha T.hn T.ht T.hm) I.kIn J g1 ek (fun z => nomatch z) fun tk => ⟨.bl b, H, I.kept (t' := tk) fun _ _ z => z, rfl, q⟩
end BR

/-! ### raise C(v): what is left; l.count(x) over data -/
namespace BR
open PySem PySem.Spec PyProof.Rows L2
/-- the end of a reading of «raise C(v)»: its own dict, new, holds v -/
theorem mkO_end {C : Addr} {v : V} {H1 : Hp} {Q : XK} (h : ∀ d, H1 d = none → Q (.ref C) (some d) (L2.upd H1 d (.xd [("value", v)]))) :
    [v].length ≤ 1000 ∧ ∀ a, H1 a = none → sp_err C (.ref a :: ([v] ++ [])) (L2.upd H1 a (exo a C none))
      (fun w H2 => w = .non ∧ ∃ (d : Addr) (fs : List (Str × V)), H2 a = some (exo a C (some d)) ∧ H2 d = some (exd d fs) ∧ H1 d = none ∧ Q (.ref C) (some d) (L2.upd (del H2 a) d (.xd fs))) (fun _ _ _ => False) := by
  refine ⟨(by show 1 ≤ 1000; decide), fun a ha => ⟨a, v, rfl, upd_same, fun d hd ne => ⟨rfl, d, [("value", v)], upd_same, ?_, ?_, ?_⟩⟩⟩
  · rw [upd_ne ne, upd_same]
  · rw [upd_ne ne] at hd
    exact hd
  · have hd1 : H1 d = none := by
      rw [upd_ne ne] at hd
      exact hd
    have e : L2.upd (del (L2.upd (L2.upd (L2.upd H1 a (exo a C none)) d (exd d [("value", v)])) a (exo a C (some d))) a) d (.xd [("value", v)]) = L2.upd H1 d (.xd [("value", v)]) := by
      funext b
      by_cases hb : b = d
      · rw [hb, upd_same, upd_same]
      · rw [upd_ne hb, upd_ne hb]
        by_cases hc : b = a
        · rw [hc, del_same, ha]
        · rw [del_ne hc, upd_ne hc, upd_ne hb, upd_ne hc]
    rw [e]
    exact h d hd1
def rCountD (K : PySem.W.Frag) : V → List V → Hp → VK → Prop := fun x xs H Q => ∃ (a : Addr) (y : V) (d : PyData) (ds : List PyData), x = .ref a ∧ xs = [y] ∧ Dp K H (.ref a) (.list ds) ∧ Dp K H y d ∧
  PyData.plainAll ds = true ∧ d.plain = true ∧ PyData.depthAll ds ≤ 60 ∧ Q (.int ((ds.countP fun z => PyData.eqv z d : Nat) : Int)) H
theorem mt_countD {X : Cx} (hu : X.A.units + 65 < cLine) : MtR X "list.count" (rCountD X.K) := by
  rintro pins s σ H x xs v us Q I rx rxs ⟨a, y, d, ds, rfl, rfl, hl, hy, pl, pd, dep, q⟩
  cases rx
  obtain ⟨u, rfl, ru⟩ := rxs.one
  obtain ⟨bs, r1⟩ := Dp.reads I d y u hy ru
  cases hl with
  | lst hs ha =>
    obtain ⟨its, rv, ⟨⟨cls, dd, data, sl⟩, n, ho, hc, hdn, hdt⟩, hlen⟩ := I.list hs
    simp only at hc hdt
    subst hc hdt
    obtain ⟨as, h4⟩ := Dp.readsAll I ds _ its ha rv
    refine SeqAt.count_list_data (vs := its.toArray) ⟨_, ho, rfl, n, rfl⟩ (by simpa using h4) r1 pl pd (by omega) ?_
    exact ⟨.int _, H, I.tok _, ⟨_, rfl⟩, q⟩
end BR

namespace BR
open PySem PySem.Spec PyProof.Rows L2
/-! ### dicts of the module with text keys: walked by items, asked by get -/
/-- the pairs of a written dict, as the layer's values -/
structure KTab (K : PySem.W.Frag) (P : Program) (w : World) (d : Addr) (kvs : List (Str × V)) : Prop where
  ex : ∃ (es : Array DictEntry) (n : Nat) (us : List (Str × Value)), K.lookup d = some ⟨.type "dict", none, .dict es n, #[]⟩ ∧ PySem.W.KeysLit w.params es.toList ∧ Pairs (strKind P w) es.toList us ∧ (us.map (·.1)).Nodup ∧
    KV kvs us
  low : (d == sysModules) = false
theorem KTab.at {K : PySem.W.Frag} {P : Program} {w : World} {d : Addr} {kvs : List (Str × V)} (T : KTab K P w d kvs) {h : Heap} (X : K.In h) :
    ∃ (us : List (Str × Value)) (n : Nat), h.DictAt (strKind P w) d us n ∧ KV kvs us := by
  obtain ⟨es, n, us, lk, lit, ps, nd, rel⟩ := T.ex
  refine ⟨us, n, ⟨_, es, X _ _ lk, ⟨rfl, rfl, rfl⟩, rfl, fun e he => ?_, ps, nd⟩, rel⟩
  obtain ⟨x, t, e1, e2⟩ := lit.all e (Array.mem_toList_iff.mpr he)
  exact ⟨x, by rw [e1]; exact strKind_is P w x t, e2⟩
/-- a new pair of key and value, turn by turn -/
def ItK (kvs : List (Str × V)) : It :=
  ⟨fun i _ => i < kvs.length, fun i H v H' => ∃ T k x, v = .ref T ∧ H T = none ∧ H' = L2.upd H T (.tup [.str k, x]) ∧ kvs[i]? = some (k, x), fun i _ => kvs.length ≤ i⟩
theorem turn_itemsK {P : Program} {w : World} {K : PySem.W.Frag} {elts : List Expr} {kk : Nat} {tpos : Pos} {d : Addr} {kvs : List (Str × V)} {us : List (Str × Value)} {n : Nat} (it : Addr)
    (hm : ∀ h : Heap, K.In h → h.DictAt (strKind P w) d us n) (rel : KV kvs us) :
    Turn P w K (.Tuple elts kk tpos) (ItK kvs) [it] it (fun i h => ∃ ok ov, IsItemIter h it d i us.length n ok ov) where
  mem := by simp
  obj := by
    rintro i h ⟨ok, ov, e⟩ b hb
    obtain rfl : b = it := by simpa using hb
    exact ⟨_, e, fun v z => nomatch z⟩
  keep := by
    rintro i h h' ⟨ok, ov, e⟩ kp
    exact ⟨ok, ov, kp it (by simp) _ e⟩
  item := by
    intro X hP hw hK hc i pins s σ H E I hf st hg
    subst hP hw hK
    have lz : kvs.length = us.length := Paired.length rel
    have hi : i < kvs.length := hg
    obtain ⟨⟨k, x⟩, hp⟩ : ∃ p, kvs[i]? = some p := ⟨kvs[i], List.getElem?_eq_getElem hi⟩
    obtain ⟨u, hq, ru⟩ := kv_get rel hp
    obtain ⟨ok, ov, he⟩ := st
    have below : it < s.heap.objs.size := Heap.lt_size he
    refine wpAny_pyNext_items_item he (hm _ I.kIn) hq fun key h1 hkey ho hT hz kp => ?_
    obtain ⟨tk, rfl⟩ := Value.isStrOf_shape hkey
    refine ⟨_, rfl, wpAny_letOwnedTupleGo_items (s := { s with heap := h1 }) ho fun h2 he2 sb => ?_⟩
    have hT2 := (sb.2 _ (Nat.ne_of_gt below)).trans hT
    have new : ObjOk X.prog X.w (L2.upd H s.heap.objs.size (.tup [.str k, x])) h2 s.heap.objs.size (.tup [.str k, x]) :=
      ⟨by show 2 ≤ sizeLine; decide, [.str k tk, u], .cons ⟨_, rfl⟩ (.cons ru .nil), ⟨_, hT2, rfl, _, rfl⟩⟩
    have J := I.turnedNew (t' := s.toks) (ch := [it]) (h' := h2) (fun b ob hb z => (sb.2 b (by simpa using hb)).trans (kp b ob (by simpa using hb) z)) hf (Nat.le_refl _) new
    refine ⟨.ref s.heap.objs.size, _, J, rfl, ⟨_, k, x, rfl, I.hok.fresh (Nat.le_refl _), rfl, hp⟩, ⟨_, _, he2⟩, fun b hb => ?_⟩
    obtain rfl : b = it := by simpa using hb
    rw [upd_ne (Nat.ne_of_lt below)]
    exact (hf b hb).1
  done := by
    intro X hP hw hK hc i pins s σ H E I hf st hg
    subst hP hw hK
    have lz : kvs.length = us.length := Paired.length rel
    have hge : kvs.length ≤ i := hg
    obtain ⟨f0, f1, f2, f3, f4, f5⟩ := hf it (by simp)
    obtain ⟨ok, ov, he⟩ := st
    exact wpAny_pyNext_items_end (I.ok.hd hc) he (hm _ I.kIn) (List.getElem?_eq_none (by omega)) fun h' eb => ⟨rfl, I.turned (t' := s.toks) (fun b o hb z => eb b o hb z) f0 f1 f3 f4 f5⟩
  self := fun A i s Q E st h => let ⟨_, _, e⟩ := st; PySem.W.kcp_self e h
def iItemsK (K : PySem.W.Frag) (P : Program) (w : World) (td : TE) : TI := fun σ H R => td σ H fun x H1 => ∃ d kvs, x = .ref d ∧ KTab K P w d kvs ∧ R (ItK kvs) H1
theorem pi_itemsK {X : Cx} {e : Expr} {td : TE} {apos cpos tpos : Pos} {elts : List Expr} {kk : Nat} (he : PE X e td) (hb : attributeBase e "items" X.env (eval e X.env) = eval e X.env := by rfl) (hl : (apos.endLine == cpos.line) = true := by rfl) :
    PI X (.Tuple elts kk tpos) (.Call (.Attribute e "items" apos) [] [] cpos) (iItemsK X.K X.prog X.w td) := by
  refine ⟨fun pins s σ H R I h => ?_⟩
  refine wpAny_Call_method (T := "dict") (id := "dict.items") hb rfl hl F.plainAttrs_dict F.slot_dict_items F.type_dict_items (thn (he.run pins s σ H _ I h) ?_)
  rintro u s1 ⟨x, H1, I1, rx, d, kvs, rfl, T, q⟩
  obtain rfl : u = Value.ref d := rx
  obtain ⟨es, n, us, lk, lit, ps, nd, rel⟩ := T.ex
  have hm : ∀ h : Heap, X.K.In h → h.DictAt (strKind X.prog X.w) d us n := fun h XK => ⟨_, es, XK _ _ lk, ⟨rfl, rfl, rfl⟩, rfl, fun e he => by
    obtain ⟨x, t, e1, e2⟩ := lit.all e (Array.mem_toList_iff.mpr he)
    exact ⟨x, by rw [e1]; exact strKind_is X.prog X.w x t, e2⟩, ps, nd⟩
  have hm1 := hm _ I1.kIn
  refine ⟨hm1.dictOf.typeIs, hm1.dictOf.mapOf.noDict, ?_⟩
  have I2 : Inv X pins σ H1 { s1 with heap := s1.heap.push { cls := .type "dict_items", data := .fields #[.ref d] } } := I1.kept (t' := s1.toks) fun b ob z => Heap.get?_push_of_some _ z
  have fin : wpAny (model X.prog X.w) X.A (pyIter (.ref s1.heap.objs.size)) (PIE X pins σ (.Tuple elts kk tpos) R) X.xe { s1 with heap := s1.heap.push { cls := .type "dict_items", data := .fields #[.ref d] } } := by
    refine wpAny_pyIter_items (d := d) (knd := strKind X.prog X.w) ⟨_, Heap.get?_push_size _ rfl, rfl, rfl⟩ (hm _ I2.kIn) (pi_one (tk := s1.toks) I2 _ (turn_itemsK _ hm rel) ⟨.none, .none, ?_⟩ q)
    exact Heap.get?_push_size _ rfl
  show wpAny _ _ (callWith cpos (.builtin "dict.items") [.ref d] [] []) _ X.xe s1
  exact method_meetsIn F.slot_dict_items F.entry_dict_items rfl (PySem.evalArgs_none ⟨rfl, hm1.dictOf.typeIs, F.args_dict_items_1 _, _, meets_dict_items (strKind X.prog X.w) d T.low, ⟨us, hm1.dictOf⟩, fin⟩)
theorem walk_itemsK {kvs : List (Str × V)} : L2.Walk (ItK kvs) kvs.length (fun _ => True) (YPair (fun i => kvs[i]?.map fun p => .str p.1) (fun i => kvs[i]?.map Prod.snd)) := by
  refine ⟨fun _ _ hi _ => hi, fun _ _ => Nat.le_refl _, ?_⟩
  rintro i H v H' _ _ ⟨T, k, x, h1, h2, h3, h4⟩
  exact ⟨T, .str k, x, h1, h2, h3, by simp [h4], by simp [h4]⟩
/-! in, not in, [], get with a default -/
section
variable {X : Cx}
theorem KTab.map {P : Program} {w : World} {K : PySem.W.Frag} {d : Addr} {kvs : List (Str × V)} (T : KTab K P w d kvs) {h : Heap} (X : K.In h) (z : Str) : ∃ f : Str → Option Value, h.MapOf (strKind P w) d f ∧ RelO (valV kvs z) (f z) := by
  obtain ⟨us, n, hm, rel⟩ := T.at X
  exact ⟨_, hm.dictOf.mapOf, rel.val z⟩
def rInK (K : PySem.W.Frag) (P : Program) (w : World) (neg : Bool) : R2 := fun x y H Q => ∃ z d kvs, x = .str z ∧ y = .ref d ∧ KTab K P w d kvs ∧ Q (.bl (if neg then !(valV kvs z).isSome else (valV kvs z).isSome)) H
theorem op_inT : OpR X (compareOp .In) (rInK X.K X.prog X.w false) := by
  rintro pins s σ H x y v u Q I rx ry ⟨z, d, kvs, rfl, rfl, T, q⟩
  obtain ⟨t, rfl⟩ := rx
  cases ry
  obtain ⟨f, hm, rel⟩ := T.map I.kIn z
  refine wpAny_in_of (strKind_is X.prog X.w z t) T.low hm ?_
  rw [← rel.isSome_eq]
  exact ⟨.bl (valV kvs z).isSome, H, I.tok _, rfl, q⟩
theorem op_notInT : OpR X (compareOp .NotIn) (rInK X.K X.prog X.w true) := by
  rintro pins s σ H x y v u Q I rx ry ⟨z, d, kvs, rfl, rfl, T, q⟩
  obtain ⟨t, rfl⟩ := rx
  cases ry
  obtain ⟨f, hm, rel⟩ := T.map I.kIn z
  refine wpAny_notIn_of (strKind_is X.prog X.w z t) T.low hm ?_
  rw [← rel.isSome_eq]
  exact ⟨.bl (!(valV kvs z).isSome), H, I.tok _, rfl, q⟩
def rIxT2 (K : PySem.W.Frag) (P : Program) (w : World) : R2 := fun x y H Q => ∃ d z v kvs, x = .ref d ∧ y = .str z ∧ KTab K P w d kvs ∧ valV kvs z = some v ∧ Q v H
theorem ix_tab : IxR X (rIxT2 X.K X.prog X.w) := by
  rintro value slice pins s σ H x y v u Q I rx ry ⟨d, z, r, kvs, rfl, rfl, T, ev, q⟩ hs
  obtain rfl : v = Value.ref d := rx
  obtain ⟨t, rfl⟩ := ry
  obtain ⟨f, hm, rel⟩ := T.map I.kIn z
  rw [ev] at rel
  obtain ⟨u0, e, ru⟩ := RelO.some_of rel
  exact tail_any hm.typeIs slot_dict_getitem.lookup (wpAny_getItem_of (strKind_is X.prog X.w z t) hm e ⟨r, H, I.tok _, ru, q⟩) hs
def tGetT (K : PySem.W.Frag) (P : Program) (w : World) (td ty tx : TE) : TE := fun σ H Q => td σ H fun x H1 => ∃ d kvs, x = .ref d ∧ KTab K P w d kvs ∧ ty σ H1 fun y H2 => tx σ H2 fun z H3 => ∃ k, y = .str k ∧ Q ((valV kvs k).getD z) H3
theorem pe_getT {o e f : Expr} {td ty tx : TE} {apos cpos : Pos} (ho : PE X o td) (he : PE X e ty) (hf : PE X f tx) (m : M2 X o "get" apos e f cpos) : PE X (.Call (.Attribute o "get" apos) [e, f] [] cpos) (tGetT X.K X.prog X.w td ty tx) := by
  refine ⟨fun pins s σ H Q I h => ?_⟩
  refine wpAny_Call_method m.base m.few m.line PySem.F.plainAttrs_dict PySem.F.slot_dict_get PySem.F.type_dict_get (thn (ho.run pins s σ H _ I h) ?_)
  rintro u s1 ⟨x, H1, I1, rx, d, kvs, rfl, T, q1⟩
  obtain rfl : u = Value.ref d := rx
  obtain ⟨us, n, dm, _⟩ := T.at I1.kIn
  refine ⟨dm.dictOf.typeIs, dm.dictOf.mapOf.noDict, ?_⟩
  rw [m.trees]
  refine Calls.callWith_builtin rfl (Calls.evalArgs_plain (Calls.spliced_cons (thn (he.run pins s1 σ H1 _ I1 q1) ?_)))
  rintro iv s2 ⟨y, H2, I2, ry, q2⟩
  refine Calls.spliced_cons (thn (hf.run pins s2 σ H2 _ I2 q2) ?_)
  rintro fv s3 ⟨z, H3, I3, rz, k, rfl, q3⟩
  refine Calls.spliced_nil ?_
  obtain ⟨t, rfl⟩ := (show ∃ t, iv = Value.str k t from ry)
  obtain ⟨g, hm, rel⟩ := T.map I3.kIn k
  refine call_meetsIn PySem.F.slot_dict_get hm.typeIs PySem.F.entry_dict_get (PySem.F.args_dict_get_3 _ _ _) (meets_dict_get_default (strKind X.prog X.w) d (strKind_is X.prog X.w k t) T.low fv) ⟨_, hm, ?_⟩
  exact ⟨_, H3, I3.tok _, rel.getD rz, q3⟩
end
end BR

/-! ### a module's dict with text keys, out of what the head answers -/
namespace BR
open PySem PySem.Spec PyProof.Rows L2
theorem pairs_of {P : Program} {w : World} : ∀ {es : List DictEntry} {kus : List (Str × Value)}, es.map He.keyOf = He.keysIn w.params (kus.map (·.1)) → es.map (·.val) = kus.map (·.2) → Pairs (strKind P w) es kus
  | [], [], _, _ => .nil
  | [], _ :: _, h, _ => by cases h
  | _ :: _, [], h, _ => by cases h
  | e :: es, (k, u) :: kus, h, g => by
    have h1 : He.keyOf e :: es.map He.keyOf = some (k, PyData.keyHash w.params k) :: He.keysIn w.params (kus.map (·.1)) := h
    injection h1 with h2 h3
    have g1 : e.val :: es.map (·.val) = u :: kus.map (·.2) := g
    injection g1 with g2 g3
    refine .cons ?_ g2 (pairs_of h3 g3)
    unfold He.keyOf at h2
    split at h2
    · rename_i x t q
      obtain ⟨y1, y2⟩ := Prod.mk.inj (Option.some.inj h2)
      show (strKind P w).is k e.key = true
      rw [q, ← y1]
      exact strKind_is P w x t
    · cases h2
theorem ktab_of {K : PySem.W.Frag} {P : Program} {w : World} {d : Addr} {es : Array DictEntry} {n : Nat} {kus : List (Str × Value)} {kvs : List (Str × V)} (lk : K.lookup d = some ⟨.type "dict", none, .dict es n, #[]⟩)
    (kk : es.toList.map He.keyOf = He.keysIn w.params (kus.map (·.1))) (vv : es.toList.map (·.val) = kus.map (·.2)) (rel : KV kvs kus) (nd : (kus.map (·.1)).Nodup) (low : (d == sysModules) = false) : KTab K P w d kvs :=
  ⟨⟨es, n, kus, lk, He.keysLit_of kk, pairs_of kk vv, nd, rel⟩, low⟩
end BR

/-! ### a module's tuple of texts -/
namespace BR
open PySem PySem.Spec PyProof.Rows L2
def strV (u : Value) : Option Str := match u with
  | .str x _ => some x
  | _ => none
theorem vals_strV : ∀ {us : List Value} {xs : List Str}, us.map strV = xs.map some → Vals (xs.map V.str) us
  | [], [], _ => .nil
  | [], _ :: _, h => by cases h
  | _ :: _, [], h => by cases h
  | u :: us, x :: xs, h => by
    have h1 : strV u :: us.map strV = some x :: xs.map some := h
    injection h1 with h2 h3
    refine .cons ?_ (vals_strV h3)
    unfold strV at h2
    split at h2
    · rename_i y t
      rw [Option.some.inj h2]
      exact ⟨t, rfl⟩
    · cases h2
/-- the texts xs stand in a written tuple at p -/
structure TupK (K : PySem.W.Frag) (p : Addr) (xs : List Str) : Prop where
  ex : ∃ (o : Obj) (its : Array Value) (n : Nat), K.lookup p = some o ∧ o.cls = .type "tuple" ∧ o.data = .seq its n ∧ its.size ≤ sizeLine ∧ Vals (xs.map V.str) its.toList
theorem TupK.sq {K : PySem.W.Frag} {p : Addr} {xs : List Str} (T : TupK K p xs) {H : Hp} : SqT K H p (xs.map V.str) := .inr T.ex
theorem tupK_of {K : PySem.W.Frag} {p : Addr} {o : Obj} {its : Array Value} {n : Nat} {xs : List Str} (l : K.lookup p = some o) (c : o.cls = .type "tuple") (d : o.data = .seq its n) (e : its.toList.map strV = xs.map some) (z : xs.length ≤ 1000 := by decide) : TupK K p xs := by
  refine ⟨o, its, n, l, c, d, ?_, vals_strV e⟩
  have y := congrArg List.length e
  rw [List.length_map, List.length_map, Array.length_toList] at y
  rw [sizeLine_eq]
  omega
end BR

/-! ### tables of the module, asked -/
namespace BR
open PySem PySem.Spec PyProof.Rows L2
theorem inV_str {z : Str} : ∀ {xs : List Str}, inV (.str z) (xs.map V.str) = decide (z ∈ xs)
  | [] => rfl
  | x :: xs => by
    have ih := inV_str (z := z) (xs := xs)
    unfold inV at ih ⊢
    rw [List.map_cons, List.any_cons, ih]
    have e : eqV (.str x) (.str z) = decide (z = x) := by
      show (x == z) = decide (z = x)
      by_cases h : z = x
      · rw [h]; simp
      · have h2 : ¬ x = z := fun e => h e.symm
        simp [h, h2]
    rw [e]
    simp
theorem flat_strs : ∀ {xs : List Str}, (xs.map V.str).all flatV = true
  | [] => rfl
  | _ :: xs => flat_strs (xs := xs)
/-- each key's value is a written tuple of texts -/
def TabRel (K : PySem.W.Frag) : List (Str × V) → List (Str × List Str) → Prop := Paired fun p q => p.1 = q.1 ∧ ∃ a, p.2 = .ref a ∧ TupK K a q.2
theorem look_cons {α : Type} {k z : Str} {v : α} {l : List (Str × α)} : List.lookup z ((k, v) :: l) = if z = k then some v else List.lookup z l := by
  by_cases h : z = k
  · rw [if_pos h, h]
    simp [List.lookup]
  · rw [if_neg h]
    have e : (z == k) = false := by simpa using h
    simp [List.lookup, e]
theorem valV_cons {k z : Str} {v : V} {l : List (Str × V)} : valV ((k, v) :: l) z = if z = k then some v else valV l z := by
  unfold valV
  by_cases h : z = k
  · rw [if_pos h, h]
    simp
  · rw [if_neg h]
    have e : ¬ k = z := fun y => h y.symm
    simp [List.find?, e]
theorem tab_find {K : PySem.W.Frag} {z : Str} : ∀ {kvs : List (Str × V)} {tab : List (Str × List Str)}, TabRel K kvs tab → (tab.lookup z = none ∧ valV kvs z = none) ∨ ∃ os a, tab.lookup z = some os ∧ valV kvs z = some (.ref a) ∧ TupK K a os
  | _, _, .nil => .inl ⟨rfl, rfl⟩
  | (k, v) :: kvs, (k2, os) :: tab, .cons h r => by
    obtain ⟨h1, a, h2, h3⟩ := h
    dsimp only at h1 h2 h3
    subst h1 h2
    rw [look_cons, valV_cons]
    by_cases c : z = k
    · rw [if_pos c, if_pos c]
      exact .inr ⟨os, a, rfl, rfl, h3⟩
    · rw [if_neg c, if_neg c]
      exact tab_find r
theorem txt_find {z : Str} : ∀ {l : List (Str × Str)}, valV (l.map fun p => (p.1, V.str p.2)) z = (l.lookup z).map V.str
  | [] => rfl
  | (k, v) :: l => by
    rw [List.map_cons, valV_cons, look_cons]
    by_cases c : z = k
    · rw [if_pos c, if_pos c]
      rfl
    · rw [if_neg c, if_neg c]
      exact txt_find
end BR

namespace BR
open PySem PySem.Spec PyProof.Rows L2
theorem pick_succ {p : Str → Bool} {xs : List Str} {i : Nat} {z : Str} (h : xs[i]? = some z) : (xs.take (i + 1)).filter p = (xs.take i).filter p ++ (if p z then [z] else []) := by
  have e : xs.take (i + 1) = xs.take i ++ [z] := by
    rw [List.take_add_one, h]
    rfl
  rw [e, List.filter_append]
  congr 1
  cases c : p z <;> simp [List.filter, c]
theorem mapS_at {xs : List Str} {i : Nat} {x : V} (h : (xs.map V.str)[i]? = some x) : ∃ z, xs[i]? = some z ∧ x = .str z := by
  rw [List.getElem?_map] at h
  cases e : xs[i]? with
  | none =>
    rw [e] at h
    cases h
  | some z =>
    rw [e] at h
    cases h
    exact ⟨z, rfl, rfl⟩
/-- [x for x in t if c], t a tuple of texts, c told by x alone -/
theorem lc_pick {K : PySem.W.Frag} {a : Addr} {xs : List Str} {j : Nat} {tt : TT} {te : TE} {vs : List Nat} {σ : L2.St} {H1 : Hp} {D : Addr} {Qd : Hp → Prop} (p : Str → Bool) (hT : SqT K H1 a (xs.map V.str)) (hz : xs.length ≤ 1000) (hD : H1 D = none)
    (hw : ∀ x : V, wipe ((wipe σ vs).set j (some x)) vs = wipe σ vs)
    (ht : ∀ (x : Str) (H2 : Hp) (Q : Bool → Hp → Prop), x ∈ xs → Same H1 H2 → Q (p x) H2 → tt ((wipe σ vs).set j (some (.str x))) H2 Q)
    (he : ∀ (x : Str) (H2 : Hp) (Q : VK), x ∈ xs → Same H1 H2 → Q (.str x) H2 → te ((wipe σ vs).set j (some (.str x))) H2 Q)
    (hd : ∀ H, Same H1 H → H D = some (.lst ((xs.filter p).map V.str)) → Qd H) :
    ∃ W : Nat → Nat → Hp → Prop, (∃ m, W 0 m (L2.upd H1 D (.lst []))) ∧ ∀ i m H, W i m H →
      ((Itt K a).stop i H ∧ Qd H) ∨ ((Itt K a).go i H ∧ ∃ Nx : Hp → Prop, (∀ H', Nx H' → ∃ m', m' < m ∧ W (i + 1) m' H') ∧ ∀ x H', (Itt K a).yld i H x H' → gName j x (wipe σ vs) H' fun σ2 H2 => wipe σ2 vs = wipe σ vs ∧ tt σ2 H2 fun b H3 =>
        if b = true then te σ2 H3 fun y H4 => ∃ acc, H4 D = some (.lst acc) ∧ acc.length < sizeLine ∧ Nx (L2.upd H4 D (.lst (acc ++ [y]))) else Nx H3) := by
  refine lc_tup (xs := xs.map V.str) (fun i H => Same H1 H ∧ H D = some (.lst (((xs.take i).filter p).map V.str))) ⟨sameNew hD, upd_same⟩ (fun i H _ p => sameT p.1 hT) ?_ ?_
  · rintro i x H hx ⟨s, hH⟩
    obtain ⟨z, hz1, rfl⟩ := mapS_at hx
    have mem := List.mem_of_getElem? hz1
    refine ⟨hw _, ?_⟩
    refine ht z H _ mem s ?_
    have step := pick_succ (p := p) hz1
    cases c : p z with
    | false =>
      rw [c] at step
      refine (if_neg (by decide)).mpr ?_
      refine ⟨s, ?_⟩
      rw [step]
      simpa using hH
    | true =>
      rw [c] at step
      refine (if_pos rfl).mpr ?_
      refine he z H _ mem s ?_
      refine ⟨_, hH, small1000 ?_, ?_, ?_⟩
      · have l1 := List.length_filter_le p (xs.take i)
        rw [List.length_take] at l1
        rw [List.length_map]
        omega
      · intro b o e
        rw [upd_ne (ne_of_none e hD)]
        exact s _ _ e
      · rw [upd_same, step, List.map_append]
        rfl
  · rintro H ⟨s, hH⟩
    rw [List.length_map, List.take_length] at hH
    exact hd H s hH
end BR

/-! ### tuples of texts as data -/
namespace BR
open PySem PySem.Spec PyProof.Rows L2
theorem strs_all {K : PySem.W.Frag} {H : Hp} : ∀ xs : List Str, DpAll K H (xs.map V.str) (xs.map PyData.str)
  | [] => .nil
  | x :: r => .cons (.str x) (strs_all r)
theorem strs_lay : ∀ xs : List Str, (∀ x ∈ xs, PyData.strOk x = true) → PyData.canLayAll0 (xs.map PyData.str) = true ∧ PyData.depthAll (xs.map PyData.str) = 0
  | [], _ => ⟨rfl, rfl⟩
  | x :: r, ok => by
    obtain ⟨h1, h2⟩ := strs_lay r fun y m => ok y (List.mem_cons_of_mem _ m)
    refine ⟨?_, ?_⟩
    · show (PyData.canLay0 (.str x) && PyData.canLayAll0 (r.map PyData.str)) = true
      rw [h1, Bool.and_true]
      exact ok x List.mem_cons_self
    · show max (PyData.depth (.str x)) (PyData.depthAll (r.map PyData.str)) = 0
      rw [h2]
      rfl
theorem strs_shapedT {xs : List Str} (ok : ∀ x ∈ xs, PyData.strOk x = true) : SeqAt.shaped (.tuple (xs.map PyData.str)) = true := by
  obtain ⟨h1, h2⟩ := strs_lay xs ok
  unfold SeqAt.shaped
  show (PyData.canLayAll0 (xs.map PyData.str) && decide (PyData.depthAll (xs.map PyData.str) + 1 ≤ 64)) = true
  rw [h1, h2]
  rfl
theorem strs_eqvA : ∀ xs ys : List Str, PyData.eqvAll (xs.map PyData.str) (ys.map PyData.str) = decide (xs = ys)
  | [], [] => rfl
  | [], _ :: _ => rfl
  | _ :: _, [] => rfl
  | x :: xs, y :: ys => by
    show (x == y && PyData.eqvAll (xs.map PyData.str) (ys.map PyData.str)) = decide (x :: xs = y :: ys)
    rw [strs_eqvA xs ys]
    by_cases h : x = y
    · by_cases g : xs = ys <;> simp [h, g]
    · simp [h]
theorem strs_eqv (xs ys : List Str) : PyData.eqv (.tuple (xs.map PyData.str)) (.tuple (ys.map PyData.str)) = decide (xs = ys) := strs_eqvA xs ys
theorem dp_strsT {K : PySem.W.Frag} {H : Hp} {a : Addr} {xs : List Str} (h : SqT K H a (xs.map V.str)) : Dp K H (.ref a) (.tuple (xs.map PyData.str)) := .tup h (strs_all xs)
theorem tab_at {K : PySem.W.Frag} : ∀ {kvs : List (Str × V)} {tab : List (Str × List Str)}, TabRel K kvs tab → ∀ {i : Nat} {k : Str} {x : V}, kvs[i]? = some (k, x) → ∃ os a, tab[i]? = some (k, os) ∧ x = .ref a ∧ TupK K a os
  | _, _, .nil, i, k, x, h => by cases i <;> cases h
  | (k1, v1) :: kvs, (k2, os) :: tab, .cons h r, i, k, x, e => by
    obtain ⟨h1, a, h2, h3⟩ := h
    dsimp only at h1 h2 h3
    subst h1 h2
    cases i with
    | zero =>
      cases e
      exact ⟨os, a, rfl, rfl, h3⟩
    | succ i => exact tab_at r (i := i) e
theorem find_at {α : Type} {p : α → Bool} : ∀ {l : List α} {i : Nat} {x : α}, l[i]? = some x → p x = true → (∀ (j : Nat) (y : α), j < i → l[j]? = some y → p y = false) → l.find? p = some x
  | [], i, x, h, _, _ => by cases i <;> cases h
  | a :: l, 0, x, h, hp, _ => by
    cases h
    simp [List.find?, hp]
  | a :: l, i + 1, x, h, hp, hn => by
    have ha := hn 0 a (Nat.succ_pos i) rfl
    have ih := find_at (l := l) (i := i) (x := x) h hp fun j y hj hy => hn (j + 1) y (Nat.succ_lt_succ hj) hy
    simp [List.find?, ha, ih]
theorem find_no {α : Type} {p : α → Bool} {l : List α} (h : ∀ (j : Nat) (y : α), l[j]? = some y → p y = false) : l.find? p = none := by
  rw [List.find?_eq_none]
  intro x hx
  obtain ⟨j, hj, e⟩ := List.mem_iff_getElem.mp hx
  rw [h j x (by rw [List.getElem?_eq_getElem hj, e])]
  decide
end BR

/-! ### calls without arguments where no repr runs; comprehensions that choose, over lists; heaps -/
namespace BR
open PySem PySem.Spec PyProof.Rows L2
section
variable {X : Cx} {CX : CXT} {k : Nat} {f : Addr} {fd : FuncData} {ps : List Str} {sp : Sp} {E : XK} {x : Str} {ds : List Value} {dvs : List V} {p pos : Pos}
theorem pe_callG0 (F : FnG X.prog X.w X.K X.mg X.base CX k f fd ps sp) (gg : X.A.guards = some []) (room : Room k X.A) (hg : Gl X x) (hm : X.mg x = some (.ref f)) (kp : PySem.W.keepIn X.K (.ref f) = true)
    (b : Binds X.K fd ps ds) (hd : Vals dvs ds) (hx : Passes CX X E) (nodb : (x == ("__debug__" : Str)) = false := by decide) : PE X (.Call (.Name x p) [] [] pos) (tCall sp dvs E tNil) := by
  refine ⟨fun pins s σ H Q I0 hh => ?_⟩
  refine wpAny_Call_Name_kw (ld_glob I0 hg hm ?_ nodb)
  have r2 : Vals ([] ++ dvs) ([] ++ ds) := hd
  have hl : ([] ++ ds).length = ps.length := by rw [← r2.length]; exact F.ln _ _ _ _ hh
  refine PySem.W.callWith_K0 I0.kIn kp ?_
  refine wpAny_call (codeAny_mono (F.go X.A X.stack s H ⟨[], []⟩ ([] ++ ds) ([] ++ dvs) Q E gg room I0.env0 (b s [] I0.kIn hl) r2 hh) fun res s' hq => ?_)
  cases res with
  | error e => exact hx pins σ H s e s' I0 hq
  | ok fl =>
    cases fl with
    | ret u => exact I0.after hq
    | next => exact hq.elim
    | brk => exact hq.elim
    | cont => exact hq.elim
end
section
variable {X : Cx} {T id : String} {name : Str} {r : V → List V → Hp → VK → Prop} {o e : Expr} {es : List Expr} {to : TE} {t : TA} {apos cpos : Pos} {K : PySem.W.Frag}
/-- a method's call where each side condition is written -/
theorem pe_bmX (hK : X.K = K) (pa : PlainAttrs T) (slot : Slot T name id) (hty : typeOf (.builtin id) = pure (.type "method_descriptor")) (hm : MtR X id r) (ho : PE X o to) (ha : PA X (e :: es) t)
    (c1 : attributeBase o name X.env (eval o X.env) = eval o X.env)
    (c2 : ((backTo cpos (starEach (e :: es) X.env)).all (fun x => !x.1) && (backToKw cpos (keywordEach [] X.env)).all (fun x => x.1.isSome) && decide ((e :: es).length + ([] : List Keyword).length + (if ([] : List Keyword).isEmpty then 0 else 1) < 30)) = true)
    (c3 : (apos.endLine == cpos.line) = true) (c4 : starEach (e :: es) X.env = (false, eval e X.env) :: starEach es X.env) (c5 : (backTo cpos (starEach es X.env)).any (·.1) = false) :
    PE X (.Call (.Attribute o name apos) (e :: es) [] cpos) (tBM K T r to t) := by
  subst hK
  exact pe_bm pa slot hty hm ho ha c1 c2 c3 c4 c5
end
theorem sameUp {H H1 : Hp} {p : Addr} {o : HO} (s : Same H H1) (hp : H p = none) : Same H (upd H1 p o) := fun b u e => by
  rw [upd_ne (ne_of_none e hp)]
  exact s b u e
theorem sameL {K : PySem.W.Frag} {H H' : Hp} {a : Addr} {xs : List V} (e : Same H H') (h : H a = some (.lst xs)) : SqL K H' a xs := SqL.of (e _ _ h)
/-- [x for x in l if c], l a list of texts, c told by x alone -/
theorem lc_pickL {K : PySem.W.Frag} {a : Addr} {xs : List Str} {j : Nat} {tt : TT} {te : TE} {vs : List Nat} {σ : L2.St} {H1 : Hp} {D : Addr} {Qd : Hp → Prop} (p : Str → Bool) (hL : H1 a = some (.lst (xs.map V.str))) (hz : xs.length ≤ 1000) (hD : H1 D = none)
    (hw : ∀ x : V, wipe ((wipe σ vs).set j (some x)) vs = wipe σ vs)
    (ht : ∀ (x : Str) (H2 : Hp) (Q : Bool → Hp → Prop), x ∈ xs → Same H1 H2 → (∀ H3, Same H2 H3 → Q (p x) H3) → tt ((wipe σ vs).set j (some (.str x))) H2 Q)
    (he : ∀ (x : Str) (H2 : Hp) (Q : VK), x ∈ xs → Same H1 H2 → Q (.str x) H2 → te ((wipe σ vs).set j (some (.str x))) H2 Q)
    (hd : ∀ H, Same H1 H → H D = some (.lst ((xs.filter p).map V.str)) → Qd H) :
    ∃ W : Nat → Nat → Hp → Prop, (∃ m, W 0 m (L2.upd H1 D (.lst []))) ∧ ∀ i m H, W i m H →
      ((Itl K a).stop i H ∧ Qd H) ∨ ((Itl K a).go i H ∧ ∃ Nx : Hp → Prop, (∀ H', Nx H' → ∃ m', m' < m ∧ W (i + 1) m' H') ∧ ∀ x H', (Itl K a).yld i H x H' → gName j x (wipe σ vs) H' fun σ2 H2 => wipe σ2 vs = wipe σ vs ∧ tt σ2 H2 fun b H3 =>
        if b = true then te σ2 H3 fun y H4 => ∃ acc, H4 D = some (.lst acc) ∧ acc.length < sizeLine ∧ Nx (L2.upd H4 D (.lst (acc ++ [y]))) else Nx H3) := by
  refine lc_list (xs := xs.map V.str) (fun i H => Same H1 H ∧ H D = some (.lst (((xs.take i).filter p).map V.str))) ⟨sameNew hD, upd_same⟩ (fun i H _ q => sameL q.1 hL) ?_ ?_
  · rintro i x H hx ⟨s, hH⟩
    obtain ⟨z, hz1, rfl⟩ := mapS_at hx
    have mem := List.mem_of_getElem? hz1
    refine ⟨hw _, ?_⟩
    refine ht z H _ mem s fun H3 s3 => ?_
    have step := pick_succ (p := p) hz1
    cases c : p z with
    | false =>
      rw [c] at step
      refine (if_neg (by decide)).mpr ?_
      refine ⟨s.trans s3, ?_⟩
      rw [step]
      simpa using s3 _ _ hH
    | true =>
      rw [c] at step
      refine (if_pos rfl).mpr ?_
      refine he z H3 _ mem (s.trans s3) ?_
      refine ⟨_, s3 _ _ hH, small1000 ?_, ?_, ?_⟩
      · have l1 := List.length_filter_le p (xs.take i)
        rw [List.length_take] at l1
        rw [List.length_map]
        omega
      · exact sameUp (s.trans s3) hD
      · rw [upd_same, step, List.map_append]
        rfl
  · rintro H ⟨s, hH⟩
    rw [List.length_map, List.take_length] at hH
    exact hd H s hH
theorem valV_mapS {α : Type} {f : α → V} {z : Str} : ∀ {l : List (Str × α)}, valV (l.map fun q => ((.inr q.1 : Key), f q.2)) (.inr z : Key) = (l.lookup z).map f
  | [] => rfl
  | (k, v) :: l => by
    have ih := valV_mapS (f := f) (z := z) (l := l)
    rw [List.map_cons]
    by_cases c : k = z
    · subst c
      rw [valV_pos rfl]
      simp [List.lookup]
    · rw [valV_neg (fun q => c (Sum.inr.inj q)), ih]
      have e : (z == k) = false := by simpa using fun q : z = k => c q.symm
      simp [List.lookup, e]
theorem putK_le {κ : Type} [DecidableEq κ] (c : List (κ × V)) (k : κ) (x : V) : (putK c k x).length ≤ c.length + 1 := by
  unfold putK
  split <;> simp
theorem dget_of {H : Hp} {a : Addr} {kvs : List (Key × V)} {z : Str} {v : V} (e : H a = some (.dK kvs)) (h : valV kvs (.inr z : Key) = some v) : DGet H a (.str z) (some v) := by
  rw [← h]
  exact DGet.k (k := .inr z) e
theorem yesR {σ : L2.St} {H : Hp} {k : Bool → Hp → Prop} (h : k true H) : tYes σ H k := h
theorem dput_new {H : Hp} {a : Addr} {kvs : List (Key × V)} {z : Str} {v : V} (e : H a = some (.dK kvs)) (hl : kvs.length ≤ 1000) (hn : valV kvs (.inr z : Key) = none) : DPut H a (.str z) v (L2.upd H a (.dK (kvs ++ [(.inr z, v)]))) := by
  have g := DPut.k (k := (.inr z : Key)) (v := v) e (small1000 hl)
  rw [putK_new v hn] at g
  exact g
theorem int_dec (x y : Int) : decide (V.int x = V.int y) = decide (x = y) := decide_eq_decide.mpr ⟨V.int.inj, fun e => congrArg V.int e⟩
theorem bl_dec (x y : Bool) : decide (V.bl x = V.bl y) = decide (x = y) := decide_eq_decide.mpr ⟨V.bl.inj, fun e => congrArg V.bl e⟩
end BR

/-! ### sets of ints out of a tuple, how many there are, max of a tuple of two -/
namespace BR
open PySem PySem.Spec PyProof.Rows L2
def rSetOf (K : PySem.W.Frag) (w : World) : List V → Hp → VK → Prop := fun xs H Q => ∃ (a : Addr) (ns : List Int), xs = [.ref a] ∧ SqT K H a (ns.map V.int) ∧ ns.length ≤ 1000 ∧
  ∀ (p : Addr) (n : Nat) (ks : List Int), H p = none → ks.Nodup → (∀ k, k ∈ ks ↔ k ∈ ns) → ks.length = n → Q (.ref p) (L2.upd H p (SetO w p (fun j => decide (j ∈ ns)) n))
section
variable {X : Cx}
theorem cr_setOf (hc : X.calm = true) : CallR X (.type "set") (rSetOf X.K X.w) := by
  intro pins s σ H xs us Q I r h
  obtain ⟨a, ns, rfl, hq, hz, q⟩ := h
  rw [Vals.ref1 r]
  obtain ⟨its, rv, pt, _⟩ := I.tuple hq
  refine call_set_tupI ns (I.ok.hd hc) (show s.heap.IsTuple a its.toArray from pt) (by simpa using rv.ints) (by unfold scanBound; omega) fun h' tk c R1 hcn k => ?_
  have ⟨o, es, ep, t, ho, hex, hdt, g, nd, hm2, hb, hf, hn, hr, hl2⟩ := R1
  refine ⟨.ref _, _, I.laid (t' := tk) (fun b u e => k b u e) (Nat.le_refl _) (setO_new R1), rfl, q _ c (es.toList.map keyOf) (I.hok.fresh (Nat.le_refl _)) nd (fun j => ?_) ?_⟩
  · rw [← hm2 j, decide_eq_true_eq]
  · rw [List.length_map, Array.length_toList, hn]
theorem call_len_setO : CallR X (.builtin "len") (fun xs H Q => ∃ (a : Addr) (S : Int → Bool) (n : Nat), xs = [.ref a] ∧ H a = some (SetO X.w a S n) ∧ Q (.int n) H) := by
  intro pins s σ H xs us Q I r h
  obtain ⟨a, S, n, rfl, ha, q⟩ := h
  rw [Vals.ref1 r]
  obtain ⟨o, es, ep, t, ho, hex, hdt, g, nd, hm2, hb, hf, hn, hr, hl2⟩ := setO_get I ha
  refine call_len_set ho hex hdt hf (by unfold scanBound at hb; omega) ⟨.int n, H, I.tok _, ⟨_, by rw [hn]⟩, q⟩
theorem met_nodup (val : Nat → Int) : ∀ i, (firstMet val i).Nodup
  | 0 => by rw [firstMet_zero]; exact List.nodup_nil
  | i + 1 => by
    rw [firstMet_succ]
    unfold step_dedup
    split
    · exact met_nodup val i
    · rename_i h
      refine List.nodup_append.mpr ⟨met_nodup val i, by simp, fun a ha b hb => ?_⟩
      rw [List.mem_singleton] at hb
      subst hb
      intro e
      subst e
      exact h (List.any_eq_true.mpr ⟨_, ha, by simp⟩)
theorem met_mem {ns : List Int} {k : Int} : k ∈ firstMet (fun i => ns.getD i 0) ns.length ↔ k ∈ ns := by
  have e := firstMet_any (fun i => ns.getD i 0) ns.length k
  have e2 : (List.range ns.length).map (fun i => ns.getD i 0) = ns := by
    apply List.ext_getElem?
    intro i
    rw [List.getElem?_map]
    by_cases h : i < ns.length
    · rw [List.getElem?_range h]
      simp [List.getD, h]
    · rw [List.getElem?_eq_none (by simpa using Nat.le_of_not_lt h), List.getElem?_eq_none (Nat.le_of_not_lt h)]
      rfl
  rw [e2] at e
  have m : ∀ l : List Int, l.any (· == k) = true ↔ k ∈ l := fun l => by simp
  rw [← m, ← m, e]
/-- len(set(l)), l a list of ints -/
def tLenSetL (K : PySem.W.Frag) (ta : TE) : TE := fun σ H Q => ta σ H fun x H1 => ∃ (l : Addr) (ns : List Int), x = V.ref l ∧ SqL K H1 l (ns.map V.int) ∧ ns.length < 64 ∧ ∀ (ks : List Int), ks.Nodup → (∀ k, k ∈ ks ↔ k ∈ ns) → Q (.int ks.length) H1
theorem pe_lenSetL {a : Expr} {ta : TE} {p p2 q pos : Pos} {K : PySem.W.Frag} (hK : X.K = K) (hc : X.calm = true) (hg : Gl X "len") (hm : X.mg "len" = none) (hg2 : Gl X "set") (hm2 : X.mg "set" = none) (ha : PE X a ta)
    (na : starEach [a] X.env = (false, eval a X.env) :: starEach [] X.env) : PE X (.Call (.Name "len" p) [.Call (.Name "set" p2) [a] [] q] [] pos) (tLenSetL K ta) := by
  subst hK
  refine ⟨fun pins s σ H Q I h => ?_⟩
  refine Call_ (ld_blt I hg hm PySem.boot_len ?_)
  refine callWith_builtin1 (args_cons ?_ rfl) rfl rfl
  refine Call_ (ld_blt I hg2 hm2 boot_set ?_)
  refine callWith_type1 (args_cons (thn (ha.run pins s σ H _ I h) ?_) na) na rfl
  rintro v s1 ⟨x, H1, I1, r1, l, ns, rfl, hq, hz, q1⟩
  refine args_nil ?_
  cases r1
  obtain ⟨its, r, pl, _⟩ := I1.list hq
  have hl : its.toArray.size = ns.length := by rw [List.size_toArray, ← r.length, List.length_map]
  refine call_set_list (I1.ok.hd hc) pl.isList (ns := ns) (by simpa using r.ints) (by unfold scanBound; omega) fun h' tk hS hk => ?_
  rw [hl] at hS
  refine args_nil ?_
  obtain ⟨o, es, ep, t, ho, hex, hd, _, _, _, hf, hn⟩ := hS
  have I2 : Inv X pins σ H1 { s1 with heap := h', toks := tk } := I1.kept fun b u e => hk b u (Heap.lt_size e) e
  have lz := firstMet_length_le (fun i => ns.getD i 0) ns.length
  refine call_len_set ho hex hd hf (by omega) ⟨.int (firstMet (fun i => ns.getD i 0) ns.length).length, H1, I2.tok _, ⟨_, by rw [hn]⟩, q1 _ (met_nodup _ _) fun k => met_mem⟩
/-- max of a tuple of two ints -/
theorem cr_maxT2 (hc : X.calm = true) (hu : X.A.units + 64 < cLine) : CallR X (.builtin "max") (fun xs H Q => ∃ (a : Addr) (i j : Int), xs = [.ref a] ∧ SqT X.K H a [.int i, .int j] ∧ Q (.int (if i < j then j else i)) H) := by
  intro pins s σ H xs us Q I r h
  obtain ⟨a, i, j, rfl, hq, q⟩ := h
  rw [Vals.ref1 r]
  obtain ⟨its, rv, pt, _⟩ := I.tuple hq
  obtain ⟨as, ra⟩ := Dp.readsAll I [.int i, .int j] _ _ (.cons (.int i) (.cons (.int j) .nil)) rv
  refine PySem.W.max_tuple_data (x := .int i) (xs := [.int j]) (I.ok.hd hc) (show s.heap.IsTuple a its.toArray from pt) (by simpa using ra) (⟨fun x hx y hy => by rcases List.mem_cons.mp hx with rfl | hx <;> rcases List.mem_cons.mp hy with rfl | hy <;> (try rcases List.mem_singleton.mp hx with rfl) <;> (try rcases List.mem_singleton.mp hy with rfl) <;> rfl, fun x hx => by rcases List.mem_cons.mp hx with rfl | hx <;> (try rcases List.mem_singleton.mp hx with rfl) <;> exact fun z => nomatch z⟩) (by show X.A.units + 1 + 0 < cLine; omega) fun k v h' tk bs _ hr hk => ?_
  have e : PySem.W.maxD (.int i) [.int j] = .int (if i < j then j else i) := by
    show (if PySem.W.dataLt (.int i) (.int j) then PyData.int j else .int i) = _
    rw [PySem.W.dataLt_int]
    by_cases c : i < j
    · rw [if_pos c, if_pos (decide_eq_true c)]
    · rw [if_neg c, if_neg (fun z => c (of_decide_eq_true z))]
  rw [e] at hr
  cases hr
  exact ⟨.int _, H, I.kept (t' := tk) hk, ⟨_, rfl⟩, q⟩
end
end BR

/-! ### rankings: the mathematics -/
namespace BR
open PySem PySem.Spec PyProof.Rows L2
def ins1 (x : Int) : List Int → List Int
  | [] => [x]
  | y :: l => if x < y then x :: y :: l else if x = y then y :: l else y :: ins1 x l
def srt : List Int → List Int
  | [] => []
  | x :: l => ins1 x (srt l)
theorem ins1_mem {x k : Int} : ∀ {l : List Int}, k ∈ ins1 x l ↔ k = x ∨ k ∈ l
  | [] => by simp [ins1]
  | y :: l => by
    unfold ins1
    split
    · simp
    · split
      · rename_i h
        subst h
        simp
      · rw [List.mem_cons, ins1_mem (l := l), List.mem_cons]
        constructor <;> (intro h; rcases h with h | h | h <;> simp [h])
theorem ins1_up {x : Int} : ∀ {l : List Int}, l.Pairwise (· < ·) → (ins1 x l).Pairwise (· < ·)
  | [], _ => by simp [ins1]
  | y :: l, h => by
    obtain ⟨h1, h2⟩ := List.pairwise_cons.mp h
    unfold ins1
    split
    · rename_i c
      refine List.pairwise_cons.mpr ⟨fun z hz => ?_, h⟩
      rcases List.mem_cons.mp hz with rfl | hz
      · exact c
      · exact Int.lt_trans c (h1 z hz)
    · split
      · exact h
      · rename_i c d
        refine List.pairwise_cons.mpr ⟨fun z hz => ?_, ins1_up h2⟩
        rcases ins1_mem.mp hz with rfl | hz
        · omega
        · exact h1 z hz
theorem srt_mem {k : Int} : ∀ {l : List Int}, k ∈ srt l ↔ k ∈ l
  | [] => Iff.rfl
  | x :: l => by rw [srt, ins1_mem, srt_mem, List.mem_cons]
theorem srt_up : ∀ l : List Int, (srt l).Pairwise (· < ·)
  | [] => .nil
  | x :: l => ins1_up (srt_up l)
theorem up_nodup {l : List Int} (h : l.Pairwise (· < ·)) : l.Nodup := h.imp fun h => Int.ne_of_lt h
/-- one list alone is in order and has these members -/
theorem up_one {a b : List Int} (ha : a.Pairwise (· < ·)) (hb : b.Pairwise (· < ·)) (h : ∀ k, k ∈ a ↔ k ∈ b) : a = b :=
  PySem.W.lks_uniq ((List.perm_ext_iff_of_nodup (up_nodup ha) (up_nodup hb)).mpr h) (ha.imp fun h => Int.le_of_lt h) (hb.imp fun h => Int.le_of_lt h)
theorem card_one {a b : List Int} (ha : a.Nodup) (hb : b.Nodup) (h : ∀ k, k ∈ a ↔ k ∈ b) : a.length = b.length := ((List.perm_ext_iff_of_nodup ha hb).mpr h).length_eq
def rk (l : List Int) (x : Int) : Nat := (l.filter fun y => decide (y < x)).length
theorem rk_le (l : List Int) (x : Int) : rk l x ≤ l.length := List.length_filter_le _ _
theorem rk_cons {y x : Int} {l : List Int} : rk (y :: l) x = (if y < x then 1 else 0) + rk l x := by
  unfold rk
  rw [List.filter_cons]
  by_cases h : y < x
  · rw [if_pos (decide_eq_true h), if_pos h, List.length_cons, Nat.add_comm]
  · rw [if_neg (fun z => h (of_decide_eq_true z)), if_neg h, Nat.zero_add]
theorem rk_mono {x y : Int} (h : x ≤ y) : ∀ l : List Int, rk l x ≤ rk l y
  | [] => Nat.le_refl _
  | z :: l => by
    have := rk_mono h l
    rw [rk_cons, rk_cons]
    split <;> split <;> omega
theorem rk_lt {x y : Int} (h : x < y) : ∀ {l : List Int}, x ∈ l → rk l x < rk l y
  | z :: l, m => by
    have w := rk_mono (Int.le_of_lt h) l
    rw [rk_cons, rk_cons]
    rcases List.mem_cons.mp m with rfl | m
    · rw [if_neg (Int.lt_irrefl _), if_pos h]
      omega
    · have := rk_lt h m
      split <;> split <;> omega
theorem rk_iff {l : List Int} {x y : Int} (hx : x ∈ l) (hy : y ∈ l) : (x < y ↔ rk l x < rk l y) ∧ (x = y ↔ rk l x = rk l y) := by
  rcases Int.lt_trichotomy x y with h | h | h
  · have := rk_lt h hx
    exact ⟨⟨fun _ => this, fun _ => h⟩, ⟨fun e => by omega, fun e => by omega⟩⟩
  · subst h
    exact ⟨⟨fun e => absurd e (Int.lt_irrefl _), fun e => absurd e (Nat.lt_irrefl _)⟩, ⟨fun _ => rfl, fun _ => rfl⟩⟩
  · have := rk_lt h hy
    exact ⟨⟨fun e => by omega, fun e => by omega⟩, ⟨fun e => by omega, fun e => by omega⟩⟩
theorem rk_cut {l : List Int} {x h : Int} (hx : x ∈ l) : x < h ↔ rk l x < rk l h := by
  constructor
  · exact fun e => rk_lt e hx
  · intro e
    refine Decidable.byContradiction fun n => ?_
    have := rk_mono (show h ≤ x by omega) l
    omega
/-- in a list in order the place is the rank -/
theorem rk_at : ∀ {l : List Int}, l.Pairwise (· < ·) → ∀ {j : Nat} {x : Int}, l[j]? = some x → rk l x = j
  | y :: l, h, 0, x, e => by
    cases e
    obtain ⟨h1, h2⟩ := List.pairwise_cons.mp h
    rw [rk_cons, if_neg (Int.lt_irrefl _), Nat.zero_add]
    unfold rk
    rw [List.filter_eq_nil_iff.mpr fun z hz => by have := h1 z hz; rw [decide_eq_true_eq]; omega]
    rfl
  | y :: l, h, j + 1, x, e => by
    obtain ⟨h1, h2⟩ := List.pairwise_cons.mp h
    have m : x ∈ l := List.mem_of_getElem? (show l[j]? = some x from e)
    rw [rk_cons, if_pos (h1 x m), rk_at h2 (show l[j]? = some x from e), Nat.add_comm]
theorem at_rk {l : List Int} (h : l.Pairwise (· < ·)) {x : Int} (m : x ∈ l) : l[rk l x]? = some x := by
  obtain ⟨j, hj, e⟩ := List.mem_iff_getElem.mp m
  have e2 : l[j]? = some x := by rw [List.getElem?_eq_getElem hj, e]
  rw [rk_at h e2]
  exact e2
/-- the ranks of words, the cut -/
def rks (xs : List Int) : List Int := xs.map fun x => ((rk (srt xs) x : Nat) : Int)
def ct (xs : List Int) (h : Int) : Int := ((rk (srt xs) h : Nat) : Int)
def IsRk (rs : List Int) (m : Nat) : Prop := ∀ k, k ∈ rs ↔ 0 ≤ k ∧ k < (m : Int)
theorem rks_is (xs : List Int) : IsRk (rks xs) (srt xs).length := fun k => by
  unfold rks
  rw [List.mem_map]
  constructor
  · rintro ⟨x, hx, rfl⟩
    have m := srt_mem.mpr hx
    have lt : rk (srt xs) x < (srt xs).length := (List.getElem?_eq_some_iff.mp (at_rk (srt_up xs) m)).1
    omega
  · rintro ⟨h0, h1⟩
    obtain ⟨j, rfl⟩ := Int.eq_ofNat_of_zero_le h0
    have hj : j < (srt xs).length := by omega
    have e : (srt xs)[j]? = some (srt xs)[j] := List.getElem?_eq_getElem hj
    exact ⟨_, srt_mem.mp (List.mem_of_getElem? e), by rw [rk_at (srt_up xs) e]⟩
theorem ct_le (xs : List Int) (h : Int) : 0 ≤ ct xs h ∧ ct xs h ≤ ((srt xs).length : Int) := by
  have := rk_le (srt xs) h
  unfold ct
  omega
/-- the ranks from 0 on -/
def rg (m : Nat) : List Int := (List.range m).map fun i => ((i : Nat) : Int)
theorem rg_up (m : Nat) : (rg m).Pairwise (· < ·) := by
  unfold rg
  rw [List.pairwise_map]
  exact List.pairwise_lt_range.imp fun h => by omega
theorem rg_mem {m : Nat} {k : Int} : k ∈ rg m ↔ 0 ≤ k ∧ k < (m : Int) := by
  unfold rg
  rw [List.mem_map]
  constructor
  · rintro ⟨i, hi, rfl⟩
    have := List.mem_range.mp hi
    omega
  · rintro ⟨h0, h1⟩
    obtain ⟨j, rfl⟩ := Int.eq_ofNat_of_zero_le h0
    exact ⟨j, List.mem_range.mpr (by omega), rfl⟩
theorem rg_len (m : Nat) : (rg m).length = m := by unfold rg; rw [List.length_map, List.length_range]
theorem isRk_srt {rs ks : List Int} {m : Nat} (h : IsRk rs m) (up : ks.Pairwise (· < ·)) (mem : ∀ k, k ∈ ks ↔ k ∈ rs) : ks = rg m := up_one up (rg_up m) fun k => by rw [mem, h k, rg_mem]
theorem isRk_card {rs ks : List Int} {m : Nat} (h : IsRk rs m) (nd : ks.Nodup) (mem : ∀ k, k ∈ ks ↔ k ∈ rs) : ks.length = m := by
  rw [card_one nd (up_nodup (rg_up m)) (fun k => by rw [mem, h k, rg_mem]), rg_len]
/-- as many different integers as lie between two -/
theorem few {l : List Int} {a b : Int} (nd : l.Nodup) (h : ∀ k ∈ l, a ≤ k ∧ k < b) : (l.length : Int) ≤ if a ≤ b then b - a else 0 := by
  by_cases c : a ≤ b
  · rw [if_pos c]
    obtain ⟨n, hn⟩ := Int.eq_ofNat_of_zero_le (show 0 ≤ b - a by omega)
    have p : (l.map fun k => k - a).Nodup := by
      rw [List.Nodup, List.pairwise_map]
      exact nd.imp fun h e => h (by omega)
    have s : ∀ k ∈ l.map (fun k => k - a), k ∈ rg n := fun k hk => by
      obtain ⟨z, hz, rfl⟩ := List.mem_map.mp hk
      have := h z hz
      exact rg_mem.mpr ⟨by omega, by omega⟩
    have q := card_one p ((up_nodup (rg_up n)).filter fun k => decide (k ∈ l.map fun k => k - a)) fun k => by
      rw [List.mem_filter, decide_eq_true_eq]
      exact ⟨fun z => ⟨s k z, z⟩, fun z => z.2⟩
    have u := List.length_filter_le (fun k => decide (k ∈ l.map fun k => k - a)) (rg n)
    rw [← q, List.length_map, rg_len] at u
    omega
  · rw [if_neg c]
    cases l with
    | nil => exact Int.le_refl 0
    | cons x l =>
      have := h x List.mem_cons_self
      omega
theorem ct_bounds {xs : List Int} {h : Int} (h0 : 0 ≤ h) (w : ∀ x ∈ xs, 0 ≤ x ∧ x < 2 * h) : ct xs h ≤ h ∧ ((srt xs).length : Int) - ct xs h ≤ h := by
  have nd := up_nodup (srt_up xs)
  have e1 := few (a := 0) (b := h) (l := (srt xs).filter fun y => decide (y < h)) (nd.filter _) fun k hk => by
    obtain ⟨m, c⟩ := List.mem_filter.mp hk
    exact ⟨(w k (srt_mem.mp m)).1, of_decide_eq_true c⟩
  have e2 := few (a := h) (b := 2 * h) (l := (srt xs).filter fun y => !decide (y < h)) (nd.filter _) fun k hk => by
    obtain ⟨m, c⟩ := List.mem_filter.mp hk
    have := (w k (srt_mem.mp m)).2
    have c2 : decide (k < h) = false := by simpa using c
    have := of_decide_eq_false c2
    omega
  have e3 : ((srt xs).filter fun y => decide (y < h)).length + ((srt xs).filter fun y => !decide (y < h)).length = (srt xs).length := by
    have := List.length_eq_countP_add_countP (fun y => decide (y < h)) (l := srt xs)
    rw [List.countP_eq_length_filter, List.countP_eq_length_filter] at this
    have q : (fun a : Int => decide (¬ (decide (a < h)) = true)) = fun y => !decide (y < h) := by
      funext y
      by_cases c : y < h <;> simp [c]
    rw [q] at this
    omega
  unfold ct rk
  rw [if_pos h0] at e1
  rw [if_pos (show h ≤ 2 * h by omega)] at e2
  omega
/-- the first words -/
def lw (h c r : Int) : Int := if r < c then r else h + r - c
theorem lw_up {h c r s : Int} (hc : c ≤ h) (l : r < s) : lw h c r < lw h c s := by
  unfold lw
  split <;> split <;> omega
theorem lw_inj {h c r s : Int} (hc : c ≤ h) (e : lw h c r = lw h c s) : r = s := by
  rcases Int.lt_trichotomy r s with l | l | l
  · have := lw_up hc l
    omega
  · exact l
  · have := lw_up hc l
    omega
theorem lw_word {h c r : Int} {m : Nat} (h0 : 0 ≤ c) (hc : c ≤ h) (hm : (m : Int) - c ≤ h) (r0 : 0 ≤ r) (r1 : r < m) : 0 ≤ lw h c r ∧ lw h c r < 2 * h := by
  unfold lw
  split <;> omega
theorem lw_cut {h c r : Int} (hc : c ≤ h) : lw h c r < h ↔ r < c := by
  unfold lw
  split <;> constructor <;> intro _ <;> omega
theorem srt_lw {rs : List Int} {m : Nat} {h c : Int} (hc : c ≤ h) (is : IsRk rs m) : srt (rs.map (lw h c)) = (rg m).map (lw h c) := by
  refine up_one (srt_up _) ?_ fun k => ?_
  · rw [List.pairwise_map]
    exact (rg_up m).imp fun l => lw_up hc l
  · rw [srt_mem, List.mem_map, List.mem_map]
    constructor
    · rintro ⟨r, hr, e⟩
      exact ⟨r, rg_mem.mpr ((is r).mp hr), e⟩
    · rintro ⟨r, hr, e⟩
      exact ⟨r, (is r).mpr (rg_mem.mp hr), e⟩
theorem rk_map {h c x : Int} (hc : c ≤ h) : ∀ l : List Int, rk (l.map (lw h c)) (lw h c x) = rk l x
  | [] => rfl
  | y :: l => by
    rw [List.map_cons, rk_cons, rk_cons, rk_map hc l]
    congr 1
    by_cases q : y < x
    · rw [if_pos q, if_pos (lw_up hc q)]
    · rw [if_neg q, if_neg (fun z => by
        rcases Int.lt_trichotomy x y with e | e | e
        · have := lw_up hc e
          omega
        · subst e
          omega
        · exact q e)]
theorem rk_mapc {h c : Int} (hc : c ≤ h) : ∀ l : List Int, rk (l.map (lw h c)) h = rk l c
  | [] => rfl
  | y :: l => by
    rw [List.map_cons, rk_cons, rk_cons, rk_mapc hc l]
    congr 1
    by_cases q : y < c
    · rw [if_pos q, if_pos ((lw_cut hc).mpr q)]
    · rw [if_neg q, if_neg (fun z => q ((lw_cut hc).mp z))]
theorem rk_rg {m : Nat} {c : Int} (h0 : 0 ≤ c) (h1 : c ≤ m) : ((rk (rg m) c : Nat) : Int) = c := by
  obtain ⟨n, rfl⟩ := Int.eq_ofNat_of_zero_le h0
  have e : (rg m).filter (fun y => decide (y < ((n : Nat) : Int))) = rg n := up_one ((rg_up m).filter _) (rg_up n) fun k => by
    rw [List.mem_filter, rg_mem, rg_mem, decide_eq_true_eq]
    omega
  unfold rk
  rw [e, rg_len]
/-- the first words have the ranking -/
theorem rks_lw {rs : List Int} {m : Nat} {h c : Int} (hc : c ≤ h) (c0 : 0 ≤ c) (cm : c ≤ m) (is : IsRk rs m) : rks (rs.map (lw h c)) = rs ∧ ct (rs.map (lw h c)) h = c := by
  have e := srt_lw hc is
  refine ⟨?_, ?_⟩
  · unfold rks
    rw [e, List.map_map]
    have : ∀ r ∈ rs, ((fun x => ((rk ((rg m).map (lw h c)) x : Nat) : Int)) ∘ lw h c) r = r := fun r hr => by
      obtain ⟨r0, r1⟩ := (is r).mp hr
      show ((rk ((rg m).map (lw h c)) (lw h c r) : Nat) : Int) = r
      rw [rk_map hc]
      exact rk_rg r0 (by omega)
    rw [List.map_congr_left this, List.map_id']
  · unfold ct
    rw [e, rk_mapc hc]
    exact rk_rg c0 cm
/-- and no word is less than the first one of its rank -/
theorem lw_least {xs : List Int} {h x : Int} (h0 : 0 ≤ h) (w : ∀ x ∈ xs, 0 ≤ x) (hx : x ∈ xs) : lw h (ct xs h) ((rk (srt xs) x : Nat) : Int) ≤ x := by
  have nd := up_nodup (srt_up xs)
  have m := srt_mem.mpr hx
  have cc := rk_cut (h := h) m
  unfold lw ct
  split
  · rename_i c
    have e := few (a := 0) (b := x) (l := (srt xs).filter fun y => decide (y < x)) (nd.filter _) fun k hk => by
      obtain ⟨m, c⟩ := List.mem_filter.mp hk
      exact ⟨w k (srt_mem.mp m), of_decide_eq_true c⟩
    rw [if_pos (w x hx)] at e
    unfold rk
    omega
  · rename_i c
    have xh : h ≤ x := by
      refine Decidable.byContradiction fun n => c ?_
      have := cc.mp (by omega)
      omega
    have e := few (a := h) (b := x) (l := (srt xs).filter fun y => decide (y < x) && !decide (y < h)) (nd.filter _) fun k hk => by
      obtain ⟨m, c⟩ := List.mem_filter.mp hk
      obtain ⟨c1, c2⟩ := Bool.and_eq_true_iff.mp c
      have c3 : decide (k < h) = false := by simpa using c2
      have := of_decide_eq_false c3
      exact ⟨by omega, of_decide_eq_true c1⟩
    rw [if_pos xh] at e
    have split3 : ∀ l : List Int, rk l x = rk l h + (l.filter fun y => decide (y < x) && !decide (y < h)).length := fun l => by
      induction l with
      | nil => rfl
      | cons y l ih =>
        rw [rk_cons, rk_cons, ih, List.filter_cons]
        by_cases q1 : y < h
        · have q2 : y < x := by omega
          simp only [q1, q2, decide_true, Bool.not_true, Bool.and_false, if_true]
          simp
          omega
        · by_cases q2 : y < x
          · simp [q1, q2]
            omega
          · simp [q1, q2]
    have := split3 (srt xs)
    omega
theorem lex_le {e r : Nat → Bool} {z : Bool} (hz : z = true) (hr : ∀ i, r i = true) : ∀ (k i : Nat), Ob.lexAt e r z i k = true
  | 0, _ => hz
  | k + 1, i => by
    rw [Ob.lexAt_succ]
    split
    · exact lex_le hz hr k (i + 1)
    · exact hr i
/-- outcomes by ranks are those of the words -/
theorem ocut_rk {xs : List Int} {h x y : Int} (hx : x ∈ xs) (hy : y ∈ xs) : ocut (ct xs h) ((rk (srt xs) x : Nat) : Int) ((rk (srt xs) y : Nat) : Int) = ocut h x y := by
  have mx := srt_mem.mpr hx
  have my := srt_mem.mpr hy
  obtain ⟨i1, i2⟩ := rk_iff mx my
  have cx := rk_cut (h := h) mx
  have cy := rk_cut (h := h) my
  unfold ocut ct
  have d1 : decide ((rk (srt xs) x : Int) < (rk (srt xs) h : Int)) = decide (x < h) := decide_eq_decide.mpr (by omega)
  have d2 : decide ((rk (srt xs) y : Int) < (rk (srt xs) h : Int)) = decide (y < h) := decide_eq_decide.mpr (by omega)
  rw [d1, d2]
  by_cases c : x = y
  · rw [if_pos c, if_pos (by have := i2.mp c; omega)]
  · rw [if_neg c, if_neg (fun z => c (i2.mpr (by omega)))]
    by_cases l : x < y
    · rw [if_pos l, if_pos (show (rk (srt xs) x : Int) < (rk (srt xs) y : Int) by have := i1.mp l; omega)]
    · rw [if_neg l, if_neg (show ¬ (rk (srt xs) x : Int) < (rk (srt xs) y : Int) from fun z => l (i1.mpr (by omega)))]
end BR
namespace BR
open PySem PySem.Spec PyProof.Rows L2
/-! ### comprehensions that choose ints; a ranking in the heap -/
theorem filt_succ {p : Int → Bool} {xs : List Int} {i : Nat} {z : Int} (h : xs[i]? = some z) : (xs.take (i + 1)).filter p = (xs.take i).filter p ++ (if p z then [z] else []) := by
  have e : xs.take (i + 1) = xs.take i ++ [z] := by
    rw [List.take_add_one, h]
    rfl
  rw [e, List.filter_append]
  congr 1
  cases c : p z <;> simp [List.filter, c]
section
variable {K : PySem.W.Frag} {a : Addr} {xs : List Int} {j : Nat} {tt : TT} {te : TE} {vs : List Nat} {σ : L2.St} {H1 : Hp} {D : Addr} {Qd : Hp → Prop}
theorem lc_filtL (p : Int → Bool) (hL : SqL K H1 a (xs.map V.int)) (hz : xs.length ≤ 1000) (hD : H1 D = none)
    (hw : ∀ x : V, wipe ((wipe σ vs).set j (some x)) vs = wipe σ vs)
    (ht : ∀ (x : Int) (H2 : Hp) (Q : Bool → Hp → Prop), x ∈ xs → Same H1 H2 → (∀ H3, Same H2 H3 → Q (p x) H3) → tt ((wipe σ vs).set j (some (.int x))) H2 Q)
    (he : ∀ (x : Int) (H2 : Hp) (Q : VK), x ∈ xs → Same H1 H2 → Q (.int x) H2 → te ((wipe σ vs).set j (some (.int x))) H2 Q)
    (hd : ∀ H, Same H1 H → H D = some (.lst ((xs.filter p).map V.int)) → Qd H) :
    ∃ W : Nat → Nat → Hp → Prop, (∃ m, W 0 m (L2.upd H1 D (.lst []))) ∧ ∀ i m H, W i m H →
      ((Itl K a).stop i H ∧ Qd H) ∨ ((Itl K a).go i H ∧ ∃ Nx : Hp → Prop, (∀ H', Nx H' → ∃ m', m' < m ∧ W (i + 1) m' H') ∧ ∀ x H', (Itl K a).yld i H x H' → gName j x (wipe σ vs) H' fun σ2 H2 => wipe σ2 vs = wipe σ vs ∧ tt σ2 H2 fun b H3 =>
        if b = true then te σ2 H3 fun y H4 => ∃ acc, H4 D = some (.lst acc) ∧ acc.length < sizeLine ∧ Nx (L2.upd H4 D (.lst (acc ++ [y]))) else Nx H3) := by
  refine lc_list (xs := xs.map V.int) (fun i H => Same H1 H ∧ H D = some (.lst (((xs.take i).filter p).map V.int))) ⟨sameNew hD, upd_same⟩ (fun i H _ q => q.1.seq hL) ?_ ?_
  · rintro i x H hx ⟨s, hH⟩
    obtain ⟨z, hz1, rfl⟩ := map_at hx
    have mem := List.mem_of_getElem? hz1
    refine ⟨hw _, ?_⟩
    refine ht z H _ mem s fun H3 s3 => ?_
    have step := filt_succ (p := p) hz1
    cases c : p z with
    | false =>
      rw [c] at step
      refine tF rfl ⟨s.trans s3, ?_⟩
      rw [step]
      simpa using s3 _ _ hH
    | true =>
      rw [c] at step
      refine tT rfl (he z H3 _ mem (s.trans s3) ⟨_, s3 _ _ hH, small1000 ?_, sameUp (s.trans s3) hD, ?_⟩)
      · have l1 := List.length_filter_le p (xs.take i)
        rw [List.length_take] at l1
        rw [List.length_map]
        omega
      · rw [upd_same, step, List.map_append]
        rfl
  · rintro H ⟨s, hH⟩
    rw [List.length_map, List.take_length] at hH
    exact hd H s hH
theorem lc_filtT (p : Int → Bool) (hL : SqT K H1 a (xs.map V.int)) (hz : xs.length ≤ 1000) (hD : H1 D = none)
    (hw : ∀ x : V, wipe ((wipe σ vs).set j (some x)) vs = wipe σ vs)
    (ht : ∀ (x : Int) (H2 : Hp) (Q : Bool → Hp → Prop), x ∈ xs → Same H1 H2 → (∀ H3, Same H2 H3 → Q (p x) H3) → tt ((wipe σ vs).set j (some (.int x))) H2 Q)
    (he : ∀ (x : Int) (H2 : Hp) (Q : VK), x ∈ xs → Same H1 H2 → Q (.int x) H2 → te ((wipe σ vs).set j (some (.int x))) H2 Q)
    (hd : ∀ H, Same H1 H → H D = some (.lst ((xs.filter p).map V.int)) → Qd H) :
    ∃ W : Nat → Nat → Hp → Prop, (∃ m, W 0 m (L2.upd H1 D (.lst []))) ∧ ∀ i m H, W i m H →
      ((Itt K a).stop i H ∧ Qd H) ∨ ((Itt K a).go i H ∧ ∃ Nx : Hp → Prop, (∀ H', Nx H' → ∃ m', m' < m ∧ W (i + 1) m' H') ∧ ∀ x H', (Itt K a).yld i H x H' → gName j x (wipe σ vs) H' fun σ2 H2 => wipe σ2 vs = wipe σ vs ∧ tt σ2 H2 fun b H3 =>
        if b = true then te σ2 H3 fun y H4 => ∃ acc, H4 D = some (.lst acc) ∧ acc.length < sizeLine ∧ Nx (L2.upd H4 D (.lst (acc ++ [y]))) else Nx H3) := by
  refine lc_tup (xs := xs.map V.int) (fun i H => Same H1 H ∧ H D = some (.lst (((xs.take i).filter p).map V.int))) ⟨sameNew hD, upd_same⟩ (fun i H _ q => sameT q.1 hL) ?_ ?_
  · rintro i x H hx ⟨s, hH⟩
    obtain ⟨z, hz1, rfl⟩ := map_at hx
    have mem := List.mem_of_getElem? hz1
    refine ⟨hw _, ?_⟩
    refine ht z H _ mem s fun H3 s3 => ?_
    have step := filt_succ (p := p) hz1
    cases c : p z with
    | false =>
      rw [c] at step
      refine tF rfl ⟨s.trans s3, ?_⟩
      rw [step]
      simpa using s3 _ _ hH
    | true =>
      rw [c] at step
      refine tT rfl (he z H3 _ mem (s.trans s3) ⟨_, s3 _ _ hH, small1000 ?_, sameUp (s.trans s3) hD, ?_⟩)
      · have l1 := List.length_filter_le p (xs.take i)
        rw [List.length_take] at l1
        rw [List.length_map]
        omega
      · rw [upd_same, step, List.map_append]
        rfl
  · rintro H ⟨s, hH⟩
    rw [List.length_map, List.take_length] at hH
    exact hd H s hH
end
/-- a ranking (ranks, cut) stands at q -/
def RkAt (H : Hp) (q rt : Addr) (rs : List Int) (c : Int) : Prop := H q = some (.tup [.ref rt, .int c]) ∧ H rt = some (.tup (rs.map V.int))
theorem RkAt.same {H H' : Hp} {q rt : Addr} {rs : List Int} {c : Int} (h : RkAt H q rt rs c) (s : Same H H') : RkAt H' q rt rs c := ⟨s _ _ h.1, s _ _ h.2⟩
theorem rgV_rg (m : Nat) : rgV 0 (m : Int) = (rg m).map V.int := by
  unfold rgV rg
  rw [List.map_map]
  have : ((m : Int) - 0).toNat = m := by omega
  rw [this]
  apply List.map_congr_left
  intro i _
  show V.int (0 + (i : Int)) = V.int (i : Int)
  rw [Int.zero_add]
theorem srt_len : ∀ l : List Int, (srt l).length ≤ l.length
  | [] => Nat.le_refl _
  | x :: l => by
    have h : ∀ (x : Int) (l : List Int), (ins1 x l).length ≤ l.length + 1 := by
      intro x l
      induction l with
      | nil => exact Nat.le_refl _
      | cons y l ih =>
        unfold ins1
        split
        · exact Nat.le_refl _
        · split
          · exact Nat.le_succ _
          · exact Nat.succ_le_succ ih
    exact Nat.le_trans (h x (srt l)) (Nat.succ_le_succ (srt_len l))
/-- a ranking as data -/
def rkD (rs : List Int) (c : Int) : PyData := .tuple [.tuple (rs.map PyData.int), .int c]
theorem RkAt.dp {K : PySem.W.Frag} {H : Hp} {q rt : Addr} {rs : List Int} {c : Int} (h : RkAt H q rt rs c) : Dp K H (.ref q) (rkD rs c) := .tup (SqT.of h.1) (.cons (.tup (SqT.of h.2) (ints_all rs)) (.cons (.int c) .nil))
theorem rkD_ok {rs : List Int} {c : Int} (hr : ∀ r ∈ rs, 0 ≤ r ∧ r < 2 ^ 300) (hc : 0 ≤ c ∧ c < 2 ^ 300) (hz : rs.length ≤ 10) :
    SeqAt.shaped (rkD rs c) = true ∧ (PyData.list [rkD rs c, rkD rs c]).showable = true ∧ (PyData.list [rkD rs c, rkD rs c]).hasDict = false ∧ (PyData.list [rkD rs c, rkD rs c]).depth ≤ 60 ∧ (PyData.list [rkD rs c, rkD rs c]).shown.length ≤ sizeLine := by
  obtain ⟨h1, h2, h3, h4⟩ := ints_show hr
  obtain ⟨g1, g2, g3, g4⟩ := ints_show (ys := [c]) fun y hy => by
    obtain rfl := List.mem_singleton.mp hy
    exact hc
  obtain ⟨l1, l2⟩ := ints_lay rs
  have ic1 : (PyData.int c).showable = true := by simpa [PyData.showableAll] using g1
  have ic3 : (PyData.int c).leavesShort 301 = true := by simpa [PyData.leavesShortAll] using g3
  have ic4 : (PyData.int c).weight + 1 + 0 ≤ 301 * 1 := g4
  refine ⟨?_, ?_, ?_, ?_, ?_⟩
  · unfold SeqAt.shaped
    show ((PyData.canLayAll0 (rs.map PyData.int) && (true && true)) && decide (max (PyData.depthAll (rs.map PyData.int) + 1) (max 0 0) + 1 ≤ 64)) = true
    rw [l1, l2]
    rfl
  · show ((PyData.showableAll (rs.map PyData.int) && ((PyData.int c).showable && true)) && ((PyData.showableAll (rs.map PyData.int) && ((PyData.int c).showable && true)) && true)) = true
    rw [h1, ic1]
    rfl
  · show ((PyData.hasDictAll (rs.map PyData.int) || (false || false)) || ((PyData.hasDictAll (rs.map PyData.int) || (false || false)) || false)) = false
    rw [h2]
    rfl
  · show max (max (PyData.depthAll (rs.map PyData.int) + 1) (max 0 0) + 1) (max (max (PyData.depthAll (rs.map PyData.int) + 1) (max 0 0) + 1) 0) + 1 ≤ 60
    rw [l2]
    decide
  · have e := PyData.shown_le 301 (by decide) (.list [rkD rs c, rkD rs c]) (by
      show ((PyData.leavesShortAll 301 (rs.map PyData.int) && ((PyData.int c).leavesShort 301 && true)) && ((PyData.leavesShortAll 301 (rs.map PyData.int) && ((PyData.int c).leavesShort 301 && true)) && true)) = true
      rw [h3, ic3]
      rfl)
    have w : (PyData.list [rkD rs c, rkD rs c]).weight ≤ 8000 := by
      show (PyData.weightAll (rs.map PyData.int) + 1 + ((PyData.int c).weight + 1 + 0)) + 1 + ((PyData.weightAll (rs.map PyData.int) + 1 + ((PyData.int c).weight + 1 + 0)) + 1 + 0) ≤ 8000
      omega
    have : (301 + 2) * (PyData.list [rkD rs c, rkD rs c]).weight ≤ (301 + 2) * 8000 := Nat.mul_le_mul_left _ w
    exact Nat.le_trans e (Nat.le_trans (Nat.add_le_add_right this _) (by decide))
end BR

/-! ### walks whatever the turn does; max of a tuple; comb -/
namespace BR
open PySem PySem.Spec PyProof.Rows L2
section
variable {K : PySem.W.Frag} {H0 : Hp} {Qd : Hp → Prop} {B : V → Hp → (Hp → Prop) → Prop}
theorem itl_by {a : Addr} {xs : List V} (Pv : Nat → Hp → Prop) (h0 : Pv 0 H0) (hl : ∀ i H, i ≤ xs.length → Pv i H → SqL K H a xs) (hs : ∀ i x H, xs[i]? = some x → Pv i H → B x H (Pv (i + 1))) (hd : ∀ H, Pv xs.length H → Qd H) :
    ∃ W : Nat → Nat → Hp → Prop, (∃ m, W 0 m H0) ∧ ∀ i m H, W i m H → ((Itl K a).stop i H ∧ Qd H) ∨ ((Itl K a).go i H ∧ ∃ Nx : Hp → Prop, (∀ H', Nx H' → ∃ m', m' < m ∧ W (i + 1) m' H') ∧ ∀ x H', (Itl K a).yld i H x H' → B x H' Nx) := by
  refine ⟨fun i m H => m = xs.length - i ∧ i ≤ xs.length ∧ Pv i H, ⟨xs.length, by simp, Nat.zero_le _, h0⟩, fun i m H => ?_⟩
  rintro ⟨rfl, hi, p⟩
  have q := hl i H hi p
  rcases Nat.lt_or_eq_of_le hi with c | c
  · refine .inr ⟨⟨xs, xs[i], q, by simp [c]⟩, Pv (i + 1), fun H' p' => ⟨xs.length - (i + 1), by omega, rfl, c, p'⟩, fun x H' y => ?_⟩
    obtain ⟨e, y⟩ := y
    subst e
    exact hs i x _ (y xs q) p
  · subst c
    exact .inl ⟨⟨xs, q, Nat.le_refl _⟩, hd H p⟩
theorem itt_by {a : Addr} {xs : List V} (Pv : Nat → Hp → Prop) (h0 : Pv 0 H0) (hl : ∀ i H, i ≤ xs.length → Pv i H → SqT K H a xs) (hs : ∀ i x H, xs[i]? = some x → Pv i H → B x H (Pv (i + 1))) (hd : ∀ H, Pv xs.length H → Qd H) :
    ∃ W : Nat → Nat → Hp → Prop, (∃ m, W 0 m H0) ∧ ∀ i m H, W i m H → ((Itt K a).stop i H ∧ Qd H) ∨ ((Itt K a).go i H ∧ ∃ Nx : Hp → Prop, (∀ H', Nx H' → ∃ m', m' < m ∧ W (i + 1) m' H') ∧ ∀ x H', (Itt K a).yld i H x H' → B x H' Nx) := by
  refine ⟨fun i m H => m = xs.length - i ∧ i ≤ xs.length ∧ Pv i H, ⟨xs.length, by simp, Nat.zero_le _, h0⟩, fun i m H => ?_⟩
  rintro ⟨rfl, hi, p⟩
  have q := hl i H hi p
  rcases Nat.lt_or_eq_of_le hi with c | c
  · refine .inr ⟨⟨xs, xs[i], q, by simp [c]⟩, Pv (i + 1), fun H' p' => ⟨xs.length - (i + 1), by omega, rfl, c, p'⟩, fun x H' y => ?_⟩
    obtain ⟨e, y⟩ := y
    subst e
    exact hs i x _ (y xs q) p
  · subst c
    exact .inl ⟨⟨xs, q, Nat.le_refl _⟩, hd H p⟩
theorem itr_by {lo : Int} {n : Nat} (Pv : Nat → Hp → Prop) (h0 : Pv 0 H0) (hs : ∀ i H, i < n → Pv i H → B (.int (lo + i)) H (Pv (i + 1))) (hd : ∀ H, Pv n H → Qd H) :
    ∃ W : Nat → Nat → Hp → Prop, (∃ m, W 0 m H0) ∧ ∀ i m H, W i m H → ((Itr lo n).stop i H ∧ Qd H) ∨ ((Itr lo n).go i H ∧ ∃ Nx : Hp → Prop, (∀ H', Nx H' → ∃ m', m' < m ∧ W (i + 1) m' H') ∧ ∀ x H', (Itr lo n).yld i H x H' → B x H' Nx) := by
  refine ⟨fun i m H => m = n - i ∧ i ≤ n ∧ Pv i H, ⟨n, by simp, Nat.zero_le _, h0⟩, fun i m H => ?_⟩
  rintro ⟨rfl, hi, p⟩
  rcases Nat.lt_or_eq_of_le hi with c | c
  · refine .inr ⟨c, Pv (i + 1), fun H' p' => ⟨n - (i + 1), by omega, rfl, c, p'⟩, fun x H' y => ?_⟩
    obtain ⟨e, y⟩ := y
    subst e y
    exact hs i _ c p
  · subst c
    exact .inl ⟨Nat.le_refl _, hd H p⟩
end
theorem small9000 {n : Nat} (h : n ≤ 9000) : n < sizeLine := by rw [sizeLine_eq]; omega
/-- the greatest of ints -/
def mx : List Int → Int
  | [] => 0
  | x :: xs => xs.foldl (fun a y => if a < y then y else a) x
theorem mx_fold : ∀ (xs : List Int) (x : Int), (x :: xs).foldl (fun a y => if a < y then y else a) x = xs.foldl (fun a y => if a < y then y else a) x := fun xs x => by
  rw [List.foldl_cons, if_neg (Int.lt_irrefl _)]
section
variable {X : Cx}
def rMaxT (K : PySem.W.Frag) : List V → Hp → VK → Prop := fun xs H Q => ∃ (a : Addr) (ns : List Int), xs = [.ref a] ∧ SqT K H a (ns.map V.int) ∧ ns ≠ [] ∧ Q (.int (mx ns)) H
theorem cr_maxT (hc : X.calm = true) (hu : X.A.units + 64 < cLine) : CallR X (.builtin "max") (rMaxT X.K) := by
  intro pins s σ H xs us Q I r h
  obtain ⟨a, ns, rfl, hq, hne, q⟩ := h
  rw [Vals.ref1 r]
  obtain ⟨its, rv, pt, _⟩ := I.tuple hq
  cases ns with
  | nil => exact absurd rfl hne
  | cons x xs =>
    obtain ⟨as, ra⟩ := Dp.readsAll I ((x :: xs).map PyData.int) _ _ (ints_all (x :: xs)) rv
    have al : ∀ d ∈ (x :: xs).map PyData.int, ∃ i, d = .int i := fun d hd => by
      obtain ⟨i, _, e⟩ := List.mem_map.mp hd
      exact ⟨i, e.symm⟩
    refine PySem.W.max_tuple_data (x := .int x) (xs := xs.map .int) (I.ok.hd hc) (show s.heap.IsTuple a its.toArray from pt) (by simpa using ra) ⟨fun d hd e he => ?_, fun d hd => ?_⟩ (by show X.A.units + 1 + PyData.depthAll ((x :: xs).map PyData.int) < cLine; rw [(ints_lay (x :: xs)).2]; omega) fun k v h' tk bs _ hr hk => ?_
    · obtain ⟨i, rfl⟩ := al d hd
      obtain ⟨j, rfl⟩ := al e he
      rfl
    · obtain ⟨i, rfl⟩ := al d hd
      exact fun z => nomatch z
    · have e : ∀ (ys : List Int) (z : Int), PySem.W.maxD (.int z) (ys.map PyData.int) = .int (ys.foldl (fun a y => if a < y then y else a) z) := by
        intro ys
        induction ys with
        | nil => exact fun z => rfl
        | cons y ys ih =>
          intro z
          have st : PySem.W.maxD (.int z) ((y :: ys).map PyData.int) = PySem.W.maxD (if PySem.W.dataLt (.int z) (.int y) then .int y else .int z) (ys.map PyData.int) := rfl
          rw [st, PySem.W.dataLt_int, List.foldl_cons]
          by_cases c : z < y
          · rw [if_pos (decide_eq_true c), if_pos c, ih]
          · rw [if_neg (fun q => c (of_decide_eq_true q)), if_neg c, ih]
      rw [e] at hr
      cases hr
      exact ⟨.int _, H, I.kept (t' := tk) hk, ⟨_, rfl⟩, q⟩
def rLenSq (K : PySem.W.Frag) : List V → Hp → VK → Prop := fun xs H Q => ∃ p ys, xs = [.ref p] ∧ (SqL K H p ys ∨ SqT K H p ys) ∧ Q (.int ys.length) H
theorem cr_lenSq : CallR X (.builtin "len") (rLenSq X.K) := call_len_seq
def rTupOf (K : PySem.W.Frag) : List V → Hp → VK → Prop := fun xs H Q => ∃ p ys, xs = [.ref p] ∧ ((SqL K H p ys ∧ ∀ l, H l = none → Q (.ref l) (L2.upd H l (.tup ys))) ∨ (SqT K H p ys ∧ Q (.ref p) H))
theorem cr_tupOf : CallR X (.type "tuple") (rTupOf X.K) := call_tuple_of
/-- comb(n, k), n below 2^300, k at most 5 -/
def cmb (n : Int) (k : Int) : Int := if n < k then 0 else Builtin.Math.fallingProduct n (min k (n - k)).toNat / Builtin.Math.fallingProduct (min k (n - k)) (min k (n - k)).toNat
theorem cr_comb : CallR X (.builtin "math.comb") (fun xs H Q => ∃ n k : Int, xs = [.int n, .int k] ∧ 0 ≤ n ∧ 0 ≤ k ∧ k ≤ 9000 ∧ (n < k ∨ (Builtin.Math.fallingProduct n (min k (n - k)).toNat / Builtin.Math.fallingProduct (min k (n - k)) (min k (n - k)).toNat).natAbs.log2 < bitsLine) ∧ Q (.int (cmb n k)) H) := by
  intro pins s σ H xs us Q I r h
  obtain ⟨n, k, rfl, n0, k0, k9, sz, q⟩ := h
  obtain ⟨t, u, rfl⟩ := Vals.int2 r
  unfold cmb at q
  by_cases c : n < k
  · rw [if_pos c] at q
    exact call_function_meets PySem.W.MGF.kind_comb PySem.W.MGF.plain_comb PySem.W.MGF.entry_comb (PySem.W.MGF.args_comb _ _) (PySem.W.mc_run_comb0 n t k u (by omega) (by omega) c).meets ⟨.int 0, H, I.tok _, ⟨_, rfl⟩, q⟩
  · rw [if_neg c] at q
    have z := sz.resolve_left c
    refine call_function_meets PySem.W.MGF.kind_comb PySem.W.MGF.plain_comb PySem.W.MGF.entry_comb (PySem.W.MGF.args_comb _ _) (PySem.W.mc_run_comb n t k u (by omega) (by omega) (by omega) ?_ ?_ (by omega) z).meets ⟨.int _, H, I.tok _, ⟨_, rfl⟩, q⟩
    · have : (9000 : Int) < Builtin.Math.maxSsize := by decide +kernel
      omega
    · have : (9000 : Int) ≤ Builtin.Math.manyFactors := by decide +kernel
      omega
end
end BR

/-! ### numbers in texts -/
namespace BR
open PySem PySem.Spec PyProof.Rows L2
open _root_.TL (tl numL)
def dg (c : Nat) : Bool := decide (48 ≤ c) && decide (c ≤ 57)
theorem dg_iff {c : Nat} : dg c = true ↔ 48 ≤ c ∧ c ≤ 57 := by
  unfold dg
  rw [← Bool.decide_and, decide_eq_true_eq]
theorem digit_asc : ∀ c ∈ List.range 128, Unicode.isDigit c = dg c := by decide +kernel
theorem dg_in (c : Nat) : decide (c ∈ (("0123456789" : Str)).cps.toList) = dg c := by
  have e : (("0123456789" : Str)).cps.toList = [48, 49, 50, 51, 52, 53, 54, 55, 56, 57] := by decide +kernel
  rw [e, Bool.eq_iff_iff, decide_eq_true_eq, dg_iff]
  simp only [List.mem_cons, List.not_mem_nil, or_false]
  omega
theorem asc_digit (p : Str) : (Txt.isascii p && Txt.isdigit p) = (decide (tl p ≠ []) && (tl p).all dg) := by
  have e1 : Txt.isascii p = (tl p).all (fun c => decide (c < 128)) := by
    unfold Txt.isascii
    rw [← Array.all_toList]
  have e2 : Txt.isdigit p = (decide (tl p ≠ []) && (tl p).all Unicode.isDigit) := by
    unfold Txt.isdigit
    rw [← Array.all_toList, _root_.TL.len_tl]
    congr 1
    cases tl p with
    | nil => rfl
    | cons a l => simp
  rw [e1, e2]
  generalize tl p = cs
  cases h : decide (cs ≠ []) with
  | false => rw [Bool.false_and, Bool.and_false, Bool.false_and]
  | true =>
    rw [Bool.true_and, Bool.true_and]
    clear h
    induction cs with
    | nil => rfl
    | cons c l ih =>
      rw [List.all_cons, List.all_cons, List.all_cons, ← ih]
      by_cases hc : c < 128
      · rw [digit_asc c (List.mem_range.mpr hc), decide_eq_true hc]
        cases dg c <;> cases (l.all fun c => decide (c < 128)) <;> cases (l.all Unicode.isDigit) <;> rfl
      · have n : dg c = false := by
          cases e : dg c with
          | false => rfl
          | true =>
            have := dg_iff.mp e
            omega
        rw [decide_eq_false hc, n]
        rfl
/-- is the text a number's -/
def isNum (p : Str) : Bool := decide (tl p ≠ []) && ((tl p).all dg && (decide (p.length ≤ 400) && (decide (p = "0") || !decide ((tl p).head? = some 48))))
def numOf (p : Str) : Int := ((NumText.digitsVal (tl p) : Nat) : Int)
theorem isNum_digits {p : Str} (h : isNum p = true) : tl p ≠ [] ∧ NumText.AllDigits (tl p) ∧ p.length ≤ 400 := by
  unfold isNum at h
  obtain ⟨h1, h⟩ := Bool.and_eq_true_iff.mp h
  obtain ⟨h2, h⟩ := Bool.and_eq_true_iff.mp h
  obtain ⟨h3, h⟩ := Bool.and_eq_true_iff.mp h
  exact ⟨of_decide_eq_true h1, fun c m => dg_iff.mp (List.all_eq_true.mp h2 c m), of_decide_eq_true h3⟩
theorem int_of {p : Str} (h1 : tl p ≠ []) (h2 : NumText.AllDigits (tl p)) (h3 : p.length ≤ 640) : PySem.intText? p = some (numOf p) := intText_digits h2 h1 (by omega)
theorem val_lt : ∀ (cs : List Nat) (a : Nat), NumText.AllDigits cs → cs.foldl (fun acc c => acc * 10 + (c - 48)) a < (a + 1) * 10 ^ cs.length
  | [], a, _ => by simp
  | c :: l, a, h => by
    have hc := h.head
    have ih := val_lt l (a * 10 + (c - 48)) h.tail
    rw [List.foldl_cons, List.length_cons, Nat.pow_succ]
    have e : (a * 10 + (c - 48) + 1) * 10 ^ l.length ≤ (a + 1) * 10 * 10 ^ l.length := Nat.mul_le_mul_right _ (by omega)
    have e2 : (a + 1) * (10 ^ l.length * 10) = (a + 1) * 10 * 10 ^ l.length := by rw [Nat.mul_comm (10 ^ l.length) 10, ← Nat.mul_assoc]
    omega
theorem numOf_lt {p : Str} {k : Nat} (h2 : NumText.AllDigits (tl p)) (h3 : p.length ≤ k) : 0 ≤ numOf p ∧ numOf p < 10 ^ k := by
  have h := val_lt (tl p) 0 h2
  rw [← _root_.TL.len_tl] at h
  have e : (0 + 1) * 10 ^ p.length ≤ 10 ^ k := by
    rw [Nat.zero_add, Nat.one_mul]
    exact Nat.pow_le_pow_right (by decide) h3
  refine ⟨Int.natCast_nonneg _, ?_⟩
  have c : ((10 : Int) ^ k) = ((10 ^ k : Nat) : Int) := by norm_cast
  rw [c]
  unfold numOf NumText.digitsVal
  omega
def numS (n : Int) : Str := Str.ofString (toString n)
theorem tl_numS {n : Int} (h : 0 ≤ n) : tl (numS n) = numL n.toNat := by
  obtain ⟨m, rfl⟩ := Int.eq_ofNat_of_zero_le h
  exact _root_.TL.tl_num m
theorem numL_head {n : Nat} (h : 0 < n) : (numL n).head? ≠ some 48 := by
  induction n using Nat.strongRecOn with
  | _ n ih =>
    by_cases c : n < 10
    · rw [_root_.TL.numL_lt c]
      intro z
      have := Option.some.inj z
      omega
    · rw [_root_.TL.numL_step (by omega)]
      have hi := ih (n / 10) (by omega) (by omega)
      intro z
      have ne := _root_.TL.numL_ne (n / 10)
      cases e : numL (n / 10) with
      | nil => exact ne e
      | cons a l =>
        rw [e] at hi z
        exact hi z
theorem isNum_numS {n : Int} (h : 0 ≤ n) (h2 : n < 10 ^ 400) : isNum (numS n) = true ∧ numOf (numS n) = n := by
  have e := tl_numS h
  have c : ((10 : Int) ^ 400) = ((10 ^ 400 : Nat) : Int) := by norm_cast
  have lt : n.toNat < 10 ^ 400 := by rw [c] at h2; omega
  refine ⟨?_, ?_⟩
  · unfold isNum
    have a1 : decide (tl (numS n) ≠ []) = true := decide_eq_true (by rw [e]; exact _root_.TL.numL_ne _)
    have a2 : (tl (numS n)).all dg = true := List.all_eq_true.mpr fun c m => dg_iff.mpr (by rw [e] at m; exact _root_.TL.numL_digits _ c m)
    have a3 : decide ((numS n).length ≤ 400) = true := decide_eq_true (by rw [_root_.TL.len_tl, e]; exact _root_.TL.numL_len (by decide) lt)
    rw [a1, a2, a3, Bool.true_and, Bool.true_and, Bool.true_and]
    by_cases z : n = 0
    · subst z
      decide +kernel
    · rw [decide_eq_false (show ¬ (tl (numS n)).head? = some 48 by rw [e]; exact numL_head (by omega)), Bool.not_false, Bool.or_true]
  · unfold numOf
    rw [e, _root_.TL.numL_val]
    omega
/-! words as they are written -/
def wordsT (ns : List Int) : Str := Txt.join " " (ns.map numS)
theorem words_split {ns : List Int} (ne : ns ≠ []) (h : ∀ n ∈ ns, 0 ≤ n) : Txt.split (wordsT ns) " " = ns.map numS := by
  refine _root_.TL.split_join (s := 32) (S := []) (by decide +kernel) (by decide +kernel) (fun z => ne (List.map_eq_nil_iff.mp z)) fun p m => ?_
  obtain ⟨n, hn, rfl⟩ := List.mem_map.mp m
  rw [tl_numS (h n hn)]
  exact _root_.TL.numL_free (.inl (by decide))
/-- what the text of words tells: nothing, or a tuple -/
def dueI (t : Str) : Option (List Int) := if t = "none" then some [] else if (Txt.split t " ").all isNum = true then some ((Txt.split t " ").map numOf) else none
theorem none_split : Txt.split "none" " " = [("none" : Str)] := by decide +kernel
theorem due_words {ns : List Int} (ne : ns ≠ []) (h : ∀ n ∈ ns, 0 ≤ n ∧ n < 10 ^ 400) : dueI (wordsT ns) = some ns ∧ wordsT ns ≠ "none" := by
  have sp := words_split ne fun n m => (h n m).1
  have nn : wordsT ns ≠ "none" := fun z => by
    rw [z, none_split] at sp
    cases ns with
    | nil => exact ne rfl
    | cons n l =>
      rw [List.map_cons] at sp
      have e := (List.cons.inj sp).1
      have i := (isNum_numS (h n List.mem_cons_self).1 (h n List.mem_cons_self).2).1
      rw [← e] at i
      exact absurd i (by decide +kernel)
  refine ⟨?_, nn⟩
  unfold dueI
  rw [if_neg nn, sp, if_pos (List.all_eq_true.mpr fun p m => ?_)]
  · rw [List.map_map]
    congr 1
    refine (List.map_congr_left fun n m => ?_).trans (List.map_id ns)
    exact (isNum_numS (h n m).1 (h n m).2).2
  · obtain ⟨n, hn, rfl⟩ := List.mem_map.mp m
    exact (isNum_numS (h n hn).1 (h n hn).2).1
theorem due_bound {t : Str} {zs : List Int} (h : dueI t = some zs) : zs.length ≤ t.length + 2 ∧ ∀ z ∈ zs, 0 ≤ z ∧ z < 10 ^ 400 := by
  unfold dueI at h
  split at h
  · cases h
    exact ⟨Nat.zero_le _, fun z m => absurd m (by simp)⟩
  · split at h
    · next a =>
      cases h
      refine ⟨by rw [List.length_map]; exact split_le t " ", fun z m => ?_⟩
      obtain ⟨p, hp, rfl⟩ := List.mem_map.mp m
      obtain ⟨h1, h2, h3⟩ := isNum_digits (List.all_eq_true.mp a p hp)
      exact numOf_lt h2 h3
    · cases h
/-! shown -/
theorem log10 {z : Int} (h0 : 0 ≤ z) (h : z < 10 ^ 400) : z.natAbs.log2 < 1920 := by
  have e : (10 : Int) ^ 400 ≤ 2 ^ 1600 := by
    have a : ((10 : Int) ^ 400) = ((10 ^ 400 : Nat) : Int) := by norm_cast
    have b : ((2 : Int) ^ 1600) = ((2 ^ 1600 : Nat) : Int) := by norm_cast
    have c : (10 ^ 400 : Nat) ≤ 2 ^ 1600 := by
      have d : (10 : Nat) ^ 400 ≤ 16 ^ 400 := Nat.pow_le_pow_left (by decide) 400
      have f : (16 : Nat) ^ 400 = 2 ^ 1600 := by rw [show (16 : Nat) = 2 ^ 4 by rfl, ← Nat.pow_mul]
      omega
    rw [a, b]
    omega
  have p : z < 2 ^ 1600 := Int.lt_of_lt_of_le h e
  rw [nat_cast_pow] at p
  have r : z.natAbs < 2 ^ 1600 := by omega
  exact Nat.lt_of_lt_of_le (PySem.Flt.log2_lt_of (by decide) r) (by decide)
theorem numS_len {z : Int} (h0 : 0 ≤ z) (h : z < 10 ^ 400) : (numS z).length ≤ 400 := (isNum_digits (isNum_numS h0 h).1).2.2
theorem zs_show : ∀ {zs : List Int}, (∀ z ∈ zs, 0 ≤ z ∧ z < 10 ^ 400) → PyData.showableAll (zs.map PyData.int) = true ∧ PyData.hasDictAll (zs.map PyData.int) = false ∧ ((PyData.shownAll (zs.map PyData.int)).map (·.length)).sum ≤ 400 * zs.length ∧ (PyData.shownAll (zs.map PyData.int)).length = zs.length
  | [], _ => ⟨rfl, rfl, Nat.zero_le _, rfl⟩
  | z :: l, h => by
    obtain ⟨h1, h2, h3, h4⟩ := zs_show (zs := l) fun y m => h y (List.mem_cons_of_mem _ m)
    obtain ⟨z0, z1⟩ := h z List.mem_cons_self
    refine ⟨?_, ?_, ?_, ?_⟩
    · show (decide (z.natAbs.log2 < 1920) && PyData.showableAll (l.map PyData.int)) = true
      rw [h1, decide_eq_true (log10 z0 z1)]
      rfl
    · show (false || PyData.hasDictAll (l.map PyData.int)) = false
      rw [h2]
      rfl
    · have e : PyData.shownAll ((z :: l).map PyData.int) = (PyData.int z).shown :: PyData.shownAll (l.map PyData.int) := by
        rw [List.map_cons]
        simp only [PyData.shownAll]
      rw [e, List.map_cons, List.sum_cons, List.length_cons]
      have s : (PyData.int z).shown.length ≤ 400 := by
        rw [PyData.shown_int]
        exact numS_len z0 z1
      omega
    · have e : PyData.shownAll ((z :: l).map PyData.int) = (PyData.int z).shown :: PyData.shownAll (l.map PyData.int) := by
        rw [List.map_cons]
        simp only [PyData.shownAll]
      rw [e, List.length_cons, List.length_cons, h4]
theorem tup_shown {zs : List Int} (h : ∀ z ∈ zs, 0 ≤ z ∧ z < 10 ^ 400) (hl : zs.length ≤ 5000) : (PyData.tuple (zs.map PyData.int)).shown.length ≤ 402 * zs.length + 3 := by
  obtain ⟨_, _, h3, h4⟩ := zs_show h
  rw [PyData.shown_tuple, Str.length_append, Str.length_append]
  have j := StrLaws.join_length_le ", " (PyData.shownAll (zs.map PyData.int))
  rw [h4] at j
  have c1 : ((", " : Str)).length = 2 := by decide +kernel
  have c2 : (("(" : Str)).length = 1 := by decide +kernel
  have c3 : (((if (zs.map PyData.int).length == 1 then ",)" else ")" : String) : Str)).length ≤ 2 := by
    split <;> decide +kernel
  rw [c1] at j
  rw [c2]
  omega
end BR

/-! ### isinstance in a suite; a walk over a text's signs -/
namespace BR
open PySem PySem.Spec PyProof.Rows L2
def rIsS (K : PySem.W.Frag) (a : Addr) (cls : Value) (d : Option Addr) : List V → Hp → VK → Prop := fun xs H Q => ∃ (C dd : Addr) (f : Str) (v c : V) (u : Value) (b : Bool), xs = [.ref a, c] ∧ cls = .ref C ∧ d = some dd ∧ H dd = some (.xd [(f, v)]) ∧ ExcC K C ∧ ClsV c u ∧ PySem.W.kitOne K (.ref C) u = some b ∧ Q (.bl b) H
theorem call_isS {X : Cx} {a : Addr} {oe : Obj} {cls : Value} {d : Option Addr} {pn : List (Addr × Obj)} (hz : Zc cls d oe) (hf : ∃ vs, oe.data = .fields vs) : CallR (X.suite a ((a, oe) :: pn)) (.builtin "isinstance") (rIsS X.K a cls d) := by
  rintro pins s σ H xs us Q I r ⟨C, dd, f, v, c, u, b, rfl, rfl, rfl, hd, T, kc, ek, q⟩
  obtain ⟨u1, u2, rfl, r1, r2⟩ := vals2 r
  obtain rfl : u1 = Value.ref a := r1
  have e2 := kc.eq r2
  subst e2
  obtain ⟨ha, _⟩ := I.pin (a, oe) (List.mem_append_left _ List.mem_cons_self)
  obtain ⟨vs, hd2⟩ := hf
  have y : ObjOk X.prog X.w H s.heap dd (.xd [(f, v)]) := I.hok dd _ hd
  obtain ⟨mA, hns, hr⟩ := y
  obtain ⟨od, ho, hl⟩ := lookIn_ns hns
  have J : PySem.W.InstAt s.heap a oe C (some od) := ⟨ha, hz.1, by unfold PySem.W.notCls; rw [hd2] <;> rfl, by rw [hz.2]; exact ho⟩
  exact PySem.W.kia_one (PySem.W.kitx_exc (cls_of T) T.hg T.hk T.hs T.ha T.hn T.ht T.hm) I.kIn J ek (fun z => nomatch z) fun tk => ⟨.bl b, H, I.kept (t' := tk) fun _ _ z => z, rfl, q⟩
theorem its_by {H0 : Hp} {Qd : Hp → Prop} {B : V → Hp → (Hp → Prop) → Prop} {x : Str} (Pv : Nat → Hp → Prop) (h0 : Pv 0 H0) (hs : ∀ i c H, x.cps.toList[i]? = some c → Pv i H → B (.str ⟨#[c]⟩) H (Pv (i + 1))) (hd : ∀ H, Pv x.length H → Qd H) :
    ∃ W : Nat → Nat → Hp → Prop, (∃ m, W 0 m H0) ∧ ∀ i m H, W i m H → ((Its x).stop i H ∧ Qd H) ∨ ((Its x).go i H ∧ ∃ Nx : Hp → Prop, (∀ H', Nx H' → ∃ m', m' < m ∧ W (i + 1) m' H') ∧ ∀ v H', (Its x).yld i H v H' → B v H' Nx) := by
  have ls : x.length = x.cps.size := rfl
  refine ⟨fun i m H => m = x.length - i ∧ i ≤ x.length ∧ Pv i H, ⟨x.length, by simp, Nat.zero_le _, h0⟩, fun i m H => ?_⟩
  rintro ⟨rfl, hi, p⟩
  rcases Nat.lt_or_eq_of_le hi with c | c
  · refine .inr ⟨c, Pv (i + 1), fun H' p' => ⟨x.length - (i + 1), by omega, rfl, c, p'⟩, fun v H' y => ?_⟩
    obtain ⟨e, k, hk, e2⟩ := y
    subst e e2
    exact hs i k _ (by rw [Array.getElem?_toList]; exact hk) p
  · subst c
    exact .inl ⟨Nat.le_refl _, hd H p⟩
theorem joinL_le (S : List Nat) : ∀ {ps : List (List Nat)} {p : List Nat}, p ∈ ps → p.length ≤ (_root_.TL.joinL S ps).length
  | [x], p, h => by
    rw [List.mem_singleton.mp h]
    exact Nat.le_refl _
  | x :: y :: r, p, h => by
    show p.length ≤ (x ++ (S ++ _root_.TL.joinL S (y :: r))).length
    rw [List.length_append, List.length_append]
    rcases List.mem_cons.mp h with h | h
    · rw [h]
      omega
    · have := joinL_le S h
      omega
theorem part_le {t p : Str} (h : p ∈ Txt.split t " ") : p.length ≤ t.length := by
  have e := congrArg _root_.TL.tl (StrLaws.join_split t " ")
  rw [_root_.TL.tl_join] at e
  rw [_root_.TL.len_tl, _root_.TL.len_tl t, ← e]
  exact joinL_le _ (List.mem_map.mpr ⟨p, h, rfl⟩)
theorem map_atS {xs : List Str} {i : Nat} {v : V} (h : (xs.map V.str)[i]? = some v) : ∃ z, xs[i]? = some z ∧ v = V.str z := by
  rw [List.getElem?_map] at h
  cases e : xs[i]? with
  | none => rw [e] at h; cases h
  | some z => rw [e] at h; exact ⟨z, rfl, (Option.some.inj h).symm⟩
theorem map_atG {α : Type} {f : α → V} {xs : List α} {i : Nat} {v : V} (h : (xs.map f)[i]? = some v) : ∃ z, xs[i]? = some z ∧ v = f z := by
  rw [List.getElem?_map] at h
  cases e : xs[i]? with
  | none => rw [e] at h; cases h
  | some z => rw [e] at h; exact ⟨z, rfl, (Option.some.inj h).symm⟩
theorem take_map_succ {α β : Type} {f : α → β} {xs : List α} {i : Nat} {z : α} (h : xs[i]? = some z) : (xs.take (i + 1)).map f = (xs.take i).map f ++ [f z] := by
  rw [List.take_add_one, h, List.map_append]
  rfl
end BR
namespace BR
open PySem PySem.Spec PyProof.Rows L2
/-- signs below 128 -/
def Asc (x : Str) : Prop := ∀ c ∈ _root_.TL.tl x, c < 128
theorem Asc.app {x y : Str} (h : Asc x) (g : Asc y) : Asc (x ++ y) := fun c m => by
  rw [_root_.TL.tl_append] at m
  rcases List.mem_append.mp m with m | m
  · exact h c m
  · exact g c m
theorem Asc.cut {x : Str} (h : Asc x) (lo hi : Option Int) : Asc (cutS x lo hi) := fun c m => h c (List.mem_of_mem_drop (List.mem_of_mem_take m))
theorem joinL_mem (S : List Nat) : ∀ {ps : List (List Nat)} {c : Nat}, c ∈ _root_.TL.joinL S ps → c ∈ S ∨ ∃ p ∈ ps, c ∈ p
  | [p], c, h => .inr ⟨p, List.mem_cons_self, h⟩
  | p :: q :: r, c, h => by
    rcases List.mem_append.mp (show c ∈ p ++ (S ++ _root_.TL.joinL S (q :: r)) from h) with m | m
    · exact .inr ⟨p, List.mem_cons_self, m⟩
    rcases List.mem_append.mp m with m | m
    · exact .inl m
    rcases joinL_mem S m with m | ⟨z, hz, m⟩
    · exact .inl m
    · exact .inr ⟨z, List.mem_cons_of_mem _ hz, m⟩
theorem mem_joinL (S : List Nat) : ∀ {ps : List (List Nat)} {p : List Nat} {c : Nat}, p ∈ ps → c ∈ p → c ∈ _root_.TL.joinL S ps
  | [x], p, c, h, m => by
    rw [← List.mem_singleton.mp h]
    exact m
  | x :: y :: r, p, c, h, m => by
    show c ∈ x ++ (S ++ _root_.TL.joinL S (y :: r))
    rcases List.mem_cons.mp h with h | h
    · rw [← h]
      exact List.mem_append_left _ m
    · exact List.mem_append_right _ (List.mem_append_right _ (mem_joinL S h m))
theorem Asc.part {t p : Str} (h : Asc t) (m : p ∈ Txt.split t " ") : Asc p := fun c hc => by
  refine h c ?_
  have e := congrArg _root_.TL.tl (StrLaws.join_split t " ")
  rw [_root_.TL.tl_join] at e
  rw [← e]
  exact mem_joinL _ (List.mem_map.mpr ⟨p, m, rfl⟩) hc
theorem asc_words {ns : List Int} (h : ∀ n ∈ ns, 0 ≤ n) : Asc (wordsT ns) := fun c m => by
  have e : _root_.TL.tl (wordsT ns) = _root_.TL.joinL (_root_.TL.tl " ") ((ns.map numS).map _root_.TL.tl) := by
    unfold wordsT
    rw [_root_.TL.join_eq, _root_.TL.tl_join]
  rw [e] at m
  rcases joinL_mem _ m with m | ⟨p, hp, m⟩
  · rw [show _root_.TL.tl (" " : Str) = [32] by decide +kernel] at m
    rw [List.mem_singleton.mp m]
    decide
  · obtain ⟨z, hz, rfl⟩ := List.mem_map.mp hp
    obtain ⟨n, hn, rfl⟩ := List.mem_map.mp hz
    rw [tl_numS (h n hn)] at m
    have := _root_.TL.numL_digits _ c m
    omega
theorem reps_mem (c : Array Nat) : ∀ (k : Nat) (acc : Array Nat) (x : Nat), x ∈ ((List.replicate k c).foldl (· ++ ·) acc).toList → x ∈ acc.toList ∨ x ∈ c.toList
  | 0, acc, x, h => .inl h
  | k + 1, acc, x, h => by
    rcases reps_mem c k (acc ++ c) x h with m | m
    · rw [Array.toList_append] at m
      exact List.mem_append.mp m
    · exact .inr m
theorem Asc.one {c : Nat} (h : c < 128) : Asc ⟨#[c]⟩ := fun d m => by
  rw [List.mem_singleton.mp (show d ∈ [c] from m)]
  exact h
theorem ok_one {c : Nat} (h : c < 128) : PyData.strOk ⟨#[c]⟩ = true := by
  show (#[c] : Array Nat).all (· < 0x110000) = true
  simp
  omega
/-- x * n, of a short text -/
theorem op_str_rep {X : Cx} : OpR X (binaryOp .Mult) (fun x y H Q => ∃ (i : Str) (n : Int), x = .str i ∧ y = .int n ∧ 1 ≤ i.length ∧ i.length ≤ 10 ∧ 1 ≤ n ∧ n ≤ 1000 ∧ ∀ z : Str, z.length = i.length * n.toNat → (Asc i → Asc z) → Q (.str z) H) := by
  intro pins s σ H x y v u Q I rx ry h
  obtain ⟨i, n, rfl, rfl, l1, l2, h1, h2, q⟩ := h
  obtain ⟨t, rfl⟩ := rx
  obtain ⟨t', rfl⟩ := ry
  refine SB.mul (x := i) (n := n) ?_ fun t' k => ⟨.str (Txt.mul i n), H, I.tok _, ⟨_, rfl⟩, q _ ?_ ?_⟩
  · have n1 : ¬ n < 1 := by omega
    have m1 : (i.length : Int) * n ≤ 10 * 1000 := Int.mul_le_mul (by omega) h2 (by omega) (by decide)
    refine ⟨?_, fun _ _ => ?_, fun _ _ => ?_⟩
    · rw [decide_eq_false (by omega), decide_eq_false (by omega)]
      rfl
    · have := Int.le_ediv_of_mul_le (show (0 : Int) < n by omega) (show (i.length : Int) * n ≤ 2 ^ 63 - 1 by omega)
      omega
    · have e : (i.length * n.toNat : Nat) ≤ 10000 := by
        have c : ((i.length * n.toNat : Nat) : Int) = (i.length : Int) * n := by
          rw [Int.natCast_mul, Int.toNat_of_nonneg (by omega)]
        omega
      exact decide_eq_false (by rw [sizeLine_eq]; omega)
  · unfold Txt.mul
    rw [if_neg (show ¬ n < 1 by omega)]
    split
    · next c =>
      rcases Bool.or_eq_true_iff.mp c with c | c
      · rw [eq_of_beq c]
        show i.length = i.length * 1
        omega
      · have := eq_of_beq c
        omega
    · show ((List.replicate n.toNat i.cps).foldl (· ++ ·) #[]).size = _
      rw [size_reps]
      show 0 + n.toNat * i.length = i.length * n.toNat
      rw [Nat.zero_add, Nat.mul_comm]
  · intro ha
    unfold Txt.mul
    rw [if_neg (show ¬ n < 1 by omega)]
    split
    · exact ha
    · intro c m
      rcases reps_mem i.cps n.toNat #[] c m with m | m
      · exact absurd m (by simp)
      · exact ha c m
theorem joinL_nil : ∀ ps : List (List Nat), _root_.TL.joinL [] ps = ps.flatten
  | [] => rfl
  | [p] => by simp [_root_.TL.joinL]
  | p :: q :: r => by
    show p ++ ([] ++ _root_.TL.joinL [] (q :: r)) = p ++ (q :: r).flatten
    rw [joinL_nil (q :: r), List.nil_append]
theorem digits_join {ds : List Int} (h : ∀ d ∈ ds, 0 ≤ d ∧ d < 10) : _root_.TL.tl (Txt.join "" (ds.map numS)) = ds.map fun d => 48 + d.toNat := by
  rw [_root_.TL.join_eq, _root_.TL.tl_join, show _root_.TL.tl ("" : Str) = [] by decide +kernel, joinL_nil, List.map_map]
  induction ds with
  | nil => rfl
  | cons d l ih =>
    obtain ⟨d0, d1⟩ := h d List.mem_cons_self
    rw [List.map_cons, List.flatten_cons, List.map_cons, ih fun e m => h e (List.mem_cons_of_mem _ m)]
    show _root_.TL.tl (numS d) ++ _ = _
    rw [tl_numS d0, _root_.TL.numL_lt (show d.toNat < 10 by omega)]
    rfl
theorem strs_shX {xs : List Str} (ok : ∀ x ∈ xs, PyData.strOk x = true) : SeqAt.shaped (.list (xs.map PyData.str)) = true := by
  obtain ⟨h1, h2⟩ := strs_lay xs ok
  unfold SeqAt.shaped
  show (PyData.canLayAll0 (xs.map PyData.str) && decide (PyData.depthAll (xs.map PyData.str) + 1 ≤ 64)) = true
  rw [h1, h2]
  rfl
theorem strs_eqX (xs : List Str) : PyData.eqv (.list (xs.map PyData.str)) (.list []) = decide (xs = []) := strs_eqvA xs []
theorem filt_take {α : Type} {p : α → Bool} {xs : List α} {i : Nat} {z : α} (h : xs[i]? = some z) : (xs.take (i + 1)).filter p = (xs.take i).filter p ++ (if p z = true then [z] else []) := by
  rw [List.take_add_one, h, List.filter_append]
  congr 1
  cases c : p z <;> simp [List.filter, c]
theorem tup_shows {zs : List Int} (h : ∀ z ∈ zs, 0 ≤ z ∧ z < 10 ^ 400) (hl : zs.length ≤ 5000) : (PyData.tuple (zs.map PyData.int)).showable = true ∧ (PyData.tuple (zs.map PyData.int)).hasDict = false ∧ (PyData.tuple (zs.map PyData.int)).depth ≤ 60 ∧ (PyData.tuple (zs.map PyData.int)).shown.length ≤ sizeLine := by
  obtain ⟨h1, h2, _, _⟩ := zs_show h
  obtain ⟨_, h4⟩ := ints_lay zs
  have h5 := tup_shown h hl
  refine ⟨h1, h2, ?_, ?_⟩
  · show PyData.depthAll (zs.map PyData.int) + 1 ≤ 60
    omega
  · rw [sizeLine_eq]
    omega
theorem ltup_shows {zs : List Int} (h : ∀ z ∈ zs, 0 ≤ z ∧ z < 10 ^ 400) (hl : zs.length ≤ 5000) : (PyData.list [.tuple (zs.map PyData.int)]).showable = true ∧ (PyData.list [.tuple (zs.map PyData.int)]).hasDict = false ∧ (PyData.list [.tuple (zs.map PyData.int)]).depth ≤ 60 ∧ (PyData.list [.tuple (zs.map PyData.int)]).shown.length ≤ sizeLine := by
  obtain ⟨h1, h2, _, _⟩ := zs_show h
  obtain ⟨_, h4⟩ := ints_lay zs
  have h5 := tup_shown h hl
  refine ⟨?_, ?_, ?_, ?_⟩
  · show (PyData.showableAll (zs.map PyData.int) && true) = true
    rw [h1]
    rfl
  · show (PyData.hasDictAll (zs.map PyData.int) || false) = false
    rw [h2]
    rfl
  · show max (PyData.depthAll (zs.map PyData.int) + 1) 0 + 1 ≤ 60
    omega
  · have e : PyData.shownAll [PyData.tuple (zs.map PyData.int)] = [(PyData.tuple (zs.map PyData.int)).shown] := by simp only [PyData.shownAll]
    rw [PyData.shown_list, e, Str.length_append, Str.length_append, sizeLine_eq]
    show ((("[" : Str)).length + (PyData.tuple (zs.map PyData.int)).shown.length) + (("]" : Str)).length ≤ _
    have c1 : (("[" : Str)).length = 1 := by decide +kernel
    have c2 : (("]" : Str)).length = 1 := by decide +kernel
    rw [c1, c2]
    omega
theorem words_len {cs : List Int} (h : ∀ z ∈ cs, 0 ≤ z ∧ z < 10 ^ 400) (hl : cs.length ≤ 5) : (wordsT cs).length ≤ 3000 ∧ ((cs.map numS).map (·.length)).sum ≤ 400 * cs.length := by
  have hs : ((cs.map numS).map (·.length)).sum ≤ 400 * cs.length := by
    clear hl
    induction cs with
    | nil => exact Nat.zero_le _
    | cons n l ih =>
      have := ih fun m hm => h m (List.mem_cons_of_mem _ hm)
      have l4 := numS_len (h n List.mem_cons_self).1 (h n List.mem_cons_self).2
      rw [List.map_cons, List.map_cons, List.sum_cons, List.length_cons]
      omega
  refine ⟨?_, hs⟩
  have j := StrLaws.join_length_le " " (cs.map numS)
  have l1 : ((" " : Str)).length = 1 := by decide +kernel
  rw [l1, List.length_map] at j
  unfold wordsT
  rw [_root_.TL.join_eq]
  omega
end BR

namespace BR
open PySem PySem.Spec PyProof.Rows L2
/-! ### the text by places -/
def top (i : Nat) : Stmt := PySem.Challenge.pw_branchorders_k54_words_in_texts.main.body.getD i (.Pass ⟨0, 0, 0, 0⟩)
abbrev s_read_words : Stmt := top 6
abbrev s_read_items : Stmt := top 7
abbrev s_is_number : Stmt := top 8
abbrev s_show_words : Stmt := top 10
abbrev s_show_items : Stmt := top 11
abbrev s_law_bag : Stmt := top 13
abbrev s_law_draw : Stmt := top 14
abbrev s_law_integer : Stmt := top 15
abbrev s_law_due : Stmt := top 16
abbrev s_law_changed : Stmt := top 17
abbrev s_law_read : Stmt := top 18
abbrev s_law : Stmt := top 19
abbrev s_InvalidWords : Stmt := inClass (top 2) 0
abbrev s_Unreadable : Stmt := inClass (top 3) 0
structure Ad where
  c_InvalidWords : Addr
  c_Unreadable : Addr
  c_BranchError : Addr
  i_InvalidWords : Addr
  di_InvalidWords : FuncData
  i_Unreadable : Addr
  di_Unreadable : FuncData
  a_read_words : Addr
  d_read_words : FuncData
  a_read_items : Addr
  d_read_items : FuncData
  a_is_number : Addr
  d_is_number : FuncData
  a_show_words : Addr
  d_show_words : FuncData
  a_show_items : Addr
  d_show_items : FuncData
  a_law_bag : Addr
  d_law_bag : FuncData
  a_law_draw : Addr
  d_law_draw : FuncData
  a_law_integer : Addr
  d_law_integer : FuncData
  a_law_due : Addr
  d_law_due : FuncData
  a_law_changed : Addr
  d_law_changed : FuncData
  a_law_read : Addr
  d_law_read : FuncData
  a_law : Addr
  d_law : FuncData
structure Txt (w : World) (K : PySem.W.Frag) (mg : Str → Option Value) (A0 : Ad) : Prop where
  g_read_words : mg "read_words" = some (.ref A0.a_read_words)
  F_read_words : Fun K "read_words" "read_words" s_read_words A0.a_read_words A0.d_read_words
  g_read_items : mg "_read_items" = some (.ref A0.a_read_items)
  F_read_items : Fun K "_read_items" "_read_items" s_read_items A0.a_read_items A0.d_read_items
  g_is_number : mg "_is_number" = some (.ref A0.a_is_number)
  F_is_number : Fun K "_is_number" "_is_number" s_is_number A0.a_is_number A0.d_is_number
  g_show_words : mg "show_words" = some (.ref A0.a_show_words)
  F_show_words : Fun K "show_words" "show_words" s_show_words A0.a_show_words A0.d_show_words
  g_show_items : mg "_show_items" = some (.ref A0.a_show_items)
  F_show_items : Fun K "_show_items" "_show_items" s_show_items A0.a_show_items A0.d_show_items
  g_law_bag : mg "_law_bag" = some (.ref A0.a_law_bag)
  F_law_bag : Fun K "_law_bag" "_law_bag" s_law_bag A0.a_law_bag A0.d_law_bag
  g_law_draw : mg "_law_draw" = some (.ref A0.a_law_draw)
  F_law_draw : Fun K "_law_draw" "_law_draw" s_law_draw A0.a_law_draw A0.d_law_draw
  g_law_integer : mg "_law_integer" = some (.ref A0.a_law_integer)
  F_law_integer : Fun K "_law_integer" "_law_integer" s_law_integer A0.a_law_integer A0.d_law_integer
  g_law_due : mg "_law_due" = some (.ref A0.a_law_due)
  F_law_due : Fun K "_law_due" "_law_due" s_law_due A0.a_law_due A0.d_law_due
  g_law_changed : mg "_law_changed" = some (.ref A0.a_law_changed)
  F_law_changed : Fun K "_law_changed" "_law_changed" s_law_changed A0.a_law_changed A0.d_law_changed
  g_law_read : mg "_law_read" = some (.ref A0.a_law_read)
  F_law_read : Fun K "_law_read" "_law_read" s_law_read A0.a_law_read A0.d_law_read
  g_law : mg "law" = some (.ref A0.a_law)
  F_law : Fun K "law" "law" s_law A0.a_law A0.d_law
  b_abs : mg "abs" = none
  b_any : mg "any" = none
  b_int : mg "int" = none
  b_isinstance : mg "isinstance" = none
  b_len : mg "len" = none
  b_min : mg "min" = none
  b_range : mg "range" = none
  b_repr : mg "repr" = none
  b_str : mg "str" = none
  b_tuple : mg "tuple" = none
  b_type : mg "type" = none
  gi_MOST_DIGITS : ∃ t, mg "MOST_DIGITS" = some (.int 400 t)
  gc_InvalidWords : mg "InvalidWords" = some (.ref A0.c_InvalidWords)
  er_InvalidWords : ErrTxt K A0.c_InvalidWords A0.i_InvalidWords
  FI_InvalidWords : Fun K "__init__" "InvalidWords.__init__" s_InvalidWords A0.i_InvalidWords A0.di_InvalidWords
  xm_InvalidWords : PySem.W.exmOne K (.ref A0.c_InvalidWords) (.ref A0.c_BranchError) = some true
  gc_Unreadable : mg "Unreadable" = some (.ref A0.c_Unreadable)
  er_Unreadable : ErrTxt K A0.c_Unreadable A0.i_Unreadable
  FI_Unreadable : Fun K "__init__" "Unreadable.__init__" s_Unreadable A0.i_Unreadable A0.di_Unreadable
  xm_Unreadable : PySem.W.exmOne K (.ref A0.c_Unreadable) (.ref A0.c_BranchError) = some true
  gc_BranchError : mg "BranchError" = some (.ref A0.c_BranchError)
  xb : PySem.W.excIn K A0.c_BranchError [.type "ValueError", .type "Exception", .type "BaseException", .type "object"] "ValueError.__new__" = true
  kb : PySem.W.keepIn K (.ref A0.c_BranchError) = true
  eb : ExcC K A0.c_BranchError
  tab : kitTab K [A0.c_InvalidWords, A0.c_Unreadable] A0.c_BranchError = true
  xm_Unreadable_Unreadable : PySem.W.exmOne K (.ref A0.c_Unreadable) (.ref A0.c_Unreadable) = some true
def Bag (H : Hp) (b l : Addr) (n : Nat) : Prop := ∃ (gs : List Int) (left turn blend : Int), H b = some (.dK (bagK l left turn blend)) ∧ H l = some (.lst (gs.map V.int)) ∧ (∀ g ∈ gs, 0 ≤ g) ∧ gs.length ≤ 63 ∧ 0 ≤ left ∧ 0 ≤ turn ∧ turn ≤ (n : Int) ∧ 0 ≤ blend ∧ blend < 2 ^ 61
theorem Bag.same {H H' : Hp} {b l : Addr} {n : Nat} (h : Bag H b l n) (s : Same H H') : Bag H' b l n := by
  obtain ⟨gs, x, y, z, h1, h2, r⟩ := h
  exact ⟨gs, x, y, z, s _ _ h1, s _ _ h2, r⟩
def But2 (b l : Addr) (H H' : Hp) : Prop := ∀ c o, c ≠ b → c ≠ l → H c = some o → H' c = some o
theorem But2.trans {b l : Addr} {H H1 H2 : Hp} (x : But2 b l H H1) (y : But2 b l H1 H2) : But2 b l H H2 := fun c o n1 n2 e => y c o n1 n2 (x c o n1 n2 e)
theorem But2.of {b l : Addr} {H H' : Hp} (s : Same H H') : But2 b l H H' := fun c o _ _ e => s c o e
theorem But2.same {b l : Addr} {H0 H H' : Hp} (nb : H0 b = none) (nl : H0 l = none) (s : Same H0 H) (x : But2 b l H H') : Same H0 H' := fun c o e => x c o (ne_of_none e nb) (ne_of_none e nl) (s c o e)
theorem isNum_eq (p : Str) : isNum p = ((Txt.isascii p && Txt.isdigit p) && (decide (p.length ≤ 400) && (decide (p = "0") || !decide ((_root_.TL.tl p).head? = some 48)))) := by
  unfold isNum
  rw [asc_digit, Bool.and_assoc]
theorem len24 {n : Nat} (h : n ≤ 16000000) : n ≤ sizeLine := by rw [sizeLine_eq]; omega
theorem str_dec (x y : Str) : decide (V.str x = V.str y) = decide (x = y) := decide_eq_decide.mpr ⟨V.str.inj, fun e => congrArg V.str e⟩
theorem Bag.ne {H : Hp} {b l p : Addr} {n : Nat} (h : Bag H b l n) (hp : H p = none) : p ≠ b ∧ p ≠ l := by
  obtain ⟨gs, x, y, z, h1, h2, _⟩ := h
  exact ⟨fun e => (by rw [e, h1] at hp; cases hp), fun e => (by rw [e, h2] at hp; cases hp)⟩
theorem Bag.put {H : Hp} {b l p : Addr} {n : Nat} {o : HO} (h : Bag H b l n) (n1 : p ≠ b) (n2 : p ≠ l) : Bag (L2.upd H p o) b l n := by
  obtain ⟨gs, x, y, z, h1, h2, r⟩ := h
  exact ⟨gs, x, y, z, by rw [upd_ne n1.symm]; exact h1, by rw [upd_ne n2.symm]; exact h2, r⟩
theorem Bag.mono {H : Hp} {b l : Addr} {n m : Nat} (h : Bag H b l n) (hm : n ≤ m) : Bag H b l m := by
  obtain ⟨gs, x, y, z, h1, h2, h3, h4, h5, h6, h7, r⟩ := h
  exact ⟨gs, x, y, z, h1, h2, h3, h4, h5, h6, by omega, r⟩
def itemV (p : Str) : V := if isNum p = true then .int (numOf p) else .str p

theorem errC {w : World} {K : PySem.W.Frag} {mg : Str → Option Value} {A0 : Ad} (T : Txt w K mg A0) {j : Nat} {C : Addr} (h : ([A0.c_InvalidWords, A0.c_Unreadable] : List Addr)[j]? = some C) : ExcC K C ∧ XfC K C ∧ PySem.W.findIn K (.ref C) "value" = some none := by
  have jl : j < 2 := (List.getElem?_eq_some_iff.mp h).1
  match j, jl, h with
  | 0, _, z => cases z; exact ⟨T.er_InvalidWords.ec, xf_of T.er_InvalidWords.ec, T.er_InvalidWords.no⟩
  | 1, _, z => cases z; exact ⟨T.er_Unreadable.ec, xf_of T.er_Unreadable.ec, T.er_Unreadable.no⟩

section
variable {P : Program} {w : World} {K : PySem.W.Frag} {mg : Str → Option Value} {base : Heap} {A0 : Ad}
theorem scI_InvalidWords : FnScope ["self", "value"] ["self", "value"] (defScope s_InvalidWords) := ⟨rfl, rfl, rfl, by decide +kernel, rfl, by decide +kernel, by decide +kernel⟩
theorem bdI_InvalidWords (T : Txt w K mg A0) : Binds K A0.di_InvalidWords ["self", "value"] [] := T.FI_InvalidWords.binds fun _ _ _ _ _ _ us hl => match us, hl with | [_, _], _ => rfl
theorem kbI_InvalidWords (T : Txt w K mg A0) : ∀ (s : Shared) (u v : Value), BindsTo s A0.di_InvalidWords ⟨[u], [("value", v)]⟩ (((["self", "value"] : List Str)).zip [u, v]) := fun s u v => by
  obtain ⟨oc, od, kV, doc, pm, an, cdv, ct, osl, e, lk, hcd⟩ := T.FI_InvalidWords.ex
  rw [e]
  exact .of_eq rfl
theorem okI_InvalidWords (T : Txt w K mg A0) : FnOk P w K mg base CX0 1 A0.i_InvalidWords A0.di_InvalidWords ["self", "value"] (sp_err A0.c_InvalidWords) := by
  refine T.FI_InvalidWords.ok scI_InvalidWords (fun vs H Q E h => ?_) (fun cdv A outer s H vs Q E hr h => ?_)
  · obtain ⟨a, v, rfl, _⟩ := h
    rfl
  · obtain ⟨a, v, rfl, ha, k⟩ := h
    refine ⟨_, pss_one (ps_ost (pv 0) (pv 1)), ?_⟩
    exact ⟨v, rfl, _, rfl, a, A0.c_InvalidWords, rfl, T.er_InvalidWords.ox, T.er_InvalidWords.no, .inl ⟨ha, fun d hd ne => k d hd ne⟩⟩
theorem scI_Unreadable : FnScope ["self", "value"] ["self", "value"] (defScope s_Unreadable) := ⟨rfl, rfl, rfl, by decide +kernel, rfl, by decide +kernel, by decide +kernel⟩
theorem bdI_Unreadable (T : Txt w K mg A0) : Binds K A0.di_Unreadable ["self", "value"] [] := T.FI_Unreadable.binds fun _ _ _ _ _ _ us hl => match us, hl with | [_, _], _ => rfl
theorem kbI_Unreadable (T : Txt w K mg A0) : ∀ (s : Shared) (u v : Value), BindsTo s A0.di_Unreadable ⟨[u], [("value", v)]⟩ (((["self", "value"] : List Str)).zip [u, v]) := fun s u v => by
  obtain ⟨oc, od, kV, doc, pm, an, cdv, ct, osl, e, lk, hcd⟩ := T.FI_Unreadable.ex
  rw [e]
  exact .of_eq rfl
theorem okI_Unreadable (T : Txt w K mg A0) : FnOk P w K mg base CX0 1 A0.i_Unreadable A0.di_Unreadable ["self", "value"] (sp_err A0.c_Unreadable) := by
  refine T.FI_Unreadable.ok scI_Unreadable (fun vs H Q E h => ?_) (fun cdv A outer s H vs Q E hr h => ?_)
  · obtain ⟨a, v, rfl, _⟩ := h
    rfl
  · obtain ⟨a, v, rfl, ha, k⟩ := h
    refine ⟨_, pss_one (ps_ost (pv 0) (pv 1)), ?_⟩
    exact ⟨v, rfl, _, rfl, a, A0.c_Unreadable, rfl, T.er_Unreadable.ox, T.er_Unreadable.no, .inl ⟨ha, fun d hd ne => k d hd ne⟩⟩
/-! _is_number -/
def sp_is_number (K : PySem.W.Frag) : Sp := fun vs H Q E => ∃ p : Str, vs = [.str p] ∧ p.length ≤ 16000000 ∧ Q (.bl (isNum p)) H
theorem sc_is_number : FnScope ["text"] ["text"] (defScope s_is_number) := ⟨rfl, rfl, rfl, by decide +kernel, rfl, by decide +kernel, by decide +kernel⟩
theorem bd_is_number (T : Txt w K mg A0) : Binds K A0.d_is_number ["text"] [] := T.F_is_number.binds fun _ _ _ _ _ _ us hl => match us, hl with | [_], _ => rfl
theorem ok_is_number (T : Txt w K mg A0) : FnOk P w K mg base CX0 1 A0.a_is_number A0.d_is_number ["text"] (sp_is_number K) := by
  refine T.F_is_number.ok sc_is_number (fun vs H Q E h => ?_) (fun cdv A outer s H vs Q E hr h => ?_)
  · obtain ⟨p, rfl, _⟩ := h
    rfl
  · obtain ⟨p, rfl, h⟩ := h
    refine ⟨_, (pss_cons (ps_if (PW.pt (pw_or (pt_not (PW.pt (pw_and (pt_val (pe_bm0 PySem.F.plainAttrs_str PySem.F.slot_str_isascii PySem.F.type_str_isascii mt_isascii (pv 0))) (pw_and1 (pt_val (pe_bm0 PySem.F.plainAttrs_str PySem.F.slot_str_isdigit PySem.F.type_str_isdigit mt_isdigit (pv 0))))))) (pw_or1 (pt_cmpR op_gt (pe_callB call_len_str (by rfl) T.b_len (by decide +kernel) (pa_cons (pv 0) pa_nil)) (pe_glob (v := .int 400) rfl (T.gi_MOST_DIGITS).choose_spec ⟨_, rfl⟩) (nomark _))))) (pss_one (ps_ret pe_bl)) pss_nil)
        (pss_one (ps_ret (pe_or (pe_cmpR op_eq (pv 0) pe_str (nomark _)) (pe_one (pe_cmpR op_ne (pe_ix ix_str (pv 0) pe_int (fun _ _ => rfl)) pe_str (nomark _))))))), ?_⟩
    obtain ⟨hl, k⟩ := h
    rw [isNum_eq] at k
    refine ⟨_, rfl, rfl, p, rfl, rfl, trivial, _, rfl, ?_⟩
    cases hA : Txt.isascii p with
    | false =>
      rw [hA] at k
      refine tF rfl ?_
      refine tT rfl ?_
      refine tT rfl ?_
      exact k
    | true =>
      rw [hA, Bool.true_and] at k
      refine tT rfl ?_
      refine ⟨_, rfl, rfl, p, rfl, rfl, trivial, _, rfl, ?_⟩
      cases hD : Txt.isdigit p with
      | false =>
        rw [hD] at k
        refine tT rfl ?_
        refine tT rfl ?_
        exact k
      | true =>
        have ad := asc_digit p
        rw [hA, hD] at ad
        have ne : _root_.TL.tl p ≠ [] := of_decide_eq_true (Bool.and_eq_true_iff.mp ad.symm).1
        rw [hD, Bool.true_and] at k
        refine tF rfl ?_
        refine ⟨_, rfl, p, rfl, len24 hl, _, _, rfl, rfl, _, rfl, ?_⟩
        by_cases c4 : (400 : Int) < (p.length : Nat)
        · refine tT (decide_eq_true c4) ?_
          rw [decide_eq_false (show ¬ p.length ≤ 400 by omega), Bool.false_and] at k
          exact k
        · refine tF (decide_eq_false c4) ?_
          rw [decide_eq_true (show p.length ≤ 400 by omega), Bool.true_and] at k
          refine ⟨_, rfl, rfl, _, rfl, ?_⟩
          rw [str_dec]
          cases z : decide (p = "0") with
          | true =>
            rw [z, Bool.true_or] at k
            exact tT rfl k
          | false =>
            rw [z, Bool.false_or] at k
            refine tF rfl ?_
            cases e : _root_.TL.tl p with
            | nil => exact absurd e ne
            | cons c l =>
              have at0 : atI p.cps.toList 0 = some c := by
                rw [show p.cps.toList = c :: l from e]
                unfold atI ixN
                simp
              refine ⟨_, rfl, p, 0, c, rfl, rfl, len24 hl, at0, rfl, ?_⟩
              rw [str_dec]
              have q : decide ((⟨#[c]⟩ : Str) = "0") = decide ((_root_.TL.tl p).head? = some 48) := by
                rw [e]
                refine decide_eq_decide.mpr ⟨fun z => ?_, fun z => ?_⟩
                · have y := congrArg (fun s => s.cps.toList) z
                  have y2 : [c] = [48] := y.trans (by decide +kernel)
                  rw [(List.cons.inj y2).1]
                  rfl
                · have y := Option.some.inj z
                  subst y
                  decide +kernel
              rw [q]
              exact k
/-! _show_items -/
def sp_show_items (K : PySem.W.Frag) : Sp := fun vs H Q E => ∃ (a : Addr) (ns : List Int), vs = [.ref a] ∧ SqT K H a (ns.map V.int) ∧ ns.length ≤ 1000 ∧ (∀ n ∈ ns, 0 ≤ n ∧ n < 10 ^ 400) ∧ ∀ H', Same H H' → Q (.str (wordsT ns)) H'
theorem sc_show_items : FnScope ["items", "item"] ["items"] (defScope s_show_items) := ⟨rfl, rfl, rfl, by decide +kernel, rfl, by decide +kernel, by decide +kernel⟩
theorem bd_show_items (T : Txt w K mg A0) : Binds K A0.d_show_items ["items"] [] := T.F_show_items.binds fun _ _ _ _ _ _ us hl => match us, hl with | [_], _ => rfl
theorem ok_show_items (T : Txt w K mg A0) : FnOk P w K mg base CX0 1 A0.a_show_items A0.d_show_items ["items"] (sp_show_items K) := by
  refine T.F_show_items.ok sc_show_items (fun vs H Q E h => ?_) (fun cdv A outer s H vs Q E hr h => ?_)
  · obtain ⟨a, ns, rfl, _⟩ := h
    rfl
  · obtain ⟨a, ns, rfl, h⟩ := h
    refine ⟨_, (pss_one (ps_ret (pe_bmX (K := K) rfl PySem.F.plainAttrs_str PySem.F.slot_str_join PySem.F.type_str_join mt_join pe_str (pa_cons (pe_lc (own := [("item", 1)]) (g := gName 1) rfl sc_show_items.nd (pi_tup (pv 0)) (blkOk_by (own := [("item", 1)]) (N := ["items", "item"]) (sc := defScope s_show_items) (by decide +kernel)) (fun _ _ _ _ _ => pg_name (i := 1) sc_show_items.nd rfl (Or.inl rfl)) (fun _ _ _ _ _ => pts_nil) (fun _ _ _ _ _ => (pe_callTy call_str_int (by rfl) T.b_str (by decide +kernel) (pa_cons (pv 1) pa_nil)))) pa_nil) rfl rfl rfl rfl rfl))), ?_⟩
    obtain ⟨ha, hl, hb, k⟩ := h
    refine ⟨rfl, ?_⟩
    refine ⟨_, rfl, a, rfl, ⟨_, ha⟩, fun D hD => itt_by (xs := ns.map V.int) (fun i H' => Same H H' ∧ H' D = some (.lst (((ns.take i).map numS).map V.str))) ⟨sameNew hD, upd_same⟩ (fun i H' _ hp => sameT hp.1 ha) ?_ ?_⟩
    · rintro i x H' hx ⟨s', eD⟩
      obtain ⟨n, hn, rfl⟩ := map_at hx
      obtain ⟨n0, n1⟩ := hb n (List.mem_of_getElem? hn)
      refine ⟨rfl, ?_⟩
      refine yesR ?_
      refine tT rfl ?_
      refine ⟨_, rfl, n, rfl, log10 n0 n1, _, eD, small1000 (by rw [List.length_map, List.length_map, List.length_take]; omega), sameUp s' hD, ?_⟩
      rw [upd_same, take_map_succ hn, List.map_append]
      rfl
    rintro H' ⟨s', eD⟩
    rw [List.length_map, List.take_length] at eD
    refine ⟨_, D, ns.map numS, rfl, rfl, .inl (SqL.of eD), ?_, k _ s'⟩
    have hs : ((ns.map numS).map (·.length)).sum ≤ 400 * ns.length := by
      clear eD hl ha k
      induction ns with
      | nil => exact Nat.zero_le _
      | cons n l ih =>
        have := ih fun m hm => hb m (List.mem_cons_of_mem _ hm)
        have l4 := numS_len (hb n List.mem_cons_self).1 (hb n List.mem_cons_self).2
        rw [List.map_cons, List.map_cons, List.sum_cons, List.length_cons]
        omega
    have l1 : ((" " : Str)).length = 1 := by decide +kernel
    rw [l1, List.length_map]
    omega
/-! _law_bag -/
def sp_law_bag (K : PySem.W.Frag) : Sp := fun vs H Q E => ∃ (a : Addr) (ns : List Int), vs = [.ref a] ∧ SqL K H a (ns.map V.int) ∧ ns.length ≤ 63 ∧ ∀ b l H', H b = none → H l = none → b ≠ l → Same H H' → Bag H' b l 0 → Q (.ref b) H'
theorem sc_law_bag : FnScope ["script", "blend", "great", "cell"] ["script"] (defScope s_law_bag) := ⟨rfl, rfl, rfl, by decide +kernel, rfl, by decide +kernel, by decide +kernel⟩
theorem bd_law_bag (T : Txt w K mg A0) : Binds K A0.d_law_bag ["script"] [] := T.F_law_bag.binds fun _ _ _ _ _ _ us hl => match us, hl with | [_], _ => rfl
theorem ok_law_bag (T : Txt w K mg A0) : FnOk P w K mg base CX0 1 A0.a_law_bag A0.d_law_bag ["script"] (sp_law_bag K) := by
  refine T.F_law_bag.ok sc_law_bag (fun vs H Q E h => ?_) (fun cdv A outer s H vs Q E hr h => ?_)
  · obtain ⟨a, ns, rfl, _⟩ := h
    rfl
  · obtain ⟨a, ns, rfl, h⟩ := h
    refine ⟨_, (pss_cons (ps_par (i := 1) (j := 2) rfl sc_law_bag.nd rfl rfl (by decide) rfl rfl (pa_cons pe_int (pa_cons (pe_lst pa_nil) pa_nil)) rfl)
        (pss_cons (ps_for PassesOwn.never rfl (pi_list (pv 0)) (pg_name (i := 3) sc_law_bag.nd rfl (Or.inl rfl)) (pss_cons (ps_set (i := 1) sc_law_bag.nd rfl (Or.inl rfl) (pe_op op_mod (pe_op op_add (pe_op op_mul (pv 1) pe_int) (pv 3)) pe_int))
        (pss_one (ps_if (pt_cmpR op_ge (pe_callB call_abs (by rfl) T.b_abs (by decide +kernel) (pa_cons (pv 3) pa_nil)) (pe_op op_pow pe_int pe_int) (nomark _)) (pss_one (ps_expr (pe_bmX (K := K) rfl PySem.F.plainAttrs_list PySem.F.slot_list_append PySem.F.type_list_append mt_append (pv 2) (pa_cons (pe_callB call_abs (by rfl) T.b_abs (by decide +kernel) (pa_cons (pv 3) pa_nil)) pa_nil) rfl rfl rfl rfl rfl))) pss_nil))))
        (pss_one (ps_ret (pe_disp (pps_cons pe_str (pv 2) (pps_cons pe_str pe_int (pps_cons pe_str pe_int (pps_cons pe_str (pv 1) pps_nil)))) (by rfl) (by rfl) (fun z => by cases z) (by decide)))))), ?_⟩
    obtain ⟨hS, hz, k⟩ := h
    refine ⟨(by show 0 ≤ sizeLine; decide), fun l hl => ⟨_, _, rfl, ?_⟩⟩
    refine ⟨_, rfl, a, rfl, ⟨_, (sameNew hl).seq hS⟩, for_list (K := K) (a := a) (xs := ns.map V.int) (fun i σ H' => ∃ (bl : Int) (gs : List Int) (v : Option V), σ = [some (.ref a), some (.int bl), some (.ref l), v] ∧ 0 ≤ bl ∧ bl < 2 ^ 61 ∧ (∀ g ∈ gs, 0 ≤ g) ∧ gs.length ≤ i ∧ H' l = some (.lst (gs.map V.int)) ∧ Same H H')
      ⟨11, [], none, rfl, by decide, by decide, by simp, Nat.le_refl _, upd_same, sameNew hl⟩ (fun i σ H' _ hp => ?_) ?_ ?_⟩
    · obtain ⟨_, _, _, _, _, _, _, _, _, s⟩ := hp
      exact s.seq hS
    · rintro i x σ H1 hx ⟨bl, gs, v, rfl, b0, b1, g0, gz, h1, s1⟩
      obtain ⟨z, hz1, rfl⟩ := map_at hx
      have hi : i < ns.length := (List.getElem?_eq_some_iff.mp hz1).1
      refine ⟨_, rfl, _, _, rfl, rfl, .inl ⟨by omega, by omega⟩, _, rfl, _, _, rfl, rfl, _, _, rfl, rfl, (by show (0 : Int) < 2305843009213693951; decide), ?_⟩
      have m0 := Int.emod_nonneg (bl * 1000003 + z) (show (2305843009213693951 : Int) ≠ 0 by decide)
      have m1 := Int.emod_lt_of_pos (bl * 1000003 + z) (show (0 : Int) < 2305843009213693951 by decide)
      refine ⟨_, rfl, _, rfl, _, _, rfl, rfl, ⟨by decide, by decide, by decide⟩, _, _, rfl, rfl, _, rfl, ?_⟩
      refine ite2 (fun _ => ?_) (fun _ => ?_)
      · refine ⟨_, rfl, .inl ⟨rfl, _, SqL.of h1⟩, _, rfl, _, rfl, l, _, _, rfl, rfl, h1, small1000 (by rw [List.length_map]; omega), ?_⟩
        refine ⟨_, gs ++ [if z < 0 then -z else z], _, rfl, m0, by omega, fun g hg => ?_, by simp; omega, by rw [upd_same, List.map_append]; rfl, fun c o e => ?_⟩
        · rcases List.mem_append.mp hg with hg | hg
          · exact g0 g hg
          · obtain rfl := List.mem_singleton.mp hg
            split <;> omega
        · rw [upd_ne (ne_of_none e hl)]
          exact s1 c o e
      · exact ⟨_, gs, _, rfl, m0, by omega, g0, by omega, h1, s1⟩
    · rintro σ H1 ⟨bl, gs, v, rfl, b0, b1, g0, gz, h1, s1⟩
      rw [List.length_map] at gz
      intro p hp
      refine ⟨_, rfl, ?_⟩
      refine ⟨_, rfl, ?_⟩
      have npl : p ≠ l := (ne_of_none h1 hp).symm
      refine ⟨upd_same, bagK l 0 0 bl, rfl, (by show 4 ≤ 15; decide), ?_⟩
      refine k p l _ (s1.free hp) hl npl ?_ ⟨gs, 0, 0, bl, upd_same, ?_, g0, by omega, by decide, by decide, by decide, b0, b1⟩
      · intro c o e
        have n : c ≠ p := ne_of_none (s1 c o e) hp
        rw [upd_ne n, upd_ne n]
        exact s1 c o e
      · rw [upd_ne npl.symm, upd_ne npl.symm]
        exact h1
/-! _law_draw -/
def sp_law_draw (K : PySem.W.Frag) : Sp := fun vs H Q E => ∃ (b l : Addr) (m : Int) (n : Nat), vs = [.ref b, .int m] ∧ b ≠ l ∧ Bag H b l n ∧ n ≤ 1000000 ∧ 0 < m ∧ m < 2 ^ 400 ∧ ∀ d H', 0 ≤ d → d < m → Bag H' b l (n + 1) → But2 b l H H' → Q (.int d) H'
theorem sc_law_draw : FnScope ["bag", "many", "drawn", "turn", "mixed"] ["bag", "many"] (defScope s_law_draw) := ⟨rfl, rfl, rfl, by decide +kernel, rfl, by decide +kernel, by decide +kernel⟩
theorem bd_law_draw (T : Txt w K mg A0) : Binds K A0.d_law_draw ["bag", "many"] [] := T.F_law_draw.binds fun _ _ _ _ _ _ us hl => match us, hl with | [_, _], _ => rfl
theorem ok_law_draw (T : Txt w K mg A0) : FnOk P w K mg base CX0 1 A0.a_law_draw A0.d_law_draw ["bag", "many"] (sp_law_draw K) := by
  refine T.F_law_draw.ok sc_law_draw (fun vs H Q E h => ?_) (fun cdv A outer s H vs Q E hr h => ?_)
  · obtain ⟨b, l, m, n, rfl, _⟩ := h
    rfl
  · obtain ⟨b, l, m, n, rfl, h⟩ := h
    refine ⟨_, (Evl.pss_cut (ps_if (PW.pt (pw_and (pt_cmpR op_lt (pe_dget (hu_of hr) (pv 0) pe_str (fun _ _ => rfl)) (pv 1) (nomark _)) (pw_and1 (pt_cmpR op_gt (pe_callB call_len_seq (by rfl) T.b_len (by decide +kernel) (pa_cons (pe_dget (hu_of hr) (pv 0) pe_str (fun _ _ => rfl)) pa_nil)) pe_int (nomark _))))) (pss_one (ps_dput (hu_of hr) (pv 0) pe_str (pe_bm PySem.F.plainAttrs_list PySem.F.slot_list_pop PySem.F.type_list_pop mt_popAt (pe_dget (hu_of hr) (pv 0) pe_str (fun _ _ => rfl)) (pa_cons pe_int pa_nil)) rfl)) pss_nil)
        (pss_cons (ps_if (pt_cmpR op_ge (pe_dget (hu_of hr) (pv 0) pe_str (fun _ _ => rfl)) (pv 1) (nomark _)) (pss_cons (ps_set (i := 2) sc_law_draw.nd rfl (Or.inl rfl) (pe_op op_mod (pe_dget (hu_of hr) (pv 0) pe_str (fun _ _ => rfl)) (pv 1)))
        (pss_cons (ps_dput (hu_of hr) (pv 0) pe_str (pe_op op_fdivW (pe_dget (hu_of hr) (pv 0) pe_str (fun _ _ => rfl)) (pv 1)) rfl)
        (pss_one (ps_ret (pv 2))))) pss_nil)
        (pss_cons (ps_daug (hu_of hr) (pv 0) pe_str pe_int in_add (fun _ _ _ => rfl))
        (pss_cons (ps_set (i := 3) sc_law_draw.nd rfl (Or.inl rfl) (pe_dget (hu_of hr) (pv 0) pe_str (fun _ _ => rfl)))
        (pss_cons (ps_set (i := 4) sc_law_draw.nd rfl (Or.inl rfl) (pe_op op_add (pe_op op_mul (pe_op op_add (pe_dget (hu_of hr) (pv 0) pe_str (fun _ _ => rfl)) (pe_op op_mul pe_int (pv 3))) (pe_op op_powB (pe_op op_add (pv 3) pe_int) pe_int)) (pe_op op_mul pe_int (pv 3))))
        (pss_one (ps_ret (pe_op op_mod (pe_op op_fdivW (pe_op op_mod (pe_op op_powB (pe_op op_mod (pv 4) pe_int) pe_int) (pe_op op_add (pe_op op_pow pe_int pe_int) pe_int)) pe_int) (pv 1))))))))), ?_⟩
    obtain ⟨nbl, bag, hn, h0, h1, k⟩ := h
    have lm := log_ok h0 h1
    refine ⟨fun σ' H' => σ' = [some (.ref b), some (.int m), none, none, none] ∧ Bag H' b l n ∧ But2 b l H H', ?_, ?_⟩
    · obtain ⟨gs, x, y, z, hb, hl, g0, gz, x0, y0, yn, z0, z1⟩ := id bag
      refine ⟨_, rfl, b, _, rfl, DGet.k (k := .inr "left") hb, _, rfl, _, _, rfl, rfl, _, rfl, ?_⟩
      refine ite2 (fun _ => ?_) (fun _ => tF rfl ⟨rfl, bag, fun _ _ _ _ e => e⟩)
      refine ⟨_, rfl, b, _, rfl, DGet.k (k := .inr "great") hb, l, _, rfl, .inl (SqL.of hl), _, _, rfl, rfl, _, rfl, ?_⟩
      cases gs with
      | nil => exact tF rfl ⟨rfl, bag, fun _ _ _ _ e => e⟩
      | cons g r =>
        refine tT (decide_eq_true (by rw [List.length_map, List.length_cons]; omega)) ?_
        refine ⟨_, rfl, b, _, rfl, DGet.k (k := .inr "great") hb, .inl ⟨rfl, _, SqL.of hl⟩, l, _, 0, 0, .int g, rfl, rfl, hl, by decide, by decide, seq0 (by simp), rfl, ?_⟩
        have hb1 : (upd H l (.lst (((g :: r).map V.int).eraseIdx 0))) b = some (.dK (bagK l x y z)) := by
          rw [upd_ne nbl]
          exact hb
        refine ⟨_, rfl, b, _, rfl, DPut.k (k := .inr "left") hb1 (small1000 (by show 4 ≤ 1000; decide)), ?_⟩
        refine ⟨rfl, ⟨r, g, y, z, upd_same, ?_, fun q hq => g0 q (List.mem_cons_of_mem _ hq), by simp at gz; omega, g0 g List.mem_cons_self, y0, yn, z0, z1⟩, fun c o n1 n2 e => ?_⟩
        · rw [upd_ne nbl.symm, upd_same]
          rfl
        · rw [upd_ne n1, upd_ne n2]
          exact e
    rintro σ' H1 ⟨rfl, ⟨gs, x, y, z, hb, hl, g0, gz, x0, y0, yn, z0, z1⟩, bt⟩
    refine ⟨_, rfl, b, _, rfl, DGet.k (k := .inr "left") hb, _, rfl, _, _, rfl, rfl, _, rfl, ?_⟩
    refine ite2 (fun _ => ?_) (fun _ => ?_)
    · refine ⟨_, rfl, b, _, rfl, DGet.k (k := .inr "left") hb, _, rfl, _, _, rfl, rfl, h0, ?_⟩
      refine ⟨_, rfl, b, _, rfl, DGet.k (k := .inr "left") hb, _, rfl, _, _, rfl, rfl, ⟨h0, lm⟩, _, rfl, b, _, rfl, DPut.k (k := .inr "left") hb (small1000 (by show 4 ≤ 1000; decide)), ?_⟩
      refine ⟨_, rfl, ?_⟩
      refine k _ _ (Int.emod_nonneg x (by omega)) (Int.emod_lt_of_pos x h0) ⟨gs, x / m, y, z, upd_same, by rw [upd_ne nbl.symm]; exact hl, g0, gz, Int.ediv_nonneg x0 (by omega), y0, by omega, z0, z1⟩ (bt.trans fun c o n1 n2 e => ?_)
      rw [upd_ne n1]
      exact e
    · refine ⟨_, rfl, b, _, rfl, DGet.k (k := .inr "turn") hb, _, _, rfl, rfl, _, DPut.k (k := .inr "turn") hb (small1000 (by show 4 ≤ 1000; decide)), ?_⟩
      have hb2 : (upd H1 b (.dK (putK (bagK l x y z) (.inr "turn" : Key) (.int (y + 1))))) b = some (.dK (bagK l x (y + 1) z)) := upd_same
      refine ⟨_, rfl, b, _, rfl, DGet.k (k := .inr "turn") hb2, ?_⟩
      refine ⟨_, rfl, b, _, rfl, DGet.k (k := .inr "blend") hb2, _, rfl, _, _, rfl, rfl, .inl ⟨by decide, by decide⟩, _, _, rfl, rfl, _, rfl, _, _, rfl, rfl, _, _, rfl, rfl, powB_of (a := 20) (by omega) (by decide) (by decide) (by decide), _, _, rfl, rfl, .inl ⟨by omega, by omega⟩, _, rfl, _, _, rfl, rfl, .inl ⟨by decide, by decide⟩, _, _, rfl, rfl, ?_⟩
      refine ⟨_, rfl, _, _, rfl, rfl, (by show (0 : Int) < 2305843009213693951; decide), _, _, rfl, rfl, ?_, ?_⟩
      · have q0 := Int.emod_nonneg ((z + 17 * (y + 1)) * (y + 1 + 29) ^ (2 : Int).toNat + 7919 * (y + 1)) (show (2305843009213693951 : Int) ≠ 0 by decide)
        have q1 := Int.emod_lt_of_pos ((z + 17 * (y + 1)) * (y + 1 + 29) ^ (2 : Int).toNat + 7919 * (y + 1)) (show (0 : Int) < 2305843009213693951 by decide)
        exact powB_of (a := 64) (by omega) (by decide) (by decide) (by decide)
      refine ⟨_, _, rfl, rfl, ⟨by decide, by decide, by decide⟩, _, _, rfl, rfl, _, _, rfl, rfl, (by show (0 : Int) < 10 ^ (18 : Int).toNat + 9; decide), _, _, rfl, rfl, ⟨by decide, by decide⟩, _, rfl, _, _, rfl, rfl, h0, ?_⟩
      refine k _ _ (Int.emod_nonneg _ (by omega)) (Int.emod_lt_of_pos _ h0) ⟨gs, x, y + 1, z, hb2, by rw [upd_ne nbl.symm]; exact hl, g0, gz, x0, by omega, by omega, z0, z1⟩ (bt.trans fun c o n1 n2 e => ?_)
      rw [upd_ne n1]
      exact e
/-! _law_due -/
def sp_law_due (K : PySem.W.Frag) : Sp := fun vs H Q E => ∃ t : Str, vs = [.str t] ∧ t.length ≤ 8000 ∧ Asc t ∧ (∀ zs p q H', dueI t = some zs → Same H H' → H' p = some (.lst [.ref q]) → H' q = some (.tup (zs.map V.int)) → Q (.ref p) H') ∧ (∀ p H', dueI t = none → Same H H' → H' p = some (.lst []) → Q (.ref p) H')
theorem sc_law_due : FnScope ["wording", "found", "part", "sign"] ["wording"] (defScope s_law_due) := ⟨rfl, rfl, rfl, by decide +kernel, rfl, by decide +kernel, by decide +kernel⟩
theorem bd_law_due (T : Txt w K mg A0) : Binds K A0.d_law_due ["wording"] [] := T.F_law_due.binds fun _ _ _ _ _ _ us hl => match us, hl with | [_], _ => rfl
set_option maxHeartbeats 0 in
theorem ok_law_due (T : Txt w K mg A0) : FnOk P w K mg base CX0 1 A0.a_law_due A0.d_law_due ["wording"] (sp_law_due K) := by
  refine T.F_law_due.ok sc_law_due (fun vs H Q E h => ?_) (fun cdv A outer s H vs Q E hr h => ?_)
  · obtain ⟨t, rfl, _⟩ := h
    rfl
  · obtain ⟨t, rfl, h⟩ := h
    refine ⟨_, (pss_cons (ps_if (pt_cmpR op_eq (pv 0) pe_str (nomark _)) (pss_one (ps_ret (pe_lst (pa_cons (pe_tup pa_nil) pa_nil)))) pss_nil)
        (pss_cons (ps_set (i := 1) sc_law_due.nd rfl (Or.inl rfl) (pe_lst pa_nil))
        (pss_cons (ps_for PassesOwn.never rfl (pi_list (pe_bmX (K := K) rfl PySem.F.plainAttrs_str PySem.F.slot_str_split PySem.F.type_str_split mt_split (pv 0) (pa_cons pe_str pa_nil) rfl rfl rfl rfl rfl)) (pg_name (i := 2) sc_law_due.nd rfl (Or.inl rfl)) (pss_cons (ps_if (PW.pt (pw_or (pt_cmpR op_eq (pv 2) pe_str (nomark _)) (pw_or (pt_cmpR op_gt (pe_callB call_len_str (by rfl) T.b_len (by decide +kernel) (pa_cons (pv 2) pa_nil)) pe_int (nomark _)) (pw_or1 (pt_cmpR (op_neD hr.units) (pe_lc (own := [("sign", 3)]) (g := gName 3) rfl sc_law_due.nd (pi_str (pv 2)) (blkOk_by (own := [("sign", 3)]) (N := ["wording", "found", "part", "sign"]) (sc := defScope s_law_due) (by decide +kernel)) (fun _ _ _ _ _ => pg_name (i := 3) sc_law_due.nd rfl (Or.inl rfl)) (fun _ _ _ _ _ => pts_one (pt_cmpR op_notIn_sign (pv 3) pe_str rfl)) (fun _ _ _ _ _ => (pv 3))) (pe_lst pa_nil) (nomark _)))))) (pss_one (ps_ret (pe_lst pa_nil))) pss_nil)
        (pss_cons (ps_if (PW.pt (pw_and (pt_cmpR op_eq (pe_ix ix_str (pv 2) pe_int (fun _ _ => rfl)) pe_str (nomark _)) (pw_and1 (pt_cmpR op_ne (pv 2) pe_str (nomark _))))) (pss_one (ps_ret (pe_lst pa_nil))) pss_nil)
        (pss_one (ps_expr (pe_bmX (K := K) rfl PySem.F.plainAttrs_list PySem.F.slot_list_append PySem.F.type_list_append mt_append (pv 1) (pa_cons (pe_callTy call_int_str (by rfl) T.b_int (by decide +kernel) (pa_cons (pv 2) pa_nil)) pa_nil) rfl rfl rfl rfl rfl))))))
        (pss_one (ps_ret (pe_lst (pa_cons (pe_callTy call_tuple_of (by rfl) T.b_tuple (by decide +kernel) (pa_cons (pv 1) pa_nil)) pa_nil))))))), ?_⟩
    obtain ⟨hl, ha, k1, k2⟩ := h
    have sl := split_le t " "
    refine ⟨_, rfl, rfl, _, rfl, ?_⟩
    rw [str_dec]
    by_cases c : t = "none"
    · refine tT (decide_eq_true c) ?_
      exact ⟨(by show 0 ≤ sizeLine; decide), fun q hq => ⟨(by show 1 ≤ sizeLine; decide), fun p hp => k1 [] p q _ (by unfold dueI; rw [if_pos c]) ((sameNew hq).trans (sameNew hp)) upd_same ((sameNew hp) _ _ upd_same)⟩⟩
    refine tF (decide_eq_false c) ?_
    refine ⟨(by show 0 ≤ sizeLine; decide), fun f hf => ?_⟩
    have sf := sameNew hf (o := .lst [])
    refine ⟨_, rfl, rfl, t, " ", rfl, rfl, by decide +kernel, by rw [sizeLine_eq]; omega, fun l hl2 => ?_⟩
    have nlf : l ≠ f := (ne_of_none upd_same hl2).symm
    refine ⟨l, rfl, ⟨_, SqL.of upd_same⟩, for_list (K := K) (a := l) (xs := (Txt.split t " ").map V.str) (fun i σ H' => ∃ (u v : Option V), σ = [some (.str t), some (.ref f), u, v] ∧ Same H H' ∧ H' l = some (.lst ((Txt.split t " ").map V.str)) ∧ H' f = some (.lst ((((Txt.split t " ").take i).map numOf).map V.int)) ∧ ((Txt.split t " ").take i).all isNum = true)
      ⟨none, none, rfl, sf.trans (sameNew hl2), upd_same, (sameNew hl2) _ _ upd_same, rfl⟩ (fun i σ H' _ hp => ?_) ?_ ?_⟩
    · obtain ⟨_, _, _, _, el, _⟩ := hp
      exact SqL.of el
    · rintro i x σ H1 hx ⟨u, v, rfl, s1, el, ef, al⟩
      obtain ⟨p, hp, rfl⟩ := map_atS hx
      have pm := List.mem_of_getElem? hp
      have pl := part_le pm
      have ap := ha.part pm
      have bad : isNum p = false → ∀ H2, Same H1 H2 → ∀ q, H2 q = none → Q (.ref q) (upd H2 q (.lst [])) := fun n H2 s2 q hq => by
        refine k2 q _ ?_ (s1.trans (s2.trans (sameNew hq))) upd_same
        unfold dueI
        rw [if_neg c, if_neg]
        intro z
        rw [List.all_eq_true.mp z p pm] at n
        cases n
      have nil0 : isNum "" = false := by decide +kernel
      refine ⟨_, rfl, rfl, _, rfl, ?_⟩
      rw [str_dec]
      by_cases c1 : p = ""
      · refine tT (decide_eq_true c1) ?_
        refine tT rfl ?_
        exact ⟨(by show 0 ≤ sizeLine; decide), fun q hq => bad (by rw [c1]; exact nil0) H1 (Same.refl _) q hq⟩
      refine tF (decide_eq_false c1) ?_
      have ne : _root_.TL.tl p ≠ [] := fun z => c1 (_root_.TL.ext_tl (by rw [z]; decide +kernel))
      refine ⟨_, rfl, p, rfl, len24 (by omega), _, _, rfl, rfl, _, rfl, ?_⟩
      by_cases c2 : (400 : Int) < (p.length : Nat)
      · refine tT (decide_eq_true c2) ?_
        refine tT rfl ?_
        refine ⟨(by show 0 ≤ sizeLine; decide), fun q hq => bad ?_ H1 (Same.refl _) q hq⟩
        unfold isNum
        rw [decide_eq_false (show ¬ p.length ≤ 400 by omega), Bool.false_and, Bool.and_false, Bool.and_false]
      refine tF (decide_eq_false c2) ?_
      refine ⟨_, rfl, p, rfl, fun D hD => its_by (x := p) (fun j H' => Same H1 H' ∧ H' D = some (.lst (((((_root_.TL.tl p).take j).filter fun c => !dg c).map fun c => (⟨#[c]⟩ : Str)).map V.str))) ⟨sameNew hD, upd_same⟩ ?_ ?_⟩
      · rintro j c H' hc ⟨s', eD⟩
        refine ⟨rfl, ?_⟩
        refine ⟨_, rfl, c, "0123456789", rfl, rfl, _, rfl, ?_⟩
        rw [dg_in]
        have st := filt_take (p := fun c => !dg c) hc
        have jl : j < (_root_.TL.tl p).length := (List.getElem?_eq_some_iff.mp hc).1
        rw [← _root_.TL.len_tl] at jl
        cases d : dg c with
        | true =>
          rw [d] at st
          refine tF rfl ⟨s', ?_⟩
          rw [st]
          simpa using eD
        | false =>
          rw [d] at st
          refine tT rfl ?_
          refine ⟨_, rfl, _, eD, ?_, sameUp s' hD, ?_⟩
          · have l1 := List.length_filter_le (fun c => !dg c) ((_root_.TL.tl p).take j)
            rw [List.length_take] at l1
            rw [List.length_map, List.length_map, sizeLine_eq]
            omega
          · rw [upd_same, st, List.map_append, List.map_append]
            rfl
      rintro H2 ⟨s2, eD⟩
      rw [_root_.TL.len_tl, List.take_length] at eD
      refine ⟨(by show 0 ≤ sizeLine; decide), fun e he => ?_⟩
      refine ⟨.list ((((_root_.TL.tl p).filter fun c => !dg c).map fun c => (⟨#[c]⟩ : Str)).map PyData.str), .list [], .lst (SqL.of ((sameNew he) _ _ eD)) (strs_all _), .lst (SqL.of upd_same) .nil, strs_shX (fun x m => ?_), by decide +kernel, _, rfl, ?_⟩
      · obtain ⟨c, hc, rfl⟩ := List.mem_map.mp m
        exact ok_one (ap c (List.mem_filter.mp hc).1)
      rw [strs_eqX]
      have s3 : Same H1 (upd H2 e (.lst [])) := s2.trans (sameNew he)
      have el3 := s3 _ _ el
      have ef3 := s3 _ _ ef
      generalize (upd H2 e (.lst [])) = H3 at s3 el3 ef3 ⊢
      by_cases c3 : (((_root_.TL.tl p).filter fun c => !dg c).map fun c => (⟨#[c]⟩ : Str)) = []
      · refine tF (by rw [decide_eq_true c3]; rfl) ?_
        have ad : (_root_.TL.tl p).all dg = true := by
          have f0 := List.filter_eq_nil_iff.mp (List.map_eq_nil_iff.mp c3)
          refine List.all_eq_true.mpr fun c m => ?_
          have := f0 c m
          cases z : dg c with
          | true => rfl
          | false => rw [z] at this; exact absurd rfl this
        cases e0 : _root_.TL.tl p with
        | nil => exact absurd e0 ne
        | cons c0 r =>
          have at0 : atI p.cps.toList 0 = some c0 := by
            rw [show p.cps.toList = c0 :: r from e0]
            unfold atI ixN
            simp
          refine ⟨_, rfl, p, 0, c0, rfl, rfl, len24 (by omega), at0, rfl, _, rfl, ?_⟩
          rw [str_dec]
          have q0 : decide ((⟨#[c0]⟩ : Str) = "0") = decide (c0 = 48) := by
            refine decide_eq_decide.mpr ⟨fun z => ?_, fun z => ?_⟩
            · have y := congrArg (fun s => s.cps.toList) z
              have y2 : [c0] = [48] := y.trans (by decide +kernel)
              exact (List.cons.inj y2).1
            · rw [z]
              decide +kernel
          rw [q0]
          have isn : isNum p = (decide (p = "0") || !decide (c0 = 48)) := by
            unfold isNum
            rw [ad, decide_eq_true ne, decide_eq_true (show p.length ≤ 400 by omega), Bool.true_and, Bool.true_and, Bool.true_and, e0]
            congr 2
            exact decide_eq_decide.mpr ⟨fun z => Option.some.inj z, fun z => by rw [z]; rfl⟩
          have fin : isNum p = true → Same H (upd H3 f (.lst (((((Txt.split t " ").take i).map numOf).map V.int) ++ [.int (numOf p)]))) ∧ (upd H3 f (.lst (((((Txt.split t " ").take i).map numOf).map V.int) ++ [.int (numOf p)]))) l = some (.lst ((Txt.split t " ").map V.str)) ∧
              (upd H3 f (.lst (((((Txt.split t " ").take i).map numOf).map V.int) ++ [.int (numOf p)]))) f = some (.lst ((((Txt.split t " ").take (i + 1)).map numOf).map V.int)) ∧ ((Txt.split t " ").take (i + 1)).all isNum = true := fun g => by
            refine ⟨sameUp (s1.trans s3) hf, by rw [upd_ne nlf]; exact el3, by rw [upd_same, take_map_succ hp, List.map_append]; rfl, ?_⟩
            rw [List.take_add_one, hp, List.all_append, al]
            simpa using g
          obtain ⟨h1, h2⟩ : _root_.TL.tl p ≠ [] ∧ NumText.AllDigits (_root_.TL.tl p) := ⟨ne, fun c m => dg_iff.mp (List.all_eq_true.mp ad c m)⟩
          have small : ((((Txt.split t " ").take i).map numOf).map V.int).length < sizeLine := by
            rw [List.length_map, List.length_map, List.length_take, sizeLine_eq]
            omega
          by_cases z0 : c0 = 48
          · refine tT (decide_eq_true z0) ?_
            refine ⟨_, rfl, rfl, _, rfl, ?_⟩
            rw [str_dec]
            by_cases pz : p = "0"
            · refine tF (by rw [decide_eq_true pz]; rfl) ?_
              exact ⟨_, rfl, .inl ⟨rfl, _, SqL.of ef3⟩, _, rfl, p, numOf p, rfl, int_of h1 h2 (by omega), by omega, f, _, _, rfl, rfl, ef3, small, _, _, rfl, fin (by rw [isn, decide_eq_true pz, Bool.true_or])⟩
            · refine tT (by rw [decide_eq_false pz]; rfl) ?_
              exact ⟨(by show 0 ≤ sizeLine; decide), fun q hq => bad (by rw [isn, decide_eq_false pz, decide_eq_true z0]; rfl) H3 s3 q hq⟩
          · refine tF (decide_eq_false z0) ?_
            refine tF rfl ?_
            exact ⟨_, rfl, .inl ⟨rfl, _, SqL.of ef3⟩, _, rfl, p, numOf p, rfl, int_of h1 h2 (by omega), by omega, f, _, _, rfl, rfl, ef3, small, _, _, rfl, fin (by rw [isn, decide_eq_false z0, Bool.not_false, Bool.or_true])⟩
      · refine tT (by rw [decide_eq_false c3]; rfl) ?_
        refine ⟨(by show 0 ≤ sizeLine; decide), fun q hq => bad ?_ H3 s3 q hq⟩
        have ad : (_root_.TL.tl p).all dg = false := by
          cases z : (_root_.TL.tl p).all dg with
          | false => rfl
          | true =>
            refine absurd ?_ c3
            rw [List.map_eq_nil_iff, List.filter_eq_nil_iff]
            intro c m
            rw [List.all_eq_true.mp z c m]
            decide
        unfold isNum
        rw [ad, Bool.false_and, Bool.and_false]
    · rintro σ H1 ⟨u, v, rfl, s1, el, ef, al⟩
      rw [List.length_map, List.take_length] at ef al
      refine ⟨_, rfl, f, _, rfl, .inl ⟨SqL.of ef, fun q hq => ⟨(by show 1 ≤ sizeLine; decide), fun p hp => k1 _ p q _ (by unfold dueI; rw [if_neg c, if_pos al]) (s1.trans ((sameNew hq).trans (sameNew hp))) upd_same ((sameNew hp) _ _ upd_same)⟩⟩⟩
/-! _read_items -/
def sp_read_items (K : PySem.W.Frag) : Sp := fun vs H Q E => ∃ t : Str, vs = [.str t] ∧ t.length ≤ 8000 ∧ ∀ p H', Same H H' → H' p = some (.tup ((Txt.split t " ").map itemV)) → Q (.ref p) H'
theorem sc_read_items : FnScope ["text", "item"] ["text"] (defScope s_read_items) := ⟨rfl, rfl, rfl, by decide +kernel, rfl, by decide +kernel, by decide +kernel⟩
theorem bd_read_items (T : Txt w K mg A0) : Binds K A0.d_read_items ["text"] [] := T.F_read_items.binds fun _ _ _ _ _ _ us hl => match us, hl with | [_], _ => rfl
theorem ok_read_items (T : Txt w K mg A0) : FnOk P w K mg base CX0 2 A0.a_read_items A0.d_read_items ["text"] (sp_read_items K) := by
  refine T.F_read_items.ok sc_read_items (fun vs H Q E h => ?_) (fun cdv A outer s H vs Q E hr h => ?_)
  · obtain ⟨t, rfl, _⟩ := h
    rfl
  · obtain ⟨t, rfl, h⟩ := h
    refine ⟨_, (pss_one (ps_ret (pe_callTy call_tuple_of (by rfl) T.b_tuple (by decide +kernel) (pa_cons (pe_lc (own := [("item", 1)]) (g := gName 1) rfl sc_read_items.nd (pi_list (pe_bmX (K := K) rfl PySem.F.plainAttrs_str PySem.F.slot_str_split PySem.F.type_str_split mt_split (pv 0) (pa_cons pe_str pa_nil) rfl rfl rfl rfl rfl)) (blkOk_by (own := [("item", 1)]) (N := ["text", "item"]) (sc := defScope s_read_items) (by decide +kernel)) (fun _ _ _ _ _ => pg_name (i := 1) sc_read_items.nd rfl (Or.inl rfl)) (fun _ _ _ _ _ => pts_nil) (fun _ _ _ _ _ => (pe_ifExp (pt_val (pe_call (ok_is_number T) (hr.mono (by decide)) rfl T.g_is_number T.F_is_number.kp (bd_is_number T) .nil pass0 (pa_cons (pv 1) pa_nil))) (pe_callTy call_int_str (by rfl) T.b_int (by decide +kernel) (pa_cons (pv 1) pa_nil)) (pv 1)))) pa_nil)))), ?_⟩
    obtain ⟨hl, k⟩ := h
    have sl := split_le t " "
    refine ⟨_, rfl, rfl, t, " ", rfl, rfl, by decide +kernel, by rw [sizeLine_eq]; omega, fun l hl2 => ?_⟩
    have el : (upd H l (.lst ((Txt.split t " ").map V.str))) l = some (.lst ((Txt.split t " ").map V.str)) := upd_same
    refine ⟨l, rfl, ⟨_, SqL.of el⟩, fun D hD => itl_by (xs := (Txt.split t " ").map V.str) (fun i H' => Same (upd H l (.lst ((Txt.split t " ").map V.str))) H' ∧ H' D = some (.lst (((Txt.split t " ").take i).map itemV))) ⟨sameNew hD, upd_same⟩ (fun i H' _ hp => SqL.of (hp.1 _ _ el)) ?_ ?_⟩
    · rintro i x H' hx ⟨s', eD⟩
      obtain ⟨p, hp, rfl⟩ := map_atS hx
      have pl := part_le (List.mem_of_getElem? hp)
      refine ⟨rfl, ?_⟩
      refine yesR ?_
      refine tT rfl ?_
      have fin : ∀ y, y = itemV p → ∃ acc, H' D = some (.lst acc) ∧ acc.length < sizeLine ∧ (Same (upd H l (.lst ((Txt.split t " ").map V.str))) (upd H' D (.lst (acc ++ [y]))) ∧ (upd H' D (.lst (acc ++ [y]))) D = some (.lst (((Txt.split t " ").take (i + 1)).map itemV))) := fun y ey => by
        refine ⟨_, eD, ?_, sameUp s' hD, ?_⟩
        · rw [List.length_map, List.length_take, sizeLine_eq]
          omega
        · rw [upd_same, take_map_succ hp, ey]
      refine ⟨_, rfl, p, rfl, by omega, _, rfl, ?_⟩
      cases c : isNum p with
      | true =>
        obtain ⟨h1, h2, h3⟩ := isNum_digits c
        refine tT rfl ?_
        exact ⟨_, rfl, p, numOf p, rfl, int_of h1 h2 (by omega), by omega, fin _ (by unfold itemV; rw [if_pos c])⟩
      | false =>
        refine tF rfl ?_
        exact ⟨_, rfl, fin _ (by unfold itemV; rw [if_neg (by rw [c]; decide)])⟩
    rintro H' ⟨s', eD⟩
    rw [List.length_map, List.take_length] at eD
    exact ⟨D, _, rfl, .inl ⟨SqL.of eD, fun q hq => k q _ ((sameNew hl2).trans (s'.trans (sameNew hq))) upd_same⟩⟩
/-! show_words -/
def sp_show_words (K : PySem.W.Frag) : Sp := fun vs H Q E => ∃ (a : Addr) (ns : List Int), vs = [.ref a] ∧ SqT K H a (ns.map V.int) ∧ ns.length ≤ 1000 ∧ (∀ n ∈ ns, 0 ≤ n ∧ n < 10 ^ 400) ∧ ∀ H', Same H H' → Q (.str (if ns = [] then "none" else wordsT ns)) H'
theorem sc_show_words : FnScope ["words"] ["words"] (defScope s_show_words) := ⟨rfl, rfl, rfl, by decide +kernel, rfl, by decide +kernel, by decide +kernel⟩
theorem bd_show_words (T : Txt w K mg A0) : Binds K A0.d_show_words ["words"] [] := T.F_show_words.binds fun _ _ _ _ _ _ us hl => match us, hl with | [_], _ => rfl
theorem kb_show_words_words (T : Txt w K mg A0) : KBinds K A0.d_show_words ["words"] ["words"] (fun us ws => match us, ws with | [], [k0] => [k0] | _, _ => ([] : List Value)) (fun us ws => match us, ws with | [], [k0] => [k0] | _, _ => ([] : List V)) := by
  obtain ⟨oc, od, kV, doc, pm, an, cdv, ct, osl, e, lk, hcd⟩ := T.F_show_words.ex
  rw [e]
  refine ⟨fun s us ws _ hl => ?_, fun {vs us zs ws} r1 r2 => ?_⟩
  · match us, ws, hl with
    | [], [k0], _ => exact .of_eq rfl
    | [], [], z => exact absurd z (by decide)
    | [], _ :: _ :: _, z => exact absurd z (by simp)
    | _ :: _, _, z => exact absurd z (by simp)
  · cases r1 with
    | cons _ _ => exact .nil
    | nil =>
      cases r2 with
      | nil => exact .nil
      | cons q0 r2 =>
        cases r2 with
        | nil => exact .cons q0 .nil
        | cons _ _ => exact .nil
theorem ok_show_words (T : Txt w K mg A0) : FnOk P w K mg base CX0 2 A0.a_show_words A0.d_show_words ["words"] (sp_show_words K) := by
  refine T.F_show_words.ok sc_show_words (fun vs H Q E h => ?_) (fun cdv A outer s H vs Q E hr h => ?_)
  · obtain ⟨a, ns, rfl, _⟩ := h
    rfl
  · obtain ⟨a, ns, rfl, h⟩ := h
    refine ⟨_, (pss_one (ps_ret (pe_ifExp (pt_truth (pv 0) (fun _ => rfl)) (pe_call (ok_show_items T) (hr.mono (by decide)) rfl T.g_show_items T.F_show_items.kp (bd_show_items T) .nil pass0 (pa_cons (pv 0) pa_nil)) pe_str))), ?_⟩
    obtain ⟨ha, hl, hb, k⟩ := h
    refine ⟨_, rfl, _, .inr (.inl ⟨_, ha, rfl⟩), ?_⟩
    cases ns with
    | nil => exact tF rfl (k H (Same.refl H))
    | cons n l =>
      refine tT rfl ?_
      exact ⟨_, rfl, a, n :: l, rfl, ha, hl, hb, fun H' s => k H' s⟩
/-! _law_integer -/
def sp_law_integer (K : PySem.W.Frag) : Sp := fun vs H Q E => ∃ (b l : Addr) (n : Nat), vs = [.ref b] ∧ b ≠ l ∧ Bag H b l n ∧ n ≤ 900000 ∧ ∀ z H', 0 ≤ z → z < 10 ^ 400 → Bag H' b l (n + 402) → But2 b l H H' → Q (.int z) H'
theorem sc_law_integer : FnScope ["bag", "long", "digits", "turn"] ["bag"] (defScope s_law_integer) := ⟨rfl, rfl, rfl, by decide +kernel, rfl, by decide +kernel, by decide +kernel⟩
theorem bd_law_integer (T : Txt w K mg A0) : Binds K A0.d_law_integer ["bag"] [] := T.F_law_integer.binds fun _ _ _ _ _ _ us hl => match us, hl with | [_], _ => rfl
theorem ok_law_integer (T : Txt w K mg A0) : FnOk P w K mg base CX0 2 A0.a_law_integer A0.d_law_integer ["bag"] (sp_law_integer K) := by
  refine T.F_law_integer.ok sc_law_integer (fun vs H Q E h => ?_) (fun cdv A outer s H vs Q E hr h => ?_)
  · obtain ⟨b, l, n, rfl, _⟩ := h
    rfl
  · obtain ⟨b, l, n, rfl, h⟩ := h
    refine ⟨_, (pss_cons (ps_set (i := 1) sc_law_integer.nd rfl (Or.inl rfl) (pe_op op_add pe_int (pe_call (ok_law_draw T) (hr.mono (by decide)) rfl T.g_law_draw T.F_law_draw.kp (bd_law_draw T) .nil pass0 (pa_cons (pv 0) (pa_cons (pe_ix ix_tup (pe_tup (pa_cons pe_int (pa_cons pe_int (pa_cons pe_int pa_nil)))) (pe_call (ok_law_draw T) (hr.mono (by decide)) rfl T.g_law_draw T.F_law_draw.kp (bd_law_draw T) .nil pass0 (pa_cons (pv 0) (pa_cons pe_int pa_nil))) (fun _ _ => rfl)) pa_nil)))))
        (pss_cons (ps_set (i := 2) sc_law_integer.nd rfl (Or.inl rfl) (pe_bmX (K := K) rfl PySem.F.plainAttrs_str PySem.F.slot_str_join PySem.F.type_str_join mt_join pe_str (pa_cons (pe_lc (own := [("turn", 3)]) (g := gName 3) rfl sc_law_integer.nd (pi_range1 rfl T.b_range (pa_cons (pv 1) pa_nil)) (blkOk_by (own := [("turn", 3)]) (N := ["bag", "long", "digits", "turn"]) (sc := defScope s_law_integer) (by decide +kernel)) (fun _ _ _ _ _ => pg_name (i := 3) sc_law_integer.nd rfl (Or.inl rfl)) (fun _ _ _ _ _ => pts_nil) (fun _ _ _ _ _ => (pe_callTy call_str_int (by rfl) T.b_str (by decide +kernel) (pa_cons (pe_call (ok_law_draw T) (hr.mono (by decide)) rfl T.g_law_draw T.F_law_draw.kp (bd_law_draw T) .nil pass0 (pa_cons (pv 0) (pa_cons pe_int pa_nil))) pa_nil)))) pa_nil) rfl rfl rfl rfl rfl))
        (pss_one (ps_ret (pe_callTy call_int_str (by rfl) T.b_int (by decide +kernel) (pa_cons (pv 2) pa_nil)))))), ?_⟩
    obtain ⟨nbl, bag, hn, k⟩ := h
    refine ⟨_, rfl, (by show 3 ≤ sizeLine; decide), fun tp htp => ?_⟩
    obtain ⟨ntb, ntl⟩ := bag.ne htp
    have bag0 := bag.same (sameNew htp (o := .tup [.int 3, .int 30, .int 399]))
    refine ⟨_, rfl, b, l, 3, n, rfl, nbl, bag0, by omega, by decide, by decide, fun d H1 l1 u1 bag1 b1 => ?_⟩
    obtain ⟨w3, e3, w0, w1⟩ : ∃ w3 : Int, atI [V.int 3, V.int 30, V.int 399] d = some (.int w3) ∧ 3 ≤ w3 ∧ w3 ≤ 399 := by
      have : d = 0 ∨ d = 1 ∨ d = 2 := by omega
      rcases this with rfl | rfl | rfl <;> exact ⟨_, rfl, by decide, by decide⟩
    refine ⟨tp, _, d, .int w3, rfl, rfl, SqT.of (b1 tp _ ntb ntl upd_same), e3, ?_⟩
    refine ⟨b, l, w3, n + 1, rfl, nbl, bag1, by omega, by omega, Int.lt_of_le_of_lt w1 (by decide), fun d2 H2 l2 u2 bag2 b2 => ⟨_, _, rfl, rfl, ?_⟩⟩
    have b02 : But2 b l H H2 := (But2.of (sameNew htp)).trans (b1.trans b2)
    obtain ⟨m, hm⟩ : ∃ m : Nat, 1 + d2 = (m : Int) := ⟨(1 + d2).toNat, by omega⟩
    show tSeq _ _ _ (List.set _ 1 (some (V.int (1 + d2)))) H2
    rw [hm]
    refine ⟨rfl, ?_⟩
    refine ⟨_, rfl, (m : Int), rfl, by omega, by omega, fun D hD => itr_by (lo := 0) (n := m) (fun i H' => ∃ ds : List Int, ds.length = i ∧ (∀ d ∈ ds, 0 ≤ d ∧ d < 10) ∧ H' D = some (.lst ((ds.map numS).map V.str)) ∧ Bag H' b l (n + 2 + i) ∧ But2 b l H2 H') ⟨[], rfl, fun d m => absurd m (by simp), upd_same, bag2.same (sameNew hD), But2.of (sameNew hD)⟩ ?_ ?_⟩
    · rintro i H' hi ⟨ds, ld, bd, eD, bagx, bx⟩
      obtain ⟨nDb, nDl⟩ := bag2.ne hD
      refine ⟨rfl, ?_⟩
      refine yesR ?_
      refine tT rfl ?_
      refine ⟨_, rfl, b, l, 10, _, rfl, nbl, bagx, by omega, by decide, by decide, fun d3 H3 l3 u3 bag3 b3 => ?_⟩
      refine ⟨d3, rfl, log10 l3 (Int.lt_of_lt_of_le u3 (by decide)), _, b3 D _ nDb nDl eD, small1000 (by rw [List.length_map, List.length_map]; omega), ds ++ [d3], by rw [List.length_append, ld]; rfl, fun z m => ?_, by rw [upd_same, List.map_append, List.map_append]; rfl, bag3.put nDb nDl, fun c o n1 n2 e => ?_⟩
      · rcases List.mem_append.mp m with m | m
        · exact bd z m
        · rw [List.mem_singleton.mp m]
          exact ⟨l3, u3⟩
      · rw [upd_ne (fun z => by rw [z, hD] at e; cases e)]
        exact b3 c o n1 n2 (bx c o n1 n2 e)
    rintro H' ⟨ds, ld, bd, eD, bagx, bx⟩
    have tj := digits_join bd
    have lj : (Txt.join "" (ds.map numS)).length = m := by rw [_root_.TL.len_tl, tj, List.length_map, ld]
    have aj : NumText.AllDigits (_root_.TL.tl (Txt.join "" (ds.map numS))) := fun c hc => by
      rw [tj] at hc
      obtain ⟨d, hd, rfl⟩ := List.mem_map.mp hc
      have := bd d hd
      omega
    have nj : _root_.TL.tl (Txt.join "" (ds.map numS)) ≠ [] := fun z => by
      rw [_root_.TL.len_tl, z] at lj
      simp at lj
      omega
    obtain ⟨z0, z1⟩ := numOf_lt aj (show (Txt.join "" (ds.map numS)).length ≤ 400 by omega)
    refine ⟨_, D, ds.map numS, rfl, rfl, .inl (SqL.of eD), ?_, ?_⟩
    · have hs : ((ds.map numS).map (·.length)).sum ≤ 400 * ds.length := by
        clear tj lj aj nj z0 z1 eD bagx bx ld
        induction ds with
        | nil => exact Nat.zero_le _
        | cons n l ih =>
          have := ih fun m hm => bd m (List.mem_cons_of_mem _ hm)
          obtain ⟨y0, y1⟩ := bd n List.mem_cons_self
          have l4 := numS_len y0 (Int.lt_of_lt_of_le y1 (by decide))
          rw [List.map_cons, List.map_cons, List.sum_cons, List.length_cons]
          omega
      have l1 : (("" : Str)).length = 0 := by decide +kernel
      rw [l1, List.length_map]
      omega
    refine ⟨_, rfl, _, _, rfl, int_of nj aj (by omega), by omega, ?_⟩
    exact k _ _ z0 z1 (bagx.mono (by omega)) (b02.trans bx)
/-! _law_changed -/
def sp_law_changed (K : PySem.W.Frag) : Sp := fun vs H Q E => ∃ (b l : Addr) (n : Nat) (t : Str), vs = [.ref b, .str t] ∧ b ≠ l ∧ Bag H b l n ∧ n ≤ 900000 ∧ t.length ≤ 2000 ∧ Asc t ∧ ∀ (y : Str) H', y.length ≤ 4100 → Asc y → Bag H' b l (n + 5) → But2 b l H H' → Q (.str y) H'
theorem sc_law_changed : FnScope ["bag", "wording", "spot", "sign", "way_now"] ["bag", "wording"] (defScope s_law_changed) := ⟨rfl, rfl, rfl, by decide +kernel, rfl, by decide +kernel, by decide +kernel⟩
theorem bd_law_changed (T : Txt w K mg A0) : Binds K A0.d_law_changed ["bag", "wording"] [] := T.F_law_changed.binds fun _ _ _ _ _ _ us hl => match us, hl with | [_, _], _ => rfl
theorem ok_law_changed (T : Txt w K mg A0) : FnOk P w K mg base CX0 2 A0.a_law_changed A0.d_law_changed ["bag", "wording"] (sp_law_changed K) := by
  refine T.F_law_changed.ok sc_law_changed (fun vs H Q E h => ?_) (fun cdv A outer s H vs Q E hr h => ?_)
  · obtain ⟨b, l, n, t, rfl, _⟩ := h
    rfl
  · obtain ⟨b, l, n, t, rfl, h⟩ := h
    refine ⟨_, (pss_cons (ps_set (i := 2) sc_law_changed.nd rfl (Or.inl rfl) (pe_call (ok_law_draw T) (hr.mono (by decide)) rfl T.g_law_draw T.F_law_draw.kp (bd_law_draw T) .nil pass0 (pa_cons (pv 0) (pa_cons (pe_op op_add (pe_callB call_len_str (by rfl) T.b_len (by decide +kernel) (pa_cons (pv 1) pa_nil)) pe_int) pa_nil))))
        (pss_cons (ps_set (i := 3) sc_law_changed.nd rfl (Or.inl rfl) (pe_ix ix_str pe_str (pe_call (ok_law_draw T) (hr.mono (by decide)) rfl T.g_law_draw T.F_law_draw.kp (bd_law_draw T) .nil pass0 (pa_cons (pv 0) (pa_cons pe_int pa_nil))) (fun _ _ => rfl)))
        (pss_cons (ps_set (i := 4) sc_law_changed.nd rfl (Or.inl rfl) (pe_call (ok_law_draw T) (hr.mono (by decide)) rfl T.g_law_draw T.F_law_draw.kp (bd_law_draw T) .nil pass0 (pa_cons (pv 0) (pa_cons pe_int pa_nil))))
        (pss_cons (ps_if (pt_cmpR op_eq (pv 4) pe_int (nomark _)) (pss_one (ps_ret (pe_op op_add_str (pe_op op_add_str (pe_slice sl_str (pv 1) po_none (po_some (pv 2))) (pv 3)) (pe_slice sl_str (pv 1) (po_some (pv 2)) po_none)))) pss_nil)
        (pss_cons (ps_if (pt_cmpR op_eq (pv 4) pe_int (nomark _)) (pss_one (ps_ret (pe_op op_add_str (pe_slice sl_str (pv 1) po_none (po_some (pv 2))) (pe_slice sl_str (pv 1) (po_some (pe_op op_add (pv 2) pe_int)) po_none)))) pss_nil)
        (pss_cons (ps_if (pt_cmpR op_eq (pv 4) pe_int (nomark _)) (pss_one (ps_ret (pe_op op_add_str (pe_op op_add_str (pe_slice sl_str (pv 1) po_none (po_some (pv 2))) (pv 3)) (pe_slice sl_str (pv 1) (po_some (pe_op op_add (pv 2) pe_int)) po_none)))) pss_nil)
        (pss_one (ps_ret (pe_ix ix_tup (pe_tup (pa_cons (pe_op op_add_str pe_str (pv 1)) (pa_cons (pe_op op_add_str (pv 1) pe_str) (pa_cons pe_str (pa_cons (pe_op op_str_rep pe_str pe_int) (pa_cons (pe_op op_str_rep pe_str pe_int) (pa_cons pe_str pa_nil))))))) (pe_call (ok_law_draw T) (hr.mono (by decide)) rfl T.g_law_draw T.F_law_draw.kp (bd_law_draw T) .nil pass0 (pa_cons (pv 0) (pa_cons pe_int pa_nil))) (fun _ _ => rfl)))))))))), ?_⟩
    obtain ⟨nbl, bag, hn, hl, ha, k⟩ := h
    refine ⟨_, rfl, _, rfl, t, rfl, len24 (by omega), _, _, rfl, rfl, b, l, _, n, rfl, nbl, bag, by omega, by omega, Int.lt_of_le_of_lt (show _ ≤ (2001 : Int) by omega) (by decide), fun spot H1 l1 u1 bag1 b1 => ?_⟩
    refine ⟨_, rfl, b, l, 6, n + 1, rfl, nbl, bag1, by omega, by decide, by decide, fun d2 H2 l2 u2 bag2 b2 => ?_⟩
    obtain ⟨c, hc, c128⟩ : ∃ c, atI (("019 -n" : Str)).cps.toList d2 = some c ∧ c < 128 := by
      have e : (("019 -n" : Str)).cps.toList = [48, 49, 57, 32, 45, 110] := by decide +kernel
      rw [e]
      have : d2 = 0 ∨ d2 = 1 ∨ d2 = 2 ∨ d2 = 3 ∨ d2 = 4 ∨ d2 = 5 := by omega
      rcases this with rfl | rfl | rfl | rfl | rfl | rfl <;> exact ⟨_, rfl, by decide⟩
    refine ⟨_, d2, c, rfl, rfl, by decide +kernel, hc, ?_⟩
    refine ⟨_, rfl, b, l, 4, n + 2, rfl, nbl, bag2, by omega, by decide, by decide, fun way H3 l3 u3 bag3 b3 => ?_⟩
    have b03 := b1.trans (b2.trans b3)
    have ln := fun (lo hi : Option Int) => cutS_length t lo hi
    have lc : ((⟨#[c]⟩ : Str)).length = 1 := rfl
    have fin : ∀ y : Str, y.length ≤ 4100 → Asc y → Q (.str y) H3 := fun y hy hz => k y H3 hy hz (bag3.mono (by omega)) b03
    have l0 := ln none (some spot)
    refine ⟨_, rfl, rfl, _, rfl, ?_⟩
    by_cases c0 : way = 0
    · refine tT (by simp [c0]) ?_
      have lx := ln (some spot) none
      refine ⟨_, rfl, _, rfl, _, rfl, t, rfl, len24 (by omega), _, rfl, _, _, rfl, rfl, ?_, _, rfl, _, rfl, _, rfl, t, rfl, len24 (by omega), _, _, rfl, rfl, ?_, fin _ ?_ ?_⟩
      · rw [sizeLine_eq, lc]
        omega
      · rw [sizeLine_eq, Str.length_append, lc]
        omega
      · rw [Str.length_append, Str.length_append, lc]
        omega
      · exact ((ha.cut _ _).app (Asc.one c128)).app (ha.cut _ _)
    refine tF (by simp [c0]) ?_
    have ly := ln (some (spot + 1)) none
    refine ⟨_, rfl, rfl, _, rfl, ?_⟩
    by_cases c1 : way = 1
    · refine tT (by simp [c1]) ?_
      refine ⟨_, rfl, _, rfl, _, rfl, t, rfl, len24 (by omega), _, rfl, _, rfl, _, _, rfl, rfl, _, rfl, t, rfl, len24 (by omega), _, _, rfl, rfl, ?_, fin _ ?_ ?_⟩
      · rw [sizeLine_eq]
        omega
      · rw [Str.length_append]
        omega
      · exact (ha.cut _ _).app (ha.cut _ _)
    refine tF (by simp [c1]) ?_
    refine ⟨_, rfl, rfl, _, rfl, ?_⟩
    by_cases c2 : way = 2
    · refine tT (by simp [c2]) ?_
      refine ⟨_, rfl, _, rfl, _, rfl, t, rfl, len24 (by omega), _, rfl, _, _, rfl, rfl, ?_, _, rfl, _, rfl, _, _, rfl, rfl, _, rfl, t, rfl, len24 (by omega), _, _, rfl, rfl, ?_, fin _ ?_ ?_⟩
      · rw [sizeLine_eq, lc]
        omega
      · rw [sizeLine_eq, Str.length_append, lc]
        omega
      · rw [Str.length_append, Str.length_append, lc]
        omega
      · exact ((ha.cut _ _).app (Asc.one c128)).app (ha.cut _ _)
    refine tF (by simp [c2]) ?_
    have lb : ((" " : Str)).length = 1 := by decide +kernel
    refine ⟨_, rfl, _, _, rfl, rfl, (by rw [sizeLine_eq, lb]; omega), _, rfl, _, _, rfl, rfl, (by rw [sizeLine_eq, lb]; omega), ?_⟩
    refine ⟨_, _, rfl, rfl, by decide +kernel, by decide +kernel, by decide, by decide, fun z1 hz1 az1 => ?_⟩
    refine ⟨_, _, rfl, rfl, by decide +kernel, by decide +kernel, by decide, by decide, fun z2 hz2 az2 => ?_⟩
    refine ⟨(by show 6 ≤ sizeLine; decide), fun tp htp => ?_⟩
    obtain ⟨ntb, ntl⟩ := bag3.ne htp
    refine ⟨_, rfl, b, l, 6, n + 3, rfl, nbl, bag3.same (sameNew htp), by omega, by decide, by decide, fun d4 H4 l4 u4 bag4 b4 => ?_⟩
    have l9 : (("9" : Str)).length = 1 := by decide +kernel
    rw [l9] at hz1 hz2
    have as9 : Asc ("9" : Str) := by unfold Asc; decide +kernel
    have as1 : Asc (" " : Str) := by unfold Asc; decide +kernel
    obtain ⟨y, ey, hy, ay⟩ : ∃ y : Str, atI [V.str (" " ++ t), V.str (t ++ " "), V.str "", V.str z1, V.str z2, V.str "none none"] d4 = some (.str y) ∧ y.length ≤ 4100 ∧ Asc y := by
      have : d4 = 0 ∨ d4 = 1 ∨ d4 = 2 ∨ d4 = 3 ∨ d4 = 4 ∨ d4 = 5 := by omega
      rcases this with rfl | rfl | rfl | rfl | rfl | rfl
      · exact ⟨_, rfl, by rw [Str.length_append, lb]; omega, as1.app ha⟩
      · exact ⟨_, rfl, by rw [Str.length_append, lb]; omega, ha.app as1⟩
      · exact ⟨_, rfl, by decide +kernel, (by unfold Asc; decide +kernel)⟩
      · exact ⟨_, rfl, by rw [hz1]; decide, az1 as9⟩
      · exact ⟨_, rfl, by rw [hz2]; decide, az2 as9⟩
      · exact ⟨_, rfl, by decide +kernel, (by unfold Asc; decide +kernel)⟩
    refine ⟨tp, _, d4, .str y, rfl, rfl, SqT.of (b4 tp _ ntb ntl upd_same), ey, ?_⟩
    exact k y H4 hy ay (bag4.mono (by omega)) (b03.trans ((But2.of (sameNew htp)).trans b4))
/-! read_words -/
def sp_read_words (K : PySem.W.Frag) (A0 : Ad) : Sp := fun vs H Q E => ∃ t : Str, vs = [.str t] ∧ t.length ≤ 8000 ∧ (∀ zs, dueI t = some zs → ∀ p H', Same H H' → H' p = some (.tup (zs.map V.int)) → Q (.ref p) H') ∧ (dueI t = none → ∀ d H', H d = none → Same H H' → H' d = some (.xd [("value", .str t)]) → E (.ref A0.c_Unreadable) (some d) H')
theorem sc_read_words : FnScope ["text", "words", "word"] ["text"] (defScope s_read_words) := ⟨rfl, rfl, rfl, by decide +kernel, rfl, by decide +kernel, by decide +kernel⟩
theorem bd_read_words (T : Txt w K mg A0) : Binds K A0.d_read_words ["text"] [] := T.F_read_words.binds fun _ _ _ _ _ _ us hl => match us, hl with | [_], _ => rfl
theorem kb_read_words_text (T : Txt w K mg A0) : KBinds K A0.d_read_words ["text"] ["text"] (fun us ws => match us, ws with | [], [k0] => [k0] | _, _ => ([] : List Value)) (fun us ws => match us, ws with | [], [k0] => [k0] | _, _ => ([] : List V)) := by
  obtain ⟨oc, od, kV, doc, pm, an, cdv, ct, osl, e, lk, hcd⟩ := T.F_read_words.ex
  rw [e]
  refine ⟨fun s us ws _ hl => ?_, fun {vs us zs ws} r1 r2 => ?_⟩
  · match us, ws, hl with
    | [], [k0], _ => exact .of_eq rfl
    | [], [], z => exact absurd z (by decide)
    | [], _ :: _ :: _, z => exact absurd z (by simp)
    | _ :: _, _, z => exact absurd z (by simp)
  · cases r1 with
    | cons _ _ => exact .nil
    | nil =>
      cases r2 with
      | nil => exact .nil
      | cons q0 r2 =>
        cases r2 with
        | nil => exact .cons q0 .nil
        | cons _ _ => exact .nil
theorem ok_read_words (T : Txt w K mg A0) : FnOk P w K mg base (L2.CX P w) 3 A0.a_read_words A0.d_read_words ["text"] (sp_read_words K A0) := by
  refine T.F_read_words.okX sc_read_words (fun vs H Q E h => ?_) (fun cdv A outer s H vs Q E hr h => ?_)
  · obtain ⟨t, rfl, _⟩ := h
    rfl
  · obtain ⟨t, rfl, h⟩ := h
    refine ⟨_, (pss_cons (ps_if (pt_cmpR op_eq (pv 0) pe_str (nomark _)) (pss_one (ps_ret (pe_tup pa_nil))) pss_nil)
        (pss_cons (ps_set (i := 1) sc_read_words.nd rfl (Or.inl rfl) (pe_call (ok_read_items T) (hr.mono (by decide)) rfl T.g_read_items T.F_read_items.kp (bd_read_items T) .nil pass0 (pa_cons (pv 0) pa_nil)))
        (pss_cons (ps_if (pt_val (pe_callB (cr_any rfl) (by rfl) T.b_any (by decide +kernel) (pa_cons (pe_lc (own := [("word", 2)]) (g := gName 2) rfl sc_read_words.nd (pi_tup (pv 1)) (blkOk_by (own := [("word", 2)]) (N := ["text", "words", "word"]) (sc := defScope s_read_words) (by decide +kernel)) (fun _ _ _ _ _ => pg_name (i := 2) sc_read_words.nd rfl (Or.inl rfl)) (fun _ _ _ _ _ => pts_nil) (fun _ _ _ _ _ => (pe_cmpR op_isNotTy (pe_callTy RZ.call_type4 (by rfl) T.b_type (by decide +kernel) (pa_cons (pv 2) pa_nil)) (pe_bltn (v := .ty "int") (by rfl) T.b_int (by decide +kernel) rfl) (nomark _)))) pa_nil))) (pss_one (ps_raise rfl (takes_of rfl rfl rfl rfl) (pmk_oex (T.er_Unreadable).ox (T.er_Unreadable).ii (T.er_Unreadable).ti (okI_Unreadable T) (hr.mono (by decide)) (bdI_Unreadable T) .nil pass0 rfl T.gc_Unreadable (pa_cons (pv 0) pa_nil)))) pss_nil)
        (pss_one (ps_ret (pv 1)))))), ?_⟩
    obtain ⟨hl, k, e⟩ := h
    have sl := split_le t " "
    refine ⟨_, rfl, rfl, _, rfl, ?_⟩
    rw [str_dec]
    by_cases c : t = "none"
    · refine tT (decide_eq_true c) ?_
      exact ⟨(by show 0 ≤ sizeLine; decide), fun p hp => k [] (by unfold dueI; rw [if_pos c]) p _ (sameNew hp) upd_same⟩
    refine tF (decide_eq_false c) ?_
    refine ⟨_, rfl, t, rfl, hl, fun w H1 s1 e1 => ?_⟩
    refine ⟨_, rfl, w, rfl, ⟨_, SqT.of e1⟩, fun D hD => itt_by (xs := (Txt.split t " ").map itemV) (fun i H' => Same H1 H' ∧ H' D = some (.lst ((((Txt.split t " ").take i).map fun p => !isNum p).map V.bl))) ⟨sameNew hD, upd_same⟩ (fun i H' _ hp => SqT.of (hp.1 _ _ e1)) ?_ ?_⟩
    · rintro i x H' hx ⟨s', eD⟩
      obtain ⟨p, hp, rfl⟩ := map_atG hx
      refine ⟨rfl, ?_⟩
      refine yesR ?_
      refine tT rfl ?_
      have fin : ∀ b : Bool, b = (!isNum p) → ∃ acc, H' D = some (.lst acc) ∧ acc.length < sizeLine ∧ (Same H1 (upd H' D (.lst (acc ++ [.bl b]))) ∧ (upd H' D (.lst (acc ++ [.bl b]))) D = some (.lst ((((Txt.split t " ").take (i + 1)).map fun p => !isNum p).map V.bl))) := fun b eb => by
        refine ⟨_, eD, ?_, sameUp s' hD, ?_⟩
        · rw [List.length_map, List.length_map, List.length_take, sizeLine_eq]
          omega
        · rw [upd_same, take_map_succ hp, List.map_append, eb]
          rfl
      cases d : isNum p with
      | true =>
        have ei : itemV p = .int (numOf p) := by unfold itemV; rw [if_pos d]
        rw [ei]
        exact ⟨_, rfl, .int (numOf p), "int", rfl, .int _, _, _, rfl, rfl, fin _ (by rw [d]; rfl)⟩
      | false =>
        have ei : itemV p = .str p := by unfold itemV; rw [if_neg (by rw [d]; decide)]
        rw [ei]
        exact ⟨_, rfl, .str p, "str", rfl, .str _, _, _, rfl, rfl, fin _ (by rw [d]; rfl)⟩
    rintro H2 ⟨s2, eD⟩
    rw [List.length_map, List.take_length] at eD
    have s12 := s1.trans s2
    have an : (((Txt.split t " ").map fun p => !isNum p).any id) = !((Txt.split t " ").all isNum) := by
      rw [List.any_map]
      induction (Txt.split t " ") with
      | nil => rfl
      | cons a l ih =>
        rw [List.any_cons, List.all_cons, ih]
        show (!isNum a || !(l.all isNum)) = !(isNum a && l.all isNum)
        cases isNum a <;> rfl
    refine ⟨D, _, rfl, SqL.of eD, _, rfl, ?_⟩
    rw [an]
    cases h : (Txt.split t " ").all isNum with
    | false =>
      refine tT rfl ?_
      have due : dueI t = none := by unfold dueI; rw [if_neg c, if_neg (by rw [h]; decide)]
      exact ⟨_, rfl, mkO_end fun d hd => e due d _ (s12.free hd) (s12.trans (sameNew hd)) upd_same⟩
    | true =>
      refine tF rfl ?_
      have due : dueI t = some ((Txt.split t " ").map numOf) := by unfold dueI; rw [if_neg c, if_pos h]
      refine ⟨_, rfl, k _ due w H2 s12 ?_⟩
      rw [s2 _ _ e1, List.map_map]
      congr 2
      refine List.map_congr_left fun p m => ?_
      have ip := List.all_eq_true.mp h p m
      show itemV p = V.int (numOf p)
      unfold itemV
      rw [if_pos ip]
/-! _law_read -/
def sp_law_read (K : PySem.W.Frag) : Sp := fun vs H Q E => ∃ t : Str, vs = [.str t] ∧ t.length ≤ 8000 ∧ (∀ zs p q H', dueI t = some zs → Same H H' → H' p = some (.lst [.ref q]) → H' q = some (.tup (zs.map V.int)) → Q (.ref p) H') ∧ (∀ p H', dueI t = none → Same H H' → H' p = some (.lst []) → Q (.ref p) H')
theorem sc_law_read : FnScope ["wording", "e"] ["wording"] (defScope s_law_read) := ⟨rfl, rfl, rfl, by decide +kernel, rfl, by decide +kernel, by decide +kernel⟩
theorem bd_law_read (T : Txt w K mg A0) : Binds K A0.d_law_read ["wording"] [] := T.F_law_read.binds fun _ _ _ _ _ _ us hl => match us, hl with | [_], _ => rfl
theorem ok_law_read (T : Txt w K mg A0) : FnOk P w K mg base CX0 4 A0.a_law_read A0.d_law_read ["wording"] (sp_law_read K) := by
  refine T.F_law_read.ok sc_law_read (fun vs H Q E h => ?_) (fun cdv A outer s H vs Q E hr h => ?_)
  · obtain ⟨t, rfl, _⟩ := h
    rfl
  · obtain ⟨t, rfl, h⟩ := h
    refine ⟨_, (pss_cons (ps_try_kept (i := 1) rfl rfl rfl sc_law_read.nd rfl rfl ⟨rfl, by decide, Or.inl T.gc_Unreadable⟩
        (fun W pn xe tk po => (pss_one (ps_ret (pe_lst (pa_cons (pe_callS (ok_read_words T) (hr.mono (by decide)) rfl T.g_read_words T.F_read_words.kp (bd_read_words T) (fun σ => passAt tk σ) (pa_cons (pv 0) pa_nil)) pa_nil)))))
        (fun a oe cls d pn hz hf => (pss_one (ps_if (PW.pt (pw_or (pt_cmpR op_ne (pe_xf (xf_of T.er_Unreadable.ec) T.er_Unreadable.no hz hf (pv 1)) (pv 0) (nomark _)) (pw_or1 (pt_val (pe_callB (call_isS hz hf) (by rfl) T.b_isinstance (by decide +kernel) (pa_cons (pv 1) (pa_cons (pe_glob (v := .ref A0.c_InvalidWords) rfl T.gc_InvalidWords rfl) pa_nil))))))) (pss_one (ps_ret (pe_lst (pa_cons pe_str pa_nil)))) pss_nil))))
        (pss_one (ps_ret (pe_lst pa_nil)))), ?_⟩
    obtain ⟨hl, k1, k2⟩ := h
    refine ⟨_, rfl, t, rfl, hl, fun zs hz w H1 s1 e1 => ⟨(by show 1 ≤ sizeLine; decide), fun p hp => k1 zs p w _ hz (s1.trans (sameNew hp)) upd_same ((sameNew hp) _ _ e1)⟩, fun hn d H1 hd s1 he => ⟨T.xm_Unreadable_Unreadable, fun a ha => ?_⟩⟩
    refine ⟨_, rfl, rfl, rfl, d, [("value", .str t)], .str t, rfl, he, rfl, _, rfl, rfl, _, rfl, ?_⟩
    refine tF (by simp) ?_
    refine ⟨_, rfl, A0.c_Unreadable, d, "value", .str t, .ref A0.c_InvalidWords, _, false, rfl, rfl, rfl, he, T.er_Unreadable.ec, .own _, kit_ij T.tab (i := 1) (j := 0) rfl rfl, _, rfl, ?_⟩
    refine tF rfl ?_
    exact fun na => ⟨(by show 0 ≤ sizeLine; decide), fun p hp => k2 p _ hn (s1.trans ((sameNew ha).trans (sameNew hp))) upd_same⟩
/-! law -/
def sp_law (K : PySem.W.Frag) : Sp := fun vs H Q E => ∃ (a : Addr) (ns : List Int), vs = [.ref a] ∧ SqL K H a (ns.map V.int) ∧ ns.length ≤ 63 ∧ ∀ H', Q (.bl true) H'
theorem sc_law : FnScope ["script", "bag", "turn", "cells", "place", "wording", "word", "other"] ["script"] (defScope s_law) := ⟨rfl, rfl, rfl, by decide +kernel, rfl, by decide +kernel, by decide +kernel⟩
theorem bd_law (T : Txt w K mg A0) : Binds K A0.d_law ["script"] [] := T.F_law.binds fun _ _ _ _ _ _ us hl => match us, hl with | [_], _ => rfl
set_option maxHeartbeats 0 in
theorem ok_law (T : Txt w K mg A0) : FnG P w K mg base CX0 5 A0.a_law A0.d_law ["script"] (sp_law K) := by
  refine Fun.okG T.F_law sc_law (fun vs H Q E h => ?_) (fun cdv A outer s H vs Q E gg hr h => ?_)
  · obtain ⟨a, ns, rfl, _⟩ := h
    rfl
  · obtain ⟨a, ns, rfl, h⟩ := h
    refine ⟨_, (pss_cons (ps_set (i := 1) sc_law.nd rfl (Or.inr rfl) (pe_call (ok_law_bag T) (hr.mono (by decide)) rfl T.g_law_bag T.F_law_bag.kp (bd_law_bag T) .nil pass0 (pa_cons (pv 0) pa_nil)))
        (pss_cons (ps_for PassesOwn.never rfl (pi_range1 rfl T.b_range (pa_cons (pe_op op_add pe_int (pe_callB (call_min2 rfl) (by rfl) T.b_min (by decide +kernel) (pa_cons pe_int (pa_cons (pe_callB call_len_seq (by rfl) T.b_len (by decide +kernel) (pa_cons (pv 0) pa_nil)) pa_nil)))) pa_nil)) (pg_name (i := 2) sc_law.nd rfl (Or.inl rfl)) (pss_cons (ps_set (i := 3) sc_law.nd rfl (Or.inl rfl) (pe_callTy call_tuple_of (by rfl) T.b_tuple (by decide +kernel) (pa_cons (pe_lc (own := [("place", 4)]) (g := gName 4) rfl sc_law.nd (pi_range1 rfl T.b_range (pa_cons (pe_call (ok_law_draw T) (hr.mono (by decide)) rfl T.g_law_draw T.F_law_draw.kp (bd_law_draw T) .nil pass0 (pa_cons (pv 1) (pa_cons pe_int pa_nil))) pa_nil)) (blkOk_by (own := [("place", 4)]) (N := ["script", "bag", "turn", "cells", "place", "wording", "word", "other"]) (sc := defScope s_law) (by decide +kernel)) (fun _ _ _ _ _ => pg_name (i := 4) sc_law.nd rfl (Or.inl rfl)) (fun _ _ _ _ _ => pts_nil) (fun _ _ _ _ _ => (pe_call (ok_law_integer T) (hr.mono (by decide)) rfl T.g_law_integer T.F_law_integer.kp (bd_law_integer T) .nil pass0 (pa_cons (pv 1) pa_nil)))) pa_nil)))
        (pss_cons (ps_set (i := 5) sc_law.nd rfl (Or.inl rfl) (pe_bmX (K := K) rfl PySem.F.plainAttrs_str PySem.F.slot_str_join PySem.F.type_str_join mt_join pe_str (pa_cons (pe_lc (own := [("word", 6)]) (g := gName 6) rfl sc_law.nd (pi_tup (pv 3)) (blkOk_by (own := [("word", 6)]) (N := ["script", "bag", "turn", "cells", "place", "wording", "word", "other"]) (sc := defScope s_law) (by decide +kernel)) (fun _ _ _ _ _ => pg_name (i := 6) sc_law.nd rfl (Or.inl rfl)) (fun _ _ _ _ _ => pts_nil) (fun _ _ _ _ _ => (pe_callTy call_str_int (by rfl) T.b_str (by decide +kernel) (pa_cons (pv 6) pa_nil)))) pa_nil) rfl rfl rfl rfl rfl))
        (pss_cons (ps_if (pt_cmpR (op_eqD hr.units) (pv 3) (pe_tup pa_nil) (nomark _)) (pss_one (ps_set (i := 5) sc_law.nd rfl (Or.inl rfl) pe_str)) pss_nil)
        (pss_one (ps_if (pt_cmpR op_lt (pe_callB call_len_str (by rfl) T.b_len (by decide +kernel) (pa_cons (pv 5) pa_nil)) pe_int (nomark _)) (pss_cons (ps_if (PW.pt (pw_or (pt_cmpR op_ne (pe_callK0 (ok_show_words T) (hr.mono (by decide)) rfl T.g_show_words T.F_show_words.kp (kb_show_words_words T) pass0 (pk_cons (pv 3) pk_nil)) (pv 5) (nomark _)) (pw_or1 (pt_cmpR op_ne (pe_callB (call_reprD gg hr.units) (by rfl) T.b_repr (by decide +kernel) (pa_cons (pe_callK0 (ok_read_words T) (hr.mono (by decide)) rfl T.g_read_words T.F_read_words.kp (kb_read_words_text T) (passes_call takes0 fun _ _ _ _ h => h) (pk_cons (pv 5) pk_nil)) pa_nil)) (pe_callB (call_reprD gg hr.units) (by rfl) T.b_repr (by decide +kernel) (pa_cons (pv 3) pa_nil)) (nomark _))))) (pss_one (ps_ret pe_bl)) pss_nil)
        (pss_cons (ps_set (i := 7) sc_law.nd rfl (Or.inl rfl) (pe_call (ok_law_changed T) (hr.mono (by decide)) rfl T.g_law_changed T.F_law_changed.kp (bd_law_changed T) .nil pass0 (pa_cons (pv 1) (pa_cons (pv 5) pa_nil))))
        (pss_one (ps_if (pt_cmpR op_ne (pe_callB (call_reprD gg hr.units) (by rfl) T.b_repr (by decide +kernel) (pa_cons (pe_call (ok_law_read T) (hr.mono (by decide)) rfl T.g_law_read T.F_law_read.kp (bd_law_read T) .nil pass0 (pa_cons (pv 7) pa_nil)) pa_nil)) (pe_callB (call_reprD gg hr.units) (by rfl) T.b_repr (by decide +kernel) (pa_cons (pe_call (ok_law_due T) (hr.mono (by decide)) rfl T.g_law_due T.F_law_due.kp (bd_law_due T) .nil pass0 (pa_cons (pv 7) pa_nil)) pa_nil)) (nomark _)) (pss_one (ps_ret pe_bl)) pss_nil)))) pss_nil))))))
        (pss_one (ps_ret pe_bl)))), ?_⟩
    obtain ⟨hS, hlen, k⟩ := h
    refine ⟨_, rfl, a, ns, rfl, hS, hlen, fun b l H0 hb hl nbl s0 bag0 => ?_⟩
    have hS0 := s0.seq hS
    refine ⟨_, rfl, a, _, rfl, .inl hS0, _, _, rfl, _, _, rfl, rfl, ?_⟩
    rw [List.length_map]
    obtain ⟨m, hm, em⟩ : ∃ m : Nat, m ≤ 30 ∧ (10 : Int) + (if ((ns.length : Nat) : Int) < 20 then ((ns.length : Nat) : Int) else 20) = (m : Int) := by
      by_cases c : ((ns.length : Nat) : Int) < 20
      · exact ⟨10 + ns.length, by omega, by rw [if_pos c]; omega⟩
      · exact ⟨30, by omega, by rw [if_neg c]; omega⟩
    refine ⟨(m : Int), (by show [V.int (10 + _)] = _; rw [em]), by omega, by omega, for_range (n := m) (fun i σ H' => ∃ v2 v3 v4 v5 v6 v7, σ = [some (.ref a), some (.ref b), v2, v3, v4, v5, v6, v7] ∧ Bag H' b l (2500 * i)) ⟨none, none, none, none, none, none, rfl, bag0⟩ ?_ ?_⟩
    · rintro i σ H1 hi ⟨v2, v3, v4, v5, v6, v7, rfl, bag1⟩
      refine ⟨_, rfl, b, l, 6, _, rfl, nbl, bag1, by omega, by decide, by decide, fun d H2 d0 d1 bag2 b2 => ⟨d, rfl, by omega, by omega, fun D hD => itr_by (lo := 0) (n := d.toNat) (fun j H' => ∃ cs : List Int, cs.length = j ∧ (∀ c ∈ cs, 0 ≤ c ∧ c < 10 ^ 400) ∧ H' D = some (.lst (cs.map V.int)) ∧ Bag H' b l (2500 * i + 1 + 402 * j)) ⟨[], rfl, fun c m => absurd m (by simp), upd_same, bag2.same (sameNew hD)⟩ ?_ ?_⟩⟩
      · rintro j H' hj ⟨cs, lc, bc, eD, bagx⟩
        obtain ⟨nDb, nDl⟩ := bag2.ne hD
        refine ⟨rfl, ?_⟩
        refine yesR ?_
        refine tT rfl ?_
        refine ⟨_, rfl, b, l, _, rfl, nbl, bagx, by omega, fun z H3 z0 z1 bag3 b3 => ⟨_, b3 D _ nDb nDl eD, small1000 (by rw [List.length_map]; omega), cs ++ [z], by rw [List.length_append, lc]; rfl, fun c m => ?_, by rw [upd_same, List.map_append]; rfl, (bag3.put nDb nDl).mono (by omega)⟩⟩
        rcases List.mem_append.mp m with m | m
        · exact bc c m
        · rw [List.mem_singleton.mp m]
          exact ⟨z0, z1⟩
      rintro H3 ⟨cs, lc, bc, eD, bag3⟩
      have l5 : cs.length ≤ 5 := by omega
      obtain ⟨wl, ws⟩ := words_len bc l5
      refine ⟨D, _, rfl, .inl ⟨SqL.of eD, fun t ht => ?_⟩⟩
      have et : (upd H3 t (.tup (cs.map V.int))) t = some (.tup (cs.map V.int)) := upd_same
      have bag4 := bag3.same (sameNew ht (o := .tup (cs.map V.int)))
      generalize (upd H3 t (.tup (cs.map V.int))) = H4 at et bag4 ⊢
      refine ⟨rfl, ?_⟩
      refine ⟨_, rfl, t, rfl, ⟨_, SqT.of et⟩, fun D2 hD2 => itt_by (xs := cs.map V.int) (fun i H' => Same H4 H' ∧ H' D2 = some (.lst (((cs.take i).map numS).map V.str))) ⟨sameNew hD2, upd_same⟩ (fun i H' _ hp => SqT.of (hp.1 _ _ et)) ?_ ?_⟩
      · rintro j x H' hx ⟨s', eD2⟩
        obtain ⟨n, hn, rfl⟩ := map_at hx
        obtain ⟨n0, n1⟩ := bc n (List.mem_of_getElem? hn)
        refine ⟨rfl, ?_⟩
        refine yesR ?_
        refine tT rfl ?_
        refine ⟨_, rfl, n, rfl, log10 n0 n1, _, eD2, small1000 (by rw [List.length_map, List.length_map, List.length_take]; omega), sameUp s' hD2, ?_⟩
        rw [upd_same, take_map_succ hn, List.map_append]
        rfl
      rintro H5 ⟨s5, eD2⟩
      rw [List.length_map, List.take_length] at eD2
      have l1 : ((" " : Str)).length = 1 := by decide +kernel
      refine ⟨_, D2, cs.map numS, rfl, rfl, .inl (SqL.of eD2), (by rw [l1, List.length_map]; omega), ?_⟩
      refine ⟨_, rfl, (by show 0 ≤ sizeLine; decide), fun e he => ?_⟩
      refine ⟨.tuple (cs.map PyData.int), .tuple [], .tup (SqT.of ((sameNew he) _ _ (s5 _ _ et))) (ints_all cs), .tup (SqT.of upd_same) .nil, tup_shaped cs, by decide +kernel, _, rfl, ?_⟩
      have et6 := (sameNew he (o := .tup [])) _ _ (s5 _ _ et)
      have bag6 := bag4.same (s5.trans (sameNew he (o := .tup [])))
      generalize (upd H5 e (.tup [])) = H6 at et6 bag6 ⊢
      have sh := tup_shows bc (by omega)
      by_cases ce : cs = []
      · have es : (if cs = [] then ("none" : Str) else wordsT cs) = "none" := if_pos ce
        have hwd : dueI "none" = some cs := by rw [ce]; decide +kernel
        have hwl : ("none" : Str).length ≤ 3000 := by decide +kernel
        have hwa : Asc "none" := by unfold Asc; decide +kernel
        refine tT (by rw [ce]; decide +kernel) ?_
        refine ⟨_, rfl, _, rfl, len24 (Nat.le_trans hwl (by decide)), _, _, rfl, rfl, _, rfl, ?_⟩
        by_cases lt : (("none" : Str).length : Int) < 1990
        · refine tT (decide_eq_true lt) ?_
          refine ⟨_, rfl, t, cs, rfl, SqT.of et6, by omega, bc, fun H7 s7 => ⟨_, rfl, rfl, _, rfl, ?_⟩⟩
          refine tF (by rw [es]; simp) ?_
          refine ⟨_, rfl, _, rfl, Nat.le_trans hwl (by decide), fun zs hz p H8 s8 e8 => ?_, fun hn => by rw [hwd] at hn; cases hn⟩
          rw [hwd] at hz
          obtain rfl := Option.some.inj hz
          refine ⟨p, .tuple (cs.map PyData.int), rfl, .tup (SqT.of e8) (ints_all _), sh.1, sh.2.1, sh.2.2.1, sh.2.2.2, ?_⟩
          refine ⟨_, rfl, t, .tuple (cs.map PyData.int), rfl, .tup (SqT.of ((s7.trans s8) _ _ et6)) (ints_all _), sh.1, sh.2.1, sh.2.2.1, sh.2.2.2, rfl, _, rfl, ?_⟩
          refine tF (by simp) ?_
          refine ⟨_, rfl, _, rfl, b, l, _, _, rfl, nbl, bag6.same (s7.trans s8), by omega, by omega, hwa, fun y H9 hy ay bag9 b9 => ?_⟩
          have yl : y.length ≤ 8000 := by omega
          refine ⟨_, rfl, y, rfl, yl, fun zs p q H10 hz s10 e1 e2 => ?_, fun p H10 hz s10 e1 => ?_⟩
          · obtain ⟨zl, zb⟩ := due_bound hz
            have sz := ltup_shows zb (by omega)
            refine ⟨p, .list [.tuple (zs.map PyData.int)], rfl, .lst (SqL.of e1) (.cons (.tup (SqT.of e2) (ints_all _)) .nil), sz.1, sz.2.1, sz.2.2.1, sz.2.2.2, ?_⟩
            refine ⟨_, rfl, y, rfl, yl, ay, fun zs' p' q' H11 hz' s11 e3 e4 => ?_, fun p' H11 hz' s11 e3 => by rw [hz] at hz'; cases hz'⟩
            rw [hz] at hz'
            obtain rfl := Option.some.inj hz'
            refine ⟨p', .list [.tuple (zs.map PyData.int)], rfl, .lst (SqL.of e3) (.cons (.tup (SqT.of e4) (ints_all _)) .nil), sz.1, sz.2.1, sz.2.2.1, sz.2.2.2, rfl, _, rfl, ?_⟩
            refine tF (by simp) ?_
            exact ⟨_, _, _, _, _, _, rfl, (bag9.same (s10.trans s11)).mono (by omega)⟩
          · refine ⟨p, .list [], rfl, .lst (SqL.of e1) .nil, rfl, rfl, by decide +kernel, by decide +kernel, ?_⟩
            refine ⟨_, rfl, y, rfl, yl, ay, fun zs' p' q' H11 hz' s11 e3 e4 => (by rw [hz] at hz'; cases hz'), fun p' H11 hz' s11 e3 => ?_⟩
            refine ⟨p', .list [], rfl, .lst (SqL.of e3) .nil, rfl, rfl, by decide +kernel, by decide +kernel, rfl, _, rfl, ?_⟩
            refine tF (by simp) ?_
            exact ⟨_, _, _, _, _, _, rfl, (bag9.same (s10.trans s11)).mono (by omega)⟩
        · refine tF (decide_eq_false lt) ?_
          exact ⟨_, _, _, _, _, _, rfl, bag6.mono (by omega)⟩
      · have es : (if cs = [] then ("none" : Str) else wordsT cs) = (Txt.join " " (cs.map numS)) := if_neg ce
        have hwd : dueI (Txt.join " " (cs.map numS)) = some cs := (due_words ce bc).1
        have hwl : (Txt.join " " (cs.map numS)).length ≤ 3000 := wl
        have hwa : Asc (Txt.join " " (cs.map numS)) := asc_words fun n m => (bc n m).1
        have ne : PyData.eqv (.tuple (cs.map PyData.int)) (.tuple []) = false := by
          cases cs with
          | nil => exact absurd rfl ce
          | cons c r => rfl
        refine tF ne ?_
        refine ⟨_, rfl, _, rfl, len24 (Nat.le_trans hwl (by decide)), _, _, rfl, rfl, _, rfl, ?_⟩
        by_cases lt : (((Txt.join " " (cs.map numS)) : Str).length : Int) < 1990
        · refine tT (decide_eq_true lt) ?_
          refine ⟨_, rfl, t, cs, rfl, SqT.of et6, by omega, bc, fun H7 s7 => ⟨_, rfl, rfl, _, rfl, ?_⟩⟩
          refine tF (by rw [es]; simp) ?_
          refine ⟨_, rfl, _, rfl, Nat.le_trans hwl (by decide), fun zs hz p H8 s8 e8 => ?_, fun hn => by rw [hwd] at hn; cases hn⟩
          rw [hwd] at hz
          obtain rfl := Option.some.inj hz
          refine ⟨p, .tuple (cs.map PyData.int), rfl, .tup (SqT.of e8) (ints_all _), sh.1, sh.2.1, sh.2.2.1, sh.2.2.2, ?_⟩
          refine ⟨_, rfl, t, .tuple (cs.map PyData.int), rfl, .tup (SqT.of ((s7.trans s8) _ _ et6)) (ints_all _), sh.1, sh.2.1, sh.2.2.1, sh.2.2.2, rfl, _, rfl, ?_⟩
          refine tF (by simp) ?_
          refine ⟨_, rfl, _, rfl, b, l, _, _, rfl, nbl, bag6.same (s7.trans s8), by omega, by omega, hwa, fun y H9 hy ay bag9 b9 => ?_⟩
          have yl : y.length ≤ 8000 := by omega
          refine ⟨_, rfl, y, rfl, yl, fun zs p q H10 hz s10 e1 e2 => ?_, fun p H10 hz s10 e1 => ?_⟩
          · obtain ⟨zl, zb⟩ := due_bound hz
            have sz := ltup_shows zb (by omega)
            refine ⟨p, .list [.tuple (zs.map PyData.int)], rfl, .lst (SqL.of e1) (.cons (.tup (SqT.of e2) (ints_all _)) .nil), sz.1, sz.2.1, sz.2.2.1, sz.2.2.2, ?_⟩
            refine ⟨_, rfl, y, rfl, yl, ay, fun zs' p' q' H11 hz' s11 e3 e4 => ?_, fun p' H11 hz' s11 e3 => by rw [hz] at hz'; cases hz'⟩
            rw [hz] at hz'
            obtain rfl := Option.some.inj hz'
            refine ⟨p', .list [.tuple (zs.map PyData.int)], rfl, .lst (SqL.of e3) (.cons (.tup (SqT.of e4) (ints_all _)) .nil), sz.1, sz.2.1, sz.2.2.1, sz.2.2.2, rfl, _, rfl, ?_⟩
            refine tF (by simp) ?_
            exact ⟨_, _, _, _, _, _, rfl, (bag9.same (s10.trans s11)).mono (by omega)⟩
          · refine ⟨p, .list [], rfl, .lst (SqL.of e1) .nil, rfl, rfl, by decide +kernel, by decide +kernel, ?_⟩
            refine ⟨_, rfl, y, rfl, yl, ay, fun zs' p' q' H11 hz' s11 e3 e4 => (by rw [hz] at hz'; cases hz'), fun p' H11 hz' s11 e3 => ?_⟩
            refine ⟨p', .list [], rfl, .lst (SqL.of e3) .nil, rfl, rfl, by decide +kernel, by decide +kernel, rfl, _, rfl, ?_⟩
            refine tF (by simp) ?_
            exact ⟨_, _, _, _, _, _, rfl, (bag9.same (s10.trans s11)).mono (by omega)⟩
        · refine tF (decide_eq_false lt) ?_
          exact ⟨_, _, _, _, _, _, rfl, bag6.mono (by omega)⟩
    rintro σ H1 ⟨v2, v3, v4, v5, v6, v7, rfl, bag1⟩
    exact k _
end
/-! ### the end -/
theorem all_mk {l : PySem.W.OpenLaw} {w : World} {K : PySem.W.Frag} {h : Heap} {mg : Str → Option Value} {fa : Addr} (X : K.In h) (G : h.Ns mainGlobals mg) (hfa : mg "law" = some (.ref fa))
    {f0 : Addr} {od0 an0 : Option Addr} {sl0 : Array (Option Value)} {oc0 kV0 dc0 pm0 cd0 ct0 : Value}
    {f1 : Addr} {od1 an1 : Option Addr} {sl1 : Array (Option Value)} {oc1 kV1 dc1 pm1 cd1 ct1 : Value}
    {f2 : Addr} {od2 an2 : Option Addr} {sl2 : Array (Option Value)} {oc2 kV2 dc2 pm2 cd2 ct2 : Value}
    {f3 : Addr} {od3 an3 : Option Addr} {sl3 : Array (Option Value)} {oc3 kV3 dc3 pm3 cd3 ct3 : Value}
    {f4 : Addr} {od4 an4 : Option Addr} {sl4 : Array (Option Value)} {oc4 kV4 dc4 pm4 cd4 ct4 : Value}
    {f5 : Addr} {od5 an5 : Option Addr} {sl5 : Array (Option Value)} {oc5 kV5 dc5 pm5 cd5 ct5 : Value}
    {f6 : Addr} {od6 an6 : Option Addr} {sl6 : Array (Option Value)} {oc6 kV6 dc6 pm6 cd6 ct6 : Value}
    {f7 : Addr} {od7 an7 : Option Addr} {sl7 : Array (Option Value)} {oc7 kV7 dc7 pm7 cd7 ct7 : Value}
    {f8 : Addr} {od8 an8 : Option Addr} {sl8 : Array (Option Value)} {oc8 kV8 dc8 pm8 cd8 ct8 : Value}
    {f9 : Addr} {od9 an9 : Option Addr} {sl9 : Array (Option Value)} {oc9 kV9 dc9 pm9 cd9 ct9 : Value}
    {f10 : Addr} {od10 an10 : Option Addr} {sl10 : Array (Option Value)} {oc10 kV10 dc10 pm10 cd10 ct10 : Value}
    {f11 : Addr} {od11 an11 : Option Addr} {sl11 : Array (Option Value)} {oc11 kV11 dc11 pm11 cd11 ct11 : Value}
    (a0 : PySem.W.nsIn K mainGlobals "read_words" = some (some (.ref f0))) (l0 : K.lookup f0 = some ⟨oc0, od0, .func (PySem.W.fnOf "read_words" "read_words" (defArgs s_read_words) (defBody s_read_words) (defScope s_read_words) .none kV0 dc0 pm0 an0 cd0 ct0), sl0⟩) (c0 : PySem.W.codeIn K cd0 "read_words" = true) (k0 : PySem.W.keepIn K (.ref f0) = true)
    (a1 : PySem.W.nsIn K mainGlobals "_read_items" = some (some (.ref f1))) (l1 : K.lookup f1 = some ⟨oc1, od1, .func (PySem.W.fnOf "_read_items" "_read_items" (defArgs s_read_items) (defBody s_read_items) (defScope s_read_items) .none kV1 dc1 pm1 an1 cd1 ct1), sl1⟩) (c1 : PySem.W.codeIn K cd1 "_read_items" = true) (k1 : PySem.W.keepIn K (.ref f1) = true)
    (a2 : PySem.W.nsIn K mainGlobals "_is_number" = some (some (.ref f2))) (l2 : K.lookup f2 = some ⟨oc2, od2, .func (PySem.W.fnOf "_is_number" "_is_number" (defArgs s_is_number) (defBody s_is_number) (defScope s_is_number) .none kV2 dc2 pm2 an2 cd2 ct2), sl2⟩) (c2 : PySem.W.codeIn K cd2 "_is_number" = true) (k2 : PySem.W.keepIn K (.ref f2) = true)
    (a3 : PySem.W.nsIn K mainGlobals "show_words" = some (some (.ref f3))) (l3 : K.lookup f3 = some ⟨oc3, od3, .func (PySem.W.fnOf "show_words" "show_words" (defArgs s_show_words) (defBody s_show_words) (defScope s_show_words) .none kV3 dc3 pm3 an3 cd3 ct3), sl3⟩) (c3 : PySem.W.codeIn K cd3 "show_words" = true) (k3 : PySem.W.keepIn K (.ref f3) = true)
    (a4 : PySem.W.nsIn K mainGlobals "_show_items" = some (some (.ref f4))) (l4 : K.lookup f4 = some ⟨oc4, od4, .func (PySem.W.fnOf "_show_items" "_show_items" (defArgs s_show_items) (defBody s_show_items) (defScope s_show_items) .none kV4 dc4 pm4 an4 cd4 ct4), sl4⟩) (c4 : PySem.W.codeIn K cd4 "_show_items" = true) (k4 : PySem.W.keepIn K (.ref f4) = true)
    (a5 : PySem.W.nsIn K mainGlobals "_law_bag" = some (some (.ref f5))) (l5 : K.lookup f5 = some ⟨oc5, od5, .func (PySem.W.fnOf "_law_bag" "_law_bag" (defArgs s_law_bag) (defBody s_law_bag) (defScope s_law_bag) .none kV5 dc5 pm5 an5 cd5 ct5), sl5⟩) (c5 : PySem.W.codeIn K cd5 "_law_bag" = true) (k5 : PySem.W.keepIn K (.ref f5) = true)
    (a6 : PySem.W.nsIn K mainGlobals "_law_draw" = some (some (.ref f6))) (l6 : K.lookup f6 = some ⟨oc6, od6, .func (PySem.W.fnOf "_law_draw" "_law_draw" (defArgs s_law_draw) (defBody s_law_draw) (defScope s_law_draw) .none kV6 dc6 pm6 an6 cd6 ct6), sl6⟩) (c6 : PySem.W.codeIn K cd6 "_law_draw" = true) (k6 : PySem.W.keepIn K (.ref f6) = true)
    (a7 : PySem.W.nsIn K mainGlobals "_law_integer" = some (some (.ref f7))) (l7 : K.lookup f7 = some ⟨oc7, od7, .func (PySem.W.fnOf "_law_integer" "_law_integer" (defArgs s_law_integer) (defBody s_law_integer) (defScope s_law_integer) .none kV7 dc7 pm7 an7 cd7 ct7), sl7⟩) (c7 : PySem.W.codeIn K cd7 "_law_integer" = true) (k7 : PySem.W.keepIn K (.ref f7) = true)
    (a8 : PySem.W.nsIn K mainGlobals "_law_due" = some (some (.ref f8))) (l8 : K.lookup f8 = some ⟨oc8, od8, .func (PySem.W.fnOf "_law_due" "_law_due" (defArgs s_law_due) (defBody s_law_due) (defScope s_law_due) .none kV8 dc8 pm8 an8 cd8 ct8), sl8⟩) (c8 : PySem.W.codeIn K cd8 "_law_due" = true) (k8 : PySem.W.keepIn K (.ref f8) = true)
    (a9 : PySem.W.nsIn K mainGlobals "_law_changed" = some (some (.ref f9))) (l9 : K.lookup f9 = some ⟨oc9, od9, .func (PySem.W.fnOf "_law_changed" "_law_changed" (defArgs s_law_changed) (defBody s_law_changed) (defScope s_law_changed) .none kV9 dc9 pm9 an9 cd9 ct9), sl9⟩) (c9 : PySem.W.codeIn K cd9 "_law_changed" = true) (k9 : PySem.W.keepIn K (.ref f9) = true)
    (a10 : PySem.W.nsIn K mainGlobals "_law_read" = some (some (.ref f10))) (l10 : K.lookup f10 = some ⟨oc10, od10, .func (PySem.W.fnOf "_law_read" "_law_read" (defArgs s_law_read) (defBody s_law_read) (defScope s_law_read) .none kV10 dc10 pm10 an10 cd10 ct10), sl10⟩) (c10 : PySem.W.codeIn K cd10 "_law_read" = true) (k10 : PySem.W.keepIn K (.ref f10) = true)
    (a11 : PySem.W.nsIn K mainGlobals "law" = some (some (.ref f11))) (l11 : K.lookup f11 = some ⟨oc11, od11, .func (PySem.W.fnOf "law" "law" (defArgs s_law) (defBody s_law) (defScope s_law) .none kV11 dc11 pm11 an11 cd11 ct11), sl11⟩) (c11 : PySem.W.codeIn K cd11 "law" = true) (k11 : PySem.W.keepIn K (.ref f11) = true)
    (z_abs : PySem.W.nsIn K mainGlobals "abs" = some none)
    (z_any : PySem.W.nsIn K mainGlobals "any" = some none)
    (z_int : PySem.W.nsIn K mainGlobals "int" = some none)
    (z_isinstance : PySem.W.nsIn K mainGlobals "isinstance" = some none)
    (z_len : PySem.W.nsIn K mainGlobals "len" = some none)
    (z_min : PySem.W.nsIn K mainGlobals "min" = some none)
    (z_range : PySem.W.nsIn K mainGlobals "range" = some none)
    (z_repr : PySem.W.nsIn K mainGlobals "repr" = some none)
    (z_str : PySem.W.nsIn K mainGlobals "str" = some none)
    (z_tuple : PySem.W.nsIn K mainGlobals "tuple" = some none)
    (z_type : PySem.W.nsIn K mainGlobals "type" = some none)
    {ti_MOST_DIGITS : Tok} (ai_MOST_DIGITS : PySem.W.nsIn K mainGlobals "MOST_DIGITS" = some (some (.int 400 ti_MOST_DIGITS)))
    {cB : Addr} (aB : PySem.W.nsIn K mainGlobals "BranchError" = some (some (.ref cB))) (kB : PySem.W.keepIn K (.ref cB) = true) (qB : PySem.W.excIn K cB [.type "ValueError", .type "Exception", .type "BaseException", .type "object"] "ValueError.__new__" = true)
    (e1B : PySem.W.findIn K (.ref cB) "__getattribute__" = some (some (.builtin "BaseException.__getattribute__"))) (e2B : PySem.W.findIn K (.ref cB) "__getattr__" = some none) (e3B : PySem.W.subIn K (.ref cB) (.type "BaseException") = some true) (e4B : PySem.W.hasDictIn K cB = true) (e5B : PySem.W.findIn K (.ref cB) "__class__" = some (some (.builtin "object.__class__"))) (e6B : PySem.W.mroIn K cB (.type "object") = some true)
    (sg : PySem.W.specialIn K (.builtin "object.__class__") "__get__" = some (some (.builtin "getset_descriptor.__get__"))) (st : PySem.W.takesIn K (.builtin "object.__class__") = some true)
    {ce0 ie0 Ne0 : Addr} {ne0 qe0 : Str} {be0 : List Value} {se0 : List Str} {ue0 : List Value} {ve0 : Bool} {we0 : Option Bool} {xe0 : Option Addr} {ma0 mb0 mc0 md0 me0 : Option Value}
    {oi0 ai0 : Option Addr} {li0 : Array (Option Value)} {ci0 ki0 di0 pi0 gi0 ti0 : Value}
    (E1_0 : PySem.W.nsIn K mainGlobals "InvalidWords" = some (some (.ref ce0))) (E2_0 : K.lookup ce0 = some (excClassObj ne0 qe0 ce0 Ne0 be0 [.ref cB, .type "ValueError", .type "Exception", .type "BaseException", .type "object"] true se0 ue0 ve0 we0 xe0 ma0 mb0 mc0 md0 me0 "ValueError.__new__"))
    (E3_0 : PySem.W.findIn K (.ref ce0) "__setattr__" = some (some (.builtin "object.__setattr__"))) (E4_0 : PySem.W.typeIn K (.ref ce0) = some (.type "type")) (E5_0 : PySem.W.keepIn K (.ref ce0) = true) (E6_0 : PySem.W.findIn K (.ref ce0) "value" = some none)
    (E7_0 : PySem.W.findIn K (.ref ce0) "__init__" = some (some (.ref ie0))) (E8_0 : PySem.W.typeIn K (.ref ie0) = some (.type "function")) (E9_0 : K.lookup ie0 = some ⟨ci0, oi0, .func (PySem.W.fnOf "__init__" "InvalidWords.__init__" (defArgs s_InvalidWords) (defBody s_InvalidWords) (defScope s_InvalidWords) .none ki0 di0 pi0 ai0 gi0 ti0), li0⟩) (Ea_0 : PySem.W.codeIn K gi0 "InvalidWords.__init__" = true) (Eb_0 : PySem.W.keepIn K (.ref ie0) = true)
    (e1_0 : PySem.W.findIn K (.ref ce0) "__getattribute__" = some (some (.builtin "BaseException.__getattribute__"))) (e2_0 : PySem.W.findIn K (.ref ce0) "__getattr__" = some none) (e3_0 : PySem.W.subIn K (.ref ce0) (.type "BaseException") = some true) (e4_0 : PySem.W.hasDictIn K ce0 = true) (e5_0 : PySem.W.findIn K (.ref ce0) "__class__" = some (some (.builtin "object.__class__"))) (e6_0 : PySem.W.mroIn K ce0 (.type "object") = some true)
    {ce1 ie1 Ne1 : Addr} {ne1 qe1 : Str} {be1 : List Value} {se1 : List Str} {ue1 : List Value} {ve1 : Bool} {we1 : Option Bool} {xe1 : Option Addr} {ma1 mb1 mc1 md1 me1 : Option Value}
    {oi1 ai1 : Option Addr} {li1 : Array (Option Value)} {ci1 ki1 di1 pi1 gi1 ti1 : Value}
    (E1_1 : PySem.W.nsIn K mainGlobals "Unreadable" = some (some (.ref ce1))) (E2_1 : K.lookup ce1 = some (excClassObj ne1 qe1 ce1 Ne1 be1 [.ref cB, .type "ValueError", .type "Exception", .type "BaseException", .type "object"] true se1 ue1 ve1 we1 xe1 ma1 mb1 mc1 md1 me1 "ValueError.__new__"))
    (E3_1 : PySem.W.findIn K (.ref ce1) "__setattr__" = some (some (.builtin "object.__setattr__"))) (E4_1 : PySem.W.typeIn K (.ref ce1) = some (.type "type")) (E5_1 : PySem.W.keepIn K (.ref ce1) = true) (E6_1 : PySem.W.findIn K (.ref ce1) "value" = some none)
    (E7_1 : PySem.W.findIn K (.ref ce1) "__init__" = some (some (.ref ie1))) (E8_1 : PySem.W.typeIn K (.ref ie1) = some (.type "function")) (E9_1 : K.lookup ie1 = some ⟨ci1, oi1, .func (PySem.W.fnOf "__init__" "Unreadable.__init__" (defArgs s_Unreadable) (defBody s_Unreadable) (defScope s_Unreadable) .none ki1 di1 pi1 ai1 gi1 ti1), li1⟩) (Ea_1 : PySem.W.codeIn K gi1 "Unreadable.__init__" = true) (Eb_1 : PySem.W.keepIn K (.ref ie1) = true)
    (e1_1 : PySem.W.findIn K (.ref ce1) "__getattribute__" = some (some (.builtin "BaseException.__getattribute__"))) (e2_1 : PySem.W.findIn K (.ref ce1) "__getattr__" = some none) (e3_1 : PySem.W.subIn K (.ref ce1) (.type "BaseException") = some true) (e4_1 : PySem.W.hasDictIn K ce1 = true) (e5_1 : PySem.W.findIn K (.ref ce1) "__class__" = some (some (.builtin "object.__class__"))) (e6_1 : PySem.W.mroIn K ce1 (.type "object") = some true)
    (xm_0 : PySem.W.exmOne K (.ref ce0) (.ref cB) = some true)
    (xm_1 : PySem.W.exmOne K (.ref ce1) (.ref cB) = some true)
    (xx_1_1 : PySem.W.exmOne K (.ref ce1) (.ref ce1) = some true)
    (tab : kitTab K [ce0, ce1] cB = true)
    : ∃ fd : FuncData, (∀ (s : Shared) (v : Value), BindsTo s fd ⟨[v], []⟩ [("script", v)]) ∧ ∀ base : Heap, K.In base → base.Ns mainGlobals mg → FnG l.prog w K mg base CX0 5 fa fd ["script"] (sp_law K) := by
  have e := hfa.symm.trans (PySem.W.mg_of X G a11)
  cases e
  have T : Txt w K mg ⟨ce0, ce1, cB, ie0, (PySem.W.fnOf "__init__" "InvalidWords.__init__" (defArgs s_InvalidWords) (defBody s_InvalidWords) (defScope s_InvalidWords) .none ki0 di0 pi0 ai0 gi0 ti0), ie1, (PySem.W.fnOf "__init__" "Unreadable.__init__" (defArgs s_Unreadable) (defBody s_Unreadable) (defScope s_Unreadable) .none ki1 di1 pi1 ai1 gi1 ti1), f0, (PySem.W.fnOf "read_words" "read_words" (defArgs s_read_words) (defBody s_read_words) (defScope s_read_words) .none kV0 dc0 pm0 an0 cd0 ct0), f1, (PySem.W.fnOf "_read_items" "_read_items" (defArgs s_read_items) (defBody s_read_items) (defScope s_read_items) .none kV1 dc1 pm1 an1 cd1 ct1), f2, (PySem.W.fnOf "_is_number" "_is_number" (defArgs s_is_number) (defBody s_is_number) (defScope s_is_number) .none kV2 dc2 pm2 an2 cd2 ct2), f3, (PySem.W.fnOf "show_words" "show_words" (defArgs s_show_words) (defBody s_show_words) (defScope s_show_words) .none kV3 dc3 pm3 an3 cd3 ct3), f4, (PySem.W.fnOf "_show_items" "_show_items" (defArgs s_show_items) (defBody s_show_items) (defScope s_show_items) .none kV4 dc4 pm4 an4 cd4 ct4), f5, (PySem.W.fnOf "_law_bag" "_law_bag" (defArgs s_law_bag) (defBody s_law_bag) (defScope s_law_bag) .none kV5 dc5 pm5 an5 cd5 ct5), f6, (PySem.W.fnOf "_law_draw" "_law_draw" (defArgs s_law_draw) (defBody s_law_draw) (defScope s_law_draw) .none kV6 dc6 pm6 an6 cd6 ct6), f7, (PySem.W.fnOf "_law_integer" "_law_integer" (defArgs s_law_integer) (defBody s_law_integer) (defScope s_law_integer) .none kV7 dc7 pm7 an7 cd7 ct7), f8, (PySem.W.fnOf "_law_due" "_law_due" (defArgs s_law_due) (defBody s_law_due) (defScope s_law_due) .none kV8 dc8 pm8 an8 cd8 ct8), f9, (PySem.W.fnOf "_law_changed" "_law_changed" (defArgs s_law_changed) (defBody s_law_changed) (defScope s_law_changed) .none kV9 dc9 pm9 an9 cd9 ct9), f10, (PySem.W.fnOf "_law_read" "_law_read" (defArgs s_law_read) (defBody s_law_read) (defScope s_law_read) .none kV10 dc10 pm10 an10 cd10 ct10), fa, (PySem.W.fnOf "law" "law" (defArgs s_law) (defBody s_law) (defScope s_law) .none kV11 dc11 pm11 an11 cd11 ct11)⟩ := {
    g_read_words := PySem.W.mg_of X G a0, F_read_words := fun_mk (st := s_read_words) l0 c0 k0,
    g_read_items := PySem.W.mg_of X G a1, F_read_items := fun_mk (st := s_read_items) l1 c1 k1,
    g_is_number := PySem.W.mg_of X G a2, F_is_number := fun_mk (st := s_is_number) l2 c2 k2,
    g_show_words := PySem.W.mg_of X G a3, F_show_words := fun_mk (st := s_show_words) l3 c3 k3,
    g_show_items := PySem.W.mg_of X G a4, F_show_items := fun_mk (st := s_show_items) l4 c4 k4,
    g_law_bag := PySem.W.mg_of X G a5, F_law_bag := fun_mk (st := s_law_bag) l5 c5 k5,
    g_law_draw := PySem.W.mg_of X G a6, F_law_draw := fun_mk (st := s_law_draw) l6 c6 k6,
    g_law_integer := PySem.W.mg_of X G a7, F_law_integer := fun_mk (st := s_law_integer) l7 c7 k7,
    g_law_due := PySem.W.mg_of X G a8, F_law_due := fun_mk (st := s_law_due) l8 c8 k8,
    g_law_changed := PySem.W.mg_of X G a9, F_law_changed := fun_mk (st := s_law_changed) l9 c9 k9,
    g_law_read := PySem.W.mg_of X G a10, F_law_read := fun_mk (st := s_law_read) l10 c10 k10,
    g_law := PySem.W.mg_of X G a11, F_law := fun_mk (st := s_law) l11 c11 k11,
    gc_InvalidWords := PySem.W.mg_of X G E1_0, er_InvalidWords := ⟨⟨⟨_, _, _, _, _, _, _, _, _, _, _, _, _, _, _, E2_0, rfl⟩, E3_0, e3_0, E4_0, E5_0⟩, ⟨e1_0, e2_0, e3_0, e4_0, e5_0, sg, st, e6_0⟩, E6_0, E7_0, E8_0⟩, FI_InvalidWords := fun_mk (st := s_InvalidWords) E9_0 Ea_0 Eb_0,
    gc_Unreadable := PySem.W.mg_of X G E1_1, er_Unreadable := ⟨⟨⟨_, _, _, _, _, _, _, _, _, _, _, _, _, _, _, E2_1, rfl⟩, E3_1, e3_1, E4_1, E5_1⟩, ⟨e1_1, e2_1, e3_1, e4_1, e5_1, sg, st, e6_1⟩, E6_1, E7_1, E8_1⟩, FI_Unreadable := fun_mk (st := s_Unreadable) E9_1 Ea_1 Eb_1,
    xm_InvalidWords := xm_0,
    xm_Unreadable := xm_1,
    xm_Unreadable_Unreadable := xx_1_1,
    gi_MOST_DIGITS := ⟨_, PySem.W.mg_of X G ai_MOST_DIGITS⟩,
    gc_BranchError := PySem.W.mg_of X G aB, xb := qB, kb := kB, eb := ⟨e1B, e2B, e3B, e4B, e5B, sg, st, e6B⟩, tab := tab,
    b_abs := PySem.W.mg_none_of X G z_abs, b_any := PySem.W.mg_none_of X G z_any, b_int := PySem.W.mg_none_of X G z_int, b_isinstance := PySem.W.mg_none_of X G z_isinstance, b_len := PySem.W.mg_none_of X G z_len, b_min := PySem.W.mg_none_of X G z_min, b_range := PySem.W.mg_none_of X G z_range, b_repr := PySem.W.mg_none_of X G z_repr, b_str := PySem.W.mg_none_of X G z_str, b_tuple := PySem.W.mg_none_of X G z_tuple, b_type := PySem.W.mg_none_of X G z_type }
  exact ⟨(PySem.W.fnOf "law" "law" (defArgs s_law) (defBody s_law) (defScope s_law) .none kV11 dc11 pm11 an11 cd11 ct11), fun s v => .of_eq rfl, fun base _ _ => ok_law T⟩
theorem walk {l : PySem.W.OpenLaw} {q : Program} {loose : List Str} {XP : (Str → Option Value) → Heap → Prop} {YP : World → Heap → Prop} {d : DefRec} {K : Params → PySem.W.Frag} (hn : l.most = some 63) (hdf : d.params.defaults = [])
    (hY : ∀ (w : World) (h : Heap), YP w h → (K w.params).In h) (F : ∀ (w : World) (mg : Str → Option Value) (fa : Addr) (h : Heap), (K w.params).In h → h.Ns mainGlobals mg → mg d.name = some (.ref fa) →
      ∃ fd : FuncData, (∀ (s : Shared) (u : Value), BindsTo s fd ⟨[u], []⟩ [("script", u)]) ∧ ∀ base : Heap, (K w.params).In base → base.Ns mainGlobals mg → FnG l.prog w (K w.params) mg base CX0 5 fa fd ["script"] (sp_law (K w.params))) :
    PySem.W.WalkO q loose XP YP l.row.toRowW d [] (fun f vs => PySem.call f vs) :=
  walk_ofG (n := 63) (k := 5) (x := "script") (sp := sp_law) hn (by decide) hdf ⟨rfl, by decide, by decide⟩ hY F (fun K H a ns hl _ hS => ⟨a, ns, rfl, hS, hl, fun _ => rfl⟩)
end BR
open PySem PySem.W PyProof.Rows
set_option maxRecDepth 100000 in
set_option maxHeartbeats 0 in
theorem PySem.Challenge.cw_branchorders_k54_words_in_texts_holds : PySem.Challenge.rw_branchorders_k54_words_in_texts.Holds := by
  w_on; o_law; k_head; (case hw => w_witness2)
  k_fill
  refine BR.walk (l := PySem.Challenge.rw_branchorders_k54_words_in_texts) rfl rfl (fun w h Y => PySem.W.kIn_of Y) ?F
  case F =>
    intro w mg fa h KX G hmg
    refine' BR.all_mk KX G hmg ?a0 ?l0 ?c0 ?k0 ?a1 ?l1 ?c1 ?k1 ?a2 ?l2 ?c2 ?k2 ?a3 ?l3 ?c3 ?k3 ?a4 ?l4 ?c4 ?k4 ?a5 ?l5 ?c5 ?k5 ?a6 ?l6 ?c6 ?k6 ?a7 ?l7 ?c7 ?k7 ?a8 ?l8 ?c8 ?k8 ?a9 ?l9 ?c9 ?k9 ?a10 ?l10 ?c10 ?k10 ?a11 ?l11 ?c11 ?k11 ?z_abs ?z_any ?z_int ?z_isinstance ?z_len ?z_min ?z_range ?z_repr ?z_str ?z_tuple ?z_type ?ai_MOST_DIGITS ?aB ?kB ?qB ?e1B ?e2B ?e3B ?e4B ?e5B ?e6B ?sg ?st ?E1_0 ?E2_0 ?E3_0 ?E4_0 ?E5_0 ?E6_0 ?E7_0 ?E8_0 ?E9_0 ?Ea_0 ?Eb_0 ?e1_0 ?e2_0 ?e3_0 ?e4_0 ?e5_0 ?e6_0 ?E1_1 ?E2_1 ?E3_1 ?E4_1 ?E5_1 ?E6_1 ?E7_1 ?E8_1 ?E9_1 ?Ea_1 ?Eb_1 ?e1_1 ?e2_1 ?e3_1 ?e4_1 ?e5_1 ?e6_1 ?xm_0 ?xm_1 ?xx_1_1 ?tab
    (case a0 => k_is)
    (case l0 => k_is)
    (case c0 => k_is)
    (case k0 => k_is)
    (case a1 => k_is)
    (case l1 => k_is)
    (case c1 => k_is)
    (case k1 => k_is)
    (case a2 => k_is)
    (case l2 => k_is)
    (case c2 => k_is)
    (case k2 => k_is)
    (case a3 => k_is)
    (case l3 => k_is)
    (case c3 => k_is)
    (case k3 => k_is)
    (case a4 => k_is)
    (case l4 => k_is)
    (case c4 => k_is)
    (case k4 => k_is)
    (case a5 => k_is)
    (case l5 => k_is)
    (case c5 => k_is)
    (case k5 => k_is)
    (case a6 => k_is)
    (case l6 => k_is)
    (case c6 => k_is)
    (case k6 => k_is)
    (case a7 => k_is)
    (case l7 => k_is)
    (case c7 => k_is)
    (case k7 => k_is)
    (case a8 => k_is)
    (case l8 => k_is)
    (case c8 => k_is)
    (case k8 => k_is)
    (case a9 => k_is)
    (case l9 => k_is)
    (case c9 => k_is)
    (case k9 => k_is)
    (case a10 => k_is)
    (case l10 => k_is)
    (case c10 => k_is)
    (case k10 => k_is)
    (case a11 => k_is)
    (case l11 => k_is)
    (case c11 => k_is)
    (case k11 => k_is)
    (case z_abs => k_is)
    (case z_any => k_is)
    (case z_int => k_is)
    (case z_isinstance => k_is)
    (case z_len => k_is)
    (case z_min => k_is)
    (case z_range => k_is)
    (case z_repr => k_is)
    (case z_str => k_is)
    (case z_tuple => k_is)
    (case z_type => k_is)
    (case ai_MOST_DIGITS => k_is)
    (case aB => k_is)
    (case kB => k_is)
    (case qB => k_exc)
    (case e1B => k_is)
    (case e2B => k_is)
    (case e3B => k_is)
    (case e4B => k_is)
    (case e5B => k_is)
    (case e6B => k_is)
    (case sg => k_is)
    (case st => k_is)
    (case E1_0 => k_is)
    (case E2_0 => k_is)
    (case E3_0 => k_is)
    (case E4_0 => k_is)
    (case E5_0 => k_is)
    (case E6_0 => k_is)
    (case E7_0 => k_is)
    (case E8_0 => k_is)
    (case E9_0 => k_is)
    (case Ea_0 => k_is)
    (case Eb_0 => k_is)
    (case e1_0 => k_is)
    (case e2_0 => k_is)
    (case e3_0 => k_is)
    (case e4_0 => k_is)
    (case e5_0 => k_is)
    (case e6_0 => k_is)
    (case E1_1 => k_is)
    (case E2_1 => k_is)
    (case E3_1 => k_is)
    (case E4_1 => k_is)
    (case E5_1 => k_is)
    (case E6_1 => k_is)
    (case E7_1 => k_is)
    (case E8_1 => k_is)
    (case E9_1 => k_is)
    (case Ea_1 => k_is)
    (case Eb_1 => k_is)
    (case e1_1 => k_is)
    (case e2_1 => k_is)
    (case e3_1 => k_is)
    (case e4_1 => k_is)
    (case e5_1 => k_is)
    (case e6_1 => k_is)
    (case xm_0 => first | rfl | kernel_rfl | k_is)
    (case xm_1 => first | rfl | kernel_rfl | k_is)
    (case xx_1_1 => first | rfl | kernel_rfl | k_is)
    (case tab => first | kernel_rfl | decide +kernel)
#print axioms PySem.Challenge.cw_branchorders_k54_words_in_texts_holds
