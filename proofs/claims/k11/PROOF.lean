import PyProof.Rows.All
import Wide.All
import OpenK.AllK
import Wide.FinOn
import PyProof.ReprRoads
import HandS.ForMost
import HandS.Wide
import HandS.Walk
import KE.GoesEnum
import KE.GoesMore
import PyProof.ReprLen
import PyProof.Rows.RegStrFacts
import HandS.IsInst
import HandS.ExcInit
import HandS.ExcValue
import KE.KExcIs
import KE.KIsAll
import HandS.ExcField
import HandS.ExcIs
import HandS.Evl
import KE.DataFind
import HandS.WordsExc
import HandS.Text
import HandS.More
import HandS.Iter
import HandS.HeadHook3
import HandS.Style
import HandS.Small
import HandS.Strs
import HandS.SetFor
import HandS.Star
import HandS.Conv
import HandS.TupLe
import HandS.TupSets
import HandS.Zip
import KE.DataMinMax
import HandS.Gcd
import HandS.Deep
import HandS.TupAny
import KE.KMathGC
import HandS.SortRule
import HandS.WideBits
import PySem.Challenge.RW_branchorders_k11_errors_of_rankings
set_option Elab.async false
set_option linter.all false
set_option maxRecDepth 100000
set_option maxHeartbeats 2000000

namespace BR
open PySem PySem.Spec PyProof.Rows L2
/-! ### own rules: great powers, calls by keywords alone, repr of data where no repr runs, enumerate of a tuple -/
section
variable {X : Cx}
def CPowB (i j : Int) : Prop := 0 ≤ j ∧ (Builtin.Int.intBits i : Int) * j ≤ 2 ^ 27
theorem op_powB : OpR X (binaryOp .Pow) (rI CPowB fun i j => .int (i ^ j.toNat)) :=
  opI fun _ _ _ _ _ _ _ c h => pow_int c.1 c.2 h
theorem powB_of {i j : Int} {a : Nat} (ha : i.natAbs < 2 ^ a) (h0 : 0 < a) (hj : 0 ≤ j) (hz : ((a : Int) + 1) * j ≤ 2 ^ 27) : CPowB i j := by
  refine ⟨hj, Int.le_trans (Int.mul_le_mul_of_nonneg_right ?_ hj) hz⟩
  have e := PySem.Flt.log2_lt_of h0 ha
  have b : Builtin.Int.intBits i ≤ i.natAbs.log2 + 1 := by
    unfold Builtin.Int.intBits
    split
    · exact Nat.zero_le _
    · omega
  omega
end

section
variable {X : Cx} {CX : CXT} {k : Nat} {f : Addr} {fd : FuncData} {ps ks : List Str} {sp : Sp} {E : XK} {x : Str}
/-- f(k = v, ..): keywords alone -/
theorem pe_callK0 {p pos : Pos} {kws : List Keyword} {tk : TA} {g : List Value → List Value → List Value} {gV : List V → List V → List V} (F : FnOk X.prog X.w X.K X.mg X.base CX k f fd ps sp) (room : Room k X.A) (hg : Gl X x)
    (hm : X.mg x = some (.ref f)) (kp : PySem.W.keepIn X.K (.ref f) = true) (b : KBinds X.K fd ps ks g gV) (hx : Passes CX X E) (hkw : PK X kws tk)
    (all1 : (backToKw pos (keywordEach kws X.env)).all (·.1.isSome) = true := by rfl) (nms : (backToKw pos (keywordEach kws X.env)).filterMap (·.1) = ks := by rfl)
    (nodb : (x == ("__debug__" : Str)) = false := by decide) (pl : ((backTo pos (starEach [] X.env)).any (·.1) || (backToKw pos (keywordEach kws X.env)).any (·.1.isNone)) = false := by rfl) :
    PE X (.Call (.Name x p) [] kws pos) (tCallK sp gV E tNil tk) := by
  refine ⟨fun pins s σ H Q I0 hh => ?_⟩
  refine wpAny_Call_Name_kw (ld_glob I0 hg hm ?_ nodb)
  refine PySem.W.callWith_KW0 (h₀ := X.base) I0.ok.mod.kin kp all1 (thn (hkw.run pos pins s σ H _ I0 hh) fun ws s2 ⟨zs, H2, I2, rz, q2⟩ => ?_) pl
  refine ⟨I2.kIn, ?_⟩
  rw [nms]
  exact run_fnk (us := []) (vs := []) F room b hx I2 .nil rz q2
end

/-! ### defs that run where no repr runs -/
structure FnG (P : Program) (w : World) (K : PySem.W.Frag) (mg : Str → Option Value) (base : Heap) (CX : CXT) (k : Nat) (f : Addr) (fd : FuncData) (ps : List Str) (sp : Sp) : Prop where
  ln : ∀ vs H Q E, sp vs H Q E → vs.length = ps.length
  go : ∀ (A : Around) (outer : List Env) (s : Shared) (H : Hp) (args : Args) (us : List Value) (vs : List V) (Q : VK) (E : XK), A.guards = some [] → Room k A → Env0 P w K mg base A outer s H →
    BindsTo s fd args (ps.zip us) → Vals vs us → sp vs H Q E → codeAny (model P w) A (.call (.ref f) args) (CR CX outer P w H s Q E) s
section
variable {P : Program} {w : World} {K : PySem.W.Frag} {mg : Str → Option Value} {base : Heap}
theorem Fun.okG {x qual : Str} {st : Stmt} {f : Addr} {fd : FuncData} {N ps : List Str} {k : Nat} {sp : Sp} (F : Fun K x qual st f fd) (S : FnScope N ps (defScope st)) (ln : ∀ vs H Q E, sp vs H Q E → vs.length = ps.length)
    (body : ∀ (cdv : Value) (A : Around) (outer : List Env) (s : Shared) (H : Hp) (vs : List V) (Q : VK) (E : XK), A.guards = some [] → Room k (A.deeper (envOfC qual (defScope st) s.heap.objs.size f cdv)) → sp vs H Q E →
      ∃ t, PSs (cxOf CX0 P w K mg base N qual (defScope st) f cdv A outer s H E).nox (defBody st) t ∧ t { nx := fun _ H' => Q .non H', rt := Q } (start N vs) H) : FnG P w K mg base CX0 (k + 1) f fd ps sp := by
  obtain ⟨oc, od, kV, doc, pm, an, cdv, ct, osl, rfl, lk, hcd⟩ := F.ex
  refine ⟨ln, fun A outer s H args us vs Q E gg hr e0 hb r hsp => ?_⟩
  have hl := ln _ _ _ _ hsp
  have kin : K.In s.heap := e0.mod.kin.keeps fun b o e => (e0.bs b o e).1
  have nolim : s.heap.NoLimit := e0.mod.nolimit.keeps fun b o e => (e0.bs b o e).1
  have kinds : ∀ y ∈ ps.zip us, (defScope st).names.lookup y.1 = some .local ∨ ((defScope st).names.lookup y.1 = some .cell ∧ ((cellsFrom (s.heap.objs.size + 1) (defScope st).names []).lookup y.1).isSome = true) := by
    rintro ⟨n, v⟩ hy
    rcases S.par n (List.of_mem_zip hy).1 with q | q
    · exact .inl q
    · exact .inr ⟨q, PySem.W.cellsFrom_some _ _ _ (.inl q)⟩
  refine codeAny_call_function hr.depth (kin _ _ lk) rfl S.co S.gen rfl (PySem.W.codeRec_of kin hcd) (hb _ _ _ _ ?_)
  refine wpAny_newFunctionEnv_cells S.kind kinds fun env he s1 xc => ?_
  subst he
  refine ⟨nolim.keeps xc.toInCall.keep, codeAny_func ?_⟩
  obtain ⟨t, ht0, hq⟩ := body cdv A outer s H vs Q E gg (hr.deeper _) hsp
  have ht := ht0.nox
  have I1 := inv_start (CX := CX0) (E := E) S hr.hd e0 hl r xc
  refine wpAny_mono (ht.run [] s1 (start N vs) H _ I1 hq) (fun fl s' hs => ?_) fun e s' hs => hs
  cases fl with
  | ret u =>
    obtain ⟨v, σ', H', J, rv, q⟩ := hs
    exact ⟨v, H', J.os, J.bare, J.base, J.hok, rv, q⟩
  | next =>
    obtain ⟨σ', H', J, q⟩ := hs
    exact ⟨.non, H', J.os, J.bare, J.base, J.hok, rfl, q⟩
  | brk => obtain ⟨_, _, _, q⟩ := hs; exact q.elim
  | cont => obtain ⟨_, _, _, q⟩ := hs; exact q.elim
end
section
variable {X : Cx} {CX : CXT} {k : Nat} {f : Addr} {fd : FuncData} {ps : List Str} {sp : Sp} {E : XK} {x : Str} {ds : List Value} {dvs : List V} {p pos : Pos} {e : Expr} {es : List Expr} {t : TA}
theorem pe_callG (F : FnG X.prog X.w X.K X.mg X.base CX k f fd ps sp) (gg : X.A.guards = some []) (room : Room k X.A) (hg : Gl X x) (hm : X.mg x = some (.ref f)) (kp : PySem.W.keepIn X.K (.ref f) = true)
    (b : Binds X.K fd ps ds) (hd : Vals dvs ds) (hx : Passes CX X E) (args : PA X (e :: es) t) (nodb : (x == ("__debug__" : Str)) = false := by decide)
    (st1 : starEach (e :: es) X.env = (false, eval e X.env) :: starEach es X.env := by rfl) (st2 : (backTo pos (starEach es X.env)).any (·.1) = false := by rfl) :
    PE X (.Call (.Name x p) (e :: es) [] pos) (tCall sp dvs E t) := by
  refine ⟨fun pins s σ H Q I0 hh => ?_⟩
  refine wpAny_Call_Name_kw (ld_glob I0 hg hm ?_ nodb)
  refine PySem.W.callWith_K (h₀ := X.base) I0.ok.mod.kin kp (thn (args.run pos pins s σ H _ I0 hh) ?_) st1 st2
  rintro us s1 ⟨vs, H1, I1, r, q⟩
  refine ⟨I1.kIn, ?_⟩
  have r2 : Vals (vs ++ dvs) (us ++ ds) := r.append hd
  have hl : (us ++ ds).length = ps.length := by rw [← r2.length]; exact F.ln _ _ _ _ q
  refine wpAny_call (codeAny_mono (F.go X.A X.stack s1 H1 ⟨us, []⟩ (us ++ ds) (vs ++ dvs) Q E gg room I1.env0 (b s1 us I1.kIn hl) r2 q) fun res s' hq => ?_)
  cases res with
  | error e => exact hx pins σ H1 s1 e s' I1 hq
  | ok fl =>
    cases fl with
    | ret u => exact I1.after hq
    | next => exact hq.elim
    | brk => exact hq.elim
    | cont => exact hq.elim
/-- repr of a list or tuple of plain data -/
theorem call_reprD (gg : X.A.guards = some []) (hu : X.A.units + 64 < cLine) : CallR X (.builtin "repr") (fun xs H Q => ∃ a d, xs = [.ref a] ∧ Dp X.K H (.ref a) d ∧ d.showable = true ∧ d.hasDict = false ∧ d.depth ≤ 60 ∧ d.shown.length ≤ sizeLine ∧ Q (.str d.shown) H) := by
  rintro pins s σ H xs us Q I r ⟨a, d, rfl, hd, h1, h2, h3, h4, q⟩
  cases r with
  | cons r1 rr =>
    cases rr
    obtain ⟨as, rd⟩ := Dp.reads I d (.ref a) _ hd r1
    cases r1
    refine repr_of_reads' rd h1 (fun z => by rw [h2] at z; cases z) gg (by omega) (fun _ _ z => z) (fun h' u tk hk => ?_) h4
    exact ⟨.str d.shown, H, I.kept (t' := tk) hk, ⟨u, rfl⟩, q⟩
end
end BR

namespace BR
open PySem PySem.Spec PyProof.Rows L2
/-! ### a law's end for such defs -/
theorem law_callG {P : Program} {w : World} {K : PySem.W.Frag} {mg mb : Str → Option Value} {k : Nat} {fa a : Addr} {fd : FuncData} {x : Str} {sp : Sp} {s₁ : Shared} {vs : List Value} {ns : List Int}
    (kin : K.In s₁.heap) (hns : s₁.heap.Ns mainGlobals mg) (hb : s₁.heap.Ns builtinsNs mb) (hbb : ∀ y : Str, y ≠ "__name__" → mb y = bootBuiltins y) (nolim : s₁.heap.NoLimit) (nogen : s₁.gens = #[])
    (ha : s₁.heap.get? a = some { cls := .type "list", data := .seq vs.toArray }) (hi : IntsAre vs ns) (hl : ns.length ≤ sizeLine) (hr : Room k callerA)
    (F : ∀ base : Heap, K.In base → base.Ns mainGlobals mg → FnG P w K mg base CX0 k fa fd [x] sp) (hbind : ∀ (s : Shared) (u : Value), BindsTo s fd ⟨[u], []⟩ [(x, u)])
    (hsp : ∀ H : Hp, Only H → SqL K H a (ns.map V.int) → sp [.ref a] H (fun v _ => v = .bl true) fun _ _ _ => False) :
    codeAny (model P w) callerA (.call (.ref fa) ⟨[.ref a], []⟩) (fun r s' => r = .ok (.ret (.bool true)) ∧ OldK s₁.heap s'.heap ∧ s'.os = s₁.os ∧ AllBare s'.gens) s₁ := by
  have rv := vals_ints hi
  have lenV := hi.length
  have core : ∀ H : Hp, Only H → SqL K H a (ns.map V.int) → HOk P w H s₁.heap → (∀ b, H b ≠ none → b = a) → (H a ≠ none → K.lookup a = none) →
      codeAny (model P w) callerA (.call (.ref fa) ⟨[.ref a], []⟩) (fun r s' => r = .ok (.ret (.bool true)) ∧ OldK s₁.heap s'.heap ∧ s'.os = s₁.os ∧ AllBare s'.gens) s₁ := by
    intro H only sq hok hA hK
    have isA : ∀ {b : Addr} {u : HO}, H b = some u → b = a := fun {b u} q => hA b (by rw [q]; exact fun z => nomatch z)
    have hid : ∀ {b : Addr} {o : Obj}, s₁.heap.get? b = some o → H b = none → (hidT s₁.heap H).get? b = some o := fun e n => hidT_get e n
    have noA : ∀ {b : Addr} {o : Obj} {es : Array DictEntry} {ep : Nat}, s₁.heap.get? b = some o → o.data = .dict es ep → H b = none := by
      intro b o es ep e d
      cases q : H b with
      | none => rfl
      | some u =>
        have eb := isA q
        subst eb
        rw [ha] at e
        cases e
        exact absurd (show Data.seq vs.toArray _ = Data.dict es ep from d) (by intro z; cases z)
    have nsK : ∀ {b : Addr} {m : Str → Option Value}, s₁.heap.Ns b m → (hidT s₁.heap H).Ns b m := by
      rintro b m ⟨o, es, ep, e, d, r⟩
      exact ⟨o, es, ep, hid e (noA e d), d, r⟩
    have kinB : K.In (hidT s₁.heap H) := by
      intro b o e
      refine hid (kin b o e) ?_
      cases q : H b with
      | none => rfl
      | some u =>
        have eb := isA q
        subst eb
        rw [hK (by rw [q]; exact fun z => nomatch z)] at e
        cases e
    obtain ⟨mc, l1, l2⟩ := nolim
    have md : Mod K mg (hidT s₁.heap H) := ⟨kinB, nsK hns, ⟨mb, nsK hb, hbb⟩, ⟨mc, nsK l1, l2⟩⟩
    have e0 : Env0 P w K mg (hidT s₁.heap H) callerA [] s₁ H := ⟨rfl, md, fun b o e => of_hidT e, Nat.le_of_eq (hidT_size _ _), trivial, fun b z => absurd (show b ∈ ([] : List Addr) from z) (by simp), hok, .of_eq nogen⟩
    refine codeAny_mono ((F _ kinB (nsK hns)).go callerA [] s₁ H ⟨[.ref a], []⟩ [.ref a] [.ref a] _ _ rfl hr e0 (hbind s₁ (.ref a)) (.cons rfl .nil) (hsp H only sq)) fun r s' hh => ?_
    cases r with
    | error e => exact False.elim hh
    | ok fl =>
      cases fl with
      | next => exact hh.elim
      | brk => exact hh.elim
      | cont => exact hh.elim
      | ret u =>
        obtain ⟨v, H', os, bare, un, hok', r', q⟩ := hh
        obtain rfl : v = V.bl true := q
        obtain rfl : u = Value.bool true := r'
        refine ⟨rfl, OldK.of_keep fun b o e => ?_, os, bare⟩
        cases q : H b with
        | none => exact un.keep b o e q (fun z => absurd (show b ∈ ([] : List Addr) from z) (by simp)) (by simp)
        | some u =>
          rcases only b with z | ⟨ob, xs, z⟩
          · rw [q] at z; cases z
          · obtain ⟨e1, _⟩ := hok b _ z
            obtain ⟨e2, _⟩ := hok' b _ (un.frzs b ob _ z)
            rw [e] at e1
            cases e1
            exact e2
  cases hk : K.lookup a with
  | some o =>
    have e := kin a o hk
    rw [ha] at e
    cases e
    exact core (fun _ => none) (fun _ => .inl rfl) (.inr ⟨_, vs.toArray, _, hk, rfl, rfl, rfl, by rw [List.size_toArray, lenV]; exact hl, by simpa using rv⟩) (fun b u z => nomatch (show (none : Option HO) = some u from z)) (fun b z => absurd rfl z) fun z => absurd rfl z
  | none =>
    refine core (fun b => if b = a then some (.frz { cls := .type "list", data := .seq vs.toArray } (.lst (ns.map V.int))) else none) (fun b => ?_) (.inl (.inr ⟨_, if_pos rfl⟩)) (fun b u z => ?_) (fun b z => ?_) fun _ => hk
    · by_cases hb : b = a
      · exact .inr ⟨_, _, if_pos hb⟩
      · exact .inl (if_neg hb)
    · have z1 : (if b = a then some (HO.frz { cls := .type "list", data := .seq vs.toArray } (.lst (ns.map V.int))) else none) = some u := z
      by_cases hb : b = a
      · subst hb
        rw [if_pos rfl] at z1
        cases z1
        refine ⟨ha, ?_, vs, _, rv, ha⟩
        rw [List.length_map]
        exact hl
      · rw [if_neg hb] at z1
        cases z1
    · refine Decidable.byContradiction fun hb => z ?_
      exact if_neg hb
theorem walk_ofG {l : PySem.W.OpenLaw} {n k : Nat} {q : Program} {loose : List Str} {XP : (Str → Option Value) → Heap → Prop} {YP : World → Heap → Prop} {d : DefRec} {K : Params → PySem.W.Frag} {sp : PySem.W.Frag → Sp} {x : Str}
    (most : l.most = some n) (small : n ≤ sizeLine) (nodef : d.params.defaults = []) (hr : Room k callerA) (hY : ∀ (w : World) (h : Heap), YP w h → (K w.params).In h)
    (F : ∀ (w : World) (mg : Str → Option Value) (fa : Addr) (h : Heap), (K w.params).In h → h.Ns mainGlobals mg → mg d.name = some (.ref fa) → ∃ fd : FuncData, (∀ (s : Shared) (u : Value), BindsTo s fd ⟨[u], []⟩ [(x, u)]) ∧
      ∀ base : Heap, (K w.params).In base → base.Ns mainGlobals mg → FnG l.prog w (K w.params) mg base CX0 k fa fd [x] (sp (K w.params)))
    (hsp : ∀ (K : PySem.W.Frag) (H : Hp) (a : Addr) (ns : List Int), ns.length ≤ n → Only H → SqL K H a (ns.map V.int) → sp K [.ref a] H (fun v _ => v = .bl true) fun _ _ _ => False) :
    PySem.W.WalkO q loose XP YP l.row.toRowW d [] (fun f vs => PySem.call f vs) := by
  refine Att.attach_call most nodef fun w s₀ s₁ mg mb fa o pm cd doc a vs ns G Y ho hd hcd hmg hobj hints hlen hg => ?_
  have kin := hY w _ Y
  obtain ⟨fd, bnd, ok⟩ := F w mg fa _ kin G.T.g hmg
  exact law_callG kin G.T.g G.T.b G.T.builtins G.T.nolimit hg hobj hints (Nat.le_trans hlen small) hr ok bnd fun H only sq => hsp _ H a ns hlen only sq
/-! ### for i, x in enumerate(t), t a tuple -/
set_option maxHeartbeats 4000000 in
theorem meets_enumT (l : Addr) (items : Array Value) (n : Nat) (dct : Option Addr) (sl : Array (Option Value)) :
    Meets (Builtin.«enumerate.__new__» ⟨[.type "enumerate", .ref l], []⟩) (fun _ R s => s.heap.get? l = some { cls := .type "tuple", dict := dct, data := .seq items n, slots := sl } ∧
      R (.ok (.ret (.ref (s.heap.push { cls := .type "tuple_iterator", data := .fields #[.ref l, .int 0 0] }).objs.size)))
        { s with heap := (s.heap.push { cls := .type "tuple_iterator", data := .fields #[.ref l, .int 0 0] }).push { cls := .type "enumerate", data := .fields #[.none, .bool false, .ref s.heap.objs.size, rawInt 0, .none, .none] } }) :=
  .of_wp fun prog w A R s hh => by
    obtain ⟨hp, g, d, tk, os⟩ := s
    obtain ⟨hl, hh⟩ := hh
    have sub := sub_enumerate
    have isT : Heap.IsTuple (Shared.heap ⟨hp, g, d, tk, os⟩) l items := ⟨_, hl, rfl, n, rfl⟩
    wp_walk using AutoSeq1.wpAny_loadPart' hl
    refine wpAny_stack_any fun st0 => wpAny_pure ?_
    split
    · rename_i c _ _ _ _ _
      cases (c == Value.type "enumerate")
      · wp_walk using AutoSeq1.wpAny_loadPart' hl, wpAny_pyIter_tuple isT
        exact ⟨_, rfl, hh⟩
      · wp_walk using AutoSeq1.wpAny_loadPart' hl, wpAny_pyIter_tuple isT
        exact ⟨_, rfl, hh⟩
    · wp_walk using AutoSeq1.wpAny_loadPart' hl, wpAny_pyIter_tuple isT
      exact ⟨_, rfl, hh⟩
section
variable {prog : Program} {w : World} {A : Around} {E : Value → Shared → Prop} {s : Shared}
theorem call_enumT {l : Addr} {items : Array Value} {Q : Value → Shared → Prop} (isT : s.heap.IsTuple l items)
    (hh : ∀ h', IsEnum h' (s.heap.objs.size + 1) s.heap.objs.size 0 .none → h'.IsTupleIter s.heap.objs.size l 0 → h'.objs.size = s.heap.objs.size + 2 →
      (∀ b o, s.heap.get? b = some o → h'.get? b = some o) → Q (.ref (s.heap.objs.size + 1)) { s with heap := h' }) :
    wpAny (model prog w) A (call (.type "enumerate") [.ref l]) Q E s := by
  obtain ⟨⟨c, dct, dt, sl⟩, hl, hc, n, hd⟩ := isT
  obtain rfl : c = .type "tuple" := hc
  obtain rfl : dt = .seq items n := hd
  refine callType_new F.called_enumerate (by decide) (F.typeCall_enumerate_1 _) (F.newCall_enumerate_1 _) (fun obj => F.args_object_init_2 obj _) F.entry_enumerate_new (meets_enumT l items n dct sl) ⟨hl, ?_⟩
  generalize hI : s.heap.push { cls := .type "tuple_iterator", data := .fields #[.ref l, .int 0 0] } = h1
  have sz : h1.objs.size = s.heap.objs.size + 1 := by rw [← hI]; exact Heap.size_push ..
  show _ ∧ _
  rw [sz]
  have he : IsEnum (h1.push { cls := .type "enumerate", data := .fields #[.none, .bool false, .ref s.heap.objs.size, rawInt 0, .none, .none] }) (s.heap.objs.size + 1) s.heap.objs.size 0 .none := by
    have e := Heap.get?_push_size h1 (o := { cls := .type "enumerate", data := .fields #[.none, .bool false, .ref s.heap.objs.size, rawInt 0, .none, .none] }) rfl
    rw [sz] at e
    exact e
  refine ⟨⟨_, he, rfl⟩, hh _ he ⟨_, Heap.get?_push_of_some _ (by rw [← hI]; exact Heap.get?_push_size _ rfl), rfl, rfl⟩ (by rw [Heap.size_push, sz]) fun b o e => Heap.get?_push_of_some _ ?_⟩
  rw [← hI]
  exact Heap.get?_push_of_some _ e
end
end BR

namespace BR
open PySem PySem.Spec PyProof.Rows L2
def IteT (K : PySem.W.Frag) (a : Addr) (xs : List V) : It :=
  ⟨fun i H => SqT K H a xs ∧ i < xs.length, fun i H v H' => ∃ T x, v = .ref T ∧ H T = none ∧ H' = upd H T (.tup [.int (i : Nat), x]) ∧ xs[i]? = some x, fun i H => SqT K H a xs ∧ xs.length ≤ i⟩
theorem diff_cls {h : Heap} {a b : Addr} {o u : Obj} {c d : String} (h1 : h.get? a = some o) (h2 : h.get? b = some u) (e1 : o.cls = .type c) (e2 : u.cls = .type d) (ne : c ≠ d) : a ≠ b := by
  rintro rfl
  rw [h1] at h2
  cases h2
  rw [e1] at e2
  cases e2
  exact ne rfl
theorem turn_enumT {P : Program} {w : World} {K : PySem.W.Frag} {elts : List Expr} {kk : Nat} {tpos : Pos} (a e it : Addr) (xs : List V) :
    Turn P w K (.Tuple elts kk tpos) (IteT K a xs) [e, it] e (fun i h => (∃ old, IsEnum h e it ((i : Nat) : Int) old) ∧ h.IsTupleIter it a i ∧ e ≠ it ∧ i ≤ xs.length) where
  mem := by simp
  obj := by
    rintro i h ⟨⟨old, he⟩, ⟨o, ho, hc, hd⟩, _⟩ b hb
    rcases List.mem_cons.mp hb with rfl | hb
    · exact ⟨_, he, fun v q => nomatch q⟩
    · obtain rfl := List.mem_singleton.mp hb
      exact ⟨o, ho, fun v q => by rw [hd] at q; cases q⟩
  keep := by
    rintro i h h' ⟨⟨old, he⟩, hi, hne, hz⟩ k
    exact ⟨⟨old, k e (by simp) _ he⟩, hi.at fun o q => k it (by simp) o q, hne, hz⟩
  item := by
    intro X hP hw hK hc i pins s σ H E I hf st hg
    subst hP hw hK
    obtain ⟨⟨old, he⟩, hit, hne, hz⟩ := st
    obtain ⟨hq, hlt⟩ := hg
    obtain ⟨its, rv, isT, _⟩ := I.tuple hq
    have hl := rv.length
    obtain ⟨ot, hot, hct, _⟩ := id isT
    obtain ⟨oi, hoi, hci, _⟩ := id hit
    have nta : it ≠ a := diff_cls hoi hot hci hct (by decide)
    have nea : e ≠ a := diff_cls he hot rfl hct (by decide)
    have hel : e < s.heap.objs.size := Heap.lt_size he
    have hil : it < s.heap.objs.size := Heap.lt_size hoi
    have D := Draws.tuple (prog := X.prog) (w := X.w) (A := X.A.in1) (show X.A.in1.handled = none from I.ok.hd hc) it a (Ne.symm nta) its.toArray
    refine wpAny_pyNext_enum_itemD D he ⟨hit, isT⟩ (by simp; omega) hne (by simp [hne, nea]) fun x h' tk hx ho hit' hT hsz hk => ?_
    obtain ⟨hit1, isT1⟩ := hit'
    refine ⟨_, rfl, wpAny_letOwnedTupleGo_enum (s := { s with heap := h', toks := tk + 1 }) ho fun h2 he2 sb => ?_⟩
    have hT2 : h2.get? s.heap.objs.size = some { cls := .type "tuple", data := .seq #[.int i tk, x] } := (sb.2 _ (Nat.ne_of_gt hel)).trans hT
    have hxi : i < its.length := by omega
    obtain ⟨y, hy, ry⟩ : ∃ y, xs[i]? = some y ∧ RelV y x := by
      have e1 : xs[i]? = some xs[i] := by simp [hlt]
      obtain ⟨u, hu, ru⟩ := rv.get e1
      have e2 : its[i]? = some x := by simpa using hx
      rw [e2] at hu
      cases hu
      exact ⟨_, e1, ru⟩
    have new : ObjOk X.prog X.w (upd H s.heap.objs.size (.tup [.int (i : Nat), y])) h2 s.heap.objs.size (.tup [.int (i : Nat), y]) :=
      ⟨by show 2 ≤ sizeLine; decide, [.int i tk, x], .cons ⟨_, rfl⟩ (.cons ry .nil), ⟨_, hT2, rfl, _, rfl⟩⟩
    have I1 : Inv X pins σ (upd H s.heap.objs.size (.tup [.int (i : Nat), y])) { s with heap := h2, toks := tk + 1 } := by
      refine I.turnedNew (ch := [e, it]) (fun b ob hb q => ?_) hf (Nat.le_refl _) new
      have b1 : b ≠ e := fun z => hb (by simp [z])
      exact (sb.2 b b1).trans (hk b ob b1 (fun z => hb (by simp [z])) q)
    refine ⟨.ref s.heap.objs.size, _, I1, rfl, ⟨_, y, rfl, I.hok.fresh (Nat.le_refl _), rfl, hy⟩, ⟨⟨x, ?_⟩, hit1.at fun o q => (sb.2 it (Ne.symm hne)).trans q, hne, hlt⟩, fun b hb => ?_⟩
    · have e1 : ((i + 1 : Nat) : Int) = (i : Int) + 1 := by omega
      rw [e1]
      exact he2
    · have hb' : b < s.heap.objs.size := by
        rcases List.mem_cons.mp hb with rfl | hb
        · exact hel
        · obtain rfl := List.mem_singleton.mp hb
          exact hil
      rw [upd_ne (Nat.ne_of_lt hb')]
      exact (hf b hb).1
  done := by
    intro X hP hw hK hc i pins s σ H E I hf st hg
    subst hP hw hK
    obtain ⟨⟨old, he⟩, hit, hne, hz⟩ := st
    obtain ⟨hq, hge⟩ := hg
    obtain ⟨its, rv, isT, _⟩ := I.tuple hq
    have hl := rv.length
    obtain rfl : i = its.toArray.size := by simp; omega
    obtain ⟨ot, hot, hct, _⟩ := id isT
    obtain ⟨oi, hoi, hci, _⟩ := id hit
    have nta : it ≠ a := diff_cls hoi hot hci hct (by decide)
    have D := Draws.tuple (prog := X.prog) (w := X.w) (A := X.A.in1) (show X.A.in1.handled = none from I.ok.hd hc) it a (Ne.symm nta) its.toArray
    obtain ⟨f0, f1, f2, f3, f4, f5⟩ := hf it (by simp)
    exact wpAny_pyNext_enum_endD D he ⟨hit, isT⟩ fun h' eb => ⟨rfl, I.turned (t' := s.toks) (fun b o hb q => eb b o hb q) f0 f1 f3 f4 f5⟩
  self := fun A i s Q E st h => let ⟨⟨_, he⟩, _⟩ := st; wpAny_pyIter_enum he h
def iEnumT (K : PySem.W.Frag) (ta : TA) : TI := fun σ H R => ta σ H fun vs H1 => ∃ a xs, vs = [.ref a] ∧ SqT K H1 a xs ∧ R (IteT K a xs) H1
theorem pi_enumT {X : Cx} {e : Expr} {ta : TA} {p pos tpos : Pos} {elts : List Expr} {kk : Nat} (hg : Gl X "enumerate") (hm : X.mg "enumerate" = none) (args : PA X [e] ta) (st1 : starEach [e] X.env = [(false, eval e X.env)] := by rfl) :
    PI X (.Tuple elts kk tpos) (.Call (.Name "enumerate" p) [e] [] pos) (iEnumT X.K ta) := by
  refine ⟨fun pins s σ H R I h => ?_⟩
  refine Call_ (ld_blt I hg hm boot_enumerate (PyProof.Rows.callWith_type1 (thn (args.run pos pins s σ H _ I h) ?_) st1 rfl))
  rintro us s1 ⟨vs, H1, I1, r1, a, xs, rfl, hq, q⟩
  cases r1 with
  | cons r rr =>
    cases rr
    cases r
    obtain ⟨its, rv, isT, hz⟩ := I1.tuple hq
    refine call_enumT isT fun h' he hit hsz hk => wpAny_pyIter_enum he ?_
    have I2 : Inv X pins σ H1 { s1 with heap := h' } := I1.kept (t' := s1.toks) hk
    refine ⟨s1.heap.objs.size + 1, [s1.heap.objs.size + 1, s1.heap.objs.size], _, _, H1, rfl, I2, turn_enumT a (s1.heap.objs.size + 1) s1.heap.objs.size xs, ⟨⟨.none, he⟩, hit, Nat.succ_ne_self _, Nat.zero_le _⟩, fun b hb => ?_, q⟩
    have hle : s1.heap.objs.size ≤ b := by
      rcases List.mem_cons.mp hb with rfl | hb
      · exact Nat.le_add_right _ _
      · obtain rfl := List.mem_singleton.mp hb
        exact Nat.le_refl _
    exact I1.fpOk hle (I1.hok.fresh hle)
theorem walk_enumT {K : PySem.W.Frag} {a : Addr} {xs : List V} : Walk (IteT K a xs) xs.length (fun H => SqT K H a xs) (YPair (fun i => some (.int (i : Nat))) (fun i => xs[i]?)) := by
  refine ⟨fun i _ hi q => ⟨q, hi⟩, fun _ q => ⟨q, Nat.le_refl _⟩, ?_⟩
  rintro i H v H' _ q ⟨T, x, h1, h2, h3, h4⟩
  exact ⟨T, .int (i : Nat), x, h1, h2, h3, rfl, h4⟩
end BR

namespace BR
open PySem PySem.Spec PyProof.Rows L2
/-! ### the draws' pool, heaps, words -/
theorem tT {c : Bool} {A B : Prop} (hc : c = true) (h : A) : if c = true then A else B := by
  rw [if_pos hc]
  exact h
theorem tF {c : Bool} {A B : Prop} (hc : c = false) (h : B) : if c = true then A else B := by
  rw [hc, if_neg Bool.false_ne_true]
  exact h
theorem sameNew {H : Hp} {p : Addr} {o : HO} (h : H p = none) : Same H (upd H p o) := fun b u e => by
  rw [upd_ne (ne_of_none e h)]
  exact e
theorem sameT {K : PySem.W.Frag} {H H' : Hp} {a : Addr} {xs : List V} (e : Same H H') (h : SqT K H a xs) : SqT K H' a xs := by
  rcases h with (h | ⟨o, h⟩) | h
  · exact .inl (.inl (e _ _ h))
  · exact .inl (.inr ⟨o, e _ _ h⟩)
  · exact .inr h
theorem map_at {xs : List Int} {i : Nat} {v : V} (h : (xs.map V.int)[i]? = some v) : ∃ z, xs[i]? = some z ∧ v = V.int z := by
  rw [List.getElem?_map] at h
  cases e : xs[i]? with
  | none => rw [e] at h; cases h
  | some z => rw [e] at h; exact ⟨z, rfl, (Option.some.inj h).symm⟩
/-- all but p as it was -/
def But (p : Addr) (H H' : Hp) : Prop := ∀ b o, b ≠ p → H b = some o → H' b = some o
theorem But.refl {p : Addr} (H : Hp) : But p H H := fun _ _ _ e => e
theorem But.trans {p : Addr} {H H1 H2 : Hp} (a : But p H H1) (b : But p H1 H2) : But p H H2 := fun c o n e => b c o n (a c o n e)
theorem But.of {p : Addr} {H H' : Hp} (s : Same H H') : But p H H' := fun b o _ e => s b o e
theorem But.upd {p : Addr} {H : Hp} {o : HO} : But p H (upd H p o) := fun b u n e => by
  rw [upd_ne n]
  exact e
theorem But.new {p q : Addr} {H : Hp} {o : HO} (h : H q = none) : But p H (L2.upd H q o) := But.of (sameNew h)
/-- the pool at p, not more than n numbers mixed -/
def Pool (H : Hp) (p : Addr) (n : Nat) : Prop := ∃ g b c : Int, H p = some (.lst [.int g, .int b, .int c]) ∧ 0 ≤ g ∧ 0 ≤ b ∧ b < 2 ^ 62 ∧ 0 ≤ c ∧ c ≤ (n : Int)
theorem Pool.same {H H' : Hp} {p : Addr} {n : Nat} (h : Pool H p n) (s : Same H H') : Pool H' p n := by
  obtain ⟨g, b, c, e, r⟩ := h
  exact ⟨g, b, c, s _ _ e, r⟩
theorem Pool.mono {H : Hp} {p : Addr} {n m : Nat} (h : Pool H p n) (l : n ≤ m) : Pool H p m := by
  obtain ⟨g, b, c, e, r1, r2, r3, r4, r5⟩ := h
  exact ⟨g, b, c, e, r1, r2, r3, r4, by omega⟩
theorem Pool.new {H : Hp} {p q : Addr} {o : HO} {n : Nat} (h : Pool H p n) (hq : H q = none) : Pool (L2.upd H q o) p n := h.same (sameNew hq)
theorem Pool.ne {H : Hp} {p q : Addr} {n : Nat} (h : Pool H p n) (hq : H q = none) : q ≠ p := by
  obtain ⟨g, b, c, e, _⟩ := h
  exact (ne_of_none e hq).symm
theorem Pool.put {H : Hp} {p q : Addr} {o : HO} {n : Nat} (h : Pool H p n) (nq : q ≠ p) : Pool (L2.upd H q o) p n := by
  obtain ⟨g, b, c, e, r⟩ := h
  exact ⟨g, b, c, by rw [upd_ne nq.symm]; exact e, r⟩
theorem pow_pos (n : Nat) : (0 : Int) < 2 ^ n := by
  have h : (2 : Int) ^ n = ((2 ^ n : Nat) : Int) := by norm_cast
  rw [h]
  have := Nat.two_pow_pos n
  omega
theorem pow_lt {a b : Nat} (h : a < b) : (2 : Int) ^ a < 2 ^ b := by
  have h1 : (2 : Int) ^ a = ((2 ^ a : Nat) : Int) := by norm_cast
  have h2 : (2 : Int) ^ b = ((2 ^ b : Nat) : Int) := by norm_cast
  have h3 : 2 ^ a < 2 ^ b := Nat.pow_lt_pow_right (by decide) h
  rw [h1, h2]
  omega
theorem log_ok {m : Int} (h0 : 0 < m) (h1 : m < 2 ^ 400) : m.natAbs.log2 < 9000 := by
  have h : m.natAbs < 2 ^ 400 := by
    have e : ((2 : Int) ^ 400) = ((2 ^ 400 : Nat) : Int) := by norm_cast
    rw [e] at h1
    omega
  exact Nat.lt_of_lt_of_le (PySem.Flt.log2_lt_of (by decide) h) (by decide)
/-- signed value, outcome -/
def sv (wd x : Int) : Int := if (2 : Int) ^ (wd - 1).toNat ≤ x then x - 2 ^ wd.toNat else x
def oc (wd x y : Int) : Str := if x = y then "E" else if sv wd x < sv wd y then (if x < y then "LB" else "LA") else (if x < y then "GB" else "GA")
theorem oc_short (wd x y : Int) : (oc wd x y).length ≤ 2 := by
  unfold oc
  split
  · decide +kernel
  · split <;> split <;> decide +kernel
theorem ints_all {K : PySem.W.Frag} {H : Hp} : ∀ xs : List Int, DpAll K H (xs.map V.int) (xs.map PyData.int)
  | [] => .nil
  | x :: r => .cons (.int x) (ints_all r)
theorem ints_lay : ∀ xs : List Int, PyData.canLayAll0 (xs.map PyData.int) = true ∧ PyData.depthAll (xs.map PyData.int) = 0
  | [] => ⟨rfl, rfl⟩
  | x :: r => by
    obtain ⟨h1, h2⟩ := ints_lay r
    refine ⟨?_, ?_⟩
    · show (PyData.canLay0 (.int x) && PyData.canLayAll0 (r.map PyData.int)) = true
      rw [h1]
      rfl
    · show max (PyData.depth (.int x)) (PyData.depthAll (r.map PyData.int)) = 0
      rw [h2]
      rfl
theorem ints_shaped (xs : List Int) : SeqAt.shaped (.list (xs.map PyData.int)) = true := by
  obtain ⟨h1, h2⟩ := ints_lay xs
  unfold SeqAt.shaped
  show (PyData.canLayAll0 (xs.map PyData.int) && decide (PyData.depthAll (xs.map PyData.int) + 1 ≤ 64)) = true
  rw [h1, h2]
  rfl
/-- what is small enough to be shown -/
def Tame (m : Int) : Prop := m.natAbs.log2 < 1920
theorem Tame.of {m : Int} {k : Nat} (k0 : 0 < k) (hk : k ≤ 1900) (h0 : -(2 ^ k) < m) (h1 : m < 2 ^ k) : Tame m := by
  have e : ((2 : Int) ^ k) = ((2 ^ k : Nat) : Int) := by norm_cast
  rw [e] at h0 h1
  have h : m.natAbs < 2 ^ k := by omega
  exact Nat.lt_of_lt_of_le (PySem.Flt.log2_lt_of k0 h) (by omega)
theorem tame_short {m : Int} (h : Tame m) : (PyData.shown (.int m)).length ≤ 1921 := int_text_len_1921 h
theorem tame_weight {m : Int} (h : Tame m) : (PyData.int m).weight ≤ 1920 := by
  show (if m == 0 then 0 else m.natAbs.log2 + 1) ≤ 1920
  have := show m.natAbs.log2 < 1920 from h
  split <;> omega
theorem oc_is (wd x y : Int) : oc wd x y = "E" ∨ oc wd x y = "LB" ∨ oc wd x y = "LA" ∨ oc wd x y = "GB" ∨ oc wd x y = "GA" := by
  unfold oc
  split
  · exact .inl rfl
  · split <;> split <;> simp
theorem sv_tame {wd x : Int} (h1 : 1 ≤ wd) (h2 : wd ≤ 300) (h : 0 ≤ x ∧ x < 2 ^ wd.toNat) : Tame (sv wd x) := by
  have p := pow_pos wd.toNat
  refine Tame.of (k := wd.toNat + 1) (by omega) (by omega) ?_ ?_
  · have q : (2 : Int) ^ (wd.toNat + 1) = 2 ^ wd.toNat * 2 := Int.pow_succ ..
    unfold sv
    split <;> omega
  · have q : (2 : Int) ^ (wd.toNat + 1) = 2 ^ wd.toNat * 2 := Int.pow_succ ..
    unfold sv
    split <;> omega
theorem shown_small {d : PyData} (h : d.leavesShort 1921 = true) (hw : d.weight ≤ 8000) : d.shown.length ≤ sizeLine := by
  have e := PyData.shown_le 1921 (by decide) d h
  have : (1921 + 2) * d.weight ≤ (1921 + 2) * 8000 := Nat.mul_le_mul_left _ hw
  exact Nat.le_trans e (Nat.le_trans (Nat.add_le_add_right this _) (by decide))
theorem shown_ok {wd x y : Int} (h1 : 1 ≤ wd) (h2 : wd ≤ 300) (h3 : 0 ≤ x ∧ x < 2 ^ wd.toNat) (h4 : 0 ≤ y ∧ y < 2 ^ wd.toNat) :
    (PyData.list [.int (sv wd x), .str (oc wd x y)]).showable = true ∧ (PyData.list [.int (sv wd x), .str (oc wd x y)]).hasDict = false ∧ (PyData.list [.int (sv wd x), .str (oc wd x y)]).depth ≤ 60 ∧
      (PyData.list [.int (sv wd x), .str (oc wd x y)]).shown.length ≤ sizeLine := by
  have t := sv_tame h1 h2 h3
  have a1 := tame_short t
  have a2 := tame_weight t
  have b : (PyData.str (oc wd x y)).leavesShort 1921 = true ∧ (PyData.str (oc wd x y)).weight ≤ 2 := by
    rcases oc_is wd x y with e | e | e | e | e <;> rw [e] <;> exact ⟨by decide +kernel, by decide +kernel⟩
  refine ⟨?_, rfl, ?_, shown_small ?_ ?_⟩
  · show (decide ((sv wd x).natAbs.log2 < 1920) && (true && true)) = true
    rw [decide_eq_true (show (sv wd x).natAbs.log2 < 1920 from t)]
    rfl
  · show max 0 (max 0 0) + 1 ≤ 60
    decide
  · show (decide ((PyData.shown (.int (sv wd x))).length ≤ 1921) && ((PyData.str (oc wd x y)).leavesShort 1921 && true)) = true
    rw [decide_eq_true a1, b.1]
    rfl
  · show (PyData.int (sv wd x)).weight + 1 + ((PyData.str (oc wd x y)).weight + 1 + 0) ≤ 8000
    omega
theorem laps_of {n : Nat} {t : Int} (ht : 1 ≤ t) : ∃ m : Nat, (m : Int) ≤ t ∧ (if (if (n : Int) < t then (n : Int) else t) > 1 then (if (n : Int) < t then (n : Int) else t) else 1) = (m : Int) := by
  by_cases h : (n : Int) < t
  · rw [if_pos h]
    by_cases h1 : (n : Int) > 1
    · rw [if_pos h1]; exact ⟨n, by omega, rfl⟩
    · rw [if_neg h1]; exact ⟨1, by omega, rfl⟩
  · rw [if_neg h]
    refine ⟨t.toNat, by omega, ?_⟩
    split <;> omega
end BR

namespace BR
open PySem PySem.Spec PyProof.Rows L2
/-! ### words changed; comprehensions over ints -/
def fl (wd x : Int) : Int := if x < 2 ^ (wd - 1).toNat then x + 2 ^ (wd - 1).toNat else x - 2 ^ (wd - 1).toNat
def iv (wd x : Int) : Int := 2 ^ wd.toNat - 1 - x
def ex (wd wi x : Int) : Int := if (2 : Int) ^ (wd - 1).toNat ≤ x then x + (2 ^ wi.toNat - 2 ^ wd.toNat) else x
theorem two_half {wd : Int} (h : 1 ≤ wd) : (2 : Int) ^ wd.toNat = 2 * 2 ^ (wd - 1).toNat := by
  have e : wd.toNat = (wd - 1).toNat + 1 := by omega
  rw [e, Int.pow_succ, Int.mul_comm]
theorem pow_le {a b : Nat} (h : a ≤ b) : (2 : Int) ^ a ≤ 2 ^ b := by
  have h1 : (2 : Int) ^ a = ((2 ^ a : Nat) : Int) := by norm_cast
  have h2 : (2 : Int) ^ b = ((2 ^ b : Nat) : Int) := by norm_cast
  have h3 : 2 ^ a ≤ 2 ^ b := Nat.pow_le_pow_right (by decide) h
  rw [h1, h2]
  omega
theorem nat_cast_pow (n : Nat) : (2 : Int) ^ n = ((2 ^ n : Nat) : Int) := by norm_cast
theorem fl_word {wd x : Int} (h : 1 ≤ wd) (hx : 0 ≤ x ∧ x < 2 ^ wd.toNat) : 0 ≤ fl wd x ∧ fl wd x < 2 ^ wd.toNat := by
  have e := two_half h
  have p := pow_pos (wd - 1).toNat
  unfold fl
  split <;> omega
theorem fl_fl {wd x : Int} (h : 1 ≤ wd) (hx : 0 ≤ x ∧ x < 2 ^ wd.toNat) : fl wd (fl wd x) = x := by
  have e := two_half h
  have p := pow_pos (wd - 1).toNat
  unfold fl
  split <;> split <;> omega
theorem iv_word {wd x : Int} (hx : 0 ≤ x ∧ x < 2 ^ wd.toNat) : 0 ≤ iv wd x ∧ iv wd x < 2 ^ wd.toNat := by
  unfold iv
  omega
theorem iv_iv (wd x : Int) : iv wd (iv wd x) = x := by
  unfold iv
  omega
theorem ex_word {wd wi x : Int} (h1 : 1 ≤ wd) (h2 : wd ≤ wi) (hx : 0 ≤ x ∧ x < 2 ^ wd.toNat) : 0 ≤ ex wd wi x ∧ ex wd wi x < 2 ^ wi.toNat := by
  have q := pow_le (a := wd.toNat) (b := wi.toNat) (by omega)
  unfold ex
  split <;> omega
theorem sv_ex {wd wi x : Int} (h1 : 1 ≤ wd) (h2 : wd ≤ wi) (hx : 0 ≤ x ∧ x < 2 ^ wd.toNat) : sv wi (ex wd wi x) = sv wd x := by
  have q := pow_le (a := (wd - 1).toNat) (b := (wi - 1).toNat) (by omega)
  have e1 := two_half h1
  have e2 := two_half (show 1 ≤ wi by omega)
  have p := pow_pos (wd - 1).toNat
  unfold sv ex
  split <;> split <;> omega
theorem and_bit {n a : Nat} (h : a < 2 ^ (n + 1)) : a &&& 2 ^ n = if a < 2 ^ n then 0 else 2 ^ n := by
  apply Nat.eq_of_testBit_eq
  intro i
  rw [Nat.testBit_and, Nat.testBit_two_pow]
  by_cases c : a < 2 ^ n
  · rw [if_pos c]
    by_cases e : n = i
    · subst e
      rw [Nat.testBit_lt_two_pow c]
      simp
    · simp [e]
  · rw [if_neg c, Nat.testBit_two_pow]
    by_cases e : n = i
    · subst e
      have hk : 2 ^ (n + 1) = 2 ^ n * 2 := Nat.pow_succ ..
      have z : a / 2 ^ n = 1 := by
        have p : 0 < 2 ^ n := Nat.two_pow_pos n
        have h1 : 1 ≤ a / 2 ^ n := (Nat.le_div_iff_mul_le p).mpr (by omega)
        have h2 : a / 2 ^ n < 2 := (Nat.div_lt_iff_lt_mul p).mpr (by omega)
        omega
      have t : a.testBit n = true := by
        rw [Nat.testBit_eq_decide_div_mod_eq, z]
        rfl
      simp [t]
    · simp [e]
theorem xor_half {wd x : Int} (h : 1 ≤ wd) (hx : 0 ≤ x ∧ x < 2 ^ wd.toNat) : Builtin.bitXor x (2 ^ (wd - 1).toNat) = fl wd x := by
  have e := two_half h
  have p := pow_pos (wd - 1).toNat
  rw [Bits.bitXor_pp hx.1 (by omega)]
  rw [nat_cast_pow] at p e ⊢
  unfold fl
  rw [nat_cast_pow]
  generalize (wd - 1).toNat = n at p e ⊢
  obtain ⟨a, rfl⟩ := Int.eq_ofNat_of_zero_le hx.1
  rw [Int.toNat_natCast, Int.toNat_natCast]
  have k := Bits.nat_xor_add_and a (2 ^ n)
  have b1 : (a : Int) < 2 * 2 ^ n := by rw [← e]; exact hx.2
  have p2 : ((2 ^ n : Nat) : Int) = 2 ^ n := (nat_cast_pow n).symm
  have hk : 2 ^ (n + 1) = 2 ^ n * 2 := Nat.pow_succ ..
  rw [and_bit (n := n) (a := a) (by omega)] at k
  by_cases c : a < 2 ^ n
  · rw [if_pos c] at k
    rw [if_pos (by omega)]
    omega
  · rw [if_neg c] at k
    rw [if_neg (by omega)]
    omega
theorem xor_all {wd x : Int} (hx : 0 ≤ x ∧ x < 2 ^ wd.toNat) : Builtin.bitXor x (2 ^ wd.toNat - 1) = iv wd x := by
  have p := pow_pos wd.toNat
  rw [Bits.bitXor_pp hx.1 (by omega)]
  unfold iv
  have b1 := hx.2
  rw [nat_cast_pow] at p b1 ⊢
  generalize wd.toNat = n at p b1 ⊢
  obtain ⟨a, rfl⟩ := Int.eq_ofNat_of_zero_le hx.1
  have et : (((2 ^ n : Nat) : Int) - 1).toNat = 2 ^ n - 1 := by omega
  rw [Int.toNat_natCast, et]
  have k := Bits.nat_xor_add_and a (2 ^ n - 1)
  rw [Nat.and_two_pow_sub_one_eq_mod, Nat.mod_eq_of_lt (by omega)] at k
  omega
theorem map_take_succ {f : Int → Int} {xs : List Int} {i : Nat} {z : Int} (h : xs[i]? = some z) : ((xs.take (i + 1)).map f).map V.int = ((xs.take i).map f).map V.int ++ [V.int (f z)] := by
  have e : xs.take (i + 1) = xs.take i ++ [z] := by
    rw [List.take_add_one, h]
    rfl
  rw [e, List.map_append, List.map_append]
  rfl
/-- [e for x in t], t a tuple of ints, e an int of x alone -/
theorem lc_ints {K : PySem.W.Frag} {a : Addr} {xs : List Int} {j : Nat} {te : TE} {vs : List Nat} {σ : L2.St} {H1 : Hp} {D : Addr} {Qd : Hp → Prop} (f : Int → Int) (hT : SqT K H1 a (xs.map V.int)) (hz : xs.length ≤ 1000) (hD : H1 D = none)
    (hw : ∀ x : V, wipe ((wipe σ vs).set j (some x)) vs = wipe σ vs)
    (he : ∀ (x : Int) (H2 : Hp) (Q : VK), x ∈ xs → Same H1 H2 → (∀ H3, Same H2 H3 → Q (.int (f x)) H3) → te ((wipe σ vs).set j (some (.int x))) H2 Q)
    (hd : ∀ H, Same H1 H → H D = some (.lst ((xs.map f).map V.int)) → Qd H) :
    ∃ W : Nat → Nat → Hp → Prop, (∃ m, W 0 m (L2.upd H1 D (.lst []))) ∧ ∀ i m H, W i m H →
      ((Itt K a).stop i H ∧ Qd H) ∨ ((Itt K a).go i H ∧ ∃ Nx : Hp → Prop, (∀ H', Nx H' → ∃ m', m' < m ∧ W (i + 1) m' H') ∧ ∀ x H', (Itt K a).yld i H x H' → gName j x (wipe σ vs) H' fun σ2 H2 => wipe σ2 vs = wipe σ vs ∧ tYes σ2 H2 fun b H3 =>
        if b = true then te σ2 H3 fun y H4 => ∃ acc, H4 D = some (.lst acc) ∧ acc.length < sizeLine ∧ Nx (L2.upd H4 D (.lst (acc ++ [y]))) else Nx H3) := by
  refine lc_tup (xs := xs.map V.int) (fun i H => Same H1 H ∧ H D = some (.lst (((xs.take i).map f).map V.int))) ⟨sameNew hD, upd_same⟩ (fun i H _ p => sameT p.1 hT) ?_ ?_
  · rintro i x H hx ⟨s, hH⟩
    obtain ⟨z, hz1, rfl⟩ := map_at hx
    refine ⟨hw _, ?_⟩
    show te ((wipe σ vs).set j (some (V.int z))) H _
    refine he z H _ (List.mem_of_getElem? hz1) s fun H3 s3 => ?_
    refine ⟨_, s3 _ _ hH, small1000 (by rw [List.length_map, List.length_map, List.length_take]; omega), ?_, ?_⟩
    · intro b o e
      rw [upd_ne (ne_of_none e hD)]
      exact s3 _ _ (s _ _ e)
    · rw [upd_same, map_take_succ hz1]
  · rintro H ⟨s, hH⟩
    rw [List.length_map, List.take_length] at hH
    exact hd H s hH
end BR
namespace BR
open PySem PySem.Spec PyProof.Rows L2
/-! ### what tuples of words look like when they are shown -/
theorem ints_show : ∀ {ys : List Int}, (∀ y ∈ ys, 0 ≤ y ∧ y < 2 ^ 300) → PyData.showableAll (ys.map PyData.int) = true ∧ PyData.hasDictAll (ys.map PyData.int) = false ∧ PyData.leavesShortAll 301 (ys.map PyData.int) = true ∧ PyData.weightAll (ys.map PyData.int) ≤ 301 * ys.length
  | [], _ => ⟨rfl, rfl, rfl, Nat.zero_le _⟩
  | y :: r, h => by
    obtain ⟨h1, h2, h3, h4⟩ := ints_show (ys := r) fun z m => h z (List.mem_cons_of_mem _ m)
    have hy := h y List.mem_cons_self
    have n : y.natAbs < 2 ^ 300 := by
      have e := nat_cast_pow 300
      have b := hy.2
      rw [e] at b
      omega
    have l := PySem.Flt.log2_lt_of (k := 300) (by decide) n
    refine ⟨?_, ?_, ?_, ?_⟩
    · show (decide (y.natAbs.log2 < 1920) && PyData.showableAll (r.map PyData.int)) = true
      rw [h1, decide_eq_true (by omega)]
      rfl
    · show (false || PyData.hasDictAll (r.map PyData.int)) = false
      rw [h2]
      rfl
    · show (decide ((PyData.shown (.int y)).length ≤ 301) && PyData.leavesShortAll 301 (r.map PyData.int)) = true
      have e : (PyData.shown (.int y)).length ≤ 301 := by
        show (PySem.Str.ofString (toString y)).length ≤ 301
        rw [PySem.ofString_length]
        exact PySem.int_text_length_le (k := 300) (by decide) l
      rw [h3, decide_eq_true e]
      rfl
    · show (if y == 0 then 0 else y.natAbs.log2 + 1) + 1 + PyData.weightAll (r.map PyData.int) ≤ 301 * (r.length + 1)
      split <;> omega
theorem shown_tup {ys : List Int} (h : ∀ y ∈ ys, 0 ≤ y ∧ y < 2 ^ 300) (hz : ys.length ≤ 41) :
    (PyData.tuple (ys.map PyData.int)).showable = true ∧ (PyData.tuple (ys.map PyData.int)).hasDict = false ∧ (PyData.tuple (ys.map PyData.int)).depth ≤ 60 ∧ (PyData.tuple (ys.map PyData.int)).shown.length ≤ sizeLine := by
  obtain ⟨h1, h2, h3, h4⟩ := ints_show h
  obtain ⟨_, h6⟩ := ints_lay ys
  refine ⟨h1, h2, ?_, ?_⟩
  · show PyData.depthAll (ys.map PyData.int) + 1 ≤ 60
    omega
  · have e := PyData.shown_le 301 (by decide) (.tuple (ys.map PyData.int)) h3
    have w : (PyData.tuple (ys.map PyData.int)).weight ≤ 12341 := by
      show PyData.weightAll (ys.map PyData.int) ≤ 12341
      omega
    have : (301 + 2) * (PyData.tuple (ys.map PyData.int)).weight ≤ (301 + 2) * 12341 := Nat.mul_le_mul_left _ w
    exact Nat.le_trans e (Nat.le_trans (Nat.add_le_add_right this _) (by decide))
theorem shown_two {ys : List Int} (h : ∀ y ∈ ys, 0 ≤ y ∧ y < 2 ^ 300) (hz : ys.length ≤ 41) :
    (PyData.list [.tuple (ys.map PyData.int), .tuple (ys.map PyData.int)]).showable = true ∧ (PyData.list [.tuple (ys.map PyData.int), .tuple (ys.map PyData.int)]).hasDict = false ∧
      (PyData.list [.tuple (ys.map PyData.int), .tuple (ys.map PyData.int)]).depth ≤ 60 ∧ (PyData.list [.tuple (ys.map PyData.int), .tuple (ys.map PyData.int)]).shown.length ≤ sizeLine := by
  obtain ⟨h1, h2, h3, h4⟩ := ints_show h
  obtain ⟨_, h6⟩ := ints_lay ys
  refine ⟨?_, ?_, ?_, ?_⟩
  · show (PyData.showableAll (ys.map PyData.int) && (PyData.showableAll (ys.map PyData.int) && true)) = true
    rw [h1]
    rfl
  · show (PyData.hasDictAll (ys.map PyData.int) || (PyData.hasDictAll (ys.map PyData.int) || false)) = false
    rw [h2]
    rfl
  · show max (PyData.depthAll (ys.map PyData.int) + 1) (max (PyData.depthAll (ys.map PyData.int) + 1) 0) + 1 ≤ 60
    omega
  · have e := PyData.shown_le 301 (by decide) (.list [.tuple (ys.map PyData.int), .tuple (ys.map PyData.int)]) (by
      show (PyData.leavesShortAll 301 (ys.map PyData.int) && (PyData.leavesShortAll 301 (ys.map PyData.int) && true)) = true
      rw [h3]
      rfl)
    have w : (PyData.list [.tuple (ys.map PyData.int), .tuple (ys.map PyData.int)]).weight ≤ 24684 := by
      show PyData.weightAll (ys.map PyData.int) + 1 + (PyData.weightAll (ys.map PyData.int) + 1 + 0) ≤ 24684
      omega
    have : (301 + 2) * (PyData.list [.tuple (ys.map PyData.int), .tuple (ys.map PyData.int)]).weight ≤ (301 + 2) * 24684 := Nat.mul_le_mul_left _ w
    exact Nat.le_trans e (Nat.le_trans (Nat.add_le_add_right this _) (by decide))
theorem tup_shaped (xs : List Int) : SeqAt.shaped (.tuple (xs.map PyData.int)) = true := by
  obtain ⟨h1, h2⟩ := ints_lay xs
  unfold SeqAt.shaped
  show (PyData.canLayAll0 (xs.map PyData.int) && decide (PyData.depthAll (xs.map PyData.int) + 1 ≤ 64)) = true
  rw [h1, h2]
  rfl
theorem eqv_tup (xs : List Int) : PyData.eqv (.tuple (xs.map PyData.int)) (.tuple (xs.map PyData.int)) = true := SeqAt.eqv_refl _ (SeqAt.canLay_of_shaped (tup_shaped xs))
theorem eqv_lst (xs : List Int) : PyData.eqv (.list (xs.map PyData.int)) (.list (xs.map PyData.int)) = true := SeqAt.eqv_refl _ (SeqAt.canLay_of_shaped (ints_shaped xs))
end BR

namespace BR
open PySem PySem.Spec PyProof.Rows L2
/-! ### outcomes told by a cut -/
def ocut (c x y : Int) : Str := if x = y then "E" else if x < y then (if (decide (x < c) != decide (y < c)) = true then "GB" else "LB") else (if (decide (x < c) != decide (y < c)) = true then "LA" else "GA")
theorem mixed_is (a b : Bool) : (!decide (V.bl a = V.bl b)) = (a != b) := by
  cases a <;> cases b <;> rfl
theorem oc_cut {wd x y : Int} (h : 1 ≤ wd) (hx : 0 ≤ x ∧ x < 2 ^ wd.toNat) (hy : 0 ≤ y ∧ y < 2 ^ wd.toNat) : ocut (2 ^ (wd - 1).toNat) x y = oc wd x y := by
  have e := two_half h
  have p := pow_pos (wd - 1).toNat
  unfold ocut oc
  by_cases c : x = y
  · rw [if_pos c, if_pos c]
  rw [if_neg c, if_neg c]
  by_cases cx : x < 2 ^ (wd - 1).toNat
  · have sx : sv wd x = x := by unfold sv; rw [if_neg (by omega)]
    by_cases cy : y < 2 ^ (wd - 1).toNat
    · have sy : sv wd y = y := by unfold sv; rw [if_neg (by omega)]
      rw [sx, sy, decide_eq_true cx, decide_eq_true cy, if_neg (show ¬ ((true != true) = true) by decide), if_neg (show ¬ ((true != true) = true) by decide)]
      by_cases l : x < y
      · rw [if_pos l, if_pos l, if_pos l]
      · rw [if_neg l, if_neg l, if_neg l]
    · have sy : sv wd y = y - 2 ^ wd.toNat := by unfold sv; rw [if_pos (by omega)]
      rw [sx, sy, decide_eq_true cx, decide_eq_false cy, if_pos (show (true != false) = true by decide), if_pos (show (true != false) = true by decide)]
      rw [if_pos (show x < y by omega), if_neg (show ¬ x < y - 2 ^ wd.toNat by omega), if_pos (show x < y by omega)]
  · have sx : sv wd x = x - 2 ^ wd.toNat := by unfold sv; rw [if_pos (by omega)]
    by_cases cy : y < 2 ^ (wd - 1).toNat
    · have sy : sv wd y = y := by unfold sv; rw [if_neg (by omega)]
      rw [sx, sy, decide_eq_false cx, decide_eq_true cy, if_pos (show (false != true) = true by decide), if_pos (show (false != true) = true by decide)]
      rw [if_neg (show ¬ x < y by omega), if_pos (show x - 2 ^ wd.toNat < y by omega), if_neg (show ¬ x < y by omega)]
    · have sy : sv wd y = y - 2 ^ wd.toNat := by unfold sv; rw [if_pos (by omega)]
      rw [sx, sy, decide_eq_false cx, decide_eq_false cy, if_neg (show ¬ ((false != false) = true) by decide), if_neg (show ¬ ((false != false) = true) by decide)]
      by_cases l : x < y
      · rw [if_pos l, if_pos (show x - 2 ^ wd.toNat < y - 2 ^ wd.toNat by omega), if_pos l]
      · rw [if_neg l, if_neg (show ¬ x - 2 ^ wd.toNat < y - 2 ^ wd.toNat by omega), if_neg l]
end BR

/-! ### own errors held as values: made by position and by keyword -/
namespace PySem
namespace BRX
open PySem.W PySem.Calls PyProof.Rows PySem.HandSPX
section
variable {M : Model} {prog : Program} {w : World} {A : Around} {E : Value → Shared → Prop} {R : Result → Shared → Prop} {h : Heap} {g : Array GenState} {d : Drawn} {t : Nat} {os : OsState}
variable {nm q : Str} {C N : Addr} {bs bm bmB : List Value} {hd0 : Bool} {sn : List Str} {sub : List Value} {ab : Bool} {col : Option Bool} {dd : Option Addr} {k0 k1 k2 k3 k5 : Option Value} {B newId initId : String} {kw : List (Str × Value)}
theorem check_newK (F : ExcBaseFacts B newId initId bmB) (hT : ∀ X : String, bm.contains (.type X) = bmB.contains (.type X)) {Q : Unit → Shared → Prop}
    (cl : h.get? C = some (excClassObj nm q C N bs bm hd0 sn sub ab col dd k0 k1 k2 k3 k5 newId)) (go : Q () ⟨h, g, d, t, os⟩) : wpAny M A (checkBuiltinCall newId ⟨[.ref C], kw⟩) Q E ⟨h, g, d, t, os⟩ := by
  have inB : (Value.ref C :: bm).contains (.type B) = true := by rw [List.contains_cons, hT, F.hasB, Bool.or_true]
  have star := F.noStar
  simp only [checkBuiltinCall, F.newKind, F.newSplit, F.newRow]
  repeat (first | refine wpAny_loadPart_at cl ?_ | (refine wpAny_isSubtype_exc cl ?_; rw [inB]) | refine wpAny_staticBase_exc cl ?_ | refine wpAny_madeBy_exc cl ?_ | simp only [bne_self_eq_false, Bool.false_eq_true, if_false] | wp_step)
  exact go
theorem newK (F : ExcBaseFacts B newId initId bmB) (hT : ∀ X : String, bm.contains (.type X) = bmB.contains (.type X))
    (cl : h.get? C = some (excClassObj nm q C N bs bm hd0 sn sub ab col dd k0 k1 k2 k3 k5 newId))
    (go : R (.ok (.ret (.ref (h.objs.size + 1)))) ⟨(h.push { cls := .type "tuple", data := .seq #[] }).push { cls := .ref C, data := .fields #[.ref h.objs.size, .none, .none, .none, .bool false, .none] }, g, d, t, os⟩) :
    codeAny (model prog w) A (.builtin newId ⟨[.ref C], kw⟩) R ⟨h, g, d, t, os⟩ := by
  have ends := F.ends
  have inB : (Value.ref C :: bm).contains (.type B) = true := by rw [List.contains_cons, hT, F.hasB, Bool.or_true]
  have inA : (Value.ref C :: bm).contains (.type "AttributeError") = false := by rw [List.contains_cons, hT, F.noAttr]; rfl
  have inN : (Value.ref C :: bm).contains (.type "NameError") = false := by rw [List.contains_cons, hT, F.noName]; rfl
  refine codeAny_builtinAt F.entry ?_
  unfold Builtin.«BaseException.__new__»
  refine wpAt_bind ?_
  show wpAt _ _ _ (stack >>= _) _ _ _
  refine wpAt_bind (wpAt_stack fun p below => wpAt_of_wpAny ?_)
  wp_walk
  refine wpAt_of_wpAny ?_
  rw [F.owner]
  repeat (first | with_reducible refine wpAny_madeHere_exc F.canon cl ?_ | with_reducible refine wpAny_loadPart_at cl ?_ | (with_reducible refine wpAny_isSubtype_exc cl ?_; first | rw [inB] | rw [inA] | rw [inN]) | wp_step)
  show R _ _
  rw [Heap.size_push]
  exact go
theorem type_callK (F : ExcBaseFacts B newId initId bmB) (hT : ∀ X : String, bm.contains (.type X) = bmB.contains (.type X)) {fI : Addr} {Q : Fin → Shared → Prop}
    (cl : h.get? C = some (excClassObj nm q C N bs bm hd0 sn sub ab col dd k0 k1 k2 k3 k5 newId))
    (li : W.Looks (model prog w) h (typeLookup (.ref C) "__init__") (some (.ref fI))) (lb : ∀ self, W.Looks (model prog w) h (bindSpecial (.ref fI) self) (.ref fI, [self]))
    (go : codeAny (model prog w) A (.call (.ref fI) ⟨[.ref (h.objs.size + 1)], kw⟩) (fun r s' => match r with | .ok (.ret v) => v = .none ∧ Q (.done (.ret (.ref (h.objs.size + 1)))) s' | .ok _ => False | .error e => E e s')
      ⟨(h.push (W.kdv_tup [])).push (excO C h.objs.size), g, d, t, os⟩) : wpAny (model prog w) A (Builtin.«type.__call__» ⟨[.ref C], kw⟩) Q E ⟨h, g, d, t, os⟩ := by
  repeat (first | with_reducible refine wpAny_loadPart_at cl ?_ | with_reducible refine wpAny_madeBy_exc cl ?_ | wp_step)
  refine codeAny_call_builtin_code (Code.quiet_builtin _ F.quiet) (check_newK F hT cl ?_)
  refine newK F hT cl ?_
  show wpAny _ _ _ _ _ _
  have kp : ∀ b o, h.get? b = some o → ((h.push (W.kdv_tup [])).push (excO C h.objs.size)).get? b = some o := fun b o e => Heap.get?_push_of_some _ (Heap.get?_push_of_some _ e)
  have cl1 := kp _ _ cl
  have new : ((h.push (W.kdv_tup [])).push (excO C h.objs.size)).get? (h.objs.size + 1) = some (excO C h.objs.size) := by heap_get
  have inC : (Value.ref C :: bm).contains (.ref C) = true := by simp
  have i1 := li.keeps kp
  have b1 := (lb (.ref (h.objs.size + 1))).keeps kp
  unfold isInstance
  repeat (first | with_reducible refine wpAny_loadPart_at new ?_ | (with_reducible refine wpAny_isSubtype_exc cl1 ?_; rw [inC]) | wp_step)
  show wpAny _ _ (typeLookup (.ref C) _) _ _ _
  refine i1.at ?_
  refine wpAny_holding (wpAny_bind (b1.at ?_))
  refine wpAny_bind (wpAny_call (codeAny_mono go fun r s' z => ?_))
  rcases r with e | (v | _ | _ | _) <;> first | exact z | exact z.elim | skip
  obtain ⟨rfl, z⟩ := z
  first
    | exact wpAny_pure (wpAny_pure z)
    | (wp_walk; exact z)
theorem call_ownK (F : ExcBaseFacts B newId initId bmB) (hT : ∀ X : String, bm.contains (.type X) = bmB.contains (.type X)) {fI : Addr}
    (cl : h.get? C = some (excClassObj nm q C N bs bm hd0 sn sub ab col dd k0 k1 k2 k3 k5 newId))
    (li : W.Looks (model prog w) h (typeLookup (.ref C) "__init__") (some (.ref fI))) (lb : ∀ self, W.Looks (model prog w) h (bindSpecial (.ref fI) self) (.ref fI, [self]))
    (go : codeAny (model prog w) (A.under (.builtin "type.__call__" ⟨[.ref C], kw⟩)) (.call (.ref fI) ⟨[.ref (h.objs.size + 1)], kw⟩) (W.InitBack (h.objs.size + 1) R) ⟨(h.push (W.kdv_tup [])).push (excO C h.objs.size), g, d, t, os⟩) :
    codeAny (model prog w) A (.call (.ref C) ⟨[], kw⟩) R ⟨h, g, d, t, os⟩ := by
  have f1 := tc_lookup
  have f2 := tc_bind (.ref C)
  have isTy : (⟨h, g, d, t, os⟩ : Shared).TypeIs (.ref C) "type" := ⟨_, cl, rfl⟩
  refine codeAny_of_tree ?_
  show wpAny _ _ (callAny (.ref C) _) _ _ _
  repeat (any_goals (first | assumption | with_reducible refine wpAny_loadPart_at cl ?_ | wp_step))
  refine ⟨rfl, ?_⟩
  refine codeAny_call_builtin_at (Code.quiet_builtin _ (by decide +kernel)) entry_typeCall (wpAny_check_type_call_sub cl (type_callK F hT cl li lb ?_))
  refine codeAny_mono go fun r s' z => ?_
  rcases r with e | (v | _ | _ | _) <;> exact z
end
end BRX
end PySem

namespace BR
open PySem PySem.Spec PyProof.Rows L2
/-! ### C(e), C(value = e): a new error, held as a value -/
def tOexV (C : Addr) (sp : Sp) (ta : TA) : TE := fun σ H Q => ta σ H fun vs H1 => vs.length ≤ 1000 ∧ ∀ e, H1 e = none → sp (.ref e :: vs) (L2.upd H1 e (exo e C none)) (fun v H2 => v = .non ∧ Q (.ref e) H2) fun _ _ _ => False
section
variable {X : Cx} {CX : CXT} {k : Nat} {fI C : Addr} {fd : FuncData} {ps : List Str} {sp : Sp} {x : Str} {p pos kpos : Pos} {e : Expr} {es : List Expr} {ta : TA} {te : TE}
theorem pe_oexV (T : OexC X.K C) (iC : PySem.W.findIn X.K (.ref C) "__init__" = some (some (.ref fI))) (tI : PySem.W.typeIn X.K (.ref fI) = some (.type "function"))
    (F1 : FnOk X.prog X.w X.K X.mg X.base CX k fI fd ps sp) (room : Room (k + 1) X.A) (b : Binds X.K fd ps []) (hx : Passes CX X (fun _ _ _ => False)) (hg : Gl X x) (hm : X.mg x = some (.ref C)) (args : PA X (e :: es) ta)
    (nodb : (x == ("__debug__" : Str)) = false := by decide) (st1 : starEach (e :: es) X.env = (false, eval e X.env) :: starEach es X.env := by rfl) (st2 : (backTo pos (starEach es X.env)).any (·.1) = false := by rfl) :
    PE X (.Call (.Name x p) (e :: es) [] pos) (tOexV C sp ta) := by
  refine ⟨fun pins s σ H Q I0 hh => ?_⟩
  obtain ⟨nm, q, N, bs, bm, sn, sub, ab, col, dd, k0, k1, k2, k3, k5, hC, hbm⟩ := T.cls
  refine wpAny_Call_Name_kw (ld_glob I0 hg hm ?_ nodb)
  refine PySem.W.callWith_K (h₀ := X.base) I0.ok.mod.kin T.kC (thn (args.run pos pins s σ H _ I0 hh) ?_) st1 st2
  rintro us s1 ⟨vs, H1, I1, r1, hz, q1⟩
  refine ⟨I1.kIn, ?_⟩
  show wpAny _ _ (call (.ref C) us) _ _ _
  obtain ⟨hp, g, dr, tk, os⟩ := s1
  have le1 : hp.objs.size ≤ hp.objs.size + 1 := Nat.le_succ _
  have free : H1 (hp.objs.size + 1) = none := I1.hok.fresh le1
  have hq := q1 (hp.objs.size + 1) free
  have kp : ∀ b o, hp.get? b = some o → ((hp.push (PySem.W.kdv_tup us)).push (PySem.HandSPX.excO C hp.objs.size)).get? b = some o := fun b o z => Heap.get?_push_of_some _ (Heap.get?_push_of_some _ z)
  have new : ((hp.push (PySem.W.kdv_tup us)).push (PySem.HandSPX.excO C hp.objs.size)).get? (hp.objs.size + 1) = some (PySem.HandSPX.excO C hp.objs.size) := by heap_get
  have I2 := I1.laid (t' := tk) (a := hp.objs.size + 1) (o := exo (hp.objs.size + 1) C none) kp le1 (exo_ok new)
  have r2 : Vals (V.ref (hp.objs.size + 1) :: vs) (Value.ref (hp.objs.size + 1) :: us) := .cons rfl r1
  have hl : (Value.ref (hp.objs.size + 1) :: us).length = ps.length := r2.length.symm.trans (F1.len _ _ _ _ hq)
  have lus : us.length ≤ sizeLine := by
    rw [← Paired.length r1, sizeLine_eq]
    omega
  have bd := b _ (Value.ref (hp.objs.size + 1) :: us) I2.kIn (by rw [List.append_nil]; exact hl)
  rw [List.append_nil] at bd
  refine wpAny_call (PySem.HandSPX.call_own F.excBase_ValueError (fun Y => PySem.HandSPX.refsVE_contains Y bm hbm) (I1.kIn _ _ hC) (PySem.W.looks_findIn I1.kIn iC) (fun self => PySem.W.bind_fn I1.kIn self tI) lus ?_)
  refine codeAny_mono (F1.run _ X.stack _ _ ⟨Value.ref (hp.objs.size + 1) :: us, []⟩ (Value.ref (hp.objs.size + 1) :: us) _ _ (fun _ _ _ => False) (room.make C us []) (I2.env0.make C us []) bd r2 hq) fun r s' hq' => ?_
  cases r with
  | error er => exact hx pins σ _ _ er s' I2 hq'
  | ok flw =>
    cases flw with
    | ret u =>
      obtain ⟨v, H2, I3, rv, ev, q2⟩ := I2.after hq'
      subst ev
      exact ⟨rv, ⟨.ref (hp.objs.size + 1), H2, I3, rfl, q2⟩⟩
    | next => exact hq'.elim
    | brk => exact hq'.elim
    | cont => exact hq'.elim
theorem pe_oexK {nk : Str} (T : OexC X.K C) (iC : PySem.W.findIn X.K (.ref C) "__init__" = some (some (.ref fI))) (tI : PySem.W.typeIn X.K (.ref fI) = some (.type "function"))
    (F1 : FnOk X.prog X.w X.K X.mg X.base CX k fI fd ps sp) (room : Room (k + 1) X.A) (b : ∀ (s : Shared) (u v : Value), BindsTo s fd ⟨[u], [(nk, v)]⟩ (ps.zip [u, v])) (l2 : ps.length = 2) (hx : Passes CX X (fun _ _ _ => False)) (hg : Gl X x) (hm : X.mg x = some (.ref C)) (he : PE X e te)
    (all1 : (backToKw pos (keywordEach [⟨some nk, e, kpos⟩] X.env)).all (·.1.isSome) = true := by rfl) (nms : (backToKw pos (keywordEach [⟨some nk, e, kpos⟩] X.env)).filterMap (·.1) = [nk] := by rfl)
    (nodb : (x == ("__debug__" : Str)) = false := by decide) (pl : ((backTo pos (starEach [] X.env)).any (·.1) || (backToKw pos (keywordEach [⟨some nk, e, kpos⟩] X.env)).any (·.1.isNone)) = false := by rfl) :
    PE X (.Call (.Name x p) [] [⟨some nk, e, kpos⟩] pos) (tOexV C sp (tCons te tNil)) := by
  refine ⟨fun pins s σ H Q I0 hh => ?_⟩
  obtain ⟨nm, q, N, bs, bm, sn, sub, ab, col, dd, k0, k1, k2, k3, k5, hC, hbm⟩ := T.cls
  refine wpAny_Call_Name_kw (ld_glob I0 hg hm ?_ nodb)
  refine PySem.W.callWith_KW0 (h₀ := X.base) I0.ok.mod.kin T.kC all1 (thn ((pk_cons he pk_nil).run pos pins s σ H _ I0 hh) ?_) pl
  rintro us s1 ⟨vs, H1, I1, r1, hz, q1⟩
  refine ⟨I1.kIn, ?_⟩
  rw [nms]
  obtain ⟨hp, g, dr, tk, os⟩ := s1
  have le1 : hp.objs.size ≤ hp.objs.size + 1 := Nat.le_succ _
  have free : H1 (hp.objs.size + 1) = none := I1.hok.fresh le1
  have hq := q1 (hp.objs.size + 1) free
  have hlv : vs.length + 1 = 2 := by
    have z := F1.len _ _ _ _ hq
    rw [l2] at z
    exact z
  obtain ⟨v1, rfl⟩ : ∃ v1, vs = [v1] := by
    match vs, hlv with
    | [v1], _ => exact ⟨v1, rfl⟩
  cases r1 with
  | @cons _ u1 _ _ ru rr =>
  cases rr
  show wpAny _ _ (call (.ref C) [] [(nk, u1)]) _ _ _
  have kp : ∀ b o, hp.get? b = some o → ((hp.push (PySem.W.kdv_tup [])).push (PySem.HandSPX.excO C hp.objs.size)).get? b = some o := fun b o z => Heap.get?_push_of_some _ (Heap.get?_push_of_some _ z)
  have new : ((hp.push (PySem.W.kdv_tup [])).push (PySem.HandSPX.excO C hp.objs.size)).get? (hp.objs.size + 1) = some (PySem.HandSPX.excO C hp.objs.size) := by heap_get
  have I2 := I1.laid (t' := tk) (a := hp.objs.size + 1) (o := exo (hp.objs.size + 1) C none) kp le1 (exo_ok new)
  have r2 : Vals [V.ref (hp.objs.size + 1), v1] [Value.ref (hp.objs.size + 1), u1] := .cons rfl (.cons ru .nil)
  refine wpAny_call (PySem.BRX.call_ownK F.excBase_ValueError (fun Y => PySem.HandSPX.refsVE_contains Y bm hbm) (I1.kIn _ _ hC) (PySem.W.looks_findIn I1.kIn iC) (fun self => PySem.W.bind_fn I1.kIn self tI) ?_)
  refine codeAny_mono (F1.run _ X.stack _ _ ⟨[Value.ref (hp.objs.size + 1)], [(nk, u1)]⟩ [Value.ref (hp.objs.size + 1), u1] _ _ (fun _ _ _ => False) (room.make C [] [(nk, u1)]) (I2.env0.make C [] [(nk, u1)]) (b _ _ _) r2 hq) fun r s' hq' => ?_
  cases r with
  | error er => exact hx pins σ _ _ er s' I2 hq'
  | ok flw =>
    cases flw with
    | ret u =>
      obtain ⟨v, H2, I3, rv, ev, q2⟩ := I2.after hq'
      subst ev
      exact ⟨rv, ⟨.ref (hp.objs.size + 1), H2, I3, rfl, q2⟩⟩
    | next => exact hq'.elim
    | brk => exact hq'.elim
    | cont => exact hq'.elim
end
/-! ### e.value -/
/-- an error of the class at C stands at a; its one field f holds v -/
def ErrAt (H : Hp) (a C : Addr) (f : Str) (v : V) : Prop := ∃ d, H a = some (exo a C (some d)) ∧ H d = some (exd d [(f, v)])
theorem ErrAt.same {H H' : Hp} {a C : Addr} {f : Str} {v : V} (h : ErrAt H a C f v) (s : Same H H') : ErrAt H' a C f v := by
  obtain ⟨d, h1, h2⟩ := h
  exact ⟨d, s _ _ h1, s _ _ h2⟩
def tErrF (K : PySem.W.Frag) (f : Str) (te : TE) : TE := fun σ H Q => te σ H fun x H1 => ∃ a C v, x = .ref a ∧ ErrAt H1 a C f v ∧ XfC K C ∧ PySem.W.findIn K (.ref C) f = some none ∧ Q v H1
theorem err_inst {X : Cx} {pins : List (Addr × Obj)} {σ : L2.St} {H : Hp} {s : Shared} {a C : Addr} {f : Str} {v : V} (I : Inv X pins σ H s) (h : ErrAt H a C f v) :
    ∃ (ox od : Obj) (u : Value), PySem.W.InstAt s.heap a ox C (some od) ∧ RelV v u ∧ PySem.W.lookIn f od = some (some u) := by
  obtain ⟨d, h1, h2⟩ := h
  obtain ⟨t1, e1⟩ := exo_at I.hok h1
  obtain ⟨mA, hns, hr⟩ := exd_at I.hok h2
  obtain ⟨od, ho, hl⟩ := lookIn_ns hns
  have l : List.lookup f [(f, v)] = some v := by simp [List.lookup]
  obtain ⟨u, hu, ru⟩ := RelO.some_of (v := v) (o := mA f) (by rw [← l]; exact hr f)
  exact ⟨_, od, u, ⟨e1, rfl, rfl, ho⟩, ru, by rw [hl, hu]⟩
theorem pe_errF {X : Cx} {e : Expr} {te : TE} {pos : Pos} {n : Str} (he : PE X e te) (hb : attributeBase e n X.env (eval e X.env) = eval e X.env := by rfl) : PE X (.Attribute e n pos) (tErrF X.K n te) := by
  refine ⟨fun pins s σ H Q I h => ?_⟩
  refine attr_of hb (thn (he.run pins s σ H _ I h) fun u s1 hh => ?_)
  obtain ⟨x, H1, I1, rx, a, C, v, rfl, ea, T, no, q⟩ := hh
  obtain rfl : u = Value.ref a := rx
  obtain ⟨ox, od, u, J, ru, hl⟩ := err_inst I1 ea
  exact HandSPX.exc_get I1.kIn J T.ga T.gg T.exC (PySem.W.findObj_own T.hdC no rfl hl) (handed_of ru) ⟨v, H1, I1.tok _, ru, q⟩
/-! ### isinstance(e, c), e such an error -/
def rIsErr (K : PySem.W.Frag) : List V → Hp → VK → Prop := fun xs H Q => ∃ a C f v c u b, xs = [.ref a, c] ∧ ErrAt H a C f v ∧ ExcC K C ∧ ClsV c u ∧ PySem.W.kitOne K (.ref C) u = some b ∧ Q (.bl b) H
theorem call_isErr {X : Cx} : CallR X (.builtin "isinstance") (rIsErr X.K) := by
  rintro pins s σ H xs us Q I r ⟨a, C, f, v, c, u, b, rfl, ea, T, kc, ek, q⟩
  obtain ⟨u1, u2, rfl, r1, r2⟩ := vals2 r
  obtain rfl : u1 = Value.ref a := r1
  have e2 := kc.eq r2
  subst e2
  obtain ⟨ox, od, w, J, _, _⟩ := err_inst I ea
  have hcl : (PySem.W.clsIn X.K C).isSome = true := by
    have := T.hd
    unfold PySem.W.hasDictIn at this
    cases z : PySem.W.clsIn X.K C with
    | none => rw [z] at this; exact absurd this (by decide)
    | some y => rfl
  exact PySem.W.kia_one (PySem.W.kitx_exc hcl T.hg T.hk T.hs T.ha T.hn T.ht T.hm) I.kIn J ek (fun z => nomatch z) fun tk => ⟨.bl b, H, I.kept (t' := tk) fun _ _ z => z, rfl, q⟩
def rIsExO (K : PySem.W.Frag) : List V → Hp → VK → Prop := fun xs H Q => ∃ a C c u b, xs = [.ref a, c] ∧ H a = some (ExO (.ref C) a) ∧ ExcC K C ∧ ClsV c u ∧ PySem.W.kitOne K (.ref C) u = some b ∧ Q (.bl b) H
/-- either kind -/
def rIsX (K : PySem.W.Frag) : List V → Hp → VK → Prop := fun xs H Q => rIsErr K xs H Q ∨ rIsExO K xs H Q
theorem call_isX {X : Cx} : CallR X (.builtin "isinstance") (rIsX X.K) := by
  rintro pins s σ H xs us Q I r (h | ⟨a, C, c, u, b, rfl, ea, T, kc, ek, q⟩)
  · exact call_isErr pins s σ H xs us Q I r h
  obtain ⟨u1, u2, rfl, r1, r2⟩ := vals2 r
  obtain rfl : u1 = Value.ref a := r1
  have e2 := kc.eq r2
  subst e2
  obtain ⟨⟨oe, vs, ho, hz, hd, _⟩, _, _⟩ := I.hok a _ ea
  have J : PySem.W.InstAt s.heap a oe C none := by
    obtain ⟨oc, od, oda, osl⟩ := oe
    obtain ⟨h1, h2⟩ := hz
    dsimp only at h1 h2 hd
    subst h1 h2 hd
    exact ⟨ho, rfl, rfl, trivial⟩
  exact PySem.W.kia_one (PySem.W.handS_kitx_exc T.hg T.hk T.hs T.hd T.ha T.hn T.ht T.hm) I.kIn J ek (fun z => nomatch z) fun tk => ⟨.bl b, H, I.kept (t' := tk) fun _ _ z => z, rfl, q⟩
/-! ### repr of None, a text, an int, or data -/
def rReprA (K : PySem.W.Frag) : List V → Hp → VK → Prop := fun xs H Q => ∃ x d, xs = [x] ∧ Dp K H x d ∧ d.showable = true ∧ d.hasDict = false ∧ d.depth ≤ 60 ∧ d.shown.length ≤ sizeLine ∧ Q (.str d.shown) H
theorem call_reprA {X : Cx} (gg : X.A.guards = some []) (hu : X.A.units + 64 < cLine) : CallR X (.builtin "repr") (rReprA X.K) := by
  rintro pins s σ H xs us Q I r ⟨x, d, rfl, hd, h1, h2, h3, h4, q⟩
  obtain ⟨u, rfl, ru⟩ := vals1 r
  cases hd with
  | non =>
    obtain rfl : u = Value.none := ru
    exact PySem.P.repr_of_none ⟨.str _, H, I.tok _, ⟨_, rfl⟩, q⟩
  | bl b =>
    obtain rfl : u = Value.bool b := ru
    exact PySem.P.repr_of_bool ⟨.str _, H, I.tok _, ⟨_, rfl⟩, q⟩
  | int i =>
    obtain ⟨t, rfl⟩ := ru
    exact PySem.P.repr_of_int (of_decide_eq_true h1) ⟨.str _, H, I.tok _, ⟨_, rfl⟩, q⟩
  | str y =>
    obtain ⟨t, rfl⟩ := ru
    exact PySem.P.repr_of_str ⟨.str _, H, I.tok _, ⟨_, rfl⟩, q⟩ h4
  | lst hs ha => exact call_reprD gg hu pins s σ H _ _ Q I r ⟨_, _, rfl, .lst hs ha, h1, h2, h3, h4, q⟩
  | tup hs ha => exact call_reprD gg hu pins s σ H _ _ Q I r ⟨_, _, rfl, .tup hs ha, h1, h2, h3, h4, q⟩
end BR

namespace BR
open PySem PySem.Spec PyProof.Rows L2
/-- what the top says of an error class whose __init__ stores value -/
structure ErrTxt (K : PySem.W.Frag) (C fI : Addr) : Prop where
  ox : OexC K C
  ec : ExcC K C
  no : PySem.W.findIn K (.ref C) "value" = some none
  ii : PySem.W.findIn K (.ref C) "__init__" = some (some (.ref fI))
  ti : PySem.W.typeIn K (.ref fI) = some (.type "function")
theorem xf_of {K : PySem.W.Frag} {C : Addr} (e : ExcC K C) : XfC K C := ⟨e.hg, e.hk, e.hs, e.hd⟩
def sp_err (C : Addr) : Sp := fun vs H Q _ => ∃ (a : Addr) (v : V), vs = [.ref a, v] ∧ H a = some (exo a C none) ∧ ∀ d, H d = none → d ≠ a → Q .non (L2.upd (L2.upd H d (exd d [("value", v)])) a (exo a C (some d)))
theorem oex_var {C : Addr} {i : Nat} {v : V} {σ : L2.St} {H : Hp} {Q : VK} (hv : σ[i]? = some (some v)) (k : ∀ e H', H e = none → Same H H' → ErrAt H' e C "value" v → Q (.ref e) H') : tOexV C (sp_err C) (tCons (tVar i) tNil) σ H Q := by
  refine ⟨v, hv, (by show 1 ≤ 1000; decide), fun e he => ⟨e, v, rfl, upd_same, fun d hd ne => ⟨rfl, ?_⟩⟩⟩
  rw [upd_ne ne] at hd
  refine k e _ he (fun b o z => ?_) ⟨d, upd_same, ?_⟩
  · rw [upd_ne (ne_of_none z he), upd_ne (ne_of_none z hd), upd_ne (ne_of_none z he)]
    exact z
  · rw [upd_ne ne, upd_same]
/-- two errors of the class at C in a tuple at t -/
def PairAt (H : Hp) (t C : Addr) (v : V) : Prop := ∃ e1 e2, H t = some (.tup [.ref e1, .ref e2]) ∧ ErrAt H e1 C "value" v ∧ ErrAt H e2 C "value" v
theorem PairAt.same {H H' : Hp} {t C : Addr} {v : V} (h : PairAt H t C v) (s : Same H H') : PairAt H' t C v := by
  obtain ⟨e1, e2, h1, h2, h3⟩ := h
  exact ⟨e1, e2, s _ _ h1, h2.same s, h3.same s⟩
theorem ErrAt.but {H H' : Hp} {a C l : Addr} {f : Str} {v : V} {xs : List V} (h : ErrAt H a C f v) (hl : H l = some (.lst xs)) (s : But l H H') : ErrAt H' a C f v := by
  obtain ⟨d, h1, h2⟩ := h
  refine ⟨d, s _ _ (fun z => ?_) h1, s _ _ (fun z => ?_) h2⟩
  · rw [z, hl] at h1
    cases (show HO.lst xs = HO.ext _ from Option.some.inj h1)
  · rw [z, hl] at h2
    cases (show HO.lst xs = HO.ext _ from Option.some.inj h2)
theorem PairAt.but {H H' : Hp} {t C l : Addr} {v : V} {xs : List V} (h : PairAt H t C v) (hl : H l = some (.lst xs)) (s : But l H H') : PairAt H' t C v := by
  obtain ⟨e1, e2, h1, h2, h3⟩ := h
  refine ⟨e1, e2, s _ _ (fun z => ?_) h1, h2.but hl s, h3.but hl s⟩
  rw [z, hl] at h1
  cases h1
theorem rdTup {ta : TA} {σ : L2.St} {H : Hp} {Q : VK} (h : ta σ H fun xs H1 => xs.length ≤ sizeLine ∧ ∀ p, H1 p = none → Q (.ref p) (L2.upd H1 p (.tup xs))) : tTup ta σ H Q := h
theorem rdLst {ta : TA} {σ : L2.St} {H : Hp} {Q : VK} (h : ta σ H fun xs H1 => xs.length ≤ sizeLine ∧ ∀ p, H1 p = none → Q (.ref p) (L2.upd H1 p (.lst xs))) : tLst ta σ H Q := h
theorem rdCons {te : TE} {t : TA} {σ : L2.St} {H : Hp} {Q : List V → Hp → Prop} (h : te σ H fun x H1 => t σ H1 fun xs H2 => Q (x :: xs) H2) : tCons te t σ H Q := h
theorem rdSeq {t u : TS} {D : Ends} {σ : L2.St} {H : Hp} (h : t { D with nx := u D } σ H) : tSeq t u D σ H := h
theorem rdAsg {te : TE} {i : Nat} {D : Ends} {σ : L2.St} {H : Hp} (h : te σ H fun v H1 => D.nx (σ.set i (some v)) H1) : tAsg te (gName i) D σ H := h
theorem rdNil {σ : L2.St} {H : Hp} {Q : List V → Hp → Prop} (h : Q [] H) : tNil σ H Q := h
abbrev tPairE (C : Addr) : TE := tTup (tCons (tOexV C (sp_err C) (tCons (tVar 0) tNil)) (tCons (tOexV C (sp_err C) (tCons (tVar 0) tNil)) tNil))
theorem pair_made {C : Addr} {v : V} {σ : L2.St} {H : Hp} {Q : VK} (hv : σ[0]? = some (some v)) (k : ∀ t H', H t = none → Same H H' → PairAt H' t C v → Q (.ref t) H') : tPairE C σ H Q := by
  refine rdTup (rdCons (oex_var hv fun e1 H1 f1 s1 r1 => rdCons (oex_var hv fun e2 H2 f2 s2 r2 => rdNil ?_)))
  refine ⟨(by show 2 ≤ sizeLine; decide), fun t ht => ?_⟩
  have s3 := sameNew ht (o := .tup [.ref e1, .ref e2])
  exact k t _ ((s1.trans s2).free ht) (s1.trans (s2.trans s3)) ⟨e1, e2, upd_same, r1.same (s2.trans s3), r2.same s3⟩
/-- the list at l: a pair of errors for each class -/
def MadeAt (H : Hp) (l : Addr) (Cs : List Addr) (v : V) : Prop := ∃ ts : List Addr, H l = some (.lst (ts.map V.ref)) ∧ ts.length = Cs.length ∧ ∀ (j : Nat) (t C : Addr), ts[j]? = some t → Cs[j]? = some C → PairAt H t C v
theorem app_pair {K : PySem.W.Frag} {C l : Addr} {Cs : List Addr} {v : V} {σ : L2.St} {H : Hp} {D : Ends} (hv : σ[0]? = some (some v)) (hl : σ[1]? = some (some (.ref l))) (m : MadeAt H l Cs v) (hz : Cs.length ≤ 100)
    (k : ∀ H', But l H H' → MadeAt H' l (Cs ++ [C]) v → D.nx σ H') : tDrop (tBM K "list" rAppend (tVar 1) (tCons (tPairE C) tNil)) D σ H := by
  obtain ⟨ts, h1, h2, h3⟩ := m
  refine ⟨_, hl, .inl ⟨rfl, _, SqL.of h1⟩, ?_⟩
  refine rdCons (pair_made hv fun t H1 ht s1 p => rdNil ?_)
  have h1' := s1 _ _ h1
  refine ⟨l, _, _, rfl, rfl, h1', small1000 (by rw [List.length_map]; omega), ?_⟩
  have b : But l H1 (L2.upd H1 l (.lst (ts.map V.ref ++ [V.ref t]))) := But.upd
  refine k _ ((But.of s1).trans b) ⟨ts ++ [t], ?_, by rw [List.length_append, List.length_append, h2]; rfl, fun j u C' hj hC => ?_⟩
  · rw [upd_same, List.map_append]
    rfl
  · by_cases hjl : j < ts.length
    · rw [List.getElem?_append_left hjl] at hj
      rw [List.getElem?_append_left (by omega)] at hC
      exact ((h3 j u C' hj hC).same s1).but h1' b
    · rw [List.getElem?_append_right (by omega)] at hj hC
      have e : j - ts.length = 0 := by
        have := (List.getElem?_eq_some_iff.mp hj).1
        simp at this
        omega
      rw [e] at hj
      rw [show j - Cs.length = 0 by omega] at hC
      cases hj
      cases hC
      exact p.but h1' b
/-! ### isinstance, class by class -/
def kitTab (K : PySem.W.Frag) (Cs : List Addr) (B : Addr) : Bool :=
  (Cs.zipIdx.all fun p => Cs.zipIdx.all fun q => decide (PySem.W.kitOne K (.ref p.1) (.ref q.1) = some (decide (p.2 = q.2)))) &&
    Cs.all fun c => decide (PySem.W.kitOne K (.ref c) (.ref B) = some true) && decide (PySem.W.kitOne K (.ref c) (.type "ValueError") = some true) && decide (PySem.W.kitOne K (.ref B) (.ref c) = some false)
section
variable {K : PySem.W.Frag} {Cs : List Addr} {B : Addr}
theorem kit_ij (h : kitTab K Cs B = true) {i j : Nat} {c d : Addr} (hi : Cs[i]? = some c) (hj : Cs[j]? = some d) : PySem.W.kitOne K (.ref c) (.ref d) = some (decide (i = j)) := by
  have h1 := (Bool.and_eq_true_iff.mp h).1
  have h2 := List.all_eq_true.mp h1 (c, i) (List.mk_mem_zipIdx_iff_getElem?.mpr hi)
  have h3 := List.all_eq_true.mp h2 (d, j) (List.mk_mem_zipIdx_iff_getElem?.mpr hj)
  exact of_decide_eq_true h3
theorem kit_b (h : kitTab K Cs B = true) {i : Nat} {c : Addr} (hi : Cs[i]? = some c) : PySem.W.kitOne K (.ref c) (.ref B) = some true ∧ PySem.W.kitOne K (.ref c) (.type "ValueError") = some true ∧ PySem.W.kitOne K (.ref B) (.ref c) = some false := by
  have h1 := (Bool.and_eq_true_iff.mp h).2
  have h2 := List.all_eq_true.mp h1 c (List.mem_of_getElem? hi)
  have h3 := Bool.and_eq_true_iff.mp h2
  have h4 := Bool.and_eq_true_iff.mp h3.1
  exact ⟨of_decide_eq_true h4.1, of_decide_eq_true h4.2, of_decide_eq_true h3.2⟩
end
/-! ### lists of bools -/
theorem bls_all {K : PySem.W.Frag} {H : Hp} : ∀ bs : List Bool, DpAll K H (bs.map V.bl) (bs.map PyData.bool)
  | [] => .nil
  | b :: r => .cons (.bl b) (bls_all r)
theorem bls_lay : ∀ bs : List Bool, PyData.canLayAll0 (bs.map PyData.bool) = true ∧ PyData.depthAll (bs.map PyData.bool) = 0
  | [] => ⟨rfl, rfl⟩
  | b :: r => by
    obtain ⟨h1, h2⟩ := bls_lay r
    refine ⟨?_, ?_⟩
    · show (PyData.canLay0 (.bool b) && PyData.canLayAll0 (r.map PyData.bool)) = true
      rw [h1]
      rfl
    · show max (PyData.depth (.bool b)) (PyData.depthAll (r.map PyData.bool)) = 0
      rw [h2]
      rfl
theorem bls_shaped (bs : List Bool) : SeqAt.shaped (.list (bs.map PyData.bool)) = true := by
  obtain ⟨h1, h2⟩ := bls_lay bs
  unfold SeqAt.shaped
  show (PyData.canLayAll0 (bs.map PyData.bool) && decide (PyData.depthAll (bs.map PyData.bool) + 1 ≤ 64)) = true
  rw [h1, h2]
  rfl
theorem eqv_bls (bs : List Bool) : PyData.eqv (.list (bs.map PyData.bool)) (.list (bs.map PyData.bool)) = true := SeqAt.eqv_refl _ (SeqAt.canLay_of_shaped (bls_shaped bs))
theorem seq0 {n : Nat} (h : 0 < n) : seqIndex? 0 n = some 0 := by
  unfold seqIndex?
  simp
  omega
/-- [e for x in range(15)] and its like: bools -/
theorem lc_bools {n : Nat} {j : Nat} {te : TE} {vs : List Nat} {σ : L2.St} {H1 : Hp} {D : Addr} {Qd : Hp → Prop} (f : Nat → Bool) (hz : n ≤ 1000) (hD : H1 D = none)
    (hw : ∀ x : V, wipe ((wipe σ vs).set j (some x)) vs = wipe σ vs)
    (he : ∀ (i : Nat) (H2 : Hp) (Q : VK), Same H1 H2 → (∀ H3, Same H2 H3 → Q (.bl (f i)) H3) → te ((wipe σ vs).set j (some (.int (0 + (i : Nat))))) H2 Q)
    (hd : ∀ H, Same H1 H → H D = some (.lst (((List.range n).map f).map V.bl)) → Qd H) :
    ∃ W : Nat → Nat → Hp → Prop, (∃ m, W 0 m (L2.upd H1 D (.lst []))) ∧ ∀ i m H, W i m H →
      ((Itr 0 n).stop i H ∧ Qd H) ∨ ((Itr 0 n).go i H ∧ ∃ Nx : Hp → Prop, (∀ H', Nx H' → ∃ m', m' < m ∧ W (i + 1) m' H') ∧ ∀ x H', (Itr 0 n).yld i H x H' → gName j x (wipe σ vs) H' fun σ2 H2 => wipe σ2 vs = wipe σ vs ∧ tYes σ2 H2 fun b H3 =>
        if b = true then te σ2 H3 fun y H4 => ∃ acc, H4 D = some (.lst acc) ∧ acc.length < sizeLine ∧ Nx (L2.upd H4 D (.lst (acc ++ [y]))) else Nx H3) := by
  refine lc_range (lo := 0) (n := n) (fun i H => Same H1 H ∧ H D = some (.lst (((List.range i).map f).map V.bl)) ∧ i ≤ n) ⟨sameNew hD, upd_same, Nat.zero_le _⟩ ?_ (fun H p => hd H p.1 p.2.1)
  rintro i H hi ⟨s, hH, _⟩
  refine ⟨hw _, ?_⟩
  show te ((wipe σ vs).set j (some (.int (0 + (i : Nat))))) H _
  refine he i H _ s fun H3 s3 => ?_
  refine ⟨_, s3 _ _ hH, small1000 (by rw [List.length_map, List.length_map, List.length_range]; omega), fun b o e => ?_, ?_, hi⟩
  · rw [upd_ne (ne_of_none e hD)]
    exact s3 _ _ (s _ _ e)
  · rw [upd_same, List.range_succ, List.map_append, List.map_append]
    rfl
/-- what is handed to the errors -/
structure Shows (K : PySem.W.Frag) (H : Hp) (v : V) (d : PyData) : Prop where
  dp : ∀ H', Same H H' → Dp K H' v d
  o1 : d.showable = true
  o2 : d.hasDict = false
  o3 : d.depth ≤ 60
  o4 : d.shown.length ≤ sizeLine
/-! ### the bag -/
abbrev bagK (l : Addr) (left turn blend : Int) : List (Key × V) := [(.inr "great", .ref l), (.inr "left", .int left), (.inr "turn", .int turn), (.inr "blend", .int blend)]
theorem bag_left (l : Addr) (a b c : Int) : valV (bagK l a b c) (.inr "left" : Key) = some (.int a) := rfl
theorem bag_great (l : Addr) (a b c : Int) : valV (bagK l a b c) (.inr "great" : Key) = some (.ref l) := rfl
theorem bag_turn (l : Addr) (a b c : Int) : valV (bagK l a b c) (.inr "turn" : Key) = some (.int b) := rfl
theorem bag_blend (l : Addr) (a b c : Int) : valV (bagK l a b c) (.inr "blend" : Key) = some (.int c) := rfl
theorem bag_put_left (l : Addr) (a b c z : Int) : putK (bagK l a b c) (.inr "left" : Key) (.int z) = bagK l z b c := rfl
theorem bag_put_turn (l : Addr) (a b c z : Int) : putK (bagK l a b c) (.inr "turn" : Key) (.int z) = bagK l a z c := rfl
theorem bag_merge (l : Addr) (a b c : Int) : mergeK [] (bagK l a b c) = bagK l a b c := rfl
end BR

/-! ### try: .. except x as n: suite, where the error is kept behind the suite -/
namespace BR
open PySem PySem.Spec PyProof.Rows L2
/-- an error of the class cls, its dict at d, stands at a -/
def exk (a : Addr) (cls : Value) (d : Option Addr) : HO := .ext fun h => ∃ (oe : Obj) (vs : Array Value), h.get? a = some oe ∧ Zc cls d oe ∧ oe.data = .fields vs
theorem exk_ok {P : Program} {w : World} {H : Hp} {h : Heap} {a : Addr} {cls : Value} {d : Option Addr} {oe : Obj} {vs : Array Value} (e : h.get? a = some oe) (z : Zc cls d oe) (dd : oe.data = .fields vs) : ObjOk P w H h a (exk a cls d) :=
  ⟨⟨oe, vs, e, z, dd⟩, ⟨oe, e⟩, fun h1 h2 q k => by
    obtain ⟨o1, v1, q1, q2, q3⟩ := q
    exact ⟨o1, v1, k _ q1, q2, q3⟩⟩
section
variable {X : Cx} {pins : List (Addr × Obj)} {σ : L2.St} {H : Hp} {s : Shared} {a : Addr} {o : Obj} {ob : HO}
/-- what is pinned becomes a thing of the abstract heap -/
theorem inv_track (I : Inv X ((a, o) :: pins) σ H s) (new : X.s_0.heap.get? a = none) (apart : ∀ p ∈ X.pn ++ pins, p.1 ≠ a) (is : ObjOk X.prog X.w (L2.upd H a ob) s.heap a ob) : Inv X pins σ (L2.upd H a ob) s := by
  obtain ⟨ha, hn, nL, nF, nc⟩ := I.pin (a, o) (List.mem_append_right _ List.mem_cons_self)
  have old : ∀ {b : Addr} {u : Obj}, X.s_0.heap.get? b = some u → b ≠ a := fun {b u} q e => by
    rw [e, new] at q
    cases q
  refine ⟨I.ok, I.os, I.bare, { keep := I.base.keep, slot := I.base.slot, there := I.base.there, free := fun b u q n x => ?_, tups := fun b xs q => ?_, frzs := fun b u v q => ?_, tbls := fun b ps q => ?_ }, I.loc, I.cell, ?_, fun x c q => ?_, fun p hp => ?_, fun b u q => ?_, I.len⟩
  · rw [upd_ne (old q)]
    exact I.base.free b u q n x
  · have z := I.base.tups b xs q
    rw [upd_ne (ne_of_none z hn)]
    exact z
  · have z := I.base.frzs b u v q
    rw [upd_ne (ne_of_none z hn)]
    exact z
  · obtain ⟨m, z⟩ := I.base.tbls b ps q
    exact ⟨m, by rw [upd_ne (ne_of_none z hn)]; exact z⟩
  · rw [upd_ne (Ne.symm nL)]
    exact I.free
  · obtain ⟨v, u, q1, q2⟩ := I.cell x c q
    have ca : c ≠ a := fun e => by
      rw [e] at q1
      rw [ha] at q1
      cases q1
      exact nc v q2
    rw [upd_ne ca]
    exact I.freeC x c q
  · have ne := apart p hp
    have mem : p ∈ X.pn ++ (a, o) :: pins := by
      rcases List.mem_append.mp hp with z | z
      · exact List.mem_append_left _ z
      · exact List.mem_append_right _ (List.mem_cons_of_mem _ z)
    obtain ⟨y1, y2, y3, y4, y5⟩ := I.pin p mem
    exact ⟨y1, by rw [upd_ne ne]; exact y2, y3, y4, y5⟩
  · by_cases e : b = a
    · subst e
      rw [upd_same] at q
      cases q
      exact is
    · rw [upd_ne e] at q
      exact (I.hok b u q).stay (fun c v _ y => y) (fun c y => by rw [upd_ne (ne_of_none y hn)]; exact y) fun c xs y => by rw [upd_ne (ne_of_none y hn)]; exact y
/-- behind the suite: the error is a pin of the frame's own -/
theorem inv_outSuite (I : Inv (X.suite a ((a, o) :: (X.pn ++ pins))) [] σ H s) (ok : X.Ok) : Inv X ((a, o) :: pins) σ H s :=
  ⟨ok, I.os, I.bare, I.base, I.loc, I.cell, I.free, I.freeC, fun p hp => I.pin p (by
    refine List.mem_append_left _ ?_
    rcases List.mem_append.mp hp with z | z
    · exact List.mem_cons_of_mem _ (List.mem_append_left _ z)
    · rcases List.mem_cons.mp z with z | z
      · rw [z]
        exact List.mem_cons_self
      · exact List.mem_cons_of_mem _ (List.mem_append_right _ z)), I.hok, I.len⟩
end
/-- what is wished of an error that the body lets out -/
def wKept (K : PySem.W.Frag) (c : Value) (i : Nat) (ts : Addr → Value → Option Addr → TS) (D : Ends) : WX := fun cls d σ H =>
  PySem.W.exmOne K cls c = some true ∧ ∀ a, H a = none → ts a cls d { nx := fun σ1 H1 => H1 a = none → D.nx (σ1.set i none) (L2.upd H1 a (exk a cls d)), rt := fun _ _ => False } (σ.set i (some (.ref a))) H
section
variable {X : Cx} {x n : Str} {c : Value} {i : Nat} {body suite : List Stmt} {st0 : Stmt} {np pos hpos : Pos} {tb : WX → TS} {ts : Addr → Value → Option Addr → TS}
theorem ps_try_kept (stk : X.stack = X.env :: X.outer) (lf : X.env.frame = some X.env.locals) (ex0 : X.ex = []) (nd : X.N.Nodup) (ix : X.N[i]? = some n) (kl : X.env.kindOf n = some .local) (nc : Names X x c)
    (bodyOk : ∀ (W : WX) (pn : List (Addr × Obj)) (xe : Value → Shared → Prop), Takes (X.tr pn xe) W → PassesOwn (model X.prog X.w) X.A X.env xe → PSs (X.tr pn xe) body (tb W))
    (suiteOk : ∀ (a : Addr) (oe : Obj) (cls : Value) (d : Option Addr) (pn : List (Addr × Obj)), Zc cls d oe → (∃ vs, oe.data = .fields vs) → PSs (X.suite a ((a, oe) :: pn)) (st0 :: suite) (ts a cls d)) :
    PS X (.Try body [.ExceptHandler (some (.Name x np)) (some n) (st0 :: suite) hpos] [] [] pos) (fun D σ H => tb (wKept X.K c i ts D) D σ H) := by
  refine ⟨fun pins s σ H D I0 wish => ?_⟩
  have okX := I0.ok
  have frames : X.A.frames = some (X.env :: X.outer) := okX.frames.trans (by rw [stk])
  refine wpAny_Try_except (wpAny_mono ((bodyOk (wKept X.K c i ts D) (X.pn ++ pins) (fun er s1 => wpAny (model X.prog X.w) X.A (noteFrame er X.env) (fun _ s2 => wpAny (model X.prog X.w) X.A (setFlight er none)
    (fun _ s3 => wpAny (model X.prog X.w) X.A (handleBy er X.env [.ExceptHandler (some (.Name x np)) (some n) (st0 :: suite) hpos]) (SP X pins D) X.xe s3) X.xe s2) X.xe s1) ?caught PassesOwn.looking).run [] s σ H D (I0.toTry _) wish) ?through fun _ _ z => z)
  case through =>
    intro fl s1 sp
    cases fl with
    | next =>
      obtain ⟨σ1, H1, J, q⟩ := sp
      exact wpAny_execs_nil ⟨σ1, H1, J.ofTry okX, q⟩
    | ret v =>
      obtain ⟨v1, σ1, H1, J, r, q⟩ := sp
      exact ⟨v1, σ1, H1, J.ofTry okX, r, q⟩
    | brk =>
      obtain ⟨σ1, H1, J, q⟩ := sp
      exact ⟨σ1, H1, J.ofTry okX, q⟩
    | cont =>
      obtain ⟨σ1, H1, J, q⟩ := sp
      exact ⟨σ1, H1, J.ofTry okX, q⟩
  case caught =>
    rintro u s1 ⟨a, B, sI, pins1, σ1, H1, cls, d, rfl, J0, nb, up, sky, na, os1, bare1, match1, wish1⟩
    have J : Inv X pins σ1 H1 sI := J0.ofTry okX
    have sky1 : Sky B (X.env :: X.outer) a (Zc cls d) X.env.locals s1.heap := by
      rw [← stk]
      exact sky
    have fresh : B.get? a = none := by
      rcases sky1 with ⟨_, z, _⟩ | ⟨_, z, _⟩ | ⟨_, z, _⟩ <;> exact z
    show wpAny (model X.prog X.w) X.A (noteFrame (.ref a) X.env) _ _ _
    refine Sky.land Zc.steady frames lf sky1 fun h2 fly2 up2 => ?_
    obtain ⟨oe2, vs2, at2, z2, d2⟩ := fly2.there
    have noFrame : a ∉ frs (X.env :: X.outer) := fun m => by
      obtain ⟨_, o', e', nf⟩ := fly2.2.2.1.mem m
      rw [at2] at e'
      cases e'
      exact nf _ d2
    have noI : sI.heap.get? a = none := by
      cases z : sI.heap.get? a with
      | none => rfl
      | some o =>
        have y := nb a o z (by rw [stk]; exact noFrame)
        rw [fresh] at y
        cases y
    have new0 : X.s_0.heap.get? a = none := by
      cases z : X.s_0.heap.get? a with
      | none => rfl
      | some o =>
        obtain ⟨o', y⟩ := J.base.there a o z (by rw [ex0]; simp)
        rw [noI] at y
        cases y
    have apart : ∀ p ∈ X.pn ++ pins, p.1 ≠ a := fun p hp e => by
      have y := (J.pin p hp).1
      rw [e, noI] at y
      cases y
    have nL : a ≠ X.env.locals := fun e => noFrame (List.mem_filterMap.mpr ⟨X.env, List.mem_cons_self, by rw [lf, e]⟩)
    have nF : a ∉ X.fs := fun m => by
      obtain ⟨en, hen, q⟩ := List.mem_filterMap.mp m
      exact noFrame (List.mem_filterMap.mpr ⟨en, List.mem_cons_of_mem _ hen, q⟩)
    have J2 : Inv X pins σ1 H1 { s1 with heap := h2 } := J.landed nb fly2.1 (up.trans up2) os1 bare1
    have S2 := J2.suite at2 d2 na nL nF
    refine wpAny_handleBy_cons (codeAny_handlers_test ?_) (by intro q; cases q)
    have ty : PySem.W.Looks (model X.prog X.w) h2 (typeOf (.ref a)) cls := fun A Q E s k q => wpAny_typeOf_ref (k _ _ at2) (by rw [z2.1]; exact q)
    have named : ∀ {Q : Value → Shared → Prop} {E : Value → Shared → Prop}, Q c { s1 with heap := h2 } → wpAny (model X.prog X.w) (X.A.mark (some (.ref a))) (eval (.Name x np) X.env) Q E { s1 with heap := h2 } := fun {Q E} q => by
      obtain ⟨g1, g2, g3⟩ := nc
      rcases g3 with g3 | ⟨g3, g4, g5⟩
      · exact ld_glob (X := X.suite a ((a, oe2) :: (X.pn ++ pins))) S2 g1 g3 q g2
      · exact ld_blt (X := X.suite a ((a, oe2) :: (X.pn ++ pins))) S2 g1 g3 g4 q g5 g2
    refine named ((PySem.W.exm_one (M := model X.prog X.w) J2.kIn ty match1).here (codeAny_handlers_suite_as (HandSPX.lands_againZ fly2 fun h3 fly3 up3 => ?_)))
    obtain ⟨oe3, vs3, at3, z3, d3⟩ := fly3.there
    have J3 : Inv X pins σ1 H1 { s1 with heap := h3 } := J.landed nb fly3.1 ((up.trans up2).trans up3) os1 bare1
    refine store_ok (X := X.suite a ((a, oe3) :: (X.pn ++ pins))) (v := .ref a) (J3.suite at3 d3 na nL nF) nd ix (.inl kl) rfl (fun s4 S4 => ?_) (.inr kl)
    refine wpAny_mono ((suiteOk a oe3 cls d (X.pn ++ pins) z3 ⟨_, d3⟩).run [] s4 _ H1 _ S4 (wish1 a na)) (fun fl s5 sp => ?_) fun _ _ z => False.elim z
    cases fl with
    | next =>
      obtain ⟨σ5, H5, S5, q5⟩ := sp
      refine gone_ok (inv_outSuite S5 okX) nd ix kl fun s6 J6 => ?_
      obtain ⟨at6, n6, _⟩ := J6.pin (a, oe3) (List.mem_append_right _ List.mem_cons_self)
      exact ⟨_, _, inv_track J6 new0 apart (exk_ok at6 z3 d3), q5 n6⟩
    | brk =>
      obtain ⟨_, _, _, z⟩ := sp
      exact z.elim
    | cont =>
      obtain ⟨_, _, _, z⟩ := sp
      exact z.elim
    | ret v =>
      obtain ⟨_, _, _, _, _, z⟩ := sp
      exact z.elim
end
end BR

/-! ### an error that was caught and kept: its field, isinstance -/
namespace BR
open PySem PySem.Spec PyProof.Rows L2
/-- an error of the class at C that was caught stands at a; its one field f holds v -/
def ErrK (H : Hp) (a C : Addr) (f : Str) (v : V) : Prop := ∃ d, H a = some (exk a (.ref C) (some d)) ∧ H d = some (.xd [(f, v)])
theorem ErrK.same {H H' : Hp} {a C : Addr} {f : Str} {v : V} (h : ErrK H a C f v) (s : Same H H') : ErrK H' a C f v := by
  obtain ⟨d, h1, h2⟩ := h
  exact ⟨d, s _ _ h1, s _ _ h2⟩
theorem errK_inst {X : Cx} {pins : List (Addr × Obj)} {σ : L2.St} {H : Hp} {s : Shared} {a C : Addr} {f : Str} {v : V} (I : Inv X pins σ H s) (h : ErrK H a C f v) :
    ∃ (ox od : Obj) (u : Value), PySem.W.InstAt s.heap a ox C (some od) ∧ RelV v u ∧ PySem.W.lookIn f od = some (some u) := by
  obtain ⟨d, h1, h2⟩ := h
  have x : ObjOk X.prog X.w H s.heap a (.ext fun h => ∃ (oe : Obj) (vs : Array Value), h.get? a = some oe ∧ Zc (.ref C) (some d) oe ∧ oe.data = .fields vs) := I.hok a _ h1
  obtain ⟨⟨oe, vs, e1, z, hd⟩, _, _⟩ := x
  have y : ObjOk X.prog X.w H s.heap d (.xd [(f, v)]) := I.hok d _ h2
  obtain ⟨mA, hns, hr⟩ := y
  obtain ⟨od, ho, hl⟩ := lookIn_ns hns
  have l : List.lookup f [(f, v)] = some v := by simp [List.lookup]
  obtain ⟨u, hu, ru⟩ := RelO.some_of (v := v) (o := mA f) (by rw [← l]; exact hr f)
  exact ⟨oe, od, u, ⟨e1, z.1, by unfold PySem.W.notCls; rw [hd] <;> rfl, by rw [z.2]; exact ho⟩, ru, by rw [hl, hu]⟩
def tErrK (K : PySem.W.Frag) (f : Str) (te : TE) : TE := fun σ H Q => te σ H fun x H1 => ∃ a C v, x = .ref a ∧ ErrK H1 a C f v ∧ XfC K C ∧ PySem.W.findIn K (.ref C) f = some none ∧ Q v H1
theorem pe_errK {X : Cx} {e : Expr} {te : TE} {pos : Pos} {n : Str} (he : PE X e te) (hb : attributeBase e n X.env (eval e X.env) = eval e X.env := by rfl) : PE X (.Attribute e n pos) (tErrK X.K n te) := by
  refine ⟨fun pins s σ H Q I h => attr_of hb (thn (he.run pins s σ H _ I h) ?_)⟩
  rintro u s1 ⟨x, H1, I1, rx, a, C, v, rfl, ea, T, no, q⟩
  obtain rfl : u = Value.ref a := rx
  obtain ⟨ox, od, w, J, ru, hl⟩ := errK_inst I1 ea
  exact HandSPX.exc_get I1.kIn J T.ga T.gg T.exC (PySem.W.findObj_own T.hdC no rfl hl) (handed_of ru) ⟨v, H1, I1.tok _, ru, q⟩
theorem cls_of {K : PySem.W.Frag} {C : Addr} (T : ExcC K C) : (PySem.W.clsIn K C).isSome = true := by
  have z := T.hd
  unfold PySem.W.hasDictIn at z
  cases y : PySem.W.clsIn K C with
  | none =>
    rw [y] at z
    exact absurd z (by decide)
  | some c => rfl
/-- isinstance(e, c) -/
def rIsK1 (K : PySem.W.Frag) : List V → Hp → VK → Prop := fun xs H Q => ∃ a C f v c u b, xs = [.ref a, c] ∧ ErrK H a C f v ∧ ExcC K C ∧ ClsV c u ∧ PySem.W.kitOne K (.ref C) u = some b ∧ Q (.bl b) H
/-- isinstance(e, (c, ..)) -/
def rIsKT (K : PySem.W.Frag) : List V → Hp → VK → Prop := fun xs H Q => ∃ a C f v tp cs us b, xs = [.ref a, .ref tp] ∧ ErrK H a C f v ∧ ExcC K C ∧ H tp = some (.tup cs) ∧ Paired ClsV cs us ∧ PySem.W.kitAny K (.ref C) us = some b ∧ Q (.bl b) H
def rIsK (K : PySem.W.Frag) : List V → Hp → VK → Prop := fun xs H Q => rIsK1 K xs H Q ∨ rIsKT K xs H Q
theorem call_isK {X : Cx} : CallR X (.builtin "isinstance") (rIsK X.K) := by
  rintro pins s σ H xs us Q I r (⟨a, C, f, v, c, u, b, rfl, ea, T, kc, ek, q⟩ | ⟨a, C, f, v, tp, cs, ws, b, rfl, ea, T, ht, kc, ek, q⟩)
  · obtain ⟨u1, u2, rfl, r1, r2⟩ := vals2 r
    obtain rfl : u1 = Value.ref a := r1
    have e2 := kc.eq r2
    subst e2
    obtain ⟨ox, od, w, J, _, _⟩ := errK_inst I ea
    exact PySem.W.kia_one (PySem.W.kitx_exc (cls_of T) T.hg T.hk T.hs T.ha T.hn T.ht T.hm) I.kIn J ek (fun z => nomatch z) fun tk => ⟨.bl b, H, I.kept (t' := tk) fun _ _ z => z, rfl, q⟩
  · obtain ⟨u1, u2, rfl, r1, r2⟩ := vals2 r
    obtain rfl : u1 = Value.ref a := r1
    obtain rfl : u2 = Value.ref tp := r2
    obtain ⟨ox, od, w, J, _, _⟩ := errK_inst I ea
    have y : ObjOk X.prog X.w H s.heap tp (.tup cs) := I.hok tp _ ht
    obtain ⟨_, its, rv, o, g1, g2, n, g3⟩ := y
    obtain rfl := ClsV.all kc rv
    obtain ⟨oc, odi, oda, osl⟩ := o
    dsimp only at g2 g3
    subst g2 g3
    exact PySem.W.kia_tup (PySem.W.kitx_exc (cls_of T) T.hg T.hk T.hs T.ha T.hn T.ht T.hm) I.kIn J g1 ek (fun z => nomatch z) fun tk => ⟨.bl b, H, I.kept (t' := tk) fun _ _ z => z, rfl, q⟩
end BR

/-! ### raise C(v): what is left; l.count(x) over data -/
namespace BR
open PySem PySem.Spec PyProof.Rows L2
/-- the end of a reading of «raise C(v)»: its own dict, new, holds v -/
theorem mkO_end {C : Addr} {v : V} {H1 : Hp} {Q : XK} (h : ∀ d, H1 d = none → Q (.ref C) (some d) (L2.upd H1 d (.xd [("value", v)]))) :
    [v].length ≤ 1000 ∧ ∀ a, H1 a = none → sp_err C (.ref a :: ([v] ++ [])) (L2.upd H1 a (exo a C none))
      (fun w H2 => w = .non ∧ ∃ (d : Addr) (fs : List (Str × V)), H2 a = some (exo a C (some d)) ∧ H2 d = some (exd d fs) ∧ H1 d = none ∧ Q (.ref C) (some d) (L2.upd (del H2 a) d (.xd fs))) (fun _ _ _ => False) := by
  refine ⟨(by show 1 ≤ 1000; decide), fun a ha => ⟨a, v, rfl, upd_same, fun d hd ne => ⟨rfl, d, [("value", v)], upd_same, ?_, ?_, ?_⟩⟩⟩
  · rw [upd_ne ne, upd_same]
  · rw [upd_ne ne] at hd
    exact hd
  · have hd1 : H1 d = none := by
      rw [upd_ne ne] at hd
      exact hd
    have e : L2.upd (del (L2.upd (L2.upd (L2.upd H1 a (exo a C none)) d (exd d [("value", v)])) a (exo a C (some d))) a) d (.xd [("value", v)]) = L2.upd H1 d (.xd [("value", v)]) := by
      funext b
      by_cases hb : b = d
      · rw [hb, upd_same, upd_same]
      · rw [upd_ne hb, upd_ne hb]
        by_cases hc : b = a
        · rw [hc, del_same, ha]
        · rw [del_ne hc, upd_ne hc, upd_ne hb, upd_ne hc]
    rw [e]
    exact h d hd1
def rCountD (K : PySem.W.Frag) : V → List V → Hp → VK → Prop := fun x xs H Q => ∃ (a : Addr) (y : V) (d : PyData) (ds : List PyData), x = .ref a ∧ xs = [y] ∧ Dp K H (.ref a) (.list ds) ∧ Dp K H y d ∧
  PyData.plainAll ds = true ∧ d.plain = true ∧ PyData.depthAll ds ≤ 60 ∧ Q (.int ((ds.countP fun z => PyData.eqv z d : Nat) : Int)) H
theorem mt_countD {X : Cx} (hu : X.A.units + 65 < cLine) : MtR X "list.count" (rCountD X.K) := by
  rintro pins s σ H x xs v us Q I rx rxs ⟨a, y, d, ds, rfl, rfl, hl, hy, pl, pd, dep, q⟩
  cases rx
  obtain ⟨u, rfl, ru⟩ := rxs.one
  obtain ⟨bs, r1⟩ := Dp.reads I d y u hy ru
  cases hl with
  | lst hs ha =>
    obtain ⟨its, rv, ⟨⟨cls, dd, data, sl⟩, n, ho, hc, hdn, hdt⟩, hlen⟩ := I.list hs
    simp only at hc hdt
    subst hc hdt
    obtain ⟨as, h4⟩ := Dp.readsAll I ds _ its ha rv
    refine SeqAt.count_list_data (vs := its.toArray) ⟨_, ho, rfl, n, rfl⟩ (by simpa using h4) r1 pl pd (by omega) ?_
    exact ⟨.int _, H, I.tok _, ⟨_, rfl⟩, q⟩
end BR

namespace BR
open PySem PySem.Spec PyProof.Rows L2
/-! ### dicts of the module with text keys: walked by items, asked by get -/
/-- the pairs of a written dict, as the layer's values -/
structure KTab (K : PySem.W.Frag) (P : Program) (w : World) (d : Addr) (kvs : List (Str × V)) : Prop where
  ex : ∃ (es : Array DictEntry) (n : Nat) (us : List (Str × Value)), K.lookup d = some ⟨.type "dict", none, .dict es n, #[]⟩ ∧ PySem.W.KeysLit w.params es.toList ∧ Pairs (strKind P w) es.toList us ∧ (us.map (·.1)).Nodup ∧
    KV kvs us
  low : (d == sysModules) = false
theorem KTab.at {K : PySem.W.Frag} {P : Program} {w : World} {d : Addr} {kvs : List (Str × V)} (T : KTab K P w d kvs) {h : Heap} (X : K.In h) :
    ∃ (us : List (Str × Value)) (n : Nat), h.DictAt (strKind P w) d us n ∧ KV kvs us := by
  obtain ⟨es, n, us, lk, lit, ps, nd, rel⟩ := T.ex
  refine ⟨us, n, ⟨_, es, X _ _ lk, ⟨rfl, rfl, rfl⟩, rfl, fun e he => ?_, ps, nd⟩, rel⟩
  obtain ⟨x, t, e1, e2⟩ := lit.all e (Array.mem_toList_iff.mpr he)
  exact ⟨x, by rw [e1]; exact strKind_is P w x t, e2⟩
/-- a new pair of key and value, turn by turn -/
def ItK (kvs : List (Str × V)) : It :=
  ⟨fun i _ => i < kvs.length, fun i H v H' => ∃ T k x, v = .ref T ∧ H T = none ∧ H' = L2.upd H T (.tup [.str k, x]) ∧ kvs[i]? = some (k, x), fun i _ => kvs.length ≤ i⟩
theorem turn_itemsK {P : Program} {w : World} {K : PySem.W.Frag} {elts : List Expr} {kk : Nat} {tpos : Pos} {d : Addr} {kvs : List (Str × V)} {us : List (Str × Value)} {n : Nat} (it : Addr)
    (hm : ∀ h : Heap, K.In h → h.DictAt (strKind P w) d us n) (rel : KV kvs us) :
    Turn P w K (.Tuple elts kk tpos) (ItK kvs) [it] it (fun i h => ∃ ok ov, IsItemIter h it d i us.length n ok ov) where
  mem := by simp
  obj := by
    rintro i h ⟨ok, ov, e⟩ b hb
    obtain rfl : b = it := by simpa using hb
    exact ⟨_, e, fun v z => nomatch z⟩
  keep := by
    rintro i h h' ⟨ok, ov, e⟩ kp
    exact ⟨ok, ov, kp it (by simp) _ e⟩
  item := by
    intro X hP hw hK hc i pins s σ H E I hf st hg
    subst hP hw hK
    have lz : kvs.length = us.length := Paired.length rel
    have hi : i < kvs.length := hg
    obtain ⟨⟨k, x⟩, hp⟩ : ∃ p, kvs[i]? = some p := ⟨kvs[i], List.getElem?_eq_getElem hi⟩
    obtain ⟨u, hq, ru⟩ := kv_get rel hp
    obtain ⟨ok, ov, he⟩ := st
    have below : it < s.heap.objs.size := Heap.lt_size he
    refine wpAny_pyNext_items_item he (hm _ I.kIn) hq fun key h1 hkey ho hT hz kp => ?_
    obtain ⟨tk, rfl⟩ := Value.isStrOf_shape hkey
    refine ⟨_, rfl, wpAny_letOwnedTupleGo_items (s := { s with heap := h1 }) ho fun h2 he2 sb => ?_⟩
    have hT2 := (sb.2 _ (Nat.ne_of_gt below)).trans hT
    have new : ObjOk X.prog X.w (L2.upd H s.heap.objs.size (.tup [.str k, x])) h2 s.heap.objs.size (.tup [.str k, x]) :=
      ⟨by show 2 ≤ sizeLine; decide, [.str k tk, u], .cons ⟨_, rfl⟩ (.cons ru .nil), ⟨_, hT2, rfl, _, rfl⟩⟩
    have J := I.turnedNew (t' := s.toks) (ch := [it]) (h' := h2) (fun b ob hb z => (sb.2 b (by simpa using hb)).trans (kp b ob (by simpa using hb) z)) hf (Nat.le_refl _) new
    refine ⟨.ref s.heap.objs.size, _, J, rfl, ⟨_, k, x, rfl, I.hok.fresh (Nat.le_refl _), rfl, hp⟩, ⟨_, _, he2⟩, fun b hb => ?_⟩
    obtain rfl : b = it := by simpa using hb
    rw [upd_ne (Nat.ne_of_lt below)]
    exact (hf b hb).1
  done := by
    intro X hP hw hK hc i pins s σ H E I hf st hg
    subst hP hw hK
    have lz : kvs.length = us.length := Paired.length rel
    have hge : kvs.length ≤ i := hg
    obtain ⟨f0, f1, f2, f3, f4, f5⟩ := hf it (by simp)
    obtain ⟨ok, ov, he⟩ := st
    exact wpAny_pyNext_items_end (I.ok.hd hc) he (hm _ I.kIn) (List.getElem?_eq_none (by omega)) fun h' eb => ⟨rfl, I.turned (t' := s.toks) (fun b o hb z => eb b o hb z) f0 f1 f3 f4 f5⟩
  self := fun A i s Q E st h => let ⟨_, _, e⟩ := st; PySem.W.kcp_self e h
def iItemsK (K : PySem.W.Frag) (P : Program) (w : World) (td : TE) : TI := fun σ H R => td σ H fun x H1 => ∃ d kvs, x = .ref d ∧ KTab K P w d kvs ∧ R (ItK kvs) H1
theorem pi_itemsK {X : Cx} {e : Expr} {td : TE} {apos cpos tpos : Pos} {elts : List Expr} {kk : Nat} (he : PE X e td) (hb : attributeBase e "items" X.env (eval e X.env) = eval e X.env := by rfl) (hl : (apos.endLine == cpos.line) = true := by rfl) :
    PI X (.Tuple elts kk tpos) (.Call (.Attribute e "items" apos) [] [] cpos) (iItemsK X.K X.prog X.w td) := by
  refine ⟨fun pins s σ H R I h => ?_⟩
  refine wpAny_Call_method (T := "dict") (id := "dict.items") hb rfl hl F.plainAttrs_dict F.slot_dict_items F.type_dict_items (thn (he.run pins s σ H _ I h) ?_)
  rintro u s1 ⟨x, H1, I1, rx, d, kvs, rfl, T, q⟩
  obtain rfl : u = Value.ref d := rx
  obtain ⟨es, n, us, lk, lit, ps, nd, rel⟩ := T.ex
  have hm : ∀ h : Heap, X.K.In h → h.DictAt (strKind X.prog X.w) d us n := fun h XK => ⟨_, es, XK _ _ lk, ⟨rfl, rfl, rfl⟩, rfl, fun e he => by
    obtain ⟨x, t, e1, e2⟩ := lit.all e (Array.mem_toList_iff.mpr he)
    exact ⟨x, by rw [e1]; exact strKind_is X.prog X.w x t, e2⟩, ps, nd⟩
  have hm1 := hm _ I1.kIn
  refine ⟨hm1.dictOf.typeIs, hm1.dictOf.mapOf.noDict, ?_⟩
  have I2 : Inv X pins σ H1 { s1 with heap := s1.heap.push { cls := .type "dict_items", data := .fields #[.ref d] } } := I1.kept (t' := s1.toks) fun b ob z => Heap.get?_push_of_some _ z
  have fin : wpAny (model X.prog X.w) X.A (pyIter (.ref s1.heap.objs.size)) (PIE X pins σ (.Tuple elts kk tpos) R) X.xe { s1 with heap := s1.heap.push { cls := .type "dict_items", data := .fields #[.ref d] } } := by
    refine wpAny_pyIter_items (d := d) (knd := strKind X.prog X.w) ⟨_, Heap.get?_push_size _ rfl, rfl, rfl⟩ (hm _ I2.kIn) (pi_one (tk := s1.toks) I2 _ (turn_itemsK _ hm rel) ⟨.none, .none, ?_⟩ q)
    exact Heap.get?_push_size _ rfl
  show wpAny _ _ (callWith cpos (.builtin "dict.items") [.ref d] [] []) _ X.xe s1
  exact method_meetsIn F.slot_dict_items F.entry_dict_items rfl (PySem.evalArgs_none ⟨rfl, hm1.dictOf.typeIs, F.args_dict_items_1 _, _, meets_dict_items (strKind X.prog X.w) d T.low, ⟨us, hm1.dictOf⟩, fin⟩)
theorem walk_itemsK {kvs : List (Str × V)} : L2.Walk (ItK kvs) kvs.length (fun _ => True) (YPair (fun i => kvs[i]?.map fun p => .str p.1) (fun i => kvs[i]?.map Prod.snd)) := by
  refine ⟨fun _ _ hi _ => hi, fun _ _ => Nat.le_refl _, ?_⟩
  rintro i H v H' _ _ ⟨T, k, x, h1, h2, h3, h4⟩
  exact ⟨T, .str k, x, h1, h2, h3, by simp [h4], by simp [h4]⟩
/-! in, not in, [], get with a default -/
section
variable {X : Cx}
theorem KTab.map {P : Program} {w : World} {K : PySem.W.Frag} {d : Addr} {kvs : List (Str × V)} (T : KTab K P w d kvs) {h : Heap} (X : K.In h) (z : Str) : ∃ f : Str → Option Value, h.MapOf (strKind P w) d f ∧ RelO (valV kvs z) (f z) := by
  obtain ⟨us, n, hm, rel⟩ := T.at X
  exact ⟨_, hm.dictOf.mapOf, rel.val z⟩
def rInK (K : PySem.W.Frag) (P : Program) (w : World) (neg : Bool) : R2 := fun x y H Q => ∃ z d kvs, x = .str z ∧ y = .ref d ∧ KTab K P w d kvs ∧ Q (.bl (if neg then !(valV kvs z).isSome else (valV kvs z).isSome)) H
theorem op_inT : OpR X (compareOp .In) (rInK X.K X.prog X.w false) := by
  rintro pins s σ H x y v u Q I rx ry ⟨z, d, kvs, rfl, rfl, T, q⟩
  obtain ⟨t, rfl⟩ := rx
  cases ry
  obtain ⟨f, hm, rel⟩ := T.map I.kIn z
  refine wpAny_in_of (strKind_is X.prog X.w z t) T.low hm ?_
  rw [← rel.isSome_eq]
  exact ⟨.bl (valV kvs z).isSome, H, I.tok _, rfl, q⟩
theorem op_notInT : OpR X (compareOp .NotIn) (rInK X.K X.prog X.w true) := by
  rintro pins s σ H x y v u Q I rx ry ⟨z, d, kvs, rfl, rfl, T, q⟩
  obtain ⟨t, rfl⟩ := rx
  cases ry
  obtain ⟨f, hm, rel⟩ := T.map I.kIn z
  refine wpAny_notIn_of (strKind_is X.prog X.w z t) T.low hm ?_
  rw [← rel.isSome_eq]
  exact ⟨.bl (!(valV kvs z).isSome), H, I.tok _, rfl, q⟩
def rIxT2 (K : PySem.W.Frag) (P : Program) (w : World) : R2 := fun x y H Q => ∃ d z v kvs, x = .ref d ∧ y = .str z ∧ KTab K P w d kvs ∧ valV kvs z = some v ∧ Q v H
theorem ix_tab : IxR X (rIxT2 X.K X.prog X.w) := by
  rintro value slice pins s σ H x y v u Q I rx ry ⟨d, z, r, kvs, rfl, rfl, T, ev, q⟩ hs
  obtain rfl : v = Value.ref d := rx
  obtain ⟨t, rfl⟩ := ry
  obtain ⟨f, hm, rel⟩ := T.map I.kIn z
  rw [ev] at rel
  obtain ⟨u0, e, ru⟩ := RelO.some_of rel
  exact tail_any hm.typeIs slot_dict_getitem.lookup (wpAny_getItem_of (strKind_is X.prog X.w z t) hm e ⟨r, H, I.tok _, ru, q⟩) hs
def tGetT (K : PySem.W.Frag) (P : Program) (w : World) (td ty tx : TE) : TE := fun σ H Q => td σ H fun x H1 => ∃ d kvs, x = .ref d ∧ KTab K P w d kvs ∧ ty σ H1 fun y H2 => tx σ H2 fun z H3 => ∃ k, y = .str k ∧ Q ((valV kvs k).getD z) H3
theorem pe_getT {o e f : Expr} {td ty tx : TE} {apos cpos : Pos} (ho : PE X o td) (he : PE X e ty) (hf : PE X f tx) (m : M2 X o "get" apos e f cpos) : PE X (.Call (.Attribute o "get" apos) [e, f] [] cpos) (tGetT X.K X.prog X.w td ty tx) := by
  refine ⟨fun pins s σ H Q I h => ?_⟩
  refine wpAny_Call_method m.base m.few m.line PySem.F.plainAttrs_dict PySem.F.slot_dict_get PySem.F.type_dict_get (thn (ho.run pins s σ H _ I h) ?_)
  rintro u s1 ⟨x, H1, I1, rx, d, kvs, rfl, T, q1⟩
  obtain rfl : u = Value.ref d := rx
  obtain ⟨us, n, dm, _⟩ := T.at I1.kIn
  refine ⟨dm.dictOf.typeIs, dm.dictOf.mapOf.noDict, ?_⟩
  rw [m.trees]
  refine Calls.callWith_builtin rfl (Calls.evalArgs_plain (Calls.spliced_cons (thn (he.run pins s1 σ H1 _ I1 q1) ?_)))
  rintro iv s2 ⟨y, H2, I2, ry, q2⟩
  refine Calls.spliced_cons (thn (hf.run pins s2 σ H2 _ I2 q2) ?_)
  rintro fv s3 ⟨z, H3, I3, rz, k, rfl, q3⟩
  refine Calls.spliced_nil ?_
  obtain ⟨t, rfl⟩ := (show ∃ t, iv = Value.str k t from ry)
  obtain ⟨g, hm, rel⟩ := T.map I3.kIn k
  refine call_meetsIn PySem.F.slot_dict_get hm.typeIs PySem.F.entry_dict_get (PySem.F.args_dict_get_3 _ _ _) (meets_dict_get_default (strKind X.prog X.w) d (strKind_is X.prog X.w k t) T.low fv) ⟨_, hm, ?_⟩
  exact ⟨_, H3, I3.tok _, rel.getD rz, q3⟩
end
end BR

/-! ### a module's dict with text keys, out of what the head answers -/
namespace BR
open PySem PySem.Spec PyProof.Rows L2
theorem pairs_of {P : Program} {w : World} : ∀ {es : List DictEntry} {kus : List (Str × Value)}, es.map He.keyOf = He.keysIn w.params (kus.map (·.1)) → es.map (·.val) = kus.map (·.2) → Pairs (strKind P w) es kus
  | [], [], _, _ => .nil
  | [], _ :: _, h, _ => by cases h
  | _ :: _, [], h, _ => by cases h
  | e :: es, (k, u) :: kus, h, g => by
    have h1 : He.keyOf e :: es.map He.keyOf = some (k, PyData.keyHash w.params k) :: He.keysIn w.params (kus.map (·.1)) := h
    injection h1 with h2 h3
    have g1 : e.val :: es.map (·.val) = u :: kus.map (·.2) := g
    injection g1 with g2 g3
    refine .cons ?_ g2 (pairs_of h3 g3)
    unfold He.keyOf at h2
    split at h2
    · rename_i x t q
      obtain ⟨y1, y2⟩ := Prod.mk.inj (Option.some.inj h2)
      show (strKind P w).is k e.key = true
      rw [q, ← y1]
      exact strKind_is P w x t
    · cases h2
theorem ktab_of {K : PySem.W.Frag} {P : Program} {w : World} {d : Addr} {es : Array DictEntry} {n : Nat} {kus : List (Str × Value)} {kvs : List (Str × V)} (lk : K.lookup d = some ⟨.type "dict", none, .dict es n, #[]⟩)
    (kk : es.toList.map He.keyOf = He.keysIn w.params (kus.map (·.1))) (vv : es.toList.map (·.val) = kus.map (·.2)) (rel : KV kvs kus) (nd : (kus.map (·.1)).Nodup) (low : (d == sysModules) = false) : KTab K P w d kvs :=
  ⟨⟨es, n, kus, lk, He.keysLit_of kk, pairs_of kk vv, nd, rel⟩, low⟩
end BR

/-! ### a module's tuple of texts -/
namespace BR
open PySem PySem.Spec PyProof.Rows L2
def strV (u : Value) : Option Str := match u with
  | .str x _ => some x
  | _ => none
theorem vals_strV : ∀ {us : List Value} {xs : List Str}, us.map strV = xs.map some → Vals (xs.map V.str) us
  | [], [], _ => .nil
  | [], _ :: _, h => by cases h
  | _ :: _, [], h => by cases h
  | u :: us, x :: xs, h => by
    have h1 : strV u :: us.map strV = some x :: xs.map some := h
    injection h1 with h2 h3
    refine .cons ?_ (vals_strV h3)
    unfold strV at h2
    split at h2
    · rename_i y t
      rw [Option.some.inj h2]
      exact ⟨t, rfl⟩
    · cases h2
/-- the texts xs stand in a written tuple at p -/
structure TupK (K : PySem.W.Frag) (p : Addr) (xs : List Str) : Prop where
  ex : ∃ (o : Obj) (its : Array Value) (n : Nat), K.lookup p = some o ∧ o.cls = .type "tuple" ∧ o.data = .seq its n ∧ its.size ≤ sizeLine ∧ Vals (xs.map V.str) its.toList
theorem TupK.sq {K : PySem.W.Frag} {p : Addr} {xs : List Str} (T : TupK K p xs) {H : Hp} : SqT K H p (xs.map V.str) := .inr T.ex
theorem tupK_of {K : PySem.W.Frag} {p : Addr} {o : Obj} {its : Array Value} {n : Nat} {xs : List Str} (l : K.lookup p = some o) (c : o.cls = .type "tuple") (d : o.data = .seq its n) (e : its.toList.map strV = xs.map some) (z : xs.length ≤ 1000 := by decide) : TupK K p xs := by
  refine ⟨o, its, n, l, c, d, ?_, vals_strV e⟩
  have y := congrArg List.length e
  rw [List.length_map, List.length_map, Array.length_toList] at y
  rw [sizeLine_eq]
  omega
end BR

/-! ### tables of the module, asked -/
namespace BR
open PySem PySem.Spec PyProof.Rows L2
theorem inV_str {z : Str} : ∀ {xs : List Str}, inV (.str z) (xs.map V.str) = decide (z ∈ xs)
  | [] => rfl
  | x :: xs => by
    have ih := inV_str (z := z) (xs := xs)
    unfold inV at ih ⊢
    rw [List.map_cons, List.any_cons, ih]
    have e : eqV (.str x) (.str z) = decide (z = x) := by
      show (x == z) = decide (z = x)
      by_cases h : z = x
      · rw [h]; simp
      · have h2 : ¬ x = z := fun e => h e.symm
        simp [h, h2]
    rw [e]
    simp
theorem flat_strs : ∀ {xs : List Str}, (xs.map V.str).all flatV = true
  | [] => rfl
  | _ :: xs => flat_strs (xs := xs)
/-- each key's value is a written tuple of texts -/
def TabRel (K : PySem.W.Frag) : List (Str × V) → List (Str × List Str) → Prop := Paired fun p q => p.1 = q.1 ∧ ∃ a, p.2 = .ref a ∧ TupK K a q.2
theorem look_cons {α : Type} {k z : Str} {v : α} {l : List (Str × α)} : List.lookup z ((k, v) :: l) = if z = k then some v else List.lookup z l := by
  by_cases h : z = k
  · rw [if_pos h, h]
    simp [List.lookup]
  · rw [if_neg h]
    have e : (z == k) = false := by simpa using h
    simp [List.lookup, e]
theorem valV_cons {k z : Str} {v : V} {l : List (Str × V)} : valV ((k, v) :: l) z = if z = k then some v else valV l z := by
  unfold valV
  by_cases h : z = k
  · rw [if_pos h, h]
    simp
  · rw [if_neg h]
    have e : ¬ k = z := fun y => h y.symm
    simp [List.find?, e]
theorem tab_find {K : PySem.W.Frag} {z : Str} : ∀ {kvs : List (Str × V)} {tab : List (Str × List Str)}, TabRel K kvs tab → (tab.lookup z = none ∧ valV kvs z = none) ∨ ∃ os a, tab.lookup z = some os ∧ valV kvs z = some (.ref a) ∧ TupK K a os
  | _, _, .nil => .inl ⟨rfl, rfl⟩
  | (k, v) :: kvs, (k2, os) :: tab, .cons h r => by
    obtain ⟨h1, a, h2, h3⟩ := h
    dsimp only at h1 h2 h3
    subst h1 h2
    rw [look_cons, valV_cons]
    by_cases c : z = k
    · rw [if_pos c, if_pos c]
      exact .inr ⟨os, a, rfl, rfl, h3⟩
    · rw [if_neg c, if_neg c]
      exact tab_find r
theorem txt_find {z : Str} : ∀ {l : List (Str × Str)}, valV (l.map fun p => (p.1, V.str p.2)) z = (l.lookup z).map V.str
  | [] => rfl
  | (k, v) :: l => by
    rw [List.map_cons, valV_cons, look_cons]
    by_cases c : z = k
    · rw [if_pos c, if_pos c]
      rfl
    · rw [if_neg c, if_neg c]
      exact txt_find
end BR

namespace BR
open PySem PySem.Spec PyProof.Rows L2
theorem pick_succ {p : Str → Bool} {xs : List Str} {i : Nat} {z : Str} (h : xs[i]? = some z) : (xs.take (i + 1)).filter p = (xs.take i).filter p ++ (if p z then [z] else []) := by
  have e : xs.take (i + 1) = xs.take i ++ [z] := by
    rw [List.take_add_one, h]
    rfl
  rw [e, List.filter_append]
  congr 1
  cases c : p z <;> simp [List.filter, c]
theorem mapS_at {xs : List Str} {i : Nat} {x : V} (h : (xs.map V.str)[i]? = some x) : ∃ z, xs[i]? = some z ∧ x = .str z := by
  rw [List.getElem?_map] at h
  cases e : xs[i]? with
  | none =>
    rw [e] at h
    cases h
  | some z =>
    rw [e] at h
    cases h
    exact ⟨z, rfl, rfl⟩
/-- [x for x in t if c], t a tuple of texts, c told by x alone -/
theorem lc_pick {K : PySem.W.Frag} {a : Addr} {xs : List Str} {j : Nat} {tt : TT} {te : TE} {vs : List Nat} {σ : L2.St} {H1 : Hp} {D : Addr} {Qd : Hp → Prop} (p : Str → Bool) (hT : SqT K H1 a (xs.map V.str)) (hz : xs.length ≤ 1000) (hD : H1 D = none)
    (hw : ∀ x : V, wipe ((wipe σ vs).set j (some x)) vs = wipe σ vs)
    (ht : ∀ (x : Str) (H2 : Hp) (Q : Bool → Hp → Prop), x ∈ xs → Same H1 H2 → Q (p x) H2 → tt ((wipe σ vs).set j (some (.str x))) H2 Q)
    (he : ∀ (x : Str) (H2 : Hp) (Q : VK), x ∈ xs → Same H1 H2 → Q (.str x) H2 → te ((wipe σ vs).set j (some (.str x))) H2 Q)
    (hd : ∀ H, Same H1 H → H D = some (.lst ((xs.filter p).map V.str)) → Qd H) :
    ∃ W : Nat → Nat → Hp → Prop, (∃ m, W 0 m (L2.upd H1 D (.lst []))) ∧ ∀ i m H, W i m H →
      ((Itt K a).stop i H ∧ Qd H) ∨ ((Itt K a).go i H ∧ ∃ Nx : Hp → Prop, (∀ H', Nx H' → ∃ m', m' < m ∧ W (i + 1) m' H') ∧ ∀ x H', (Itt K a).yld i H x H' → gName j x (wipe σ vs) H' fun σ2 H2 => wipe σ2 vs = wipe σ vs ∧ tt σ2 H2 fun b H3 =>
        if b = true then te σ2 H3 fun y H4 => ∃ acc, H4 D = some (.lst acc) ∧ acc.length < sizeLine ∧ Nx (L2.upd H4 D (.lst (acc ++ [y]))) else Nx H3) := by
  refine lc_tup (xs := xs.map V.str) (fun i H => Same H1 H ∧ H D = some (.lst (((xs.take i).filter p).map V.str))) ⟨sameNew hD, upd_same⟩ (fun i H _ p => sameT p.1 hT) ?_ ?_
  · rintro i x H hx ⟨s, hH⟩
    obtain ⟨z, hz1, rfl⟩ := mapS_at hx
    have mem := List.mem_of_getElem? hz1
    refine ⟨hw _, ?_⟩
    refine ht z H _ mem s ?_
    have step := pick_succ (p := p) hz1
    cases c : p z with
    | false =>
      rw [c] at step
      refine (if_neg (by decide)).mpr ?_
      refine ⟨s, ?_⟩
      rw [step]
      simpa using hH
    | true =>
      rw [c] at step
      refine (if_pos rfl).mpr ?_
      refine he z H _ mem s ?_
      refine ⟨_, hH, small1000 ?_, ?_, ?_⟩
      · have l1 := List.length_filter_le p (xs.take i)
        rw [List.length_take] at l1
        rw [List.length_map]
        omega
      · intro b o e
        rw [upd_ne (ne_of_none e hD)]
        exact s _ _ e
      · rw [upd_same, step, List.map_append]
        rfl
  · rintro H ⟨s, hH⟩
    rw [List.length_map, List.take_length] at hH
    exact hd H s hH
end BR

/-! ### tuples of texts as data -/
namespace BR
open PySem PySem.Spec PyProof.Rows L2
theorem strs_all {K : PySem.W.Frag} {H : Hp} : ∀ xs : List Str, DpAll K H (xs.map V.str) (xs.map PyData.str)
  | [] => .nil
  | x :: r => .cons (.str x) (strs_all r)
theorem strs_lay : ∀ xs : List Str, (∀ x ∈ xs, PyData.strOk x = true) → PyData.canLayAll0 (xs.map PyData.str) = true ∧ PyData.depthAll (xs.map PyData.str) = 0
  | [], _ => ⟨rfl, rfl⟩
  | x :: r, ok => by
    obtain ⟨h1, h2⟩ := strs_lay r fun y m => ok y (List.mem_cons_of_mem _ m)
    refine ⟨?_, ?_⟩
    · show (PyData.canLay0 (.str x) && PyData.canLayAll0 (r.map PyData.str)) = true
      rw [h1, Bool.and_true]
      exact ok x List.mem_cons_self
    · show max (PyData.depth (.str x)) (PyData.depthAll (r.map PyData.str)) = 0
      rw [h2]
      rfl
theorem strs_shapedT {xs : List Str} (ok : ∀ x ∈ xs, PyData.strOk x = true) : SeqAt.shaped (.tuple (xs.map PyData.str)) = true := by
  obtain ⟨h1, h2⟩ := strs_lay xs ok
  unfold SeqAt.shaped
  show (PyData.canLayAll0 (xs.map PyData.str) && decide (PyData.depthAll (xs.map PyData.str) + 1 ≤ 64)) = true
  rw [h1, h2]
  rfl
theorem strs_eqvA : ∀ xs ys : List Str, PyData.eqvAll (xs.map PyData.str) (ys.map PyData.str) = decide (xs = ys)
  | [], [] => rfl
  | [], _ :: _ => rfl
  | _ :: _, [] => rfl
  | x :: xs, y :: ys => by
    show (x == y && PyData.eqvAll (xs.map PyData.str) (ys.map PyData.str)) = decide (x :: xs = y :: ys)
    rw [strs_eqvA xs ys]
    by_cases h : x = y
    · by_cases g : xs = ys <;> simp [h, g]
    · simp [h]
theorem strs_eqv (xs ys : List Str) : PyData.eqv (.tuple (xs.map PyData.str)) (.tuple (ys.map PyData.str)) = decide (xs = ys) := strs_eqvA xs ys
theorem dp_strsT {K : PySem.W.Frag} {H : Hp} {a : Addr} {xs : List Str} (h : SqT K H a (xs.map V.str)) : Dp K H (.ref a) (.tuple (xs.map PyData.str)) := .tup h (strs_all xs)
theorem tab_at {K : PySem.W.Frag} : ∀ {kvs : List (Str × V)} {tab : List (Str × List Str)}, TabRel K kvs tab → ∀ {i : Nat} {k : Str} {x : V}, kvs[i]? = some (k, x) → ∃ os a, tab[i]? = some (k, os) ∧ x = .ref a ∧ TupK K a os
  | _, _, .nil, i, k, x, h => by cases i <;> cases h
  | (k1, v1) :: kvs, (k2, os) :: tab, .cons h r, i, k, x, e => by
    obtain ⟨h1, a, h2, h3⟩ := h
    dsimp only at h1 h2 h3
    subst h1 h2
    cases i with
    | zero =>
      cases e
      exact ⟨os, a, rfl, rfl, h3⟩
    | succ i => exact tab_at r (i := i) e
theorem find_at {α : Type} {p : α → Bool} : ∀ {l : List α} {i : Nat} {x : α}, l[i]? = some x → p x = true → (∀ (j : Nat) (y : α), j < i → l[j]? = some y → p y = false) → l.find? p = some x
  | [], i, x, h, _, _ => by cases i <;> cases h
  | a :: l, 0, x, h, hp, _ => by
    cases h
    simp [List.find?, hp]
  | a :: l, i + 1, x, h, hp, hn => by
    have ha := hn 0 a (Nat.succ_pos i) rfl
    have ih := find_at (l := l) (i := i) (x := x) h hp fun j y hj hy => hn (j + 1) y (Nat.succ_lt_succ hj) hy
    simp [List.find?, ha, ih]
theorem find_no {α : Type} {p : α → Bool} {l : List α} (h : ∀ (j : Nat) (y : α), l[j]? = some y → p y = false) : l.find? p = none := by
  rw [List.find?_eq_none]
  intro x hx
  obtain ⟨j, hj, e⟩ := List.mem_iff_getElem.mp hx
  rw [h j x (by rw [List.getElem?_eq_getElem hj, e])]
  decide
end BR

/-! ### calls without arguments where no repr runs; comprehensions that choose, over lists; heaps -/
namespace BR
open PySem PySem.Spec PyProof.Rows L2
section
variable {X : Cx} {CX : CXT} {k : Nat} {f : Addr} {fd : FuncData} {ps : List Str} {sp : Sp} {E : XK} {x : Str} {ds : List Value} {dvs : List V} {p pos : Pos}
theorem pe_callG0 (F : FnG X.prog X.w X.K X.mg X.base CX k f fd ps sp) (gg : X.A.guards = some []) (room : Room k X.A) (hg : Gl X x) (hm : X.mg x = some (.ref f)) (kp : PySem.W.keepIn X.K (.ref f) = true)
    (b : Binds X.K fd ps ds) (hd : Vals dvs ds) (hx : Passes CX X E) (nodb : (x == ("__debug__" : Str)) = false := by decide) : PE X (.Call (.Name x p) [] [] pos) (tCall sp dvs E tNil) := by
  refine ⟨fun pins s σ H Q I0 hh => ?_⟩
  refine wpAny_Call_Name_kw (ld_glob I0 hg hm ?_ nodb)
  have r2 : Vals ([] ++ dvs) ([] ++ ds) := hd
  have hl : ([] ++ ds).length = ps.length := by rw [← r2.length]; exact F.ln _ _ _ _ hh
  refine PySem.W.callWith_K0 I0.kIn kp ?_
  refine wpAny_call (codeAny_mono (F.go X.A X.stack s H ⟨[], []⟩ ([] ++ ds) ([] ++ dvs) Q E gg room I0.env0 (b s [] I0.kIn hl) r2 hh) fun res s' hq => ?_)
  cases res with
  | error e => exact hx pins σ H s e s' I0 hq
  | ok fl =>
    cases fl with
    | ret u => exact I0.after hq
    | next => exact hq.elim
    | brk => exact hq.elim
    | cont => exact hq.elim
end
section
variable {X : Cx} {T id : String} {name : Str} {r : V → List V → Hp → VK → Prop} {o e : Expr} {es : List Expr} {to : TE} {t : TA} {apos cpos : Pos} {K : PySem.W.Frag}
/-- a method's call where each side condition is written -/
theorem pe_bmX (hK : X.K = K) (pa : PlainAttrs T) (slot : Slot T name id) (hty : typeOf (.builtin id) = pure (.type "method_descriptor")) (hm : MtR X id r) (ho : PE X o to) (ha : PA X (e :: es) t)
    (c1 : attributeBase o name X.env (eval o X.env) = eval o X.env)
    (c2 : ((backTo cpos (starEach (e :: es) X.env)).all (fun x => !x.1) && (backToKw cpos (keywordEach [] X.env)).all (fun x => x.1.isSome) && decide ((e :: es).length + ([] : List Keyword).length + (if ([] : List Keyword).isEmpty then 0 else 1) < 30)) = true)
    (c3 : (apos.endLine == cpos.line) = true) (c4 : starEach (e :: es) X.env = (false, eval e X.env) :: starEach es X.env) (c5 : (backTo cpos (starEach es X.env)).any (·.1) = false) :
    PE X (.Call (.Attribute o name apos) (e :: es) [] cpos) (tBM K T r to t) := by
  subst hK
  exact pe_bm pa slot hty hm ho ha c1 c2 c3 c4 c5
end
theorem sameUp {H H1 : Hp} {p : Addr} {o : HO} (s : Same H H1) (hp : H p = none) : Same H (upd H1 p o) := fun b u e => by
  rw [upd_ne (ne_of_none e hp)]
  exact s b u e
theorem sameL {K : PySem.W.Frag} {H H' : Hp} {a : Addr} {xs : List V} (e : Same H H') (h : H a = some (.lst xs)) : SqL K H' a xs := SqL.of (e _ _ h)
/-- [x for x in l if c], l a list of texts, c told by x alone -/
theorem lc_pickL {K : PySem.W.Frag} {a : Addr} {xs : List Str} {j : Nat} {tt : TT} {te : TE} {vs : List Nat} {σ : L2.St} {H1 : Hp} {D : Addr} {Qd : Hp → Prop} (p : Str → Bool) (hL : H1 a = some (.lst (xs.map V.str))) (hz : xs.length ≤ 1000) (hD : H1 D = none)
    (hw : ∀ x : V, wipe ((wipe σ vs).set j (some x)) vs = wipe σ vs)
    (ht : ∀ (x : Str) (H2 : Hp) (Q : Bool → Hp → Prop), x ∈ xs → Same H1 H2 → (∀ H3, Same H2 H3 → Q (p x) H3) → tt ((wipe σ vs).set j (some (.str x))) H2 Q)
    (he : ∀ (x : Str) (H2 : Hp) (Q : VK), x ∈ xs → Same H1 H2 → Q (.str x) H2 → te ((wipe σ vs).set j (some (.str x))) H2 Q)
    (hd : ∀ H, Same H1 H → H D = some (.lst ((xs.filter p).map V.str)) → Qd H) :
    ∃ W : Nat → Nat → Hp → Prop, (∃ m, W 0 m (L2.upd H1 D (.lst []))) ∧ ∀ i m H, W i m H →
      ((Itl K a).stop i H ∧ Qd H) ∨ ((Itl K a).go i H ∧ ∃ Nx : Hp → Prop, (∀ H', Nx H' → ∃ m', m' < m ∧ W (i + 1) m' H') ∧ ∀ x H', (Itl K a).yld i H x H' → gName j x (wipe σ vs) H' fun σ2 H2 => wipe σ2 vs = wipe σ vs ∧ tt σ2 H2 fun b H3 =>
        if b = true then te σ2 H3 fun y H4 => ∃ acc, H4 D = some (.lst acc) ∧ acc.length < sizeLine ∧ Nx (L2.upd H4 D (.lst (acc ++ [y]))) else Nx H3) := by
  refine lc_list (xs := xs.map V.str) (fun i H => Same H1 H ∧ H D = some (.lst (((xs.take i).filter p).map V.str))) ⟨sameNew hD, upd_same⟩ (fun i H _ q => sameL q.1 hL) ?_ ?_
  · rintro i x H hx ⟨s, hH⟩
    obtain ⟨z, hz1, rfl⟩ := mapS_at hx
    have mem := List.mem_of_getElem? hz1
    refine ⟨hw _, ?_⟩
    refine ht z H _ mem s fun H3 s3 => ?_
    have step := pick_succ (p := p) hz1
    cases c : p z with
    | false =>
      rw [c] at step
      refine (if_neg (by decide)).mpr ?_
      refine ⟨s.trans s3, ?_⟩
      rw [step]
      simpa using s3 _ _ hH
    | true =>
      rw [c] at step
      refine (if_pos rfl).mpr ?_
      refine he z H3 _ mem (s.trans s3) ?_
      refine ⟨_, s3 _ _ hH, small1000 ?_, ?_, ?_⟩
      · have l1 := List.length_filter_le p (xs.take i)
        rw [List.length_take] at l1
        rw [List.length_map]
        omega
      · exact sameUp (s.trans s3) hD
      · rw [upd_same, step, List.map_append]
        rfl
  · rintro H ⟨s, hH⟩
    rw [List.length_map, List.take_length] at hH
    exact hd H s hH
theorem valV_mapS {α : Type} {f : α → V} {z : Str} : ∀ {l : List (Str × α)}, valV (l.map fun q => ((.inr q.1 : Key), f q.2)) (.inr z : Key) = (l.lookup z).map f
  | [] => rfl
  | (k, v) :: l => by
    have ih := valV_mapS (f := f) (z := z) (l := l)
    rw [List.map_cons]
    by_cases c : k = z
    · subst c
      rw [valV_pos rfl]
      simp [List.lookup]
    · rw [valV_neg (fun q => c (Sum.inr.inj q)), ih]
      have e : (z == k) = false := by simpa using fun q : z = k => c q.symm
      simp [List.lookup, e]
theorem putK_le {κ : Type} [DecidableEq κ] (c : List (κ × V)) (k : κ) (x : V) : (putK c k x).length ≤ c.length + 1 := by
  unfold putK
  split <;> simp
theorem dget_of {H : Hp} {a : Addr} {kvs : List (Key × V)} {z : Str} {v : V} (e : H a = some (.dK kvs)) (h : valV kvs (.inr z : Key) = some v) : DGet H a (.str z) (some v) := by
  rw [← h]
  exact DGet.k (k := .inr z) e
theorem yesR {σ : L2.St} {H : Hp} {k : Bool → Hp → Prop} (h : k true H) : tYes σ H k := h
theorem dput_new {H : Hp} {a : Addr} {kvs : List (Key × V)} {z : Str} {v : V} (e : H a = some (.dK kvs)) (hl : kvs.length ≤ 1000) (hn : valV kvs (.inr z : Key) = none) : DPut H a (.str z) v (L2.upd H a (.dK (kvs ++ [(.inr z, v)]))) := by
  have g := DPut.k (k := (.inr z : Key)) (v := v) e (small1000 hl)
  rw [putK_new v hn] at g
  exact g
theorem int_dec (x y : Int) : decide (V.int x = V.int y) = decide (x = y) := decide_eq_decide.mpr ⟨V.int.inj, fun e => congrArg V.int e⟩
theorem bl_dec (x y : Bool) : decide (V.bl x = V.bl y) = decide (x = y) := decide_eq_decide.mpr ⟨V.bl.inj, fun e => congrArg V.bl e⟩
end BR

/-! ### sets of ints out of a tuple, how many there are, max of a tuple of two -/
namespace BR
open PySem PySem.Spec PyProof.Rows L2
def rSetOf (K : PySem.W.Frag) (w : World) : List V → Hp → VK → Prop := fun xs H Q => ∃ (a : Addr) (ns : List Int), xs = [.ref a] ∧ SqT K H a (ns.map V.int) ∧ ns.length ≤ 1000 ∧
  ∀ (p : Addr) (n : Nat) (ks : List Int), H p = none → ks.Nodup → (∀ k, k ∈ ks ↔ k ∈ ns) → ks.length = n → Q (.ref p) (L2.upd H p (SetO w p (fun j => decide (j ∈ ns)) n))
section
variable {X : Cx}
theorem cr_setOf (hc : X.calm = true) : CallR X (.type "set") (rSetOf X.K X.w) := by
  intro pins s σ H xs us Q I r h
  obtain ⟨a, ns, rfl, hq, hz, q⟩ := h
  rw [Vals.ref1 r]
  obtain ⟨its, rv, pt, _⟩ := I.tuple hq
  refine call_set_tupI ns (I.ok.hd hc) (show s.heap.IsTuple a its.toArray from pt) (by simpa using rv.ints) (by unfold scanBound; omega) fun h' tk c R1 hcn k => ?_
  have ⟨o, es, ep, t, ho, hex, hdt, g, nd, hm2, hb, hf, hn, hr, hl2⟩ := R1
  refine ⟨.ref _, _, I.laid (t' := tk) (fun b u e => k b u e) (Nat.le_refl _) (setO_new R1), rfl, q _ c (es.toList.map keyOf) (I.hok.fresh (Nat.le_refl _)) nd (fun j => ?_) ?_⟩
  · rw [← hm2 j, decide_eq_true_eq]
  · rw [List.length_map, Array.length_toList, hn]
theorem call_len_setO : CallR X (.builtin "len") (fun xs H Q => ∃ (a : Addr) (S : Int → Bool) (n : Nat), xs = [.ref a] ∧ H a = some (SetO X.w a S n) ∧ Q (.int n) H) := by
  intro pins s σ H xs us Q I r h
  obtain ⟨a, S, n, rfl, ha, q⟩ := h
  rw [Vals.ref1 r]
  obtain ⟨o, es, ep, t, ho, hex, hdt, g, nd, hm2, hb, hf, hn, hr, hl2⟩ := setO_get I ha
  refine call_len_set ho hex hdt hf (by unfold scanBound at hb; omega) ⟨.int n, H, I.tok _, ⟨_, by rw [hn]⟩, q⟩
theorem met_nodup (val : Nat → Int) : ∀ i, (firstMet val i).Nodup
  | 0 => by rw [firstMet_zero]; exact List.nodup_nil
  | i + 1 => by
    rw [firstMet_succ]
    unfold step_dedup
    split
    · exact met_nodup val i
    · rename_i h
      refine List.nodup_append.mpr ⟨met_nodup val i, by simp, fun a ha b hb => ?_⟩
      rw [List.mem_singleton] at hb
      subst hb
      intro e
      subst e
      exact h (List.any_eq_true.mpr ⟨_, ha, by simp⟩)
theorem met_mem {ns : List Int} {k : Int} : k ∈ firstMet (fun i => ns.getD i 0) ns.length ↔ k ∈ ns := by
  have e := firstMet_any (fun i => ns.getD i 0) ns.length k
  have e2 : (List.range ns.length).map (fun i => ns.getD i 0) = ns := by
    apply List.ext_getElem?
    intro i
    rw [List.getElem?_map]
    by_cases h : i < ns.length
    · rw [List.getElem?_range h]
      simp [List.getD, h]
    · rw [List.getElem?_eq_none (by simpa using Nat.le_of_not_lt h), List.getElem?_eq_none (Nat.le_of_not_lt h)]
      rfl
  rw [e2] at e
  have m : ∀ l : List Int, l.any (· == k) = true ↔ k ∈ l := fun l => by simp
  rw [← m, ← m, e]
/-- len(set(l)), l a list of ints -/
def tLenSetL (K : PySem.W.Frag) (ta : TE) : TE := fun σ H Q => ta σ H fun x H1 => ∃ (l : Addr) (ns : List Int), x = V.ref l ∧ SqL K H1 l (ns.map V.int) ∧ ns.length < 64 ∧ ∀ (ks : List Int), ks.Nodup → (∀ k, k ∈ ks ↔ k ∈ ns) → Q (.int ks.length) H1
theorem pe_lenSetL {a : Expr} {ta : TE} {p p2 q pos : Pos} {K : PySem.W.Frag} (hK : X.K = K) (hc : X.calm = true) (hg : Gl X "len") (hm : X.mg "len" = none) (hg2 : Gl X "set") (hm2 : X.mg "set" = none) (ha : PE X a ta)
    (na : starEach [a] X.env = (false, eval a X.env) :: starEach [] X.env) : PE X (.Call (.Name "len" p) [.Call (.Name "set" p2) [a] [] q] [] pos) (tLenSetL K ta) := by
  subst hK
  refine ⟨fun pins s σ H Q I h => ?_⟩
  refine Call_ (ld_blt I hg hm PySem.boot_len ?_)
  refine callWith_builtin1 (args_cons ?_ rfl) rfl rfl
  refine Call_ (ld_blt I hg2 hm2 boot_set ?_)
  refine callWith_type1 (args_cons (thn (ha.run pins s σ H _ I h) ?_) na) na rfl
  rintro v s1 ⟨x, H1, I1, r1, l, ns, rfl, hq, hz, q1⟩
  refine args_nil ?_
  cases r1
  obtain ⟨its, r, pl, _⟩ := I1.list hq
  have hl : its.toArray.size = ns.length := by rw [List.size_toArray, ← r.length, List.length_map]
  refine call_set_list (I1.ok.hd hc) pl.isList (ns := ns) (by simpa using r.ints) (by unfold scanBound; omega) fun h' tk hS hk => ?_
  rw [hl] at hS
  refine args_nil ?_
  obtain ⟨o, es, ep, t, ho, hex, hd, _, _, _, hf, hn⟩ := hS
  have I2 : Inv X pins σ H1 { s1 with heap := h', toks := tk } := I1.kept fun b u e => hk b u (Heap.lt_size e) e
  have lz := firstMet_length_le (fun i => ns.getD i 0) ns.length
  refine call_len_set ho hex hd hf (by omega) ⟨.int (firstMet (fun i => ns.getD i 0) ns.length).length, H1, I2.tok _, ⟨_, by rw [hn]⟩, q1 _ (met_nodup _ _) fun k => met_mem⟩
/-- max of a tuple of two ints -/
theorem cr_maxT2 (hc : X.calm = true) (hu : X.A.units + 64 < cLine) : CallR X (.builtin "max") (fun xs H Q => ∃ (a : Addr) (i j : Int), xs = [.ref a] ∧ SqT X.K H a [.int i, .int j] ∧ Q (.int (if i < j then j else i)) H) := by
  intro pins s σ H xs us Q I r h
  obtain ⟨a, i, j, rfl, hq, q⟩ := h
  rw [Vals.ref1 r]
  obtain ⟨its, rv, pt, _⟩ := I.tuple hq
  obtain ⟨as, ra⟩ := Dp.readsAll I [.int i, .int j] _ _ (.cons (.int i) (.cons (.int j) .nil)) rv
  refine PySem.W.max_tuple_data (x := .int i) (xs := [.int j]) (I.ok.hd hc) (show s.heap.IsTuple a its.toArray from pt) (by simpa using ra) (⟨fun x hx y hy => by rcases List.mem_cons.mp hx with rfl | hx <;> rcases List.mem_cons.mp hy with rfl | hy <;> (try rcases List.mem_singleton.mp hx with rfl) <;> (try rcases List.mem_singleton.mp hy with rfl) <;> rfl, fun x hx => by rcases List.mem_cons.mp hx with rfl | hx <;> (try rcases List.mem_singleton.mp hx with rfl) <;> exact fun z => nomatch z⟩) (by show X.A.units + 1 + 0 < cLine; omega) fun k v h' tk bs _ hr hk => ?_
  have e : PySem.W.maxD (.int i) [.int j] = .int (if i < j then j else i) := by
    show (if PySem.W.dataLt (.int i) (.int j) then PyData.int j else .int i) = _
    rw [PySem.W.dataLt_int]
    by_cases c : i < j
    · rw [if_pos c, if_pos (decide_eq_true c)]
    · rw [if_neg c, if_neg (fun z => c (of_decide_eq_true z))]
  rw [e] at hr
  cases hr
  exact ⟨.int _, H, I.kept (t' := tk) hk, ⟨_, rfl⟩, q⟩
end
end BR

/-! ### rankings: the mathematics -/
namespace BR
open PySem PySem.Spec PyProof.Rows L2
def ins1 (x : Int) : List Int → List Int
  | [] => [x]
  | y :: l => if x < y then x :: y :: l else if x = y then y :: l else y :: ins1 x l
def srt : List Int → List Int
  | [] => []
  | x :: l => ins1 x (srt l)
theorem ins1_mem {x k : Int} : ∀ {l : List Int}, k ∈ ins1 x l ↔ k = x ∨ k ∈ l
  | [] => by simp [ins1]
  | y :: l => by
    unfold ins1
    split
    · simp
    · split
      · rename_i h
        subst h
        simp
      · rw [List.mem_cons, ins1_mem (l := l), List.mem_cons]
        constructor <;> (intro h; rcases h with h | h | h <;> simp [h])
theorem ins1_up {x : Int} : ∀ {l : List Int}, l.Pairwise (· < ·) → (ins1 x l).Pairwise (· < ·)
  | [], _ => by simp [ins1]
  | y :: l, h => by
    obtain ⟨h1, h2⟩ := List.pairwise_cons.mp h
    unfold ins1
    split
    · rename_i c
      refine List.pairwise_cons.mpr ⟨fun z hz => ?_, h⟩
      rcases List.mem_cons.mp hz with rfl | hz
      · exact c
      · exact Int.lt_trans c (h1 z hz)
    · split
      · exact h
      · rename_i c d
        refine List.pairwise_cons.mpr ⟨fun z hz => ?_, ins1_up h2⟩
        rcases ins1_mem.mp hz with rfl | hz
        · omega
        · exact h1 z hz
theorem srt_mem {k : Int} : ∀ {l : List Int}, k ∈ srt l ↔ k ∈ l
  | [] => Iff.rfl
  | x :: l => by rw [srt, ins1_mem, srt_mem, List.mem_cons]
theorem srt_up : ∀ l : List Int, (srt l).Pairwise (· < ·)
  | [] => .nil
  | x :: l => ins1_up (srt_up l)
theorem up_nodup {l : List Int} (h : l.Pairwise (· < ·)) : l.Nodup := h.imp fun h => Int.ne_of_lt h
/-- one list alone is in order and has these members -/
theorem up_one {a b : List Int} (ha : a.Pairwise (· < ·)) (hb : b.Pairwise (· < ·)) (h : ∀ k, k ∈ a ↔ k ∈ b) : a = b :=
  PySem.W.lks_uniq ((List.perm_ext_iff_of_nodup (up_nodup ha) (up_nodup hb)).mpr h) (ha.imp fun h => Int.le_of_lt h) (hb.imp fun h => Int.le_of_lt h)
theorem card_one {a b : List Int} (ha : a.Nodup) (hb : b.Nodup) (h : ∀ k, k ∈ a ↔ k ∈ b) : a.length = b.length := ((List.perm_ext_iff_of_nodup ha hb).mpr h).length_eq
def rk (l : List Int) (x : Int) : Nat := (l.filter fun y => decide (y < x)).length
theorem rk_le (l : List Int) (x : Int) : rk l x ≤ l.length := List.length_filter_le _ _
theorem rk_cons {y x : Int} {l : List Int} : rk (y :: l) x = (if y < x then 1 else 0) + rk l x := by
  unfold rk
  rw [List.filter_cons]
  by_cases h : y < x
  · rw [if_pos (decide_eq_true h), if_pos h, List.length_cons, Nat.add_comm]
  · rw [if_neg (fun z => h (of_decide_eq_true z)), if_neg h, Nat.zero_add]
theorem rk_mono {x y : Int} (h : x ≤ y) : ∀ l : List Int, rk l x ≤ rk l y
  | [] => Nat.le_refl _
  | z :: l => by
    have := rk_mono h l
    rw [rk_cons, rk_cons]
    split <;> split <;> omega
theorem rk_lt {x y : Int} (h : x < y) : ∀ {l : List Int}, x ∈ l → rk l x < rk l y
  | z :: l, m => by
    have w := rk_mono (Int.le_of_lt h) l
    rw [rk_cons, rk_cons]
    rcases List.mem_cons.mp m with rfl | m
    · rw [if_neg (Int.lt_irrefl _), if_pos h]
      omega
    · have := rk_lt h m
      split <;> split <;> omega
theorem rk_iff {l : List Int} {x y : Int} (hx : x ∈ l) (hy : y ∈ l) : (x < y ↔ rk l x < rk l y) ∧ (x = y ↔ rk l x = rk l y) := by
  rcases Int.lt_trichotomy x y with h | h | h
  · have := rk_lt h hx
    exact ⟨⟨fun _ => this, fun _ => h⟩, ⟨fun e => by omega, fun e => by omega⟩⟩
  · subst h
    exact ⟨⟨fun e => absurd e (Int.lt_irrefl _), fun e => absurd e (Nat.lt_irrefl _)⟩, ⟨fun _ => rfl, fun _ => rfl⟩⟩
  · have := rk_lt h hy
    exact ⟨⟨fun e => by omega, fun e => by omega⟩, ⟨fun e => by omega, fun e => by omega⟩⟩
theorem rk_cut {l : List Int} {x h : Int} (hx : x ∈ l) : x < h ↔ rk l x < rk l h := by
  constructor
  · exact fun e => rk_lt e hx
  · intro e
    refine Decidable.byContradiction fun n => ?_
    have := rk_mono (show h ≤ x by omega) l
    omega
/-- in a list in order the place is the rank -/
theorem rk_at : ∀ {l : List Int}, l.Pairwise (· < ·) → ∀ {j : Nat} {x : Int}, l[j]? = some x → rk l x = j
  | y :: l, h, 0, x, e => by
    cases e
    obtain ⟨h1, h2⟩ := List.pairwise_cons.mp h
    rw [rk_cons, if_neg (Int.lt_irrefl _), Nat.zero_add]
    unfold rk
    rw [List.filter_eq_nil_iff.mpr fun z hz => by have := h1 z hz; rw [decide_eq_true_eq]; omega]
    rfl
  | y :: l, h, j + 1, x, e => by
    obtain ⟨h1, h2⟩ := List.pairwise_cons.mp h
    have m : x ∈ l := List.mem_of_getElem? (show l[j]? = some x from e)
    rw [rk_cons, if_pos (h1 x m), rk_at h2 (show l[j]? = some x from e), Nat.add_comm]
theorem at_rk {l : List Int} (h : l.Pairwise (· < ·)) {x : Int} (m : x ∈ l) : l[rk l x]? = some x := by
  obtain ⟨j, hj, e⟩ := List.mem_iff_getElem.mp m
  have e2 : l[j]? = some x := by rw [List.getElem?_eq_getElem hj, e]
  rw [rk_at h e2]
  exact e2
/-- the ranks of words, the cut -/
def rks (xs : List Int) : List Int := xs.map fun x => ((rk (srt xs) x : Nat) : Int)
def ct (xs : List Int) (h : Int) : Int := ((rk (srt xs) h : Nat) : Int)
def IsRk (rs : List Int) (m : Nat) : Prop := ∀ k, k ∈ rs ↔ 0 ≤ k ∧ k < (m : Int)
theorem rks_is (xs : List Int) : IsRk (rks xs) (srt xs).length := fun k => by
  unfold rks
  rw [List.mem_map]
  constructor
  · rintro ⟨x, hx, rfl⟩
    have m := srt_mem.mpr hx
    have lt : rk (srt xs) x < (srt xs).length := (List.getElem?_eq_some_iff.mp (at_rk (srt_up xs) m)).1
    omega
  · rintro ⟨h0, h1⟩
    obtain ⟨j, rfl⟩ := Int.eq_ofNat_of_zero_le h0
    have hj : j < (srt xs).length := by omega
    have e : (srt xs)[j]? = some (srt xs)[j] := List.getElem?_eq_getElem hj
    exact ⟨_, srt_mem.mp (List.mem_of_getElem? e), by rw [rk_at (srt_up xs) e]⟩
theorem ct_le (xs : List Int) (h : Int) : 0 ≤ ct xs h ∧ ct xs h ≤ ((srt xs).length : Int) := by
  have := rk_le (srt xs) h
  unfold ct
  omega
/-- the ranks from 0 on -/
def rg (m : Nat) : List Int := (List.range m).map fun i => ((i : Nat) : Int)
theorem rg_up (m : Nat) : (rg m).Pairwise (· < ·) := by
  unfold rg
  rw [List.pairwise_map]
  exact List.pairwise_lt_range.imp fun h => by omega
theorem rg_mem {m : Nat} {k : Int} : k ∈ rg m ↔ 0 ≤ k ∧ k < (m : Int) := by
  unfold rg
  rw [List.mem_map]
  constructor
  · rintro ⟨i, hi, rfl⟩
    have := List.mem_range.mp hi
    omega
  · rintro ⟨h0, h1⟩
    obtain ⟨j, rfl⟩ := Int.eq_ofNat_of_zero_le h0
    exact ⟨j, List.mem_range.mpr (by omega), rfl⟩
theorem rg_len (m : Nat) : (rg m).length = m := by unfold rg; rw [List.length_map, List.length_range]
theorem isRk_srt {rs ks : List Int} {m : Nat} (h : IsRk rs m) (up : ks.Pairwise (· < ·)) (mem : ∀ k, k ∈ ks ↔ k ∈ rs) : ks = rg m := up_one up (rg_up m) fun k => by rw [mem, h k, rg_mem]
theorem isRk_card {rs ks : List Int} {m : Nat} (h : IsRk rs m) (nd : ks.Nodup) (mem : ∀ k, k ∈ ks ↔ k ∈ rs) : ks.length = m := by
  rw [card_one nd (up_nodup (rg_up m)) (fun k => by rw [mem, h k, rg_mem]), rg_len]
/-- as many different integers as lie between two -/
theorem few {l : List Int} {a b : Int} (nd : l.Nodup) (h : ∀ k ∈ l, a ≤ k ∧ k < b) : (l.length : Int) ≤ if a ≤ b then b - a else 0 := by
  by_cases c : a ≤ b
  · rw [if_pos c]
    obtain ⟨n, hn⟩ := Int.eq_ofNat_of_zero_le (show 0 ≤ b - a by omega)
    have p : (l.map fun k => k - a).Nodup := by
      rw [List.Nodup, List.pairwise_map]
      exact nd.imp fun h e => h (by omega)
    have s : ∀ k ∈ l.map (fun k => k - a), k ∈ rg n := fun k hk => by
      obtain ⟨z, hz, rfl⟩ := List.mem_map.mp hk
      have := h z hz
      exact rg_mem.mpr ⟨by omega, by omega⟩
    have q := card_one p ((up_nodup (rg_up n)).filter fun k => decide (k ∈ l.map fun k => k - a)) fun k => by
      rw [List.mem_filter, decide_eq_true_eq]
      exact ⟨fun z => ⟨s k z, z⟩, fun z => z.2⟩
    have u := List.length_filter_le (fun k => decide (k ∈ l.map fun k => k - a)) (rg n)
    rw [← q, List.length_map, rg_len] at u
    omega
  · rw [if_neg c]
    cases l with
    | nil => exact Int.le_refl 0
    | cons x l =>
      have := h x List.mem_cons_self
      omega
theorem ct_bounds {xs : List Int} {h : Int} (h0 : 0 ≤ h) (w : ∀ x ∈ xs, 0 ≤ x ∧ x < 2 * h) : ct xs h ≤ h ∧ ((srt xs).length : Int) - ct xs h ≤ h := by
  have nd := up_nodup (srt_up xs)
  have e1 := few (a := 0) (b := h) (l := (srt xs).filter fun y => decide (y < h)) (nd.filter _) fun k hk => by
    obtain ⟨m, c⟩ := List.mem_filter.mp hk
    exact ⟨(w k (srt_mem.mp m)).1, of_decide_eq_true c⟩
  have e2 := few (a := h) (b := 2 * h) (l := (srt xs).filter fun y => !decide (y < h)) (nd.filter _) fun k hk => by
    obtain ⟨m, c⟩ := List.mem_filter.mp hk
    have := (w k (srt_mem.mp m)).2
    have c2 : decide (k < h) = false := by simpa using c
    have := of_decide_eq_false c2
    omega
  have e3 : ((srt xs).filter fun y => decide (y < h)).length + ((srt xs).filter fun y => !decide (y < h)).length = (srt xs).length := by
    have := List.length_eq_countP_add_countP (fun y => decide (y < h)) (l := srt xs)
    rw [List.countP_eq_length_filter, List.countP_eq_length_filter] at this
    have q : (fun a : Int => decide (¬ (decide (a < h)) = true)) = fun y => !decide (y < h) := by
      funext y
      by_cases c : y < h <;> simp [c]
    rw [q] at this
    omega
  unfold ct rk
  rw [if_pos h0] at e1
  rw [if_pos (show h ≤ 2 * h by omega)] at e2
  omega
/-- the first words -/
def lw (h c r : Int) : Int := if r < c then r else h + r - c
theorem lw_up {h c r s : Int} (hc : c ≤ h) (l : r < s) : lw h c r < lw h c s := by
  unfold lw
  split <;> split <;> omega
theorem lw_inj {h c r s : Int} (hc : c ≤ h) (e : lw h c r = lw h c s) : r = s := by
  rcases Int.lt_trichotomy r s with l | l | l
  · have := lw_up hc l
    omega
  · exact l
  · have := lw_up hc l
    omega
theorem lw_word {h c r : Int} {m : Nat} (h0 : 0 ≤ c) (hc : c ≤ h) (hm : (m : Int) - c ≤ h) (r0 : 0 ≤ r) (r1 : r < m) : 0 ≤ lw h c r ∧ lw h c r < 2 * h := by
  unfold lw
  split <;> omega
theorem lw_cut {h c r : Int} (hc : c ≤ h) : lw h c r < h ↔ r < c := by
  unfold lw
  split <;> constructor <;> intro _ <;> omega
theorem srt_lw {rs : List Int} {m : Nat} {h c : Int} (hc : c ≤ h) (is : IsRk rs m) : srt (rs.map (lw h c)) = (rg m).map (lw h c) := by
  refine up_one (srt_up _) ?_ fun k => ?_
  · rw [List.pairwise_map]
    exact (rg_up m).imp fun l => lw_up hc l
  · rw [srt_mem, List.mem_map, List.mem_map]
    constructor
    · rintro ⟨r, hr, e⟩
      exact ⟨r, rg_mem.mpr ((is r).mp hr), e⟩
    · rintro ⟨r, hr, e⟩
      exact ⟨r, (is r).mpr (rg_mem.mp hr), e⟩
theorem rk_map {h c x : Int} (hc : c ≤ h) : ∀ l : List Int, rk (l.map (lw h c)) (lw h c x) = rk l x
  | [] => rfl
  | y :: l => by
    rw [List.map_cons, rk_cons, rk_cons, rk_map hc l]
    congr 1
    by_cases q : y < x
    · rw [if_pos q, if_pos (lw_up hc q)]
    · rw [if_neg q, if_neg (fun z => by
        rcases Int.lt_trichotomy x y with e | e | e
        · have := lw_up hc e
          omega
        · subst e
          omega
        · exact q e)]
theorem rk_mapc {h c : Int} (hc : c ≤ h) : ∀ l : List Int, rk (l.map (lw h c)) h = rk l c
  | [] => rfl
  | y :: l => by
    rw [List.map_cons, rk_cons, rk_cons, rk_mapc hc l]
    congr 1
    by_cases q : y < c
    · rw [if_pos q, if_pos ((lw_cut hc).mpr q)]
    · rw [if_neg q, if_neg (fun z => q ((lw_cut hc).mp z))]
theorem rk_rg {m : Nat} {c : Int} (h0 : 0 ≤ c) (h1 : c ≤ m) : ((rk (rg m) c : Nat) : Int) = c := by
  obtain ⟨n, rfl⟩ := Int.eq_ofNat_of_zero_le h0
  have e : (rg m).filter (fun y => decide (y < ((n : Nat) : Int))) = rg n := up_one ((rg_up m).filter _) (rg_up n) fun k => by
    rw [List.mem_filter, rg_mem, rg_mem, decide_eq_true_eq]
    omega
  unfold rk
  rw [e, rg_len]
/-- the first words have the ranking -/
theorem rks_lw {rs : List Int} {m : Nat} {h c : Int} (hc : c ≤ h) (c0 : 0 ≤ c) (cm : c ≤ m) (is : IsRk rs m) : rks (rs.map (lw h c)) = rs ∧ ct (rs.map (lw h c)) h = c := by
  have e := srt_lw hc is
  refine ⟨?_, ?_⟩
  · unfold rks
    rw [e, List.map_map]
    have : ∀ r ∈ rs, ((fun x => ((rk ((rg m).map (lw h c)) x : Nat) : Int)) ∘ lw h c) r = r := fun r hr => by
      obtain ⟨r0, r1⟩ := (is r).mp hr
      show ((rk ((rg m).map (lw h c)) (lw h c r) : Nat) : Int) = r
      rw [rk_map hc]
      exact rk_rg r0 (by omega)
    rw [List.map_congr_left this, List.map_id']
  · unfold ct
    rw [e, rk_mapc hc]
    exact rk_rg c0 cm
/-- and no word is less than the first one of its rank -/
theorem lw_least {xs : List Int} {h x : Int} (h0 : 0 ≤ h) (w : ∀ x ∈ xs, 0 ≤ x) (hx : x ∈ xs) : lw h (ct xs h) ((rk (srt xs) x : Nat) : Int) ≤ x := by
  have nd := up_nodup (srt_up xs)
  have m := srt_mem.mpr hx
  have cc := rk_cut (h := h) m
  unfold lw ct
  split
  · rename_i c
    have e := few (a := 0) (b := x) (l := (srt xs).filter fun y => decide (y < x)) (nd.filter _) fun k hk => by
      obtain ⟨m, c⟩ := List.mem_filter.mp hk
      exact ⟨w k (srt_mem.mp m), of_decide_eq_true c⟩
    rw [if_pos (w x hx)] at e
    unfold rk
    omega
  · rename_i c
    have xh : h ≤ x := by
      refine Decidable.byContradiction fun n => c ?_
      have := cc.mp (by omega)
      omega
    have e := few (a := h) (b := x) (l := (srt xs).filter fun y => decide (y < x) && !decide (y < h)) (nd.filter _) fun k hk => by
      obtain ⟨m, c⟩ := List.mem_filter.mp hk
      obtain ⟨c1, c2⟩ := Bool.and_eq_true_iff.mp c
      have c3 : decide (k < h) = false := by simpa using c2
      have := of_decide_eq_false c3
      exact ⟨by omega, of_decide_eq_true c1⟩
    rw [if_pos xh] at e
    have split3 : ∀ l : List Int, rk l x = rk l h + (l.filter fun y => decide (y < x) && !decide (y < h)).length := fun l => by
      induction l with
      | nil => rfl
      | cons y l ih =>
        rw [rk_cons, rk_cons, ih, List.filter_cons]
        by_cases q1 : y < h
        · have q2 : y < x := by omega
          simp only [q1, q2, decide_true, Bool.not_true, Bool.and_false, if_true]
          simp
          omega
        · by_cases q2 : y < x
          · simp [q1, q2]
            omega
          · simp [q1, q2]
    have := split3 (srt xs)
    omega
theorem lex_le {e r : Nat → Bool} {z : Bool} (hz : z = true) (hr : ∀ i, r i = true) : ∀ (k i : Nat), Ob.lexAt e r z i k = true
  | 0, _ => hz
  | k + 1, i => by
    rw [Ob.lexAt_succ]
    split
    · exact lex_le hz hr k (i + 1)
    · exact hr i
/-- outcomes by ranks are those of the words -/
theorem ocut_rk {xs : List Int} {h x y : Int} (hx : x ∈ xs) (hy : y ∈ xs) : ocut (ct xs h) ((rk (srt xs) x : Nat) : Int) ((rk (srt xs) y : Nat) : Int) = ocut h x y := by
  have mx := srt_mem.mpr hx
  have my := srt_mem.mpr hy
  obtain ⟨i1, i2⟩ := rk_iff mx my
  have cx := rk_cut (h := h) mx
  have cy := rk_cut (h := h) my
  unfold ocut ct
  have d1 : decide ((rk (srt xs) x : Int) < (rk (srt xs) h : Int)) = decide (x < h) := decide_eq_decide.mpr (by omega)
  have d2 : decide ((rk (srt xs) y : Int) < (rk (srt xs) h : Int)) = decide (y < h) := decide_eq_decide.mpr (by omega)
  rw [d1, d2]
  by_cases c : x = y
  · rw [if_pos c, if_pos (by have := i2.mp c; omega)]
  · rw [if_neg c, if_neg (fun z => c (i2.mpr (by omega)))]
    by_cases l : x < y
    · rw [if_pos l, if_pos (show (rk (srt xs) x : Int) < (rk (srt xs) y : Int) by have := i1.mp l; omega)]
    · rw [if_neg l, if_neg (show ¬ (rk (srt xs) x : Int) < (rk (srt xs) y : Int) from fun z => l (i1.mpr (by omega)))]
end BR
namespace BR
open PySem PySem.Spec PyProof.Rows L2
/-! ### comprehensions that choose ints; a ranking in the heap -/
theorem filt_succ {p : Int → Bool} {xs : List Int} {i : Nat} {z : Int} (h : xs[i]? = some z) : (xs.take (i + 1)).filter p = (xs.take i).filter p ++ (if p z then [z] else []) := by
  have e : xs.take (i + 1) = xs.take i ++ [z] := by
    rw [List.take_add_one, h]
    rfl
  rw [e, List.filter_append]
  congr 1
  cases c : p z <;> simp [List.filter, c]
section
variable {K : PySem.W.Frag} {a : Addr} {xs : List Int} {j : Nat} {tt : TT} {te : TE} {vs : List Nat} {σ : L2.St} {H1 : Hp} {D : Addr} {Qd : Hp → Prop}
theorem lc_filtL (p : Int → Bool) (hL : SqL K H1 a (xs.map V.int)) (hz : xs.length ≤ 1000) (hD : H1 D = none)
    (hw : ∀ x : V, wipe ((wipe σ vs).set j (some x)) vs = wipe σ vs)
    (ht : ∀ (x : Int) (H2 : Hp) (Q : Bool → Hp → Prop), x ∈ xs → Same H1 H2 → (∀ H3, Same H2 H3 → Q (p x) H3) → tt ((wipe σ vs).set j (some (.int x))) H2 Q)
    (he : ∀ (x : Int) (H2 : Hp) (Q : VK), x ∈ xs → Same H1 H2 → Q (.int x) H2 → te ((wipe σ vs).set j (some (.int x))) H2 Q)
    (hd : ∀ H, Same H1 H → H D = some (.lst ((xs.filter p).map V.int)) → Qd H) :
    ∃ W : Nat → Nat → Hp → Prop, (∃ m, W 0 m (L2.upd H1 D (.lst []))) ∧ ∀ i m H, W i m H →
      ((Itl K a).stop i H ∧ Qd H) ∨ ((Itl K a).go i H ∧ ∃ Nx : Hp → Prop, (∀ H', Nx H' → ∃ m', m' < m ∧ W (i + 1) m' H') ∧ ∀ x H', (Itl K a).yld i H x H' → gName j x (wipe σ vs) H' fun σ2 H2 => wipe σ2 vs = wipe σ vs ∧ tt σ2 H2 fun b H3 =>
        if b = true then te σ2 H3 fun y H4 => ∃ acc, H4 D = some (.lst acc) ∧ acc.length < sizeLine ∧ Nx (L2.upd H4 D (.lst (acc ++ [y]))) else Nx H3) := by
  refine lc_list (xs := xs.map V.int) (fun i H => Same H1 H ∧ H D = some (.lst (((xs.take i).filter p).map V.int))) ⟨sameNew hD, upd_same⟩ (fun i H _ q => q.1.seq hL) ?_ ?_
  · rintro i x H hx ⟨s, hH⟩
    obtain ⟨z, hz1, rfl⟩ := map_at hx
    have mem := List.mem_of_getElem? hz1
    refine ⟨hw _, ?_⟩
    refine ht z H _ mem s fun H3 s3 => ?_
    have step := filt_succ (p := p) hz1
    cases c : p z with
    | false =>
      rw [c] at step
      refine tF rfl ⟨s.trans s3, ?_⟩
      rw [step]
      simpa using s3 _ _ hH
    | true =>
      rw [c] at step
      refine tT rfl (he z H3 _ mem (s.trans s3) ⟨_, s3 _ _ hH, small1000 ?_, sameUp (s.trans s3) hD, ?_⟩)
      · have l1 := List.length_filter_le p (xs.take i)
        rw [List.length_take] at l1
        rw [List.length_map]
        omega
      · rw [upd_same, step, List.map_append]
        rfl
  · rintro H ⟨s, hH⟩
    rw [List.length_map, List.take_length] at hH
    exact hd H s hH
theorem lc_filtT (p : Int → Bool) (hL : SqT K H1 a (xs.map V.int)) (hz : xs.length ≤ 1000) (hD : H1 D = none)
    (hw : ∀ x : V, wipe ((wipe σ vs).set j (some x)) vs = wipe σ vs)
    (ht : ∀ (x : Int) (H2 : Hp) (Q : Bool → Hp → Prop), x ∈ xs → Same H1 H2 → (∀ H3, Same H2 H3 → Q (p x) H3) → tt ((wipe σ vs).set j (some (.int x))) H2 Q)
    (he : ∀ (x : Int) (H2 : Hp) (Q : VK), x ∈ xs → Same H1 H2 → Q (.int x) H2 → te ((wipe σ vs).set j (some (.int x))) H2 Q)
    (hd : ∀ H, Same H1 H → H D = some (.lst ((xs.filter p).map V.int)) → Qd H) :
    ∃ W : Nat → Nat → Hp → Prop, (∃ m, W 0 m (L2.upd H1 D (.lst []))) ∧ ∀ i m H, W i m H →
      ((Itt K a).stop i H ∧ Qd H) ∨ ((Itt K a).go i H ∧ ∃ Nx : Hp → Prop, (∀ H', Nx H' → ∃ m', m' < m ∧ W (i + 1) m' H') ∧ ∀ x H', (Itt K a).yld i H x H' → gName j x (wipe σ vs) H' fun σ2 H2 => wipe σ2 vs = wipe σ vs ∧ tt σ2 H2 fun b H3 =>
        if b = true then te σ2 H3 fun y H4 => ∃ acc, H4 D = some (.lst acc) ∧ acc.length < sizeLine ∧ Nx (L2.upd H4 D (.lst (acc ++ [y]))) else Nx H3) := by
  refine lc_tup (xs := xs.map V.int) (fun i H => Same H1 H ∧ H D = some (.lst (((xs.take i).filter p).map V.int))) ⟨sameNew hD, upd_same⟩ (fun i H _ q => sameT q.1 hL) ?_ ?_
  · rintro i x H hx ⟨s, hH⟩
    obtain ⟨z, hz1, rfl⟩ := map_at hx
    have mem := List.mem_of_getElem? hz1
    refine ⟨hw _, ?_⟩
    refine ht z H _ mem s fun H3 s3 => ?_
    have step := filt_succ (p := p) hz1
    cases c : p z with
    | false =>
      rw [c] at step
      refine tF rfl ⟨s.trans s3, ?_⟩
      rw [step]
      simpa using s3 _ _ hH
    | true =>
      rw [c] at step
      refine tT rfl (he z H3 _ mem (s.trans s3) ⟨_, s3 _ _ hH, small1000 ?_, sameUp (s.trans s3) hD, ?_⟩)
      · have l1 := List.length_filter_le p (xs.take i)
        rw [List.length_take] at l1
        rw [List.length_map]
        omega
      · rw [upd_same, step, List.map_append]
        rfl
  · rintro H ⟨s, hH⟩
    rw [List.length_map, List.take_length] at hH
    exact hd H s hH
end
/-- a ranking (ranks, cut) stands at q -/
def RkAt (H : Hp) (q rt : Addr) (rs : List Int) (c : Int) : Prop := H q = some (.tup [.ref rt, .int c]) ∧ H rt = some (.tup (rs.map V.int))
theorem RkAt.same {H H' : Hp} {q rt : Addr} {rs : List Int} {c : Int} (h : RkAt H q rt rs c) (s : Same H H') : RkAt H' q rt rs c := ⟨s _ _ h.1, s _ _ h.2⟩
theorem rgV_rg (m : Nat) : rgV 0 (m : Int) = (rg m).map V.int := by
  unfold rgV rg
  rw [List.map_map]
  have : ((m : Int) - 0).toNat = m := by omega
  rw [this]
  apply List.map_congr_left
  intro i _
  show V.int (0 + (i : Int)) = V.int (i : Int)
  rw [Int.zero_add]
theorem srt_len : ∀ l : List Int, (srt l).length ≤ l.length
  | [] => Nat.le_refl _
  | x :: l => by
    have h : ∀ (x : Int) (l : List Int), (ins1 x l).length ≤ l.length + 1 := by
      intro x l
      induction l with
      | nil => exact Nat.le_refl _
      | cons y l ih =>
        unfold ins1
        split
        · exact Nat.le_refl _
        · split
          · exact Nat.le_succ _
          · exact Nat.succ_le_succ ih
    exact Nat.le_trans (h x (srt l)) (Nat.succ_le_succ (srt_len l))
/-- a ranking as data -/
def rkD (rs : List Int) (c : Int) : PyData := .tuple [.tuple (rs.map PyData.int), .int c]
theorem RkAt.dp {K : PySem.W.Frag} {H : Hp} {q rt : Addr} {rs : List Int} {c : Int} (h : RkAt H q rt rs c) : Dp K H (.ref q) (rkD rs c) := .tup (SqT.of h.1) (.cons (.tup (SqT.of h.2) (ints_all rs)) (.cons (.int c) .nil))
theorem rkD_ok {rs : List Int} {c : Int} (hr : ∀ r ∈ rs, 0 ≤ r ∧ r < 2 ^ 300) (hc : 0 ≤ c ∧ c < 2 ^ 300) (hz : rs.length ≤ 10) :
    SeqAt.shaped (rkD rs c) = true ∧ (PyData.list [rkD rs c, rkD rs c]).showable = true ∧ (PyData.list [rkD rs c, rkD rs c]).hasDict = false ∧ (PyData.list [rkD rs c, rkD rs c]).depth ≤ 60 ∧ (PyData.list [rkD rs c, rkD rs c]).shown.length ≤ sizeLine := by
  obtain ⟨h1, h2, h3, h4⟩ := ints_show hr
  obtain ⟨g1, g2, g3, g4⟩ := ints_show (ys := [c]) fun y hy => by
    obtain rfl := List.mem_singleton.mp hy
    exact hc
  obtain ⟨l1, l2⟩ := ints_lay rs
  have ic1 : (PyData.int c).showable = true := by simpa [PyData.showableAll] using g1
  have ic3 : (PyData.int c).leavesShort 301 = true := by simpa [PyData.leavesShortAll] using g3
  have ic4 : (PyData.int c).weight + 1 + 0 ≤ 301 * 1 := g4
  refine ⟨?_, ?_, ?_, ?_, ?_⟩
  · unfold SeqAt.shaped
    show ((PyData.canLayAll0 (rs.map PyData.int) && (true && true)) && decide (max (PyData.depthAll (rs.map PyData.int) + 1) (max 0 0) + 1 ≤ 64)) = true
    rw [l1, l2]
    rfl
  · show ((PyData.showableAll (rs.map PyData.int) && ((PyData.int c).showable && true)) && ((PyData.showableAll (rs.map PyData.int) && ((PyData.int c).showable && true)) && true)) = true
    rw [h1, ic1]
    rfl
  · show ((PyData.hasDictAll (rs.map PyData.int) || (false || false)) || ((PyData.hasDictAll (rs.map PyData.int) || (false || false)) || false)) = false
    rw [h2]
    rfl
  · show max (max (PyData.depthAll (rs.map PyData.int) + 1) (max 0 0) + 1) (max (max (PyData.depthAll (rs.map PyData.int) + 1) (max 0 0) + 1) 0) + 1 ≤ 60
    rw [l2]
    decide
  · have e := PyData.shown_le 301 (by decide) (.list [rkD rs c, rkD rs c]) (by
      show ((PyData.leavesShortAll 301 (rs.map PyData.int) && ((PyData.int c).leavesShort 301 && true)) && ((PyData.leavesShortAll 301 (rs.map PyData.int) && ((PyData.int c).leavesShort 301 && true)) && true)) = true
      rw [h3, ic3]
      rfl)
    have w : (PyData.list [rkD rs c, rkD rs c]).weight ≤ 8000 := by
      show (PyData.weightAll (rs.map PyData.int) + 1 + ((PyData.int c).weight + 1 + 0)) + 1 + ((PyData.weightAll (rs.map PyData.int) + 1 + ((PyData.int c).weight + 1 + 0)) + 1 + 0) ≤ 8000
      omega
    have : (301 + 2) * (PyData.list [rkD rs c, rkD rs c]).weight ≤ (301 + 2) * 8000 := Nat.mul_le_mul_left _ w
    exact Nat.le_trans e (Nat.le_trans (Nat.add_le_add_right this _) (by decide))
end BR

/-! ### walks whatever the turn does; max of a tuple; comb -/
namespace BR
open PySem PySem.Spec PyProof.Rows L2
section
variable {K : PySem.W.Frag} {H0 : Hp} {Qd : Hp → Prop} {B : V → Hp → (Hp → Prop) → Prop}
theorem itl_by {a : Addr} {xs : List V} (Pv : Nat → Hp → Prop) (h0 : Pv 0 H0) (hl : ∀ i H, i ≤ xs.length → Pv i H → SqL K H a xs) (hs : ∀ i x H, xs[i]? = some x → Pv i H → B x H (Pv (i + 1))) (hd : ∀ H, Pv xs.length H → Qd H) :
    ∃ W : Nat → Nat → Hp → Prop, (∃ m, W 0 m H0) ∧ ∀ i m H, W i m H → ((Itl K a).stop i H ∧ Qd H) ∨ ((Itl K a).go i H ∧ ∃ Nx : Hp → Prop, (∀ H', Nx H' → ∃ m', m' < m ∧ W (i + 1) m' H') ∧ ∀ x H', (Itl K a).yld i H x H' → B x H' Nx) := by
  refine ⟨fun i m H => m = xs.length - i ∧ i ≤ xs.length ∧ Pv i H, ⟨xs.length, by simp, Nat.zero_le _, h0⟩, fun i m H => ?_⟩
  rintro ⟨rfl, hi, p⟩
  have q := hl i H hi p
  rcases Nat.lt_or_eq_of_le hi with c | c
  · refine .inr ⟨⟨xs, xs[i], q, by simp [c]⟩, Pv (i + 1), fun H' p' => ⟨xs.length - (i + 1), by omega, rfl, c, p'⟩, fun x H' y => ?_⟩
    obtain ⟨e, y⟩ := y
    subst e
    exact hs i x _ (y xs q) p
  · subst c
    exact .inl ⟨⟨xs, q, Nat.le_refl _⟩, hd H p⟩
theorem itt_by {a : Addr} {xs : List V} (Pv : Nat → Hp → Prop) (h0 : Pv 0 H0) (hl : ∀ i H, i ≤ xs.length → Pv i H → SqT K H a xs) (hs : ∀ i x H, xs[i]? = some x → Pv i H → B x H (Pv (i + 1))) (hd : ∀ H, Pv xs.length H → Qd H) :
    ∃ W : Nat → Nat → Hp → Prop, (∃ m, W 0 m H0) ∧ ∀ i m H, W i m H → ((Itt K a).stop i H ∧ Qd H) ∨ ((Itt K a).go i H ∧ ∃ Nx : Hp → Prop, (∀ H', Nx H' → ∃ m', m' < m ∧ W (i + 1) m' H') ∧ ∀ x H', (Itt K a).yld i H x H' → B x H' Nx) := by
  refine ⟨fun i m H => m = xs.length - i ∧ i ≤ xs.length ∧ Pv i H, ⟨xs.length, by simp, Nat.zero_le _, h0⟩, fun i m H => ?_⟩
  rintro ⟨rfl, hi, p⟩
  have q := hl i H hi p
  rcases Nat.lt_or_eq_of_le hi with c | c
  · refine .inr ⟨⟨xs, xs[i], q, by simp [c]⟩, Pv (i + 1), fun H' p' => ⟨xs.length - (i + 1), by omega, rfl, c, p'⟩, fun x H' y => ?_⟩
    obtain ⟨e, y⟩ := y
    subst e
    exact hs i x _ (y xs q) p
  · subst c
    exact .inl ⟨⟨xs, q, Nat.le_refl _⟩, hd H p⟩
theorem itr_by {lo : Int} {n : Nat} (Pv : Nat → Hp → Prop) (h0 : Pv 0 H0) (hs : ∀ i H, i < n → Pv i H → B (.int (lo + i)) H (Pv (i + 1))) (hd : ∀ H, Pv n H → Qd H) :
    ∃ W : Nat → Nat → Hp → Prop, (∃ m, W 0 m H0) ∧ ∀ i m H, W i m H → ((Itr lo n).stop i H ∧ Qd H) ∨ ((Itr lo n).go i H ∧ ∃ Nx : Hp → Prop, (∀ H', Nx H' → ∃ m', m' < m ∧ W (i + 1) m' H') ∧ ∀ x H', (Itr lo n).yld i H x H' → B x H' Nx) := by
  refine ⟨fun i m H => m = n - i ∧ i ≤ n ∧ Pv i H, ⟨n, by simp, Nat.zero_le _, h0⟩, fun i m H => ?_⟩
  rintro ⟨rfl, hi, p⟩
  rcases Nat.lt_or_eq_of_le hi with c | c
  · refine .inr ⟨c, Pv (i + 1), fun H' p' => ⟨n - (i + 1), by omega, rfl, c, p'⟩, fun x H' y => ?_⟩
    obtain ⟨e, y⟩ := y
    subst e y
    exact hs i _ c p
  · subst c
    exact .inl ⟨Nat.le_refl _, hd H p⟩
end
theorem small9000 {n : Nat} (h : n ≤ 9000) : n < sizeLine := by rw [sizeLine_eq]; omega
/-- the greatest of ints -/
def mx : List Int → Int
  | [] => 0
  | x :: xs => xs.foldl (fun a y => if a < y then y else a) x
theorem mx_fold : ∀ (xs : List Int) (x : Int), (x :: xs).foldl (fun a y => if a < y then y else a) x = xs.foldl (fun a y => if a < y then y else a) x := fun xs x => by
  rw [List.foldl_cons, if_neg (Int.lt_irrefl _)]
section
variable {X : Cx}
def rMaxT (K : PySem.W.Frag) : List V → Hp → VK → Prop := fun xs H Q => ∃ (a : Addr) (ns : List Int), xs = [.ref a] ∧ SqT K H a (ns.map V.int) ∧ ns ≠ [] ∧ Q (.int (mx ns)) H
theorem cr_maxT (hc : X.calm = true) (hu : X.A.units + 64 < cLine) : CallR X (.builtin "max") (rMaxT X.K) := by
  intro pins s σ H xs us Q I r h
  obtain ⟨a, ns, rfl, hq, hne, q⟩ := h
  rw [Vals.ref1 r]
  obtain ⟨its, rv, pt, _⟩ := I.tuple hq
  cases ns with
  | nil => exact absurd rfl hne
  | cons x xs =>
    obtain ⟨as, ra⟩ := Dp.readsAll I ((x :: xs).map PyData.int) _ _ (ints_all (x :: xs)) rv
    have al : ∀ d ∈ (x :: xs).map PyData.int, ∃ i, d = .int i := fun d hd => by
      obtain ⟨i, _, e⟩ := List.mem_map.mp hd
      exact ⟨i, e.symm⟩
    refine PySem.W.max_tuple_data (x := .int x) (xs := xs.map .int) (I.ok.hd hc) (show s.heap.IsTuple a its.toArray from pt) (by simpa using ra) ⟨fun d hd e he => ?_, fun d hd => ?_⟩ (by show X.A.units + 1 + PyData.depthAll ((x :: xs).map PyData.int) < cLine; rw [(ints_lay (x :: xs)).2]; omega) fun k v h' tk bs _ hr hk => ?_
    · obtain ⟨i, rfl⟩ := al d hd
      obtain ⟨j, rfl⟩ := al e he
      rfl
    · obtain ⟨i, rfl⟩ := al d hd
      exact fun z => nomatch z
    · have e : ∀ (ys : List Int) (z : Int), PySem.W.maxD (.int z) (ys.map PyData.int) = .int (ys.foldl (fun a y => if a < y then y else a) z) := by
        intro ys
        induction ys with
        | nil => exact fun z => rfl
        | cons y ys ih =>
          intro z
          have st : PySem.W.maxD (.int z) ((y :: ys).map PyData.int) = PySem.W.maxD (if PySem.W.dataLt (.int z) (.int y) then .int y else .int z) (ys.map PyData.int) := rfl
          rw [st, PySem.W.dataLt_int, List.foldl_cons]
          by_cases c : z < y
          · rw [if_pos (decide_eq_true c), if_pos c, ih]
          · rw [if_neg (fun q => c (of_decide_eq_true q)), if_neg c, ih]
      rw [e] at hr
      cases hr
      exact ⟨.int _, H, I.kept (t' := tk) hk, ⟨_, rfl⟩, q⟩
def rLenSq (K : PySem.W.Frag) : List V → Hp → VK → Prop := fun xs H Q => ∃ p ys, xs = [.ref p] ∧ (SqL K H p ys ∨ SqT K H p ys) ∧ Q (.int ys.length) H
theorem cr_lenSq : CallR X (.builtin "len") (rLenSq X.K) := call_len_seq
def rTupOf (K : PySem.W.Frag) : List V → Hp → VK → Prop := fun xs H Q => ∃ p ys, xs = [.ref p] ∧ ((SqL K H p ys ∧ ∀ l, H l = none → Q (.ref l) (L2.upd H l (.tup ys))) ∨ (SqT K H p ys ∧ Q (.ref p) H))
theorem cr_tupOf : CallR X (.type "tuple") (rTupOf X.K) := call_tuple_of
/-- comb(n, k), n below 2^300, k at most 5 -/
def cmb (n : Int) (k : Int) : Int := if n < k then 0 else Builtin.Math.fallingProduct n (min k (n - k)).toNat / Builtin.Math.fallingProduct (min k (n - k)) (min k (n - k)).toNat
theorem cr_comb : CallR X (.builtin "math.comb") (fun xs H Q => ∃ n k : Int, xs = [.int n, .int k] ∧ 0 ≤ n ∧ 0 ≤ k ∧ k ≤ 9000 ∧ (n < k ∨ (Builtin.Math.fallingProduct n (min k (n - k)).toNat / Builtin.Math.fallingProduct (min k (n - k)) (min k (n - k)).toNat).natAbs.log2 < bitsLine) ∧ Q (.int (cmb n k)) H) := by
  intro pins s σ H xs us Q I r h
  obtain ⟨n, k, rfl, n0, k0, k9, sz, q⟩ := h
  obtain ⟨t, u, rfl⟩ := Vals.int2 r
  unfold cmb at q
  by_cases c : n < k
  · rw [if_pos c] at q
    exact call_function_meets PySem.W.MGF.kind_comb PySem.W.MGF.plain_comb PySem.W.MGF.entry_comb (PySem.W.MGF.args_comb _ _) (PySem.W.mc_run_comb0 n t k u (by omega) (by omega) c).meets ⟨.int 0, H, I.tok _, ⟨_, rfl⟩, q⟩
  · rw [if_neg c] at q
    have z := sz.resolve_left c
    refine call_function_meets PySem.W.MGF.kind_comb PySem.W.MGF.plain_comb PySem.W.MGF.entry_comb (PySem.W.MGF.args_comb _ _) (PySem.W.mc_run_comb n t k u (by omega) (by omega) (by omega) ?_ ?_ (by omega) z).meets ⟨.int _, H, I.tok _, ⟨_, rfl⟩, q⟩
    · have : (9000 : Int) < Builtin.Math.maxSsize := by decide +kernel
      omega
    · have : (9000 : Int) ≤ Builtin.Math.manyFactors := by decide +kernel
      omega
end
end BR

/-! ### all rankings -/
namespace BR
open PySem PySem.Spec PyProof.Rows L2
def gapsI (r : List Int) : Int := mx r + 1 - ((srt r).length : Int)
def addR (n : Nat) (r : List Int) : List (List Int) := (List.range n).map fun x => r ++ [((x : Nat) : Int)]
def keepR (n : Nat) (r : List Int) : Bool := decide (gapsI r ≤ (n : Int) - (r.length : Int))
def rowsR (n : Nat) : Nat → List (List Int)
  | 0 => [[]]
  | k + 1 => ((rowsR n k).flatMap (addR n)).filter (keepR n)
def cutsR (r : List Int) : List (List Int × Int) := (List.range (mx r + 2).toNat).map fun c => (r, ((c : Nat) : Int))
def allRk (n : Nat) : List (List Int × Int) := (rowsR n n).flatMap cutsR
def okRk (n : Nat) (p : List Int × Int) : Bool := decide (p.1.length = n) && decide (srt p.1 = rg (srt p.1).length) && decide (0 ≤ p.2) && decide (p.2 ≤ ((srt p.1).length : Int))
theorem rows_small : ∀ n ∈ ([1, 2, 3, 4, 5] : List Nat), ∀ k ∈ List.range n, (rowsR n k).length ≤ 700 ∧ ∀ r ∈ rowsR n k, r.length = k := by decide +kernel
theorem rows_last : ∀ n ∈ ([1, 2, 3, 4, 5] : List Nat), (rowsR n n).length ≤ 700 ∧ (∀ r ∈ rowsR n n, r.length = n ∧ 0 ≤ mx r ∧ mx r ≤ 4) := by decide +kernel
theorem all_len : [1, 2, 3, 4, 5].map (fun n => (allRk n).length) = [2, 8, 44, 308, 2612] := by decide +kernel
theorem all_ok : ∀ n ∈ ([1, 2, 3, 4, 5] : List Nat), (allRk n).all (okRk n) = true := by decide +kernel
theorem five {n : Nat} (h1 : 1 ≤ n) (h2 : n ≤ 5) : n ∈ ([1, 2, 3, 4, 5] : List Nat) := by
  have : n = 1 ∨ n = 2 ∨ n = 3 ∨ n = 4 ∨ n = 5 := by omega
  simpa using this
theorem flat_len {α β : Type} {f : α → List β} {m : Nat} : ∀ {l : List α}, (∀ x ∈ l, (f x).length ≤ m) → (l.flatMap f).length ≤ l.length * m
  | [], _ => Nat.zero_le _
  | x :: l, h => by
    rw [List.flatMap_cons, List.length_append, List.length_cons, Nat.succ_mul]
    have a := h x List.mem_cons_self
    have b := flat_len (f := f) (m := m) (l := l) fun y hy => h y (List.mem_cons_of_mem _ hy)
    omega
/-- refs to tuples of ints -/
def TL (H : Hp) (as : List Addr) (rows : List (List Int)) : Prop := Paired (fun a row => H a = some (.tup (row.map V.int))) as rows
theorem pr_mono {α β : Type} {R S : α → β → Prop} : ∀ {as : List α} {bs : List β}, Paired R as bs → (∀ a b, R a b → S a b) → Paired S as bs
  | _, _, .nil, _ => .nil
  | _, _, .cons h t, m => .cons (m _ _ h) (pr_mono t m)
theorem pr_snoc {α β : Type} {R : α → β → Prop} {a : α} {b : β} : ∀ {as : List α} {bs : List β}, Paired R as bs → R a b → Paired R (as ++ [a]) (bs ++ [b])
  | _, _, .nil, r => .cons r .nil
  | _, _, .cons h t, r => .cons h (pr_snoc t r)
theorem pr_len {α β : Type} {R : α → β → Prop} : ∀ {as : List α} {bs : List β}, Paired R as bs → as.length = bs.length
  | _, _, .nil => rfl
  | _, _, .cons _ t => congrArg Nat.succ (pr_len t)
theorem pr_at {α β : Type} {R : α → β → Prop} : ∀ {as : List α} {bs : List β}, Paired R as bs → ∀ {i : Nat} {a : α}, as[i]? = some a → ∃ b, bs[i]? = some b ∧ R a b
  | _, _, .cons h t, 0, a, e => by
    cases e
    exact ⟨_, rfl, h⟩
  | _, _, .cons h t, i + 1, a, e => pr_at t (i := i) e
theorem pr_at2 {α β : Type} {R : α → β → Prop} : ∀ {as : List α} {bs : List β}, Paired R as bs → ∀ {i : Nat} {b : β}, bs[i]? = some b → ∃ a, as[i]? = some a ∧ R a b
  | _, _, .cons h t, 0, a, e => by
    cases e
    exact ⟨_, rfl, h⟩
  | _, _, .cons h t, i + 1, a, e => pr_at2 t (i := i) e
theorem TL.same {H H' : Hp} {as : List Addr} {rows : List (List Int)} (h : TL H as rows) (s : Same H H') : TL H' as rows := pr_mono h fun a r e => s _ _ e
theorem TL.put {H : Hp} {as : List Addr} {rows : List (List Int)} {D : Addr} {xs : List V} {o : HO} (h : TL H as rows) (e : H D = some (.lst xs)) : TL (L2.upd H D o) as rows := pr_mono h fun a r q => by
  rw [upd_ne (fun z => by rw [z, e] at q; cases q)]
  exact q
/-- refs to rankings -/
def RL (H : Hp) (qs : List Addr) (ps : List (List Int × Int)) : Prop := Paired (fun q p => ∃ rt, RkAt H q rt p.1 p.2) qs ps
theorem RL.same {H H' : Hp} {qs : List Addr} {ps : List (List Int × Int)} (h : RL H qs ps) (s : Same H H') : RL H' qs ps := pr_mono h fun q p e => let ⟨rt, r⟩ := e; ⟨rt, r.same s⟩
theorem RL.put {H : Hp} {qs : List Addr} {ps : List (List Int × Int)} {D : Addr} {xs : List V} {o : HO} (h : RL H qs ps) (e : H D = some (.lst xs)) : RL (L2.upd H D o) qs ps := pr_mono h fun q p r => by
  obtain ⟨rt, r1, r2⟩ := r
  exact ⟨rt, by rw [upd_ne (fun z => by rw [z, e] at r1; cases r1)]; exact r1, by rw [upd_ne (fun z => by rw [z, e] at r2; cases r2)]; exact r2⟩
theorem mapR_at {as : List Addr} {i : Nat} {x : V} (h : (as.map V.ref)[i]? = some x) : ∃ a, as[i]? = some a ∧ x = .ref a := by
  rw [List.getElem?_map] at h
  cases e : as[i]? with
  | none =>
    rw [e] at h
    cases h
  | some a =>
    rw [e] at h
    cases h
    exact ⟨a, rfl, rfl⟩
theorem flat_take {α β : Type} {f : α → List β} {l : List α} {i : Nat} {x : α} (h : l[i]? = some x) : (l.take (i + 1)).flatMap f = (l.take i).flatMap f ++ f x := by
  rw [List.take_add_one, h, List.flatMap_append]
  simp
theorem addR_take {n j : Nat} {r : List Int} (h : j < n) : (addR n r).take (j + 1) = (addR n r).take j ++ [r ++ [((j : Nat) : Int)]] := by
  have e : (addR n r)[j]? = some (r ++ [((j : Nat) : Int)]) := by
    unfold addR
    rw [List.getElem?_map, List.getElem?_range h]
    rfl
  rw [List.take_add_one, e]
  rfl
theorem cutsR_take {j : Nat} {r : List Int} (h : j < (mx r + 2).toNat) : (cutsR r).take (j + 1) = (cutsR r).take j ++ [(r, ((j : Nat) : Int))] := by
  have e : (cutsR r)[j]? = some (r, ((j : Nat) : Int)) := by
    unfold cutsR
    rw [List.getElem?_map, List.getElem?_range h]
    rfl
  rw [List.take_add_one, e]
  rfl
end BR

/-! ### words counted; words turned; outcomes tell rankings -/
namespace BR
open PySem PySem.Spec PyProof.Rows L2
theorem cmb_small : ∀ n ∈ List.range 8, ∀ k ∈ List.range 5, (k = 0 → cmb (n : Int) k = 1) ∧ (k = 1 → cmb (n : Int) k = n) ∧ (k = 2 → 2 * cmb (n : Int) k = (n : Int) * ((n : Int) - 1)) ∧ (k = 3 → 6 * cmb (n : Int) k = (n : Int) * ((n : Int) - 1) * ((n : Int) - 2)) ∧ (k = 4 → 24 * cmb (n : Int) k = (n : Int) * ((n : Int) - 1) * ((n : Int) - 2) * ((n : Int) - 3)) := by decide +kernel
theorem fall_nn {n : Int} (k : Nat) (h : (k : Int) ≤ n) : 0 ≤ Builtin.Math.fallingProduct n k := by
  induction k with
  | zero => exact (by decide : (0 : Int) ≤ 1)
  | succ k ih =>
    unfold Builtin.Math.fallingProduct at ih ⊢
    rw [List.range_succ, List.foldl_append]
    exact Int.mul_nonneg (ih (by omega)) (by omega)
theorem cmb_polys {n : Int} (h : 0 ≤ n) : cmb n 0 = 1 ∧ cmb n 1 = n ∧ 2 * cmb n 2 = n * (n - 1) ∧ 6 * cmb n 3 = n * (n - 1) * (n - 2) ∧ 24 * cmb n 4 = n * (n - 1) * (n - 2) * (n - 3) := by
  by_cases c : n < 8
  · obtain ⟨a, rfl⟩ := Int.eq_ofNat_of_zero_le h
    have s := cmb_small a (List.mem_range.mpr (by omega))
    exact ⟨(s 0 (by decide)).1 rfl, (s 1 (by decide)).2.1 rfl, (s 2 (by decide)).2.2.1 rfl, (s 3 (by decide)).2.2.2.1 rfl, (s 4 (by decide)).2.2.2.2 rfl⟩
  · have e : ∀ k : Nat, k ≤ 4 → cmb n (k : Int) = Builtin.Math.fallingProduct n k / Builtin.Math.fallingProduct (k : Int) k := fun k hk => by
      unfold cmb
      rw [if_neg (by omega)]
      have m : min (k : Int) (n - k) = (k : Int) := by omega
      rw [m]
      rfl
    have f0 : cmb n 0 = 1 := by rw [show (0 : Int) = ((0 : Nat) : Int) from rfl, e 0 (by decide)]; rfl
    have f1 : cmb n 1 = n := by
      rw [show (1 : Int) = ((1 : Nat) : Int) from rfl, e 1 (by decide)]
      show (1 * (n - 0)) / 1 = n
      omega
    have f2 : cmb n 2 = (1 * (n - 0) * (n - 1)) / 2 := by rw [show (2 : Int) = ((2 : Nat) : Int) from rfl, e 2 (by decide)]; rfl
    have f3 : cmb n 3 = (1 * (n - 0) * (n - 1) * (n - 2)) / 6 := by rw [show (3 : Int) = ((3 : Nat) : Int) from rfl, e 3 (by decide)]; rfl
    have f4 : cmb n 4 = (1 * (n - 0) * (n - 1) * (n - 2) * (n - 3)) / 24 := by rw [show (4 : Int) = ((4 : Nat) : Int) from rfl, e 4 (by decide)]; rfl
    have d2 : (n * (n - 1)) % 2 = 0 := by
      have : n % 2 = 0 ∨ n % 2 = 1 := by omega
      rcases this with h | h <;> simp [Int.mul_emod, Int.sub_emod, h]
    have d3 : (n * (n - 1) * (n - 2)) % 6 = 0 := by
      have : n % 6 = 0 ∨ n % 6 = 1 ∨ n % 6 = 2 ∨ n % 6 = 3 ∨ n % 6 = 4 ∨ n % 6 = 5 := by omega
      rcases this with h | h | h | h | h | h <;> simp [Int.mul_emod, Int.sub_emod, h]
    have d4 : (n * (n - 1) * (n - 2) * (n - 3)) % 24 = 0 := by
      have : n % 24 = 0 ∨ n % 24 = 1 ∨ n % 24 = 2 ∨ n % 24 = 3 ∨ n % 24 = 4 ∨ n % 24 = 5 ∨ n % 24 = 6 ∨ n % 24 = 7 ∨ n % 24 = 8 ∨ n % 24 = 9 ∨ n % 24 = 10 ∨ n % 24 = 11 ∨ n % 24 = 12 ∨ n % 24 = 13 ∨ n % 24 = 14 ∨ n % 24 = 15 ∨ n % 24 = 16 ∨ n % 24 = 17 ∨ n % 24 = 18 ∨ n % 24 = 19 ∨ n % 24 = 20 ∨ n % 24 = 21 ∨ n % 24 = 22 ∨ n % 24 = 23 := by omega
      rcases this with h | h | h | h | h | h | h | h | h | h | h | h | h | h | h | h | h | h | h | h | h | h | h | h <;> simp [Int.mul_emod, Int.sub_emod, h]
    rw [Int.one_mul, Int.sub_zero] at f2 f3 f4
    refine ⟨f0, f1, ?_, ?_, ?_⟩
    · rw [f2]
      generalize n * (n - 1) = z at d2
      omega
    · rw [f3]
      generalize n * (n - 1) * (n - 2) = z at d3
      omega
    · rw [f4]
      generalize n * (n - 1) * (n - 2) * (n - 3) = z at d4
      omega
/-- how many words a ranking has -/
def wordsOf (h : Int) (p : List Int × Int) : Int := cmb h p.2 * cmb h (((srt p.1).length : Int) - p.2)
def shape (p : List Int × Int) : Nat × Nat := (p.2.toNat, (((srt p.1).length : Int) - p.2).toNat)
def cnt {α : Type} [DecidableEq α] (l : List α) (x : α) : Nat := l.count x
theorem sum_count {α : Type} [DecidableEq α] (f : α → Int) : ∀ (l s : List α), s.Nodup → (∀ x ∈ l, x ∈ s) → (l.map f).sum = (s.map fun x => ((cnt l x : Nat) : Int) * f x).sum
  | [], s, _, _ => by
    have : (s.map fun x => ((cnt ([] : List α) x : Nat) : Int) * f x) = s.map fun _ => (0 : Int) := List.map_congr_left fun x _ => by simp [cnt]
    rw [this]
    have z : ∀ s : List α, (s.map fun _ => (0 : Int)).sum = 0 := fun s => by
      induction s with
      | nil => rfl
      | cons x s ih => rw [List.map_cons, List.sum_cons, ih]; rfl
    rw [z]
    rfl
  | y :: l, s, nd, h => by
    have ih := sum_count f l s nd fun x hx => h x (List.mem_cons_of_mem _ hx)
    have my := h y List.mem_cons_self
    rw [List.map_cons, List.sum_cons, ih]
    have g : ∀ (t : List α), t.Nodup → (t.map fun x => ((cnt (y :: l) x : Nat) : Int) * f x).sum = (if y ∈ t then f y else 0) + (t.map fun x => ((cnt l x : Nat) : Int) * f x).sum := by
      unfold cnt
      intro t
      induction t with
      | nil => intro _; rfl
      | cons x t iht =>
        intro ndt
        obtain ⟨nx, nt⟩ := List.nodup_cons.mp ndt
        rw [List.map_cons, List.sum_cons, List.map_cons, List.sum_cons, iht nt]
        by_cases e : y = x
        · subst e
          rw [if_neg nx, if_pos List.mem_cons_self, List.count_cons_self]
          have : (((l.count y + 1 : Nat) : Int)) * f y = f y + ((l.count y : Nat) : Int) * f y := by
            rw [Int.natCast_add, Int.add_mul]
            omega
          rw [this]
          omega
        · rw [List.count_cons_of_ne e]
          have m : (y ∈ x :: t) ↔ y ∈ t := by simp [e]
          by_cases q : y ∈ t
          · rw [if_pos q, if_pos (m.mpr q)]
            omega
          · rw [if_neg q, if_neg (fun z => q (m.mp z))]
            omega
    rw [g s nd, if_pos my]
theorem words_shape (h : Int) (p : List Int × Int) (c0 : 0 ≤ p.2) (cm : p.2 ≤ ((srt p.1).length : Int)) : wordsOf h p = cmb h ((shape p).1 : Int) * cmb h ((shape p).2 : Int) := by
  unfold wordsOf shape
  rw [Int.toNat_of_nonneg c0, Int.toNat_of_nonneg (by omega)]
def keys (n : Nat) : List (Nat × Nat) := (List.range (n + 1)).flatMap fun i => (List.range (n + 1 - i)).map fun j => (i, j)
theorem shape_in : ∀ n ∈ ([1, 2, 3, 4] : List Nat), (keys n).Nodup ∧ ∀ x ∈ (allRk n).map shape, x ∈ keys n := by decide +kernel
theorem ok_at {n : Nat} (h1 : 1 ≤ n) (h2 : n ≤ 5) {p : List Int × Int} (m : p ∈ allRk n) : p.1.length = n ∧ IsRk p.1 (srt p.1).length ∧ 0 ≤ p.2 ∧ p.2 ≤ ((srt p.1).length : Int) := by
  have o := List.all_eq_true.mp (all_ok n (five h1 h2)) p m
  unfold okRk at o
  simp only [Bool.and_eq_true, decide_eq_true_eq] at o
  obtain ⟨⟨⟨a, b⟩, c⟩, d⟩ := o
  refine ⟨a, fun k => ?_, c, d⟩
  rw [← srt_mem (l := p.1), b, rg_len, rg_mem]
theorem sum_all {h : Int} (h0 : 0 ≤ h) {n : Nat} (h1 : 1 ≤ n) (h4 : n ≤ 4) : ((allRk n).map (wordsOf h)).sum = (2 * h) ^ n := by
  have e : (allRk n).map (wordsOf h) = ((allRk n).map shape).map fun s => cmb h (s.1 : Int) * cmb h (s.2 : Int) := by
    rw [List.map_map]
    refine List.map_congr_left fun p m => ?_
    obtain ⟨_, _, c0, cm⟩ := ok_at h1 (by omega) m
    exact words_shape h p c0 cm
  obtain ⟨b0, b1, b2, b3, b4⟩ := cmb_polys h0
  have m4 : n ∈ ([1, 2, 3, 4] : List Nat) := by
    have : n = 1 ∨ n = 2 ∨ n = 3 ∨ n = 4 := by omega
    simpa using this
  obtain ⟨k1, k2⟩ := shape_in n m4
  rw [e, sum_count _ _ _ k1 k2]
  have : n = 1 ∨ n = 2 ∨ n = 3 ∨ n = 4 := by omega
  rcases this with rfl | rfl | rfl | rfl
  · have q : ((keys 1).map fun x => (x, cnt ((allRk 1).map shape) x)) = [((0, 0), 0), ((0, 1), 1), ((1, 0), 1)] := by decide +kernel
    have q2 := congrArg (List.map fun y : (Nat × Nat) × Nat => ((y.2 : Nat) : Int) * (cmb h (y.1.1 : Int) * cmb h (y.1.2 : Int))) q
    rw [List.map_map] at q2
    rw [show (keys 1).map (fun x => ((cnt ((allRk 1).map shape) x : Nat) : Int) * (cmb h (x.1 : Int) * cmb h (x.2 : Int))) = _ from q2]
    show 0 * (cmb h 0 * cmb h 0) + (1 * (cmb h 0 * cmb h 1) + (1 * (cmb h 1 * cmb h 0) + 0)) = (2 * h) ^ 1
    rw [b0, b1]
    grind
  · have q : ((keys 2).map fun x => (x, cnt ((allRk 2).map shape) x)) = [((0, 0), 0), ((0, 1), 1), ((0, 2), 2), ((1, 0), 1), ((1, 1), 2), ((2, 0), 2)] := by decide +kernel
    have q2 := congrArg (List.map fun y : (Nat × Nat) × Nat => ((y.2 : Nat) : Int) * (cmb h (y.1.1 : Int) * cmb h (y.1.2 : Int))) q
    rw [List.map_map] at q2
    rw [show (keys 2).map (fun x => ((cnt ((allRk 2).map shape) x : Nat) : Int) * (cmb h (x.1 : Int) * cmb h (x.2 : Int))) = _ from q2]
    show 0 * (cmb h 0 * cmb h 0) + (1 * (cmb h 0 * cmb h 1) + (2 * (cmb h 0 * cmb h 2) + (1 * (cmb h 1 * cmb h 0) + (2 * (cmb h 1 * cmb h 1) + (2 * (cmb h 2 * cmb h 0) + 0))))) = (2 * h) ^ 2
    rw [b0, b1]
    grind
  · have q : ((keys 3).map fun x => (x, cnt ((allRk 3).map shape) x)) = [((0, 0), 0), ((0, 1), 1), ((0, 2), 6), ((0, 3), 6), ((1, 0), 1), ((1, 1), 6), ((1, 2), 6), ((2, 0), 6), ((2, 1), 6), ((3, 0), 6)] := by decide +kernel
    have q2 := congrArg (List.map fun y : (Nat × Nat) × Nat => ((y.2 : Nat) : Int) * (cmb h (y.1.1 : Int) * cmb h (y.1.2 : Int))) q
    rw [List.map_map] at q2
    rw [show (keys 3).map (fun x => ((cnt ((allRk 3).map shape) x : Nat) : Int) * (cmb h (x.1 : Int) * cmb h (x.2 : Int))) = _ from q2]
    show 0 * (cmb h 0 * cmb h 0) + (1 * (cmb h 0 * cmb h 1) + (6 * (cmb h 0 * cmb h 2) + (6 * (cmb h 0 * cmb h 3) + (1 * (cmb h 1 * cmb h 0) + (6 * (cmb h 1 * cmb h 1) + (6 * (cmb h 1 * cmb h 2) + (6 * (cmb h 2 * cmb h 0) + (6 * (cmb h 2 * cmb h 1) + (6 * (cmb h 3 * cmb h 0) + 0))))))))) = (2 * h) ^ 3
    rw [b0, b1]
    grind
  · have q : ((keys 4).map fun x => (x, cnt ((allRk 4).map shape) x)) = [((0, 0), 0), ((0, 1), 1), ((0, 2), 14), ((0, 3), 36), ((0, 4), 24), ((1, 0), 1), ((1, 1), 14), ((1, 2), 36), ((1, 3), 24), ((2, 0), 14), ((2, 1), 36), ((2, 2), 24), ((3, 0), 36), ((3, 1), 24), ((4, 0), 24)] := by decide +kernel
    have q2 := congrArg (List.map fun y : (Nat × Nat) × Nat => ((y.2 : Nat) : Int) * (cmb h (y.1.1 : Int) * cmb h (y.1.2 : Int))) q
    rw [List.map_map] at q2
    rw [show (keys 4).map (fun x => ((cnt ((allRk 4).map shape) x : Nat) : Int) * (cmb h (x.1 : Int) * cmb h (x.2 : Int))) = _ from q2]
    show 0 * (cmb h 0 * cmb h 0) + (1 * (cmb h 0 * cmb h 1) + (14 * (cmb h 0 * cmb h 2) + (36 * (cmb h 0 * cmb h 3) + (24 * (cmb h 0 * cmb h 4) + (1 * (cmb h 1 * cmb h 0) + (14 * (cmb h 1 * cmb h 1) + (36 * (cmb h 1 * cmb h 2) + (24 * (cmb h 1 * cmb h 3) + (14 * (cmb h 2 * cmb h 0) + (36 * (cmb h 2 * cmb h 1) + (24 * (cmb h 2 * cmb h 2) + (36 * (cmb h 3 * cmb h 0) + (24 * (cmb h 3 * cmb h 1) + (24 * (cmb h 4 * cmb h 0) + 0)))))))))))))) = (2 * h) ^ 4
    rw [b0, b1]
    grind
end BR

/-! ### ranks of turned words; outcomes tell rankings -/
namespace BR
open PySem PySem.Spec PyProof.Rows L2
/-- ranks of f's values: how many different words have less -/
theorem rk_image {f : Int → Int} {xs : List Int} (inj : ∀ x ∈ xs, ∀ y ∈ xs, f x = f y → x = y) (z : Int) : rk (srt (xs.map f)) z = ((srt xs).filter fun y => decide (f y < z)).length := by
  have nd : (((srt xs).filter fun y => decide (f y < z)).map f).Nodup := by
    rw [List.Nodup, List.pairwise_map]
    have n0 : ((srt xs).filter fun y => decide (f y < z)).Nodup := (up_nodup (srt_up xs)).filter _
    have : ((srt xs).filter fun y => decide (f y < z)).Pairwise fun a b => a ∈ xs ∧ b ∈ xs ∧ a ≠ b := by
      refine List.Pairwise.imp_of_mem ?_ n0
      intro a b ha hb ne
      exact ⟨srt_mem.mp (List.mem_filter.mp ha).1, srt_mem.mp (List.mem_filter.mp hb).1, ne⟩
    exact this.imp fun h e => h.2.2 (inj _ h.1 _ h.2.1 e)
  have e := card_one nd ((up_nodup (srt_up (xs.map f))).filter fun y => decide (y < z)) fun k => by
    rw [List.mem_map, List.mem_filter, srt_mem, List.mem_map, decide_eq_true_eq]
    constructor
    · rintro ⟨x, hx, rfl⟩
      obtain ⟨h1, h2⟩ := List.mem_filter.mp hx
      exact ⟨⟨x, srt_mem.mp h1, rfl⟩, of_decide_eq_true h2⟩
    · rintro ⟨⟨x, hx, rfl⟩, h2⟩
      exact ⟨x, List.mem_filter.mpr ⟨srt_mem.mpr hx, decide_eq_true h2⟩, rfl⟩
  rw [List.length_map] at e
  unfold rk
  rw [← e]
theorem filt_congr {l : List Int} {p q : Int → Bool} (h : ∀ y ∈ l, p y = q y) : (l.filter p).length = (l.filter q).length := by
  rw [List.filter_congr h]
theorem filt_not (l : List Int) (p : Int → Bool) : (l.filter p).length + (l.filter fun y => !p y).length = l.length := by
  induction l with
  | nil => rfl
  | cons y l ih =>
    rw [List.filter_cons, List.filter_cons]
    cases p y <;> simp <;> omega
/-- between two bounds -/
theorem filt_between {l : List Int} {a b : Int} (h : a ≤ b) : (l.filter fun y => decide (a ≤ y) && decide (y < b)).length + rk l a = rk l b := by
  induction l with
  | nil => rfl
  | cons y l ih =>
    rw [rk_cons, rk_cons, List.filter_cons]
    by_cases c : a ≤ y <;> by_cases d : y < b <;> simp [c, d] <;> split <;> omega
theorem filt_above (l : List Int) (a : Int) : (l.filter fun y => decide (a ≤ y)).length + rk l a = l.length := by
  have := filt_not l fun y => decide (y < a)
  have e := filt_congr (l := l) (p := fun y => !decide (y < a)) (q := fun y => decide (a ≤ y)) fun y _ => by
    by_cases c : a ≤ y
    · simp [c]
    · simp [c]
      omega
  unfold rk
  omega
theorem filt_above2 {l : List Int} (nd : l.Nodup) {x : Int} (hx : x ∈ l) : (l.filter fun y => decide (x < y)).length + rk l x + 1 = l.length := by
  have h1 := filt_above l x
  have e : ∀ l : List Int, l.Nodup → (l.filter fun y => decide (x ≤ y)).length = (l.filter fun y => decide (x < y)).length + if x ∈ l then 1 else 0 := by
    intro l
    induction l with
    | nil => intro _; rfl
    | cons y l ih =>
      intro nd
      obtain ⟨ny, nl⟩ := List.nodup_cons.mp nd
      have i := ih nl
      rw [List.filter_cons, List.filter_cons]
      by_cases c : y = x
      · subst c
        rw [if_neg ny] at i
        simp [i]
      · have m : (x ∈ y :: l) ↔ x ∈ l := by rw [List.mem_cons]; exact ⟨fun z => z.resolve_left (fun e => c e.symm), .inr⟩
        by_cases d : x ≤ y
        · have d2 : x < y := by omega
          by_cases q : x ∈ l
          · rw [if_pos q] at i
            rw [if_pos (m.mpr q)]
            simp [d, d2]
            omega
          · rw [if_neg q] at i
            rw [if_neg (fun z => q (m.mp z))]
            simp [d, d2]
            omega
        · have d2 : ¬ x < y := by omega
          by_cases q : x ∈ l
          · rw [if_pos q] at i
            rw [if_pos (m.mpr q)]
            simp [d, d2]
            omega
          · rw [if_neg q] at i
            rw [if_neg (fun z => q (m.mp z))]
            simp [d, d2]
            omega
  have := e l nd
  rw [if_pos hx] at this
  omega
/-- what stands after a turn -/
def turnR (c m r : Int) : Int := if c ≤ r then r - c else r + m - c
theorem rks_flip {wd : Int} {xs : List Int} (h1 : 1 ≤ wd) (w : ∀ x ∈ xs, 0 ≤ x ∧ x < 2 ^ wd.toNat) :
    rks (xs.map (fl wd)) = (rks xs).map (turnR (ct xs (2 ^ (wd - 1).toNat)) ((srt xs).length : Int)) ∧ ct (xs.map (fl wd)) (2 ^ (wd - 1).toNat) = ((srt xs).length : Int) - ct xs (2 ^ (wd - 1).toNat) := by
  have e2 := two_half h1
  have inj : ∀ x ∈ xs, ∀ y ∈ xs, fl wd x = fl wd y → x = y := fun x hx y hy e => by
    rw [← fl_fl h1 (w x hx), ← fl_fl h1 (w y hy), e]
  refine ⟨?_, ?_⟩
  · unfold rks
    rw [List.map_map, List.map_map]
    refine List.map_congr_left fun x hx => ?_
    show ((rk (srt (xs.map (fl wd))) (fl wd x) : Nat) : Int) = turnR _ _ ((rk (srt xs) x : Nat) : Int)
    rw [rk_image inj]
    have mx := srt_mem.mpr hx
    have cc := rk_cut (h := (2 : Int) ^ (wd - 1).toNat) mx
    have wx := w x hx
    unfold turnR ct
    by_cases c : x < 2 ^ (wd - 1).toNat
    · have lt := cc.mp c
      rw [if_neg (by omega)]
      have q := filt_congr (l := srt xs) (p := fun y => decide (fl wd y < fl wd x)) (q := fun y => !(decide (x ≤ y) && decide (y < 2 ^ (wd - 1).toNat))) fun y hy => by
        have wy := w y (srt_mem.mp hy)
        have : (fl wd y < fl wd x) ↔ ¬ (x ≤ y ∧ y < 2 ^ (wd - 1).toNat) := by
          unfold fl
          rw [if_pos c]
          split <;> omega
        rw [← Bool.decide_and, ← decide_not]
        exact decide_eq_decide.mpr this
      have n := filt_not (srt xs) fun y => (decide (x ≤ y) && decide (y < 2 ^ (wd - 1).toNat))
      have b := filt_between (l := srt xs) (show x ≤ 2 ^ (wd - 1).toNat by omega)
      rw [q]
      omega
    · have ge : ¬ rk (srt xs) x < rk (srt xs) (2 ^ (wd - 1).toNat) := fun z => c (cc.mpr z)
      rw [if_pos (by omega)]
      have q := filt_congr (l := srt xs) (p := fun y => decide (fl wd y < fl wd x)) (q := fun y => (decide (2 ^ (wd - 1).toNat ≤ y) && decide (y < x))) fun y hy => by
        have wy := w y (srt_mem.mp hy)
        have : (fl wd y < fl wd x) ↔ (2 ^ (wd - 1).toNat ≤ y ∧ y < x) := by
          unfold fl
          rw [if_neg c]
          split <;> omega
        rw [← Bool.decide_and]
        exact decide_eq_decide.mpr this
      have b := filt_between (l := srt xs) (show (2 : Int) ^ (wd - 1).toNat ≤ x by omega)
      rw [q]
      omega
  · unfold ct
    rw [rk_image inj]
    have q := filt_congr (l := srt xs) (p := fun y => decide (fl wd y < 2 ^ (wd - 1).toNat)) (q := fun y => decide (2 ^ (wd - 1).toNat ≤ y)) fun y hy => by
      have wy := w y (srt_mem.mp hy)
      refine decide_eq_decide.mpr ?_
      unfold fl
      split <;> omega
    have a := filt_above (srt xs) (2 ^ (wd - 1).toNat)
    rw [q]
    omega
theorem rks_inv {wd : Int} {xs : List Int} (h1 : 1 ≤ wd) (w : ∀ x ∈ xs, 0 ≤ x ∧ x < 2 ^ wd.toNat) :
    rks (xs.map (iv wd)) = (rks xs).map (fun r => ((srt xs).length : Int) - 1 - r) ∧ ct (xs.map (iv wd)) (2 ^ (wd - 1).toNat) = ((srt xs).length : Int) - ct xs (2 ^ (wd - 1).toNat) := by
  have e2 := two_half h1
  have inj : ∀ x ∈ xs, ∀ y ∈ xs, iv wd x = iv wd y → x = y := fun x hx y hy e => by
    rw [← iv_iv wd x, ← iv_iv wd y, e]
  refine ⟨?_, ?_⟩
  · unfold rks
    rw [List.map_map, List.map_map]
    refine List.map_congr_left fun x hx => ?_
    show ((rk (srt (xs.map (iv wd))) (iv wd x) : Nat) : Int) = ((srt xs).length : Int) - 1 - ((rk (srt xs) x : Nat) : Int)
    rw [rk_image inj]
    have q := filt_congr (l := srt xs) (p := fun y => decide (iv wd y < iv wd x)) (q := fun y => decide (x < y)) fun y hy => by
      refine decide_eq_decide.mpr ?_
      unfold iv
      omega
    have a := filt_above2 (up_nodup (srt_up xs)) (srt_mem.mpr hx)
    rw [q]
    omega
  · unfold ct
    rw [rk_image inj]
    have q := filt_congr (l := srt xs) (p := fun y => decide (iv wd y < 2 ^ (wd - 1).toNat)) (q := fun y => decide (2 ^ (wd - 1).toNat ≤ y)) fun y hy => by
      refine decide_eq_decide.mpr ?_
      unfold iv
      omega
    have a := filt_above (srt xs) (2 ^ (wd - 1).toNat)
    rw [q]
    omega
theorem rks_ext {wd wi : Int} {xs : List Int} (h1 : 1 ≤ wd) (h2 : wd ≤ wi) (w : ∀ x ∈ xs, 0 ≤ x ∧ x < 2 ^ wd.toNat) :
    rks (xs.map (ex wd wi)) = rks xs ∧ ct (xs.map (ex wd wi)) (2 ^ (wi - 1).toNat) = ct xs (2 ^ (wd - 1).toNat) := by
  have e2 := two_half h1
  have e3 := two_half (show 1 ≤ wi by omega)
  have le := pow_le (a := (wd - 1).toNat) (b := (wi - 1).toNat) (by omega)
  have mono : ∀ x ∈ xs, ∀ y ∈ xs, (ex wd wi x < ex wd wi y ↔ x < y) := fun x hx y hy => by
    have wx := w x hx
    have wy := w y hy
    unfold ex
    split <;> split <;> constructor <;> intro _ <;> omega
  have inj : ∀ x ∈ xs, ∀ y ∈ xs, ex wd wi x = ex wd wi y → x = y := fun x hx y hy e => by
    have a := mono x hx y hy
    have b := mono y hy x hx
    omega
  refine ⟨?_, ?_⟩
  · unfold rks
    rw [List.map_map]
    refine List.map_congr_left fun x hx => ?_
    show ((rk (srt (xs.map (ex wd wi))) (ex wd wi x) : Nat) : Int) = ((rk (srt xs) x : Nat) : Int)
    rw [rk_image inj]
    unfold rk
    rw [filt_congr (l := srt xs) (p := fun y => decide (ex wd wi y < ex wd wi x)) (q := fun y => decide (y < x)) fun y hy => decide_eq_decide.mpr (mono y (srt_mem.mp hy) x hx)]
  · unfold ct
    rw [rk_image inj]
    unfold rk
    rw [filt_congr (l := srt xs) (p := fun y => decide (ex wd wi y < 2 ^ (wi - 1).toNat)) (q := fun y => decide (y < 2 ^ (wd - 1).toNat)) fun y hy => by
      have wy := w y (srt_mem.mp hy)
      refine decide_eq_decide.mpr ?_
      unfold ex
      split <;> constructor <;> intro _ <;> omega]
theorem ct_all {xs : List Int} {h : Int} (w : ∀ x ∈ xs, x < h) : ct xs h = ((srt xs).length : Int) := by
  unfold ct rk
  rw [List.filter_eq_self.mpr fun y hy => decide_eq_true (w y (srt_mem.mp hy))]
theorem mx_is {rs : List Int} {m : Nat} (hm : 0 < m) (is : IsRk rs m) : mx rs = (m : Int) - 1 := by
  have g : ∀ (l : List Int) (z : Int), (l.foldl (fun a y => if a < y then y else a) z ∈ z :: l) ∧ ∀ y ∈ z :: l, y ≤ l.foldl (fun a y => if a < y then y else a) z := by
    intro l
    induction l with
    | nil => exact fun z => ⟨List.mem_cons_self, fun y hy => by rw [List.mem_singleton.mp hy]; exact Int.le_refl _⟩
    | cons y l ih =>
      intro z
      rw [List.foldl_cons]
      obtain ⟨a, b⟩ := ih (if z < y then y else z)
      refine ⟨?_, fun k hk => ?_⟩
      · rcases List.mem_cons.mp a with e | e
        · rw [e]
          split
          · exact List.mem_cons_of_mem _ List.mem_cons_self
          · exact List.mem_cons_self
        · exact List.mem_cons_of_mem _ (List.mem_cons_of_mem _ e)
      · have hz := b _ List.mem_cons_self
        rcases List.mem_cons.mp hk with rfl | hk
        · exact Int.le_trans (show k ≤ if k < y then y else k by split <;> omega) hz
        · rcases List.mem_cons.mp hk with rfl | hk
          · exact Int.le_trans (show k ≤ if z < k then k else z by split <;> omega) hz
          · exact b k (List.mem_cons_of_mem _ hk)
  cases rs with
  | nil => exact absurd ((is 0).mpr ⟨by omega, by omega⟩) (by simp)
  | cons x l =>
    obtain ⟨a, b⟩ := g l x
    have h1 := (is _).mp a
    have h2 := b ((m : Int) - 1) ((is _).mpr ⟨by omega, by omega⟩)
    show l.foldl (fun a y => if a < y then y else a) x = (m : Int) - 1
    omega
theorem srt_pos {xs : List Int} (h : xs ≠ []) : 0 < (srt xs).length := by
  cases xs with
  | nil => exact absurd rfl h
  | cons x l =>
    refine List.length_pos_of_mem (a := x) (srt_mem.mpr List.mem_cons_self)
/-! outcomes of all pairs -/
def shownR (rs : List Int) (c : Int) : List Str := rs.flatMap fun a => rs.map fun b => ocut c a b
def single (rs : List Int) (c : Int) : Bool := decide (c = 0) || decide (c = mx rs + 1)
theorem oc_facts {c a b : Int} : (ocut c a b = "E" ↔ a = b) ∧ ((ocut c a b = "LB" ∨ ocut c a b = "GB") ↔ a < b) ∧ ((ocut c a b = "LA" ∨ ocut c a b = "GB") ↔ a ≠ b ∧ ((a < c) ↔ ¬ (b < c))) := by
  unfold ocut
  by_cases e : a = b
  · subst e
    rw [if_pos rfl]
    refine ⟨by simp, ⟨fun z => absurd z (by decide +kernel), fun z => absurd z (Int.lt_irrefl _)⟩, ?_⟩
    constructor
    · intro z
      exact absurd z (by decide +kernel)
    · intro z
      exact absurd rfl z.1
  · rw [if_neg e]
    by_cases l : a < b
    · rw [if_pos l]
      by_cases x : a < c <;> by_cases y : b < c <;> simp [x, y, l, e] <;> decide +kernel
    · rw [if_neg l]
      by_cases x : a < c <;> by_cases y : b < c <;> simp [x, y, l, e] <;> decide +kernel
theorem rks_same {xs ys : List Int} (hl : xs.length = ys.length) (h : ∀ (i j : Nat) (a b c d : Int), xs[i]? = some a → xs[j]? = some b → ys[i]? = some c → ys[j]? = some d → (a < b ↔ c < d)) : rks xs = rks ys := by
  let f : Int → Int := fun x => ys.getD (xs.idxOf x) 0
  have at_f : ∀ (i : Nat) (a c : Int), xs[i]? = some a → ys[i]? = some c → f a = c := fun i a c ha hc => by
    have m := List.mem_of_getElem? ha
    have hi : xs.idxOf a < xs.length := List.idxOf_lt_length_of_mem m
    have ea : xs[xs.idxOf a]? = some a := by
      rw [List.getElem?_eq_getElem hi]
      exact congrArg some (List.getElem_idxOf hi)
    have ec : ys[xs.idxOf a]? = some (ys[xs.idxOf a]'(by omega)) := List.getElem?_eq_getElem (by omega)
    have h1 := h _ _ _ _ _ _ ea ha ec hc
    have h2 := h _ _ _ _ _ _ ha ea hc ec
    have e : f a = ys[xs.idxOf a]'(by omega) := by
      show ys.getD (xs.idxOf a) 0 = _
      rw [List.getD_eq_getElem?_getD, ec]
      rfl
    rw [e]
    omega
  have both : ∀ x ∈ xs, ∃ (i : Nat) (c : Int), xs[i]? = some x ∧ ys[i]? = some c ∧ f x = c := fun x hx => by
    obtain ⟨i, hi, e⟩ := List.mem_iff_getElem.mp hx
    have ex : xs[i]? = some x := by rw [List.getElem?_eq_getElem hi, e]
    have ec : ys[i]? = some (ys[i]'(by omega)) := List.getElem?_eq_getElem (by omega)
    exact ⟨i, _, ex, ec, at_f i x _ ex ec⟩
  have mono : ∀ x ∈ xs, ∀ y ∈ xs, (f x < f y ↔ x < y) := fun x hx y hy => by
    obtain ⟨i, c, h1, h2, rfl⟩ := both x hx
    obtain ⟨j, d, h3, h4, rfl⟩ := both y hy
    exact (h i j _ _ _ _ h1 h3 h2 h4).symm
  have e : ys = xs.map f := by
    apply List.ext_getElem?
    intro i
    rw [List.getElem?_map]
    by_cases hi : i < xs.length
    · have ex : xs[i]? = some xs[i] := List.getElem?_eq_getElem hi
      have ec : ys[i]? = some (ys[i]'(by omega)) := List.getElem?_eq_getElem (by omega)
      rw [ex, ec, Option.map_some, at_f i _ _ ex ec]
    · rw [List.getElem?_eq_none (by omega), List.getElem?_eq_none (by omega)]
      rfl
  rw [e]
  unfold rks
  rw [List.map_map]
  refine List.map_congr_left fun x hx => ?_
  show _ = ((rk (srt (xs.map f)) (f x) : Nat) : Int)
  rw [rk_image fun a ha b hb q => by
    have h1 := mono a ha b hb
    have h2 := mono b hb a ha
    omega]
  unfold rk
  rw [filt_congr (l := srt xs) (p := fun y => decide (f y < f x)) (q := fun y => decide (y < x)) fun y hy => decide_eq_decide.mpr (mono y (srt_mem.mp hy) x hx)]
theorem srt_isRk {rs : List Int} {m : Nat} (is : IsRk rs m) : srt rs = rg m := isRk_srt is (srt_up rs) fun k => srt_mem
theorem rks_id {rs : List Int} {m : Nat} (is : IsRk rs m) : rks rs = rs := by
  unfold rks
  rw [srt_isRk is]
  have : ∀ r ∈ rs, ((rk (rg m) r : Nat) : Int) = r := fun r hr => by
    obtain ⟨a, b⟩ := (is r).mp hr
    exact rk_rg a (by omega)
  rw [List.map_congr_left this, List.map_id']
theorem flat_inj {α β : Type} {f g : α → List β} {n : Nat} : ∀ {as bs : List α}, as.length = bs.length → (∀ a ∈ as, (f a).length = n) → (∀ b ∈ bs, (g b).length = n) → as.flatMap f = bs.flatMap g → ∀ (i : Nat) (a b : α), as[i]? = some a → bs[i]? = some b → f a = g b
  | [], _, _, _, _, _, i, a, b, e, _ => by cases i <;> cases e
  | _ :: _, [], h, _, _, _, _, _, _, _, _ => by cases h
  | x :: as, y :: bs, h, hf, hg, e, i, a, b, ea, eb => by
    rw [List.flatMap_cons, List.flatMap_cons] at e
    obtain ⟨e1, e2⟩ := List.append_inj e (by rw [hf x List.mem_cons_self, hg y List.mem_cons_self])
    cases i with
    | zero =>
      cases ea
      cases eb
      exact e1
    | succ i => exact flat_inj (Nat.succ.inj h) (fun a m => hf a (List.mem_cons_of_mem _ m)) (fun b m => hg b (List.mem_cons_of_mem _ m)) e2 i a b ea eb
theorem shown_tell {rs rt : List Int} {c d : Int} {m k : Nat} (hl : rs.length = rt.length) (i1 : IsRk rs m) (i2 : IsRk rt k) (c0 : 0 ≤ c) (cm : c ≤ (m : Int)) (d0 : 0 ≤ d) (dk : d ≤ (k : Int)) (hm : 0 < m) (hk : 0 < k) :
    decide (shownR rs c = shownR rt d) = (decide (rs = rt ∧ c = d) || (decide (rs = rt) && (single rs c && single rt d))) := by
  have s1 : single rs c = (decide (c = 0) || decide (c = (m : Int))) := by unfold single; rw [mx_is hm i1, show (m : Int) - 1 + 1 = m by omega]
  have s2 : single rt d = (decide (d = 0) || decide (d = (k : Int))) := by unfold single; rw [mx_is hk i2, show (k : Int) - 1 + 1 = k by omega]
  rw [s1, s2, ← Bool.decide_or, ← Bool.decide_or, ← Bool.decide_and, ← Bool.decide_and, ← Bool.decide_or]
  refine decide_eq_decide.mpr ⟨fun e => ?_, fun h => ?_⟩
  · have pt : ∀ (i j : Nat) (a b x y : Int), rs[i]? = some a → rs[j]? = some b → rt[i]? = some x → rt[j]? = some y → ocut c a b = ocut d x y := fun i j a b x y ha hb hx hy => by
      have g := flat_inj (n := rs.length) hl (fun a _ => List.length_map ..) (fun b _ => by rw [List.length_map, hl]) e i a x ha hx
      have q := congrArg (fun l : List Str => l[j]?) g
      rw [List.getElem?_map, List.getElem?_map, hb, hy] at q
      exact Option.some.inj q
    have er : rs = rt := by
      rw [← rks_id i1, ← rks_id i2]
      refine rks_same hl fun i j a b x y ha hb hx hy => ?_
      have p := pt i j a b x y ha hb hx hy
      have f1 := (oc_facts (c := c) (a := a) (b := b)).2.1
      have f2 := (oc_facts (c := d) (a := x) (b := y)).2.1
      rw [← f1, ← f2, p]
    subst er
    have mk : m = k := by
      have := congrArg List.length ((srt_isRk i1).symm.trans (srt_isRk i2))
      rwa [rg_len, rg_len] at this
    subst mk
    by_cases cd : c = d
    · exact .inl ⟨rfl, cd⟩
    · refine .inr ⟨rfl, ?_⟩
      have mixed : ∀ u v : Int, u ∈ rs → v ∈ rs → (u ≠ v ∧ ((u < c) ↔ ¬ (v < c)) ↔ u ≠ v ∧ ((u < d) ↔ ¬ (v < d))) := fun u v hu hv => by
        obtain ⟨i, hi, e1⟩ := List.mem_iff_getElem.mp hu
        obtain ⟨j, hj, e2⟩ := List.mem_iff_getElem.mp hv
        have a1 : rs[i]? = some u := by rw [List.getElem?_eq_getElem hi, e1]
        have a2 : rs[j]? = some v := by rw [List.getElem?_eq_getElem hj, e2]
        have p := pt i j u v u v a1 a2 a1 a2
        rw [← (oc_facts (c := c) (a := u) (b := v)).2.2, ← (oc_facts (c := d) (a := u) (b := v)).2.2, p]
      refine ⟨?_, ?_⟩
      · refine Decidable.byContradiction fun n => ?_
        have := mixed (c - 1) c ((i1 _).mpr ⟨by omega, by omega⟩) ((i1 _).mpr ⟨by omega, by omega⟩)
        omega
      · refine Decidable.byContradiction fun n => ?_
        have := mixed (d - 1) d ((i1 _).mpr ⟨by omega, by omega⟩) ((i1 _).mpr ⟨by omega, by omega⟩)
        omega
  · rcases h with ⟨rfl, rfl⟩ | ⟨rfl, h1, h2⟩
    · rfl
    · have mk : m = k := by
        have := congrArg List.length ((srt_isRk i1).symm.trans (srt_isRk i2))
        rwa [rg_len, rg_len] at this
      subst mk
      have same : ∀ u ∈ rs, ∀ v ∈ rs, ocut c u v = ocut d u v := fun u hu v hv => by
        obtain ⟨u0, u1⟩ := (i1 u).mp hu
        obtain ⟨v0, v1⟩ := (i1 v).mp hv
        have mc : (decide (u < c) != decide (v < c)) = false := by
          rcases h1 with h | h
          · rw [decide_eq_false (show ¬ u < c by omega), decide_eq_false (show ¬ v < c by omega)]
            rfl
          · rw [decide_eq_true (show u < c by omega), decide_eq_true (show v < c by omega)]
            rfl
        have md : (decide (u < d) != decide (v < d)) = false := by
          rcases h2 with h | h
          · rw [decide_eq_false (show ¬ u < d by omega), decide_eq_false (show ¬ v < d by omega)]
            rfl
          · rw [decide_eq_true (show u < d by omega), decide_eq_true (show v < d by omega)]
            rfl
        unfold ocut
        rw [mc, md]
      unfold shownR
      have fm : ∀ l : List Int, (∀ u ∈ l, u ∈ rs) → l.flatMap (fun a => rs.map fun b => ocut c a b) = l.flatMap fun a => rs.map fun b => ocut d a b := by
        intro l
        induction l with
        | nil => exact fun _ => rfl
        | cons u l ih =>
          intro hs
          rw [List.flatMap_cons, List.flatMap_cons, ih fun u m => hs u (List.mem_cons_of_mem _ m)]
          rw [List.map_congr_left fun v hv => same u (hs u List.mem_cons_self) v hv]
      exact fm rs fun u m => m
end BR
namespace BR
open PySem PySem.Spec PyProof.Rows L2
theorem fall_le {n : Int} {a : Nat} (h0 : 0 ≤ n) (h1 : n ≤ 2 ^ a) (k : Nat) (hk : (k : Int) ≤ n) : Builtin.Math.fallingProduct n k ≤ 2 ^ (a * k) := by
  induction k with
  | zero => exact (by decide : (1 : Int) ≤ 1)
  | succ k ih =>
    have i := ih (by omega)
    have nn := fall_nn (n := n) k (by omega)
    have e : Builtin.Math.fallingProduct n (k + 1) = Builtin.Math.fallingProduct n k * (n - (k : Int)) := by
      unfold Builtin.Math.fallingProduct
      rw [List.range_succ, List.foldl_append]
      rfl
    rw [e, Nat.mul_succ, Int.pow_add]
    exact Int.mul_le_mul i (by omega) (by omega) (Int.le_of_lt (pow_pos _))
theorem cmb_log {n k : Int} (h0 : 0 ≤ n) (h1 : n ≤ 2 ^ 1000) (k0 : 0 ≤ k) (k8 : k ≤ 8) : (n < k ∨ (Builtin.Math.fallingProduct n (min k (n - k)).toNat / Builtin.Math.fallingProduct (min k (n - k)) (min k (n - k)).toNat).natAbs.log2 < bitsLine) ∧ (cmb n k).natAbs.log2 < 10000 := by
  by_cases c : n < k
  · refine ⟨.inl c, ?_⟩
    unfold cmb
    rw [if_pos c]
    decide
  · have key : (Builtin.Math.fallingProduct n (min k (n - k)).toNat / Builtin.Math.fallingProduct (min k (n - k)) (min k (n - k)).toNat).natAbs.log2 < 10000 := by
      have a := fall_nn (n := n) (min k (n - k)).toNat (by omega)
      have b := fall_le h0 h1 (min k (n - k)).toNat (by omega)
      have d := fall_nn (n := min k (n - k)) (min k (n - k)).toNat (by omega)
      have q0 : 0 ≤ Builtin.Math.fallingProduct n (min k (n - k)).toNat / Builtin.Math.fallingProduct (min k (n - k)) (min k (n - k)).toNat := Int.ediv_nonneg a d
      have q1 := Int.ediv_le_self (Builtin.Math.fallingProduct (min k (n - k)) (min k (n - k)).toNat) a
      have b2 : (2 : Int) ^ (1000 * (min k (n - k)).toNat) ≤ 2 ^ 9000 := pow_le (by omega)
      have b3 : (2 : Int) ^ 9000 < 2 ^ 9001 := pow_lt (by decide)
      have e : ((2 : Int) ^ 9001) = ((2 ^ 9001 : Nat) : Int) := nat_cast_pow 9001
      rw [e] at b3
      refine Nat.lt_of_lt_of_le (PySem.Flt.log2_lt_of (k := 9001) (by decide) ?_) (by decide)
      omega
    refine ⟨.inr (Nat.lt_trans key (by decide)), ?_⟩
    unfold cmb
    rw [if_neg c]
    exact key
end BR

/-! ### rankings as a law lists them -/
namespace BR
open PySem PySem.Spec PyProof.Rows L2
def lawRows (n : Nat) : Nat → List (List Int)
  | 0 => [[]]
  | k + 1 => (lawRows n k).flatMap (addR n)
def lawCuts (r : List Int) : List (List Int × Int) := if ((srt r).length : Int) = mx r + 1 then cutsR r else []
theorem law_all : ∀ n ∈ ([1, 2, 3, 4] : List Nat), (lawRows n n).flatMap lawCuts = allRk n := by decide +kernel
theorem law_rows : ∀ n ∈ ([1, 2, 3, 4] : List Nat), ∀ k ∈ List.range (n + 1), (lawRows n k).length ≤ 256 ∧ ∀ r ∈ lawRows n k, r.length = k ∧ 0 ≤ mx r ∧ mx r ≤ 3 := by decide +kernel
theorem four {n : Nat} (h1 : 1 ≤ n) (h2 : n ≤ 4) : n ∈ ([1, 2, 3, 4] : List Nat) := by
  have : n = 1 ∨ n = 2 ∨ n = 3 ∨ n = 4 := by omega
  simpa using this
theorem all_len4 {n : Nat} (h1 : 1 ≤ n) (h2 : n ≤ 4) : 0 < (allRk n).length ∧ (allRk n).length ≤ 308 := by
  have := all_len
  have e : ∀ n ∈ ([1, 2, 3, 4] : List Nat), 0 < (allRk n).length ∧ (allRk n).length ≤ 308 := by decide +kernel
  exact e n (four h1 h2)
/-- refs to lists of ints -/
def LL (H : Hp) (as : List Addr) (rows : List (List Int)) : Prop := Paired (fun a row => H a = some (.lst (row.map V.int))) as rows
theorem LL.but {H H' : Hp} {D : Addr} : ∀ {as : List Addr} {rows : List (List Int)}, LL H as rows → But D H H' → (∀ a ∈ as, a ≠ D) → LL H' as rows
  | _, _, .nil, _, _ => .nil
  | _, _, .cons h t, b, n => .cons (b _ _ (n _ List.mem_cons_self) h) (LL.but t b fun a m => n a (List.mem_cons_of_mem _ m))
theorem LL.same {H H' : Hp} {as : List Addr} {rows : List (List Int)} (h : LL H as rows) (s : Same H H') : LL H' as rows := pr_mono h fun a r e => s _ _ e
theorem pr_app {α β : Type} {R : α → β → Prop} : ∀ {as : List α} {bs : List β} {cs : List α} {ds : List β}, Paired R as bs → Paired R cs ds → Paired R (as ++ cs) (bs ++ ds)
  | _, _, _, _, .nil, r => r
  | _, _, _, _, .cons h t, r => .cons h (pr_app t r)
theorem mx_one {ns : List Int} {m : Int} (hm : m ∈ ns) (h : ∀ y ∈ ns, y ≤ m) : m = mx ns := by
  have g : ∀ (l : List Int) (z : Int), (l.foldl (fun a y => if a < y then y else a) z ∈ z :: l) ∧ ∀ y ∈ z :: l, y ≤ l.foldl (fun a y => if a < y then y else a) z := by
    intro l
    induction l with
    | nil => exact fun z => ⟨List.mem_cons_self, fun y hy => by rw [List.mem_singleton.mp hy]; exact Int.le_refl _⟩
    | cons y l ih =>
      intro z
      rw [List.foldl_cons]
      obtain ⟨a, b⟩ := ih (if z < y then y else z)
      refine ⟨?_, fun k hk => ?_⟩
      · rcases List.mem_cons.mp a with e | e
        · rw [e]
          split
          · exact List.mem_cons_of_mem _ List.mem_cons_self
          · exact List.mem_cons_self
        · exact List.mem_cons_of_mem _ (List.mem_cons_of_mem _ e)
      · have hz := b _ List.mem_cons_self
        rcases List.mem_cons.mp hk with rfl | hk
        · exact Int.le_trans (show k ≤ if k < y then y else k by split <;> omega) hz
        · rcases List.mem_cons.mp hk with rfl | hk
          · exact Int.le_trans (show k ≤ if z < k then k else z by split <;> omega) hz
          · exact b k (List.mem_cons_of_mem _ hk)
  cases ns with
  | nil => exact absurd hm (by simp)
  | cons x l =>
    obtain ⟨a, b⟩ := g l x
    have h1 := h _ a
    have h2 := b m hm
    show m = l.foldl (fun a y => if a < y then y else a) x
    omega
theorem addR_len (n : Nat) (r : List Int) : (addR n r).length = n := by unfold addR; rw [List.length_map, List.length_range]
end BR
namespace BR
open PySem PySem.Spec PyProof.Rows L2
theorem CMulW_small {i j : Int} (hi : i.natAbs < 2 ^ 20) (hj : j.natAbs < 2 ^ 20) : CMulW i j := by
  have a := PySem.Flt.log2_lt_of (k := 20) (by decide) hi
  have b := PySem.Flt.log2_lt_of (k := 20) (by decide) hj
  show _ + _ < 1000000
  omega
end BR

/-! ### data compared: outcomes, rankings, bools -/
namespace BR
open PySem PySem.Spec PyProof.Rows L2
theorem strs_shapedL {xs : List Str} (ok : ∀ x ∈ xs, PyData.strOk x = true) : SeqAt.shaped (.list (xs.map PyData.str)) = true := by
  obtain ⟨h1, h2⟩ := strs_lay xs ok
  unfold SeqAt.shaped
  show (PyData.canLayAll0 (xs.map PyData.str) && decide (PyData.depthAll (xs.map PyData.str) + 1 ≤ 64)) = true
  rw [h1, h2]
  rfl
theorem strs_eqvL (xs ys : List Str) : PyData.eqv (.list (xs.map PyData.str)) (.list (ys.map PyData.str)) = decide (xs = ys) := strs_eqvA xs ys
theorem dp_strsL {K : PySem.W.Frag} {H : Hp} {a : Addr} {xs : List Str} (h : H a = some (.lst (xs.map V.str))) : Dp K H (.ref a) (.list (xs.map PyData.str)) := .lst (SqL.of h) (strs_all xs)
theorem ints_eqvA : ∀ xs ys : List Int, PyData.eqvAll (xs.map PyData.int) (ys.map PyData.int) = decide (xs = ys)
  | [], [] => rfl
  | [], _ :: _ => rfl
  | _ :: _, [] => rfl
  | x :: xs, y :: ys => by
    show (x == y && PyData.eqvAll (xs.map PyData.int) (ys.map PyData.int)) = decide (x :: xs = y :: ys)
    rw [ints_eqvA xs ys]
    by_cases h : x = y
    · by_cases g : xs = ys <;> simp [h, g]
    · simp [h]
theorem ints_eqvT (xs ys : List Int) : PyData.eqv (.tuple (xs.map PyData.int)) (.tuple (ys.map PyData.int)) = decide (xs = ys) := ints_eqvA xs ys
theorem rkD_eqv (rs rt : List Int) (c d : Int) : PyData.eqv (rkD rs c) (rkD rt d) = decide (rs = rt ∧ c = d) := by
  show (PyData.eqvAll (rs.map PyData.int) (rt.map PyData.int) && ((c == d) && true)) = _
  rw [ints_eqvA]
  by_cases h : rs = rt <;> by_cases g : c = d <;> simp [h, g]
theorem rkD_sh {rs : List Int} {c : Int} : SeqAt.shaped (rkD rs c) = true := by
  obtain ⟨l1, l2⟩ := ints_lay rs
  unfold SeqAt.shaped
  show ((PyData.canLayAll0 (rs.map PyData.int) && (true && true)) && decide (max (PyData.depthAll (rs.map PyData.int) + 1) (max 0 0) + 1 ≤ 64)) = true
  rw [l1, l2]
  rfl
theorem ocut_ok (c a b : Int) : PyData.strOk (ocut c a b) = true := by
  unfold ocut
  split
  · decide +kernel
  · split <;> split <;> decide +kernel
theorem shown_okS (rs : List Int) (c : Int) : ∀ x ∈ shownR rs c, PyData.strOk x = true := fun x m => by
  obtain ⟨a, _, h⟩ := List.mem_flatMap.mp m
  obtain ⟨b, _, rfl⟩ := List.mem_map.mp h
  exact ocut_ok c a b
theorem two_bools (a b : Bool) : PyData.eqv (.list [.bool a, .bool b]) (.list [.bool true, .bool true]) = (a && b) := by
  cases a <;> cases b <;> decide +kernel
theorem single_in (rs : List Int) (c : Int) : inV (.int c) [.int 0, .int (mx rs + 1)] = single rs c := by
  unfold inV single
  show ((0 == c) || ((mx rs + 1 == c) || false)) = _
  have e1 : ((0 : Int) == c) = decide (c = 0) := by
    by_cases h : c = 0
    · subst h
      rfl
    · rw [decide_eq_false h]
      exact beq_eq_false_iff_ne.mpr fun z => h z.symm
  have e2 : (mx rs + 1 == c) = decide (c = mx rs + 1) := by
    by_cases h : c = mx rs + 1
    · rw [decide_eq_true h, h]
      exact beq_self_eq_true _
    · rw [decide_eq_false h]
      exact beq_eq_false_iff_ne.mpr fun z => h z.symm
  rw [e1, e2, Bool.or_false]
theorem turn_in {c m r : Int} (c0 : 0 ≤ c) (cm : c ≤ m) (r0 : 0 ≤ r) (r1 : r < m) : 0 ≤ turnR c m r ∧ turnR c m r < m := by
  unfold turnR
  split <;> omega
/-- the first words of the next width -/
theorem lw_grown {h c r : Int} (h0 : 0 ≤ h) (hc : c ≤ h) (r0 : 0 ≤ r) : lw (2 * h) c r = if h ≤ lw h c r then lw h c r + h else lw h c r := by
  unfold lw
  by_cases q : r < c
  · rw [if_pos q, if_pos q, if_neg (by omega)]
  · rw [if_neg q, if_neg q, if_pos (by omega)]
    omega
theorem map_take_one {α β : Type} {f : α → β} {l : List α} {i : Nat} {x : α} (h : l[i]? = some x) : (l.take (i + 1)).map f = (l.take i).map f ++ [f x] := by
  rw [List.take_add_one, h, List.map_append]
  rfl
end BR

/-! ### rankings in their order: sorted(xs) of rankings that stand in order; the place of one -/
namespace BR
open PySem PySem.Spec PyProof.Rows L2
def cd : List Int → Int
  | [] => 0
  | x :: xs => x * 8 ^ xs.length + cd xs
def cdk (p : List Int × Int) : Int := cd p.1 * 8 + p.2
def Dig (ns : List Int) : Prop := ∀ x ∈ ns, 0 ≤ x ∧ x < 8
theorem pos8 : ∀ n : Nat, (0 : Int) < 8 ^ n
  | 0 => by decide
  | n + 1 => by
    have := pos8 n
    rw [Int.pow_succ]
    omega
theorem cd_rng : ∀ {ns : List Int}, Dig ns → 0 ≤ cd ns ∧ cd ns < 8 ^ ns.length
  | [], _ => by decide
  | x :: xs, h => by
    obtain ⟨a, b⟩ := cd_rng (ns := xs) fun y m => h y (List.mem_cons_of_mem _ m)
    obtain ⟨c, d⟩ := h x List.mem_cons_self
    have p := pos8 xs.length
    have e1 : 0 ≤ x * 8 ^ xs.length := Int.mul_nonneg c (Int.le_of_lt p)
    have e2 : x * 8 ^ xs.length ≤ 7 * 8 ^ xs.length := Int.mul_le_mul_of_nonneg_right (by omega) (Int.le_of_lt p)
    show 0 ≤ x * 8 ^ xs.length + cd xs ∧ x * 8 ^ xs.length + cd xs < 8 ^ (xs.length + 1)
    rw [Int.pow_succ]
    generalize (8 : Int) ^ xs.length = P at *
    omega
theorem lexAt_shift {e r : Nat → Bool} {z : Bool} : ∀ k i : Nat, Ob.lexAt (fun j => e (j + 1)) (fun j => r (j + 1)) z i k = Ob.lexAt e r z (i + 1) k
  | 0, _ => rfl
  | k + 1, i => by
    rw [Ob.lexAt_succ, Ob.lexAt_succ, lexAt_shift k (i + 1)]
theorem lex_cd : ∀ {ns ms : List Int}, Dig ns → Dig ms → ns.length = ms.length →
    Ob.lexAt (fun j => decide (ns.getD j 0 = ms.getD j 0)) (fun j => decide (ns.getD j 0 < ms.getD j 0)) false 0 ns.length = decide (cd ns < cd ms)
  | [], [], _, _, _ => rfl
  | [], _ :: _, _, _, e => nomatch e
  | _ :: _, [], _, _, e => nomatch e
  | x :: xs, y :: ys, h1, h2, e => by
    have e' : xs.length = ys.length := Nat.succ.inj e
    have d1 : Dig xs := fun z m => h1 z (List.mem_cons_of_mem _ m)
    have d2 : Dig ys := fun z m => h2 z (List.mem_cons_of_mem _ m)
    have ih := lex_cd d1 d2 e'
    obtain ⟨a1, a2⟩ := cd_rng d1
    obtain ⟨b1, b2⟩ := cd_rng d2
    have p := pos8 xs.length
    rw [show (x :: xs).length = xs.length + 1 from rfl, Ob.lexAt_succ, ← lexAt_shift]
    show (if decide (x = y) = true then Ob.lexAt (fun j => decide (xs.getD j 0 = ys.getD j 0)) (fun j => decide (xs.getD j 0 < ys.getD j 0)) false 0 xs.length else decide (x < y)) = decide (x * 8 ^ xs.length + cd xs < y * 8 ^ ys.length + cd ys)
    rw [ih, ← e']
    rw [← e'] at b2
    by_cases c : x = y
    · subst c
      rw [if_pos (decide_eq_true rfl)]
      exact decide_eq_decide.mpr (by omega)
    · rw [if_neg (by simp [c])]
      refine decide_eq_decide.mpr ⟨fun l => ?_, fun l => ?_⟩
      · have : (x + 1) * 8 ^ xs.length ≤ y * 8 ^ xs.length := Int.mul_le_mul_of_nonneg_right (by omega) (Int.le_of_lt p)
        rw [Int.add_mul] at this
        omega
      · rcases Int.lt_or_lt_of_ne c with g | g
        · exact g
        · have : (y + 1) * 8 ^ xs.length ≤ x * 8 ^ xs.length := Int.mul_le_mul_of_nonneg_right (by omega) (Int.le_of_lt p)
          rw [Int.add_mul] at this
          omega
theorem cd_inj : ∀ {ns ms : List Int}, Dig ns → Dig ms → ns.length = ms.length → cd ns = cd ms → ns = ms
  | [], [], _, _, _, _ => rfl
  | [], _ :: _, _, _, e, _ => nomatch e
  | _ :: _, [], _, _, e, _ => nomatch e
  | x :: xs, y :: ys, h1, h2, e, c => by
    have e' : xs.length = ys.length := Nat.succ.inj e
    have d1 : Dig xs := fun z m => h1 z (List.mem_cons_of_mem _ m)
    have d2 : Dig ys := fun z m => h2 z (List.mem_cons_of_mem _ m)
    obtain ⟨a1, a2⟩ := cd_rng d1
    obtain ⟨b1, b2⟩ := cd_rng d2
    have p := pos8 xs.length
    change x * 8 ^ xs.length + cd xs = y * 8 ^ ys.length + cd ys at c
    rw [← e'] at b2 c
    have exy : x = y := by
      by_cases g : x = y
      · exact g
      rcases Int.lt_or_lt_of_ne g with g | g
      · have : (x + 1) * 8 ^ xs.length ≤ y * 8 ^ xs.length := Int.mul_le_mul_of_nonneg_right (by omega) (Int.le_of_lt p)
        rw [Int.add_mul] at this
        omega
      · have : (y + 1) * 8 ^ xs.length ≤ x * 8 ^ xs.length := Int.mul_le_mul_of_nonneg_right (by omega) (Int.le_of_lt p)
        rw [Int.add_mul] at this
        omega
    subst exy
    rw [cd_inj d1 d2 e' (by omega)]
/-- a value that is a ranking -/
def RkV (h : Heap) (v : Value) (ns : List Int) (c : Int) : Prop := ∃ (q rt : Addr) (t : Tok) (its : List Value), v = .ref q ∧ h.IsTuple q #[.ref rt, .int c t] ∧ h.IsTuple rt its.toArray ∧ IntsAre its ns
theorem RkV.keeps {h h' : Heap} {v : Value} {ns : List Int} {c : Int} (r : RkV h v ns c) (k : ∀ b o, h.get? b = some o → h'.get? b = some o) : RkV h' v ns c := by
  obtain ⟨q, rt, t, its, e, ⟨o, ho, hc, n, hd⟩, ⟨o', ho', hc', n', hd'⟩, hi⟩ := r
  exact ⟨q, rt, t, its, e, ⟨o, k _ _ ho, hc, n, hd⟩, ⟨o', k _ _ ho', hc', n', hd'⟩, hi⟩
section
variable {prog : Program} {w : World} {A : Around} {s : Shared}
theorem rkv_cmp {v u : Value} {ns ms : List Int} {c d : Int} (hv : RkV s.heap v ns c) (hu : RkV s.heap u ms d) (h1 : Dig ns) (h2 : Dig ms) (he : ns.length = ms.length) (hc : 0 ≤ c ∧ c < 8) (hd : 0 ≤ d ∧ d < 8) (hA : A.units + 8 < cLine) :
    wpAny (model prog w) A (keyLt' (tuples' false) v u) (fun r s' => s' = s ∧ r = decide (cdk (ns, c) < cdk (ms, d))) (fun _ _ => False) s := by
  obtain ⟨q, rt, t, its, rfl, ⟨o, ho, hcl, n, hda⟩, hrt, hi⟩ := hv
  obtain ⟨q', rt', t', its', rfl, ⟨o', ho', hcl', n', hda'⟩, hrt', hi'⟩ := hu
  have e1 : its.toArray.size = ns.length := by rw [List.size_toArray]; exact hi.length
  have e2 : its'.toArray.size = ms.length := by rw [List.size_toArray]; exact hi'.length
  refine PySem.W.kat_lt ho hda ho' hda' ?_
  show PySem.W.KatLex prog w A false (decide (2 < 2)) _ [(.ref rt, .ref rt'), (.int c t, .int d t')] 0 s
  have R1 : Reads s.heap (.ref rt) (.tuple (ns.map .int)) [] := reads_tuple_ints hrt hi
  have R2 : Reads s.heap (.ref rt') (.tuple (ms.map .int)) [] := reads_tuple_ints hrt' hi'
  obtain ⟨l1, p1⟩ := ints_lay ns
  obtain ⟨l2, p2⟩ := ints_lay ms
  have EQ := SeqAt.eqAt_reads (.tuple (ns.map .int)) (.tuple (ms.map .int)) A s _ _ _ _ R1 R2 l1 l2 (by
    show A.units + min (PyData.depthAll (ns.map PyData.int) + 1) (PyData.depthAll (ms.map PyData.int) + 1) < cLine
    rw [p1, p2]
    show A.units + 1 < cLine
    omega)
  rw [ints_eqvT] at EQ
  have one : ∀ {a b : Int}, cdk (ns, a) < cdk (ms, b) ↔ cd ns * 8 + a < cd ms * 8 + b := Iff.rfl
  refine PySem.W.kat_cons (EQ prog w _ _ ?_)
  refine PySem.W.kat_go (fun c1 => ?_) (fun c1 => ?_)
  · have en : ns = ms := of_decide_eq_true c1
    subst en
    refine PySem.W.kat_yes (PySem.W.kat_cons (SeqAt.EqAt.int_int c t d t' prog w _ _ ?_))
    refine PySem.W.kat_go (fun c2 => ?_) (fun c2 => ?_)
    · have ec : c = d := by simpa using c2
      refine PySem.W.kat_yes (PySem.W.kat_nil ⟨rfl, ?_⟩)
      rw [ec]
      exact (decide_eq_false (Int.lt_irrefl _)).symm
    · refine PySem.W.kat_no (PySem.W.kat_one _ _ (PyProof.Rows.lt_int ?_))
      refine (show s = s ∧ decide (c < d) = decide (cdk (ns, c) < cdk (ns, d)) from ⟨rfl, decide_eq_decide.mpr ?_⟩)
      rw [one]
      omega
  · have en : ¬ ns = ms := of_decide_eq_false c1
    have nc : cd ns ≠ cd ms := fun z => en (cd_inj h1 h2 he z)
    have at1 : ∀ j (h1 : j < its.toArray.size), ∃ t, its.toArray[j] = .int (ns.getD j 0) t := fun j h1 => PyProof.Rows.IntsAre.int_at hi _ _ (by simp at h1; simp [h1])
    have at2 : ∀ j (h1 : j < its'.toArray.size), ∃ t, its'.toArray[j] = .int (ms.getD j 0) t := fun j h1 => PyProof.Rows.IntsAre.int_at hi' _ _ (by simp at h1; simp [h1])
    have R := Ob.RcOp.tuples_lt (A := A) (s := s) (e := fun j => decide (ns.getD j 0 = ms.getD j 0)) (r := fun j => decide (ns.getD j 0 < ms.getD j 0)) hrt hrt' (by omega) (fun j h1 h2 => by
      obtain ⟨t, et⟩ := at1 j h1
      obtain ⟨t', et'⟩ := at2 j h2
      rw [et, et']
      have z : (ns.getD j 0 == ms.getD j 0) = decide (ns.getD j 0 = ms.getD j 0) := by
        by_cases q : ns.getD j 0 = ms.getD j 0
        · rw [decide_eq_true q]; exact beq_iff_eq.mpr q
        · rw [decide_eq_false q]; exact beq_eq_false_iff_ne.mpr q
      rw [← z]
      exact SeqAt.EqAt.int_int _ _ _ _) (fun j h1 h2 _ => by
      obtain ⟨t, et⟩ := at1 j h1
      obtain ⟨t', et'⟩ := at2 j h2
      rw [et, et']
      exact Ob.RcOp.lt_int _ _ _ _)
    rw [e1, e2, he, Nat.min_self, decide_eq_false (Nat.lt_irrefl _), ← he, lex_cd h1 h2 he] at R
    refine PySem.W.kat_no (PySem.W.kat_one _ _ ?_)
    refine (show wpAny (model prog w) A (richCompare .Lt (.ref rt) (.ref rt')) _ _ s from R prog w _ _ ?_)
    refine (show s = s ∧ decide (cd ns < cd ms) = decide (cdk (ns, c) < cdk (ms, d)) from ⟨rfl, decide_eq_decide.mpr ?_⟩)
    rw [one]
    omega
end
def intV : V → Int
  | .int i => i
  | _ => 0
/-- the code of a ranking that stands in H -/
def kfH (H : Hp) : V → Int
  | .ref q => match H q with
    | some (.tup [.ref rt, .int c]) => match H rt with
      | some (.tup xs) => cdk (xs.map intV, c)
      | _ => 0
    | _ => 0
  | _ => 0
theorem kfH_at {H : Hp} {q rt : Addr} {ns : List Int} {c : Int} (h : RkAt H q rt ns c) : kfH H (.ref q) = cdk (ns, c) := by
  have e : (ns.map V.int).map intV = ns := by
    rw [List.map_map]
    exact List.map_id' _
  simp only [kfH, h.1, h.2, e]
theorem kfH_swo (H : Hp) : SrtO.Swo (fun v u : Value => decide (kfH H (backV v) < kfH H (backV u))) := by
  refine ⟨fun x y h => ?_, fun x y z h1 h2 => ?_⟩
  · have a := of_decide_eq_true h
    exact decide_eq_false (by omega)
  · have a := of_decide_eq_false h1
    have b := of_decide_eq_false h2
    exact decide_eq_false (by omega)
/-- sorted(xs), xs a list of rankings in their order: a new list of the same ones -/
def rSortedRk (K : PySem.W.Frag) : List V → Hp → VK → Prop := fun vs H Q => ∃ (a : Addr) (qs : List Addr) (ps : List (List Int × Int)) (n : Nat), vs = [V.ref a] ∧ SqL K H a (qs.map V.ref) ∧ RL H qs ps ∧
  (∀ p ∈ ps, Dig p.1 ∧ p.1.length = n ∧ 0 ≤ p.2 ∧ p.2 < 8) ∧ ps.Pairwise (fun p r => cdk p < cdk r) ∧ ∀ p, H p = none → Q (.ref p) (L2.upd H p (.lst (qs.map V.ref)))
theorem pr_pair {α β : Type} {R : α → β → Prop} {S : β → β → Prop} {T : α → α → Prop} : ∀ {as : List α} {bs : List β}, Paired R as bs → bs.Pairwise S → (∀ a b a' b', R a b → R a' b' → S b b' → T a a') → as.Pairwise T
  | _, _, .nil, _, _ => .nil
  | _, _, .cons h t, p, m => by
    obtain ⟨p1, p2⟩ := List.pairwise_cons.mp p
    refine List.pairwise_cons.mpr ⟨fun a' ha => ?_, pr_pair t p2 m⟩
    obtain ⟨i, hi, e⟩ := List.mem_iff_getElem.mp ha
    obtain ⟨b', hb, r⟩ := pr_at t (i := i) (by rw [List.getElem?_eq_getElem hi, e])
    exact m _ _ _ _ h r (p1 _ (List.mem_of_getElem? hb))
theorem rkv_firsts {h : Heap} : ∀ {vs : List Value}, (∀ v ∈ vs, ∃ ns c, RkV h v ns c) → ∃ fs : List Value, PySem.W.KatTups h vs fs ∧ fs.length = vs.length ∧ ∀ f ∈ fs, ∃ rt o, f = Value.ref rt ∧ h.get? rt = some o ∧ o.cls = .type "tuple"
  | [], _ => ⟨[], True.intro, rfl, fun f m => by cases m⟩
  | v :: vs, hv => by
    obtain ⟨fs, h1, h2, h3⟩ := rkv_firsts (vs := vs) fun u m => hv u (List.mem_cons_of_mem _ m)
    obtain ⟨ns, c, q, rt, t, its, rfl, ⟨o, ho, hc, n, hd⟩, ⟨o', ho', hc', n', hd'⟩, hi⟩ := hv v List.mem_cons_self
    refine ⟨.ref rt :: fs, PySem.W.KatTups.cons ho hc hd rfl h1, by rw [List.length_cons, List.length_cons, h2], fun f m => ?_⟩
    rcases List.mem_cons.mp m with rfl | m
    · exact ⟨rt, o', rfl, ho', hc'⟩
    · exact h3 f m
section
variable {X : Cx}
theorem cr_sortedRk (hu : X.A.units + 64 < cLine) : CallR X (.builtin "sorted") (rSortedRk X.K) := by
  intro pins s σ H vs us Q I r h
  obtain ⟨a, qs, ps, n, rfl, hs, hx, hp, hso, q⟩ := h
  obtain ⟨its, rv, hl, hz⟩ := I.list hs
  obtain ⟨u, rfl, ru⟩ := vals1 r
  obtain rfl : u = Value.ref a := ru
  obtain ⟨e1, e2⟩ := refs_back rv fun x m => by
    obtain ⟨t, _, rfl⟩ := List.mem_map.mp m
    exact ⟨t, rfl⟩
  have old : ∀ v ∈ its, ∃ ns c, RkV s.heap v ns c ∧ Dig ns ∧ ns.length = n ∧ (0 ≤ c ∧ c < 8) ∧ kfH H (backV v) = cdk (ns, c) := fun v hv => by
    obtain ⟨t, rfl⟩ := e2 v hv
    have hm : V.ref t ∈ qs.map V.ref := by rw [e1]; exact List.mem_map.mpr ⟨_, hv, rfl⟩
    obtain ⟨t', ht, e⟩ := List.mem_map.mp hm
    cases e
    obtain ⟨i, hi, ei⟩ := List.mem_iff_getElem.mp ht
    obtain ⟨p, hpi, rt, hr⟩ := pr_at hx (i := i) (a := t) (by rw [List.getElem?_eq_getElem hi, ei])
    obtain ⟨d1, d2, d3, d4⟩ := hp p (List.mem_of_getElem? hpi)
    obtain ⟨_, its2, r2, o, ho, hc, n2, hd⟩ := I.hok _ _ hr.1
    obtain ⟨_, its3, r3, o3, ho3, hc3, n3, hd3⟩ := I.hok _ _ hr.2
    obtain ⟨u1, u2, rfl, ri, rj⟩ := vals2 r2
    obtain rfl : u1 = Value.ref rt := ri
    obtain ⟨t2, rfl⟩ := rj
    exact ⟨p.1, p.2, ⟨t, rt, t2, its3, rfl, ⟨o, ho, hc, n2, hd⟩, ⟨o3, ho3, hc3, n3, hd3⟩, Vals.ints r3⟩, d1, d2, ⟨d3, d4⟩, kfH_at hr⟩
  refine SrtO.sorted_ord (kfH_swo H) hl.isList (by rw [← rv.length]; exact hz) (fun h2 h₁ a' ha kk => ?_) fun out h1 h2 => ?_
  · intro h' keep
    have kS : ∀ b o, s.heap.get? b = some o → h'.get? b = some o := fun b o e => keep b o (kk b o e).1 (kk b o e).2
    refine ⟨tuples' false, fun Q E hq => ?_, fun p r hm hm' => ?_⟩
    · obtain ⟨fs, g1, g2, g3⟩ := rkv_firsts (h := h') (vs := its) fun v hv => by
        obtain ⟨ns, c, k1, _⟩ := old v hv
        exact ⟨ns, c, k1.keeps kS⟩
      refine PySem.W.kat_kind (s := { s with heap := h' }) (T := .type "tuple") g1 (by omega) (fun f hm => ?_) (by rfl) ?_
      · obtain ⟨rt, o, rfl, ho, hc⟩ := g3 f hm
        rw [← hc]
        exact (PySem.W.Looks.ld ho).andThen .now
      · have e : (Value.type "tuple" != Value.type "tuple") = false := by first | decide +kernel | rfl | decide
        rw [e]
        exact hq
    · obtain ⟨ns, c, k1, d1, l1, c1, f1⟩ := old p.1 hm
      obtain ⟨ms, d, k2, d2, l2, c2, f2⟩ := old r.1 hm'
      have C := rkv_cmp (prog := X.prog) (w := X.w) (A := X.A.in1.in1) (s := { s with heap := h' }) (k1.keeps kS) (k2.keeps kS) d1 d2 (l1.trans l2.symm) c1 c2 (by show X.A.units + 1 + 1 + 8 < cLine; omega)
      have e : SrtO.lt2 (fun v u : Value => decide (kfH H (backV v) < kfH H (backV u))) p r = decide (cdk (ns, c) < cdk (ms, d)) := by
        show decide (kfH H (backV p.1) < kfH H (backV r.1)) = _
        rw [f1, f2]
      rw [e]
      exact C
  · have so : SrtO.Srtd (fun v u : Value => decide (kfH H (backV v) < kfH H (backV u))) its := by
      have p1 : (qs.map V.ref).Pairwise fun x y => kfH H x < kfH H y := List.pairwise_map.mpr (pr_pair hx hso fun q p q' p' r r' l => by
        obtain ⟨_, r⟩ := r
        obtain ⟨_, r'⟩ := r'
        rw [kfH_at r, kfH_at r']
        exact l)
      rw [e1] at p1
      exact (List.pairwise_map.mp p1).imp fun l => decide_eq_false (by omega)
    obtain rfl := SrtO.stb_uniq (kfH_swo H) h1 so h2
    obtain ⟨n9, hn⟩ := sortedAll_at s.heap out out.toArray
    refine ⟨.ref (s.heap.objs.size + 1), L2.upd H (s.heap.objs.size + 1) (.lst (qs.map V.ref)), I.laid (t' := s.toks) (fun b o e => sortedAll_old (vs := out) (out := out.toArray) e) (Nat.le_succ _) ⟨?_, out, n9, by rw [e1]; exact vals_back e2, hn⟩, rfl, q _ (I.hok.fresh (Nat.le_succ _))⟩
    rw [List.length_map] at hz ⊢
    exact hz
end
end BR

/-! ### all rankings: in order, each of them once; found by all rows of ranks -/
namespace BR
open PySem PySem.Spec PyProof.Rows L2
def ascB : List Int → Bool
  | x :: y :: r => decide (x < y) && ascB (y :: r)
  | _ => true
theorem ascB_pw : ∀ {l : List Int}, ascB l = true → l.Pairwise (· < ·)
  | [], _ => .nil
  | [x], _ => List.pairwise_singleton _ _
  | x :: y :: r, h => by
    obtain ⟨h1, h2⟩ := Bool.and_eq_true_iff.mp h
    have p := ascB_pw (l := y :: r) h2
    have xy : x < y := of_decide_eq_true h1
    refine List.pairwise_cons.mpr ⟨fun z m => ?_, p⟩
    rcases List.mem_cons.mp m with rfl | m
    · exact xy
    · exact Int.lt_trans xy ((List.pairwise_cons.mp p).1 z m)
def digB (n : Nat) (p : List Int × Int) : Bool := p.1.all (fun x => decide (0 ≤ x) && decide (x < 8)) && decide (p.1.length = n) && decide (0 ≤ p.2) && decide (p.2 < 8)
theorem all_asc : ∀ n ∈ ([1, 2, 3, 4, 5] : List Nat), ascB ((allRk n).map cdk) = true := by decide +kernel
theorem all_dig : ∀ n ∈ ([1, 2, 3, 4, 5] : List Nat), (allRk n).all (digB n) = true := by decide +kernel
theorem law_all5 : ∀ n ∈ ([1, 2, 3, 4, 5] : List Nat), (lawRows n n).flatMap lawCuts = allRk n := by decide +kernel
theorem law_rows5 : ∀ n ∈ ([1, 2, 3, 4, 5] : List Nat), ∀ k ∈ List.range (n + 1), (lawRows n k).length ≤ 3125 ∧ ∀ r ∈ lawRows n k, r.length = k ∧ 0 ≤ mx r ∧ mx r ≤ 4 := by decide +kernel
theorem all_pw {n : Nat} (m : n ∈ ([1, 2, 3, 4, 5] : List Nat)) : (allRk n).Pairwise fun p r => cdk p < cdk r := List.pairwise_map.mp (ascB_pw (all_asc n m))
theorem all_dg {n : Nat} (m : n ∈ ([1, 2, 3, 4, 5] : List Nat)) : ∀ p ∈ allRk n, Dig p.1 ∧ p.1.length = n ∧ 0 ≤ p.2 ∧ p.2 < 8 := fun p hp => by
  have h := List.all_eq_true.mp (all_dig n m) p hp
  obtain ⟨h, h4⟩ := Bool.and_eq_true_iff.mp h
  obtain ⟨h, h3⟩ := Bool.and_eq_true_iff.mp h
  obtain ⟨h1, h2⟩ := Bool.and_eq_true_iff.mp h
  refine ⟨fun x hx => ?_, of_decide_eq_true h2, of_decide_eq_true h3, of_decide_eq_true h4⟩
  obtain ⟨a, b⟩ := Bool.and_eq_true_iff.mp (List.all_eq_true.mp h1 x hx)
  exact ⟨of_decide_eq_true a, of_decide_eq_true b⟩
theorem all_once {n : Nat} (m : n ∈ ([1, 2, 3, 4, 5] : List Nat)) {i j : Nat} {p r : List Int × Int} (hi : (allRk n)[i]? = some p) (hj : (allRk n)[j]? = some r) (l : i < j) : p ≠ r := fun e => by
  obtain ⟨i1, i2⟩ := List.getElem?_eq_some_iff.mp hi
  obtain ⟨j1, j2⟩ := List.getElem?_eq_some_iff.mp hj
  have h := List.pairwise_iff_getElem.mp (all_pw m) i j i1 j1 l
  rw [i2, j2, e] at h
  exact Int.lt_irrefl _ h
theorem units1 {k : Nat} {A : Around} (r : Room k A) : A.units + 65 < cLine := by have := r.un; omega
theorem small20000 {n : Nat} (h : n ≤ 20000) : n < sizeLine := by rw [sizeLine_eq]; omega
def rksD (ps : List (List Int × Int)) : List PyData := ps.map fun p => rkD p.1 p.2
theorem rks_all {K : PySem.W.Frag} {H : Hp} : ∀ {qs : List Addr} {ps : List (List Int × Int)}, RL H qs ps → DpAll K H (qs.map V.ref) (rksD ps)
  | _, _, .nil => .nil
  | _, _, .cons h t => let ⟨_, r⟩ := h; .cons r.dp (rks_all t)
theorem rkD_lay (p : List Int × Int) : (rkD p.1 p.2).canLay0 = true ∧ (rkD p.1 p.2).depth = 2 := by
  obtain ⟨l1, l2⟩ := ints_lay p.1
  refine ⟨?_, ?_⟩
  · show (PyData.canLayAll0 (p.1.map PyData.int) && (true && true)) = true
    rw [l1]
    rfl
  · show max (PyData.depthAll (p.1.map PyData.int) + 1) (max 0 0) + 1 = 2
    rw [l2]
    rfl
theorem rks_lay : ∀ ps : List (List Int × Int), PyData.canLayAll0 (rksD ps) = true ∧ PyData.depthAll (rksD ps) ≤ 2
  | [] => ⟨rfl, Nat.zero_le _⟩
  | p :: ps => by
    obtain ⟨h1, h2⟩ := rks_lay ps
    obtain ⟨g1, g2⟩ := rkD_lay p
    refine ⟨?_, ?_⟩
    · show ((rkD p.1 p.2).canLay0 && PyData.canLayAll0 (rksD ps)) = true
      rw [g1, h1]
      rfl
    · show max (rkD p.1 p.2).depth (PyData.depthAll (rksD ps)) ≤ 2
      rw [g2]
      omega
theorem rks_shaped (ps : List (List Int × Int)) : SeqAt.shaped (.list (rksD ps)) = true := by
  obtain ⟨h1, h2⟩ := rks_lay ps
  unfold SeqAt.shaped
  show (PyData.canLayAll0 (rksD ps) && decide (PyData.depthAll (rksD ps) + 1 ≤ 64)) = true
  rw [h1, decide_eq_true (by omega)]
  rfl
theorem ints_shapedL (xs : List Int) : SeqAt.shaped (.list (xs.map PyData.int)) = true := by
  obtain ⟨h1, h2⟩ := ints_lay xs
  unfold SeqAt.shaped
  show (PyData.canLayAll0 (xs.map PyData.int) && decide (PyData.depthAll (xs.map PyData.int) + 1 ≤ 64)) = true
  rw [h1, h2]
  rfl
theorem all_cnt {n : Nat} : n ∈ ([1, 2, 3, 4, 5] : List Nat) → ((allRk n).length : Int) = ([2, 8, 44, 308, 2612] : List Int).getD (n - 1) 0 ∧ 2 ≤ (allRk n).length ∧ (allRk n).length ≤ 2612 := by
  have h : ∀ n ∈ ([1, 2, 3, 4, 5] : List Nat), ((allRk n).length : Int) = ([2, 8, 44, 308, 2612] : List Int).getD (n - 1) 0 ∧ 2 ≤ (allRk n).length ∧ (allRk n).length ≤ 2612 := by decide +kernel
  exact h n
theorem rg_of {n : Nat} {L : Int} (n1 : 1 ≤ n) (n4 : n ≤ 4) (e : L = ([2, 8, 44, 308, 2612] : List Int).getD (n - 1) 0) :
    ∃ (st : Int) (cnt : Nat), atI [V.int 1, V.int 1, V.int 1, V.int 7] ((n : Int) - 1) = some (.int st) ∧ RgC 0 L st cnt ∧ 0 ≤ st ∧ ∀ i : Nat, i < cnt → 0 ≤ (i : Int) * st ∧ (i : Int) * st < L := by
  have : n = 1 ∨ n = 2 ∨ n = 3 ∨ n = 4 := by omega
  rcases this with rfl | rfl | rfl | rfl
  · obtain rfl : L = 2 := e
    exact ⟨1, 2, rfl, ⟨by decide, by decide, by decide +kernel, by decide +kernel⟩, by decide, fun i h => by omega⟩
  · obtain rfl : L = 8 := e
    exact ⟨1, 8, rfl, ⟨by decide, by decide, by decide +kernel, by decide +kernel⟩, by decide, fun i h => by omega⟩
  · obtain rfl : L = 44 := e
    exact ⟨1, 44, rfl, ⟨by decide, by decide, by decide +kernel, by decide +kernel⟩, by decide, fun i h => by omega⟩
  · obtain rfl : L = 308 := e
    exact ⟨7, 44, rfl, ⟨by decide, by decide, by decide +kernel, by decide +kernel⟩, by decide, fun i h => by omega⟩
end BR

/-! ### lists of bools: count; errors let out; tuples that are rankings or not -/
namespace BR
open PySem PySem.Spec PyProof.Rows L2
theorem bools_of_vals : ∀ {bs : List Bool} {us : List Value}, Vals (bs.map V.bl) us → us = bs.map Value.bool
  | [], us, r => by
    rw [List.map_nil] at r
    cases r
    rfl
  | b :: bs, us, r => by
    rw [List.map_cons] at r
    cases r with
    | cons h t =>
      rw [bools_of_vals t]
      cases h
      rfl
def eqB (k : Bool) : Value → Bool
  | .bool b => b == k
  | _ => false
def cntB (k : Bool) (bs : List Bool) : Nat := bs.countP fun b => b == k
def rCntB (K : PySem.W.Frag) : V → List V → Hp → VK → Prop := fun x xs H Q => ∃ (p : Addr) (bs : List Bool) (k : Bool), x = V.ref p ∧ xs = [V.bl k] ∧ SqL K H p (bs.map V.bl) ∧ Q (.int ((cntB k bs : Nat) : Int)) H
theorem mt_lcountB {X : Cx} : MtR X "list.count" (rCntB X.K) := by
  intro pins s σ H x xs v us Q I rx rxs h
  obtain ⟨p, bs, k, rfl, rfl, hs, q⟩ := h
  cases rx
  obtain ⟨u, rfl, ru⟩ := rxs.one
  obtain rfl : u = Value.bool k := ru
  obtain ⟨its, rv, ⟨⟨cls, dd, data, sl⟩, n, ho, hc, hdn, hd⟩, hlen⟩ := I.list hs
  simp only at hc hd
  subst hc hd
  have hi := bools_of_vals rv
  refine call_meets PySem.F.slot_list_count ⟨_, ho, rfl⟩ PySem.F.entry_list_count (PySem.F.args_list_count_2 _ _)
    (SeqAt.list_countAt p its.toArray n dd sl (.bool k) (eqB k)) ⟨ho, fun y hy => ?_, ?_⟩
  · have hy' : y ∈ its := by simpa using hy
    rw [hi] at hy'
    obtain ⟨b, _, rfl⟩ := List.mem_map.mp hy'
    exact SeqAt.EqAt.bool_bool b k
  · have ec : its.toArray.toList.countP (eqB k) = cntB k bs := by
      rw [hi]
      show (bs.map Value.bool).countP (eqB k) = _
      rw [List.countP_map]
      rfl
    refine ⟨.int ((cntB k bs : Nat) : Int), H, I.tok _, ⟨s.toks, ?_⟩, q⟩
    show Value.int ((its.toArray.toList.countP (eqB k) : Nat) : Int) s.toks = Value.int ((cntB k bs : Nat) : Int) s.toks
    rw [ec]
/-- whether (rs, c) is a ranking -/
def okR (rs : List Int) (c : Int) : Bool := decide (srt rs = rg (srt rs).length) && (decide (0 ≤ c) && decide (c ≤ ((srt rs).length : Int)))
theorem isRk_of {rs : List Int} (h : srt rs = rg (srt rs).length) : IsRk rs (srt rs).length := fun k => by
  have e : k ∈ srt rs ↔ k ∈ rg (srt rs).length := by rw [← h]
  exact srt_mem.symm.trans (e.trans rg_mem)
theorem okR_is {rs : List Int} {c : Int} (h : okR rs c = true) : IsRk rs (srt rs).length ∧ 0 ≤ c ∧ c ≤ ((srt rs).length : Int) := by
  obtain ⟨h1, h2⟩ := Bool.and_eq_true_iff.mp h
  obtain ⟨h2, h3⟩ := Bool.and_eq_true_iff.mp h2
  exact ⟨isRk_of (of_decide_eq_true h1), of_decide_eq_true h2, of_decide_eq_true h3⟩
def kindName (j : Nat) : Str := (["wide", "words", "outcome", "cond", "ranking", "odd", "program", "row", "odd", "odd", "odd", "number", "unlike", "odd", "odd"] : List Str).getD j "odd"
theorem rows_has {n : Nat} : ∀ (k : Nat) (r : List Int), r.length = k → (∀ x ∈ r, 0 ≤ x ∧ x < (n : Int)) → r ∈ lawRows n k
  | 0, r, e, _ => by
    rw [List.length_eq_zero_iff.mp e]
    exact List.mem_singleton.mpr rfl
  | k + 1, r, e, h => by
    rcases List.eq_nil_or_concat r with z | ⟨r', x, z⟩
    · rw [z] at e
      exact absurd e (by simp)
    rw [z] at e h ⊢
    rw [List.concat_eq_append] at e h ⊢
    rw [List.length_append] at e
    obtain ⟨x0, x1⟩ := h x (by simp)
    refine List.mem_flatMap.mpr ⟨r', rows_has k r' (Nat.succ.inj e) fun y m => h y (List.mem_append_left _ m), ?_⟩
    refine List.mem_map.mpr ⟨x.toNat, List.mem_range.mpr (by omega), ?_⟩
    rw [Int.toNat_of_nonneg x0]
def kindsAt : List Nat := [0, 1, 2, 3, 4, 6, 7, 11, 12]
def kindNames : List Str := ["wide", "words", "outcome", "cond", "ranking", "program", "row", "number", "unlike"]
def bsOf (j : Nat) : List Bool := kindsAt.map fun i => decide (j = i)
def kindOk (j : Nat) : Bool := decide (kindName j = "odd") || ([5, 8, 9, 10, 13, 14].all (fun i => decide (j ≠ i)) && decide (cntB true (bsOf j) = 1) && (List.range 9).any fun i => decide ((bsOf j)[i]? = some true) && decide (kindNames[i]? = some (kindName j)) && (List.range i).all fun m => decide ((bsOf j)[m]? = some false))
theorem kinds15 : (List.range 15).all kindOk = true := by decide +kernel
theorem kind_of {j : Nat} (kn : kindName j ≠ "odd") (jl : j < 15) : (∀ i ∈ ([5, 8, 9, 10, 13, 14] : List Nat), j ≠ i) ∧ cntB true (bsOf j) = 1 ∧ ∃ i, i < 9 ∧ (bsOf j)[i]? = some true ∧ kindNames[i]? = some (kindName j) ∧ ∀ m, m < i → (bsOf j)[m]? = some false := by
  have h := List.all_eq_true.mp kinds15 j (List.mem_range.mpr jl)
  rcases Bool.or_eq_true_iff.mp h with h | h
  · exact absurd (of_decide_eq_true h) kn
  obtain ⟨h, h3⟩ := Bool.and_eq_true_iff.mp h
  obtain ⟨h1, h2⟩ := Bool.and_eq_true_iff.mp h
  obtain ⟨i, hi, h3⟩ := List.any_eq_true.mp h3
  obtain ⟨h3, h5⟩ := Bool.and_eq_true_iff.mp h3
  obtain ⟨h3, h4⟩ := Bool.and_eq_true_iff.mp h3
  refine ⟨fun i hi => of_decide_eq_true (List.all_eq_true.mp h1 i hi), of_decide_eq_true h2, i, List.mem_range.mp hi, of_decide_eq_true h3, of_decide_eq_true h4, fun m hm => of_decide_eq_true (List.all_eq_true.mp h5 m (List.mem_range.mpr hm))⟩
theorem kindSplit : Txt.split "wide words outcome cond ranking program row number unlike" " " = kindNames := by decide +kernel
theorem kitAny_no {K : PySem.W.Frag} {t : Value} : ∀ {us : List Value}, (∀ u ∈ us, PySem.W.kitOne K t u = some false) → PySem.W.kitAny K t us = some false
  | [], _ => rfl
  | u :: us, h => by
    show (match PySem.W.kitOne K t u with | some true => some true | some false => PySem.W.kitAny K t us | none => none) = some false
    rw [h u List.mem_cons_self]
    exact kitAny_no fun y m => h y (List.mem_cons_of_mem _ m)
theorem mx_in {rs : List Int} (ne : rs ≠ []) : mx rs ∈ rs ∧ ∀ y ∈ rs, y ≤ mx rs := by
  obtain ⟨m, hm, hx⟩ : ∃ m ∈ rs, ∀ y ∈ rs, y ≤ m := by
    induction rs with
    | nil => exact absurd rfl ne
    | cons x l ih =>
      by_cases e : l = []
      · subst e
        exact ⟨x, List.mem_cons_self, fun y hy => by rw [List.mem_singleton.mp hy]; exact Int.le_refl _⟩
      obtain ⟨m, hm, hx⟩ := ih e
      by_cases c : m < x
      · exact ⟨x, List.mem_cons_self, fun y hy => by
          rcases List.mem_cons.mp hy with rfl | hy
          · exact Int.le_refl _
          · have := hx y hy
            omega⟩
      · exact ⟨m, List.mem_cons_of_mem _ hm, fun y hy => by
          rcases List.mem_cons.mp hy with rfl | hy
          · omega
          · exact hx y hy⟩
  rw [← mx_one hm hx]
  exact ⟨hm, hx⟩
/-- asked by the greatest rank -/
theorem okR_mx {rs : List Int} {c : Int} {m : Nat} (ne : rs ≠ []) (em : mx rs + 1 = (m : Int)) : okR rs c = (decide (srt rs = rg m) && (decide (0 ≤ c) && decide (c ≤ (m : Int)))) := by
  by_cases h : srt rs = rg m
  · have l : (srt rs).length = m := by rw [h, rg_len]
    unfold okR
    rw [l]
  · have h2 : ¬ srt rs = rg (srt rs).length := fun z => by
      have := mx_is (srt_pos ne) (isRk_of z)
      have e : (srt rs).length = m := by omega
      rw [e] at z
      exact h z
    unfold okR
    rw [decide_eq_false h, decide_eq_false h2, Bool.false_and, Bool.false_and]
/-- all that are rankings stand among all rankings -/
theorem all_has {rs : List Int} {c : Int} (n1 : 1 ≤ rs.length) (n5 : rs.length ≤ 5) (o : okR rs c = true) : ∃ j : Nat, (allRk rs.length)[j]? = some (rs, c) := by
  obtain ⟨is, c0, cm⟩ := okR_is o
  have ls := srt_len rs
  have ne : rs ≠ [] := fun e => by rw [e] at n1; exact absurd n1 (by decide)
  have em := mx_is (srt_pos ne) is
  have mem : (rs, c) ∈ allRk rs.length := by
    rw [← law_all5 rs.length (five n1 n5)]
    refine List.mem_flatMap.mpr ⟨rs, rows_has _ rs rfl fun x m => ?_, ?_⟩
    · have := (is x).mp m
      omega
    · unfold lawCuts
      rw [if_pos (by omega)]
      refine List.mem_map.mpr ⟨c.toNat, List.mem_range.mpr (by omega), ?_⟩
      rw [Int.toNat_of_nonneg c0]
  obtain ⟨j, hj, e⟩ := List.mem_iff_getElem.mp mem
  exact ⟨j, by rw [List.getElem?_eq_getElem hj, e]⟩
/-- an error of the class at C that carries v is let out -/
def Lets (C : Addr) (v : V) (H : Hp) (E : XK) : Prop := ∀ d H', H d = none → Same H H' → H' d = some (.xd [("value", v)]) → E (.ref C) (some d) H'
theorem Lets.now {C : Addr} {v : V} {H : Hp} {E : XK} (h : Lets C v H E) : ∀ d, H d = none → E (.ref C) (some d) (L2.upd H d (.xd [("value", v)])) := fun d hd => h d _ hd (sameNew hd) upd_same
theorem Lets.later {C : Addr} {v : V} {H H1 : Hp} {E : XK} (h : Lets C v H E) (s : Same H H1) : Lets C v H1 E := fun d H' hd s2 e => h d H' (s.free hd) (s.trans s2) e
def Word (wd x : Int) : Prop := 0 ≤ x ∧ x < 2 ^ wd.toNat
/-- the first integer that is no word stands at i -/
def BadAt (wd : Int) (xs : List Int) (i : Nat) : Prop := ∃ z, xs[i]? = some z ∧ ¬ Word wd z ∧ ∀ (j : Nat) (y : Int), j < i → xs[j]? = some y → Word wd y
theorem bad_or {wd : Int} : ∀ xs : List Int, (∀ x ∈ xs, Word wd x) ∨ ∃ i, BadAt wd xs i
  | [] => .inl fun x m => absurd m (by simp)
  | x :: xs => by
    by_cases h : Word wd x
    · rcases bad_or (wd := wd) xs with a | ⟨i, z, e, nz, pre⟩
      · exact .inl fun y m => by
          rcases List.mem_cons.mp m with rfl | m
          · exact h
          · exact a y m
      · refine .inr ⟨i + 1, z, e, nz, fun j y hj hy => ?_⟩
        cases j with
        | zero =>
          cases hy
          exact h
        | succ j => exact pre j y (by omega) hy
    · exact .inr ⟨0, x, rfl, h, fun j y hj => absurd hj (Nat.not_lt_zero j)⟩
end BR

/-! ### [e for x in l], l a list of ints, e an int of x alone -/
namespace BR
open PySem PySem.Spec PyProof.Rows L2
theorem lc_intsL {K : PySem.W.Frag} {a : Addr} {xs : List Int} {j : Nat} {te : TE} {vs : List Nat} {σ : L2.St} {H1 : Hp} {D : Addr} {Qd : Hp → Prop} (f : Int → Int) (hL : SqL K H1 a (xs.map V.int)) (hz : xs.length ≤ 1000) (hD : H1 D = none)
    (hw : ∀ x : V, wipe ((wipe σ vs).set j (some x)) vs = wipe σ vs)
    (he : ∀ (x : Int) (H2 : Hp) (Q : VK), x ∈ xs → Same H1 H2 → (∀ H3, Same H2 H3 → Q (.int (f x)) H3) → te ((wipe σ vs).set j (some (.int x))) H2 Q)
    (hd : ∀ H, Same H1 H → H D = some (.lst ((xs.map f).map V.int)) → Qd H) :
    ∃ W : Nat → Nat → Hp → Prop, (∃ m, W 0 m (L2.upd H1 D (.lst []))) ∧ ∀ i m H, W i m H →
      ((Itl K a).stop i H ∧ Qd H) ∨ ((Itl K a).go i H ∧ ∃ Nx : Hp → Prop, (∀ H', Nx H' → ∃ m', m' < m ∧ W (i + 1) m' H') ∧ ∀ x H', (Itl K a).yld i H x H' → gName j x (wipe σ vs) H' fun σ2 H2 => wipe σ2 vs = wipe σ vs ∧ tYes σ2 H2 fun b H3 =>
        if b = true then te σ2 H3 fun y H4 => ∃ acc, H4 D = some (.lst acc) ∧ acc.length < sizeLine ∧ Nx (L2.upd H4 D (.lst (acc ++ [y]))) else Nx H3) := by
  refine lc_list (xs := xs.map V.int) (fun i H => Same H1 H ∧ H D = some (.lst (((xs.take i).map f).map V.int))) ⟨sameNew hD, upd_same⟩ (fun i H _ p => p.1.seq hL) ?_ ?_
  · rintro i x H hx ⟨s, hH⟩
    obtain ⟨z, hz1, rfl⟩ := map_at hx
    refine ⟨hw _, ?_⟩
    show te ((wipe σ vs).set j (some (V.int z))) H _
    refine he z H _ (List.mem_of_getElem? hz1) s fun H3 s3 => ?_
    refine ⟨_, s3 _ _ hH, small1000 (by rw [List.length_map, List.length_map, List.length_take]; omega), ?_, ?_⟩
    · intro b o e
      rw [upd_ne (ne_of_none e hD)]
      exact s3 _ _ (s _ _ e)
    · rw [upd_same, map_take_succ hz1]
  · rintro H ⟨s, hH⟩
    rw [List.length_map, List.take_length] at hH
    exact hd H s hH
theorem ite_by {K : PySem.W.Frag} {H0 : Hp} {Qd : Hp → Prop} {B : V → Hp → (Hp → Prop) → Prop} {a : Addr} {xs : List V} (Pv : Nat → Hp → Prop) (h0 : Pv 0 H0) (hl : ∀ i H, i ≤ xs.length → Pv i H → SqL K H a xs)
    (hs : ∀ i x H T, xs[i]? = some x → Pv i H → H T = none → B (.ref T) (L2.upd H T (.tup [.int (i : Nat), x])) (Pv (i + 1))) (hd : ∀ H, Pv xs.length H → Qd H) :
    ∃ W : Nat → Nat → Hp → Prop, (∃ m, W 0 m H0) ∧ ∀ i m H, W i m H → ((Ite K a).stop i H ∧ Qd H) ∨ ((Ite K a).go i H ∧ ∃ Nx : Hp → Prop, (∀ H', Nx H' → ∃ m', m' < m ∧ W (i + 1) m' H') ∧ ∀ x H', (Ite K a).yld i H x H' → B x H' Nx) := by
  refine ⟨fun i m H => m = xs.length - i ∧ i ≤ xs.length ∧ Pv i H, ⟨xs.length, by simp, Nat.zero_le _, h0⟩, fun i m H => ?_⟩
  rintro ⟨rfl, hi, p⟩
  have q := hl i H hi p
  rcases Nat.lt_or_eq_of_le hi with c | c
  · refine .inr ⟨⟨xs, xs[i], q, by simp [c]⟩, Pv (i + 1), fun H' p' => ⟨xs.length - (i + 1), by omega, rfl, c, p'⟩, fun x H' y => ?_⟩
    obtain ⟨T, x1, e1, e2, e3, y⟩ := y
    subst e1 e3
    exact hs i x1 _ T (y xs q) p e2
  · subst c
    exact .inl ⟨⟨xs, q, Nat.le_refl _⟩, hd H p⟩
theorem rep_if (b : Bool) (x : V) : (List.replicate (if b = true then (1 : Int) else 0).toNat [x]).flatten = if b = true then [x] else [] := by cases b <;> rfl
/-- [[word, value]] * int(test) -/
theorem flagL {σ : L2.St} {H : Hp} {Q : VK} {wd : Str} {i : Nat} {v : V} {tb : TE} {b : Bool} (hv : σ[i]? = some (some v)) (hb : ∀ (H' : Hp) (Q' : VK), Same H H' → (∀ H'', Same H' H'' → Q' (.bl b) H'') → tb σ H' Q')
    (k : ∀ g0 g2 H', Same H H' → H' g0 = some (.lst [.str wd, v]) → H' g2 = some (.lst (if b = true then [.ref g0] else [])) → Q (.ref g2) H') :
    tOp rRep (tLst (tCons (tLst (tCons (tC (.str wd)) (tCons (tVar i) tNil))) tNil)) (tCB (fun xs H Q => (∃ i, xs = [V.int i] ∧ Q (V.int i) H) ∨ ∃ k, xs = [V.bl k] ∧ Q (V.int (if k = true then 1 else 0)) H) (tCons tb tNil)) σ H Q := by
  refine ⟨_, hv, (by show 2 ≤ sizeLine; decide), fun g0 hg0 => ⟨(by show 1 ≤ sizeLine; decide), fun g1 hg1 => ?_⟩⟩
  refine hb _ _ ((sameNew hg0).trans (sameNew hg1)) fun H2 s2 => ?_
  refine .inr ⟨_, rfl, ?_⟩
  refine ⟨g1, _, [.ref g0], rfl, rfl, s2 _ _ upd_same, by split <;> decide, by split <;> decide, (by show 1 * _ ≤ sizeLine; split <;> decide), fun g2 hg2 => ?_⟩
  rw [rep_if]
  exact k g0 g2 _ (((sameNew hg0).trans (sameNew hg1)).trans (s2.trans (sameNew hg2))) ((sameNew hg2) _ _ (s2 _ _ ((sameNew hg1) _ _ upd_same))) upd_same
end BR

namespace BR
open PySem PySem.Spec PyProof.Rows L2
/-! ### the text by places -/
def top (i : Nat) : Stmt := PySem.Challenge.pw_branchorders_k11_errors_of_rankings.main.body.getD i (.Pass ⟨0, 0, 0, 0⟩)
abbrev s_check_width : Stmt := top 19
abbrev s_check_words : Stmt := top 20
abbrev s_is_word : Stmt := top 21
abbrev s_sign_bit : Stmt := top 22
abbrev s_outcome_by_cut : Stmt := top 23
abbrev s_check_ranking : Stmt := top 26
abbrev s_check_items : Stmt := top 27
abbrev s_ranking_of : Stmt := top 28
abbrev s_outcome_in : Stmt := top 29
abbrev s_outcome_between : Stmt := top 30
abbrev s_least_width : Stmt := top 31
abbrev s_least_words : Stmt := top 32
abbrev s_count_words : Stmt := top 33
abbrev s_count_rankings : Stmt := top 34
abbrev s_nth_ranking : Stmt := top 35
abbrev s_ranking_number : Stmt := top 36
abbrev s_all_rankings : Stmt := top 37
abbrev s_is_ranking : Stmt := top 38
abbrev s_ranks_by_sign : Stmt := top 39
abbrev s_fits : Stmt := top 40
abbrev s_gaps : Stmt := top 41
abbrev s_law_pool : Stmt := top 43
abbrev s_law_draw : Stmt := top 44
abbrev s_law_wide : Stmt := top 45
abbrev s_law_power : Stmt := top 46
abbrev s_law_all_rankings : Stmt := top 47
abbrev s_law_kind : Stmt := top 48
abbrev s_law_told : Stmt := top 49
abbrev s_law_bent : Stmt := top 50
abbrev s_law_is_ranking : Stmt := top 51
abbrev s_law_rankings_right : Stmt := top 52
abbrev s_law_others_right : Stmt := top 53
abbrev s_law : Stmt := top 54
abbrev s_InvalidWidth : Stmt := inClass (top 3) 0
abbrev s_InvalidWords : Stmt := inClass (top 4) 0
abbrev s_InvalidOutcome : Stmt := inClass (top 5) 0
abbrev s_InvalidCondition : Stmt := inClass (top 6) 0
abbrev s_InvalidRanking : Stmt := inClass (top 7) 0
abbrev s_InvalidKnowledge : Stmt := inClass (top 8) 0
abbrev s_InvalidProgram : Stmt := inClass (top 9) 0
abbrev s_InvalidRow : Stmt := inClass (top 10) 0
abbrev s_InvalidRegister : Stmt := inClass (top 11) 0
abbrev s_InvalidQuery : Stmt := inClass (top 12) 0
abbrev s_InvalidTable : Stmt := inClass (top 13) 0
abbrev s_InvalidNumber : Stmt := inClass (top 14) 0
abbrev s_UnlikeInputs : Stmt := inClass (top 15) 0
abbrev s_NothingToUndo : Stmt := inClass (top 16) 0
abbrev s_Unreadable : Stmt := inClass (top 17) 0
structure Ad where
  c_InvalidWidth : Addr
  c_InvalidWords : Addr
  c_InvalidOutcome : Addr
  c_InvalidCondition : Addr
  c_InvalidRanking : Addr
  c_InvalidKnowledge : Addr
  c_InvalidProgram : Addr
  c_InvalidRow : Addr
  c_InvalidRegister : Addr
  c_InvalidQuery : Addr
  c_InvalidTable : Addr
  c_InvalidNumber : Addr
  c_UnlikeInputs : Addr
  c_NothingToUndo : Addr
  c_Unreadable : Addr
  c_BranchError : Addr
  i_InvalidWidth : Addr
  di_InvalidWidth : FuncData
  i_InvalidWords : Addr
  di_InvalidWords : FuncData
  i_InvalidOutcome : Addr
  di_InvalidOutcome : FuncData
  i_InvalidCondition : Addr
  di_InvalidCondition : FuncData
  i_InvalidRanking : Addr
  di_InvalidRanking : FuncData
  i_InvalidKnowledge : Addr
  di_InvalidKnowledge : FuncData
  i_InvalidProgram : Addr
  di_InvalidProgram : FuncData
  i_InvalidRow : Addr
  di_InvalidRow : FuncData
  i_InvalidRegister : Addr
  di_InvalidRegister : FuncData
  i_InvalidQuery : Addr
  di_InvalidQuery : FuncData
  i_InvalidTable : Addr
  di_InvalidTable : FuncData
  i_InvalidNumber : Addr
  di_InvalidNumber : FuncData
  i_UnlikeInputs : Addr
  di_UnlikeInputs : FuncData
  i_NothingToUndo : Addr
  di_NothingToUndo : FuncData
  i_Unreadable : Addr
  di_Unreadable : FuncData
  a_check_width : Addr
  d_check_width : FuncData
  a_check_words : Addr
  d_check_words : FuncData
  a_is_word : Addr
  d_is_word : FuncData
  a_sign_bit : Addr
  d_sign_bit : FuncData
  a_outcome_by_cut : Addr
  d_outcome_by_cut : FuncData
  a_check_ranking : Addr
  d_check_ranking : FuncData
  a_check_items : Addr
  d_check_items : FuncData
  a_ranking_of : Addr
  d_ranking_of : FuncData
  a_outcome_in : Addr
  d_outcome_in : FuncData
  a_outcome_between : Addr
  d_outcome_between : FuncData
  a_least_width : Addr
  d_least_width : FuncData
  a_least_words : Addr
  d_least_words : FuncData
  a_count_words : Addr
  d_count_words : FuncData
  a_count_rankings : Addr
  d_count_rankings : FuncData
  a_nth_ranking : Addr
  d_nth_ranking : FuncData
  a_ranking_number : Addr
  d_ranking_number : FuncData
  a_all_rankings : Addr
  d_all_rankings : FuncData
  a_is_ranking : Addr
  d_is_ranking : FuncData
  a_ranks_by_sign : Addr
  d_ranks_by_sign : FuncData
  a_fits : Addr
  d_fits : FuncData
  a_gaps : Addr
  d_gaps : FuncData
  a_law_pool : Addr
  d_law_pool : FuncData
  a_law_draw : Addr
  d_law_draw : FuncData
  a_law_wide : Addr
  d_law_wide : FuncData
  a_law_power : Addr
  d_law_power : FuncData
  a_law_all_rankings : Addr
  d_law_all_rankings : FuncData
  a_law_kind : Addr
  d_law_kind : FuncData
  a_law_told : Addr
  d_law_told : FuncData
  a_law_bent : Addr
  d_law_bent : FuncData
  a_law_is_ranking : Addr
  d_law_is_ranking : FuncData
  a_law_rankings_right : Addr
  d_law_rankings_right : FuncData
  a_law_others_right : Addr
  d_law_others_right : FuncData
  a_law : Addr
  d_law : FuncData
structure Txt (w : World) (K : PySem.W.Frag) (mg : Str → Option Value) (A0 : Ad) : Prop where
  g_check_width : mg "check_width" = some (.ref A0.a_check_width)
  F_check_width : Fun K "check_width" "check_width" s_check_width A0.a_check_width A0.d_check_width
  g_check_words : mg "check_words" = some (.ref A0.a_check_words)
  F_check_words : Fun K "check_words" "check_words" s_check_words A0.a_check_words A0.d_check_words
  g_is_word : mg "is_word" = some (.ref A0.a_is_word)
  F_is_word : Fun K "is_word" "is_word" s_is_word A0.a_is_word A0.d_is_word
  g_sign_bit : mg "sign_bit" = some (.ref A0.a_sign_bit)
  F_sign_bit : Fun K "sign_bit" "sign_bit" s_sign_bit A0.a_sign_bit A0.d_sign_bit
  g_outcome_by_cut : mg "outcome_by_cut" = some (.ref A0.a_outcome_by_cut)
  F_outcome_by_cut : Fun K "outcome_by_cut" "outcome_by_cut" s_outcome_by_cut A0.a_outcome_by_cut A0.d_outcome_by_cut
  g_check_ranking : mg "check_ranking" = some (.ref A0.a_check_ranking)
  F_check_ranking : Fun K "check_ranking" "check_ranking" s_check_ranking A0.a_check_ranking A0.d_check_ranking
  g_check_items : mg "check_items" = some (.ref A0.a_check_items)
  F_check_items : Fun K "check_items" "check_items" s_check_items A0.a_check_items A0.d_check_items
  g_ranking_of : mg "ranking_of" = some (.ref A0.a_ranking_of)
  F_ranking_of : Fun K "ranking_of" "ranking_of" s_ranking_of A0.a_ranking_of A0.d_ranking_of
  g_outcome_in : mg "outcome_in" = some (.ref A0.a_outcome_in)
  F_outcome_in : Fun K "outcome_in" "outcome_in" s_outcome_in A0.a_outcome_in A0.d_outcome_in
  g_outcome_between : mg "outcome_between" = some (.ref A0.a_outcome_between)
  F_outcome_between : Fun K "outcome_between" "outcome_between" s_outcome_between A0.a_outcome_between A0.d_outcome_between
  g_least_width : mg "least_width" = some (.ref A0.a_least_width)
  F_least_width : Fun K "least_width" "least_width" s_least_width A0.a_least_width A0.d_least_width
  g_least_words : mg "least_words" = some (.ref A0.a_least_words)
  F_least_words : Fun K "least_words" "least_words" s_least_words A0.a_least_words A0.d_least_words
  g_count_words : mg "count_words" = some (.ref A0.a_count_words)
  F_count_words : Fun K "count_words" "count_words" s_count_words A0.a_count_words A0.d_count_words
  g_count_rankings : mg "count_rankings" = some (.ref A0.a_count_rankings)
  F_count_rankings : Fun K "count_rankings" "count_rankings" s_count_rankings A0.a_count_rankings A0.d_count_rankings
  g_nth_ranking : mg "nth_ranking" = some (.ref A0.a_nth_ranking)
  F_nth_ranking : Fun K "nth_ranking" "nth_ranking" s_nth_ranking A0.a_nth_ranking A0.d_nth_ranking
  g_ranking_number : mg "ranking_number" = some (.ref A0.a_ranking_number)
  F_ranking_number : Fun K "ranking_number" "ranking_number" s_ranking_number A0.a_ranking_number A0.d_ranking_number
  g_all_rankings : mg "all_rankings" = some (.ref A0.a_all_rankings)
  F_all_rankings : Fun K "all_rankings" "all_rankings" s_all_rankings A0.a_all_rankings A0.d_all_rankings
  g_is_ranking : mg "_is_ranking" = some (.ref A0.a_is_ranking)
  F_is_ranking : Fun K "_is_ranking" "_is_ranking" s_is_ranking A0.a_is_ranking A0.d_is_ranking
  g_ranks_by_sign : mg "_ranks_by_sign" = some (.ref A0.a_ranks_by_sign)
  F_ranks_by_sign : Fun K "_ranks_by_sign" "_ranks_by_sign" s_ranks_by_sign A0.a_ranks_by_sign A0.d_ranks_by_sign
  g_fits : mg "_fits" = some (.ref A0.a_fits)
  F_fits : Fun K "_fits" "_fits" s_fits A0.a_fits A0.d_fits
  g_gaps : mg "_gaps" = some (.ref A0.a_gaps)
  F_gaps : Fun K "_gaps" "_gaps" s_gaps A0.a_gaps A0.d_gaps
  g_law_pool : mg "_law_pool" = some (.ref A0.a_law_pool)
  F_law_pool : Fun K "_law_pool" "_law_pool" s_law_pool A0.a_law_pool A0.d_law_pool
  g_law_draw : mg "_law_draw" = some (.ref A0.a_law_draw)
  F_law_draw : Fun K "_law_draw" "_law_draw" s_law_draw A0.a_law_draw A0.d_law_draw
  g_law_wide : mg "_law_wide" = some (.ref A0.a_law_wide)
  F_law_wide : Fun K "_law_wide" "_law_wide" s_law_wide A0.a_law_wide A0.d_law_wide
  g_law_power : mg "_law_power" = some (.ref A0.a_law_power)
  F_law_power : Fun K "_law_power" "_law_power" s_law_power A0.a_law_power A0.d_law_power
  g_law_all_rankings : mg "_law_all_rankings" = some (.ref A0.a_law_all_rankings)
  F_law_all_rankings : Fun K "_law_all_rankings" "_law_all_rankings" s_law_all_rankings A0.a_law_all_rankings A0.d_law_all_rankings
  g_law_kind : mg "_law_kind" = some (.ref A0.a_law_kind)
  F_law_kind : Fun K "_law_kind" "_law_kind" s_law_kind A0.a_law_kind A0.d_law_kind
  g_law_told : mg "_law_told" = some (.ref A0.a_law_told)
  F_law_told : Fun K "_law_told" "_law_told" s_law_told A0.a_law_told A0.d_law_told
  g_law_bent : mg "_law_bent" = some (.ref A0.a_law_bent)
  F_law_bent : Fun K "_law_bent" "_law_bent" s_law_bent A0.a_law_bent A0.d_law_bent
  g_law_is_ranking : mg "_law_is_ranking" = some (.ref A0.a_law_is_ranking)
  F_law_is_ranking : Fun K "_law_is_ranking" "_law_is_ranking" s_law_is_ranking A0.a_law_is_ranking A0.d_law_is_ranking
  g_law_rankings_right : mg "_law_rankings_right" = some (.ref A0.a_law_rankings_right)
  F_law_rankings_right : Fun K "_law_rankings_right" "_law_rankings_right" s_law_rankings_right A0.a_law_rankings_right A0.d_law_rankings_right
  g_law_others_right : mg "_law_others_right" = some (.ref A0.a_law_others_right)
  F_law_others_right : Fun K "_law_others_right" "_law_others_right" s_law_others_right A0.a_law_others_right A0.d_law_others_right
  g_law : mg "law" = some (.ref A0.a_law)
  F_law : Fun K "law" "law" s_law A0.a_law A0.d_law
  b_ValueError : mg "ValueError" = none
  b_abs : mg "abs" = none
  b_any : mg "any" = none
  b_enumerate : mg "enumerate" = none
  b_int : mg "int" = none
  b_isinstance : mg "isinstance" = none
  b_len : mg "len" = none
  b_list : mg "list" = none
  b_max : mg "max" = none
  b_min : mg "min" = none
  b_range : mg "range" = none
  b_set : mg "set" = none
  b_sorted : mg "sorted" = none
  b_tuple : mg "tuple" = none
  b_type : mg "type" = none
  gi_MOST_ITEMS : ∃ t, mg "MOST_ITEMS" = some (.int 5 t)
  gf_comb : mg "comb" = some (.builtin "math.comb")
  gc_InvalidWidth : mg "InvalidWidth" = some (.ref A0.c_InvalidWidth)
  er_InvalidWidth : ErrTxt K A0.c_InvalidWidth A0.i_InvalidWidth
  FI_InvalidWidth : Fun K "__init__" "InvalidWidth.__init__" s_InvalidWidth A0.i_InvalidWidth A0.di_InvalidWidth
  xm_InvalidWidth : PySem.W.exmOne K (.ref A0.c_InvalidWidth) (.ref A0.c_BranchError) = some true
  gc_InvalidWords : mg "InvalidWords" = some (.ref A0.c_InvalidWords)
  er_InvalidWords : ErrTxt K A0.c_InvalidWords A0.i_InvalidWords
  FI_InvalidWords : Fun K "__init__" "InvalidWords.__init__" s_InvalidWords A0.i_InvalidWords A0.di_InvalidWords
  xm_InvalidWords : PySem.W.exmOne K (.ref A0.c_InvalidWords) (.ref A0.c_BranchError) = some true
  gc_InvalidOutcome : mg "InvalidOutcome" = some (.ref A0.c_InvalidOutcome)
  er_InvalidOutcome : ErrTxt K A0.c_InvalidOutcome A0.i_InvalidOutcome
  FI_InvalidOutcome : Fun K "__init__" "InvalidOutcome.__init__" s_InvalidOutcome A0.i_InvalidOutcome A0.di_InvalidOutcome
  xm_InvalidOutcome : PySem.W.exmOne K (.ref A0.c_InvalidOutcome) (.ref A0.c_BranchError) = some true
  gc_InvalidCondition : mg "InvalidCondition" = some (.ref A0.c_InvalidCondition)
  er_InvalidCondition : ErrTxt K A0.c_InvalidCondition A0.i_InvalidCondition
  FI_InvalidCondition : Fun K "__init__" "InvalidCondition.__init__" s_InvalidCondition A0.i_InvalidCondition A0.di_InvalidCondition
  xm_InvalidCondition : PySem.W.exmOne K (.ref A0.c_InvalidCondition) (.ref A0.c_BranchError) = some true
  gc_InvalidRanking : mg "InvalidRanking" = some (.ref A0.c_InvalidRanking)
  er_InvalidRanking : ErrTxt K A0.c_InvalidRanking A0.i_InvalidRanking
  FI_InvalidRanking : Fun K "__init__" "InvalidRanking.__init__" s_InvalidRanking A0.i_InvalidRanking A0.di_InvalidRanking
  xm_InvalidRanking : PySem.W.exmOne K (.ref A0.c_InvalidRanking) (.ref A0.c_BranchError) = some true
  gc_InvalidKnowledge : mg "InvalidKnowledge" = some (.ref A0.c_InvalidKnowledge)
  er_InvalidKnowledge : ErrTxt K A0.c_InvalidKnowledge A0.i_InvalidKnowledge
  FI_InvalidKnowledge : Fun K "__init__" "InvalidKnowledge.__init__" s_InvalidKnowledge A0.i_InvalidKnowledge A0.di_InvalidKnowledge
  xm_InvalidKnowledge : PySem.W.exmOne K (.ref A0.c_InvalidKnowledge) (.ref A0.c_BranchError) = some true
  gc_InvalidProgram : mg "InvalidProgram" = some (.ref A0.c_InvalidProgram)
  er_InvalidProgram : ErrTxt K A0.c_InvalidProgram A0.i_InvalidProgram
  FI_InvalidProgram : Fun K "__init__" "InvalidProgram.__init__" s_InvalidProgram A0.i_InvalidProgram A0.di_InvalidProgram
  xm_InvalidProgram : PySem.W.exmOne K (.ref A0.c_InvalidProgram) (.ref A0.c_BranchError) = some true
  gc_InvalidRow : mg "InvalidRow" = some (.ref A0.c_InvalidRow)
  er_InvalidRow : ErrTxt K A0.c_InvalidRow A0.i_InvalidRow
  FI_InvalidRow : Fun K "__init__" "InvalidRow.__init__" s_InvalidRow A0.i_InvalidRow A0.di_InvalidRow
  xm_InvalidRow : PySem.W.exmOne K (.ref A0.c_InvalidRow) (.ref A0.c_BranchError) = some true
  gc_InvalidRegister : mg "InvalidRegister" = some (.ref A0.c_InvalidRegister)
  er_InvalidRegister : ErrTxt K A0.c_InvalidRegister A0.i_InvalidRegister
  FI_InvalidRegister : Fun K "__init__" "InvalidRegister.__init__" s_InvalidRegister A0.i_InvalidRegister A0.di_InvalidRegister
  xm_InvalidRegister : PySem.W.exmOne K (.ref A0.c_InvalidRegister) (.ref A0.c_BranchError) = some true
  gc_InvalidQuery : mg "InvalidQuery" = some (.ref A0.c_InvalidQuery)
  er_InvalidQuery : ErrTxt K A0.c_InvalidQuery A0.i_InvalidQuery
  FI_InvalidQuery : Fun K "__init__" "InvalidQuery.__init__" s_InvalidQuery A0.i_InvalidQuery A0.di_InvalidQuery
  xm_InvalidQuery : PySem.W.exmOne K (.ref A0.c_InvalidQuery) (.ref A0.c_BranchError) = some true
  gc_InvalidTable : mg "InvalidTable" = some (.ref A0.c_InvalidTable)
  er_InvalidTable : ErrTxt K A0.c_InvalidTable A0.i_InvalidTable
  FI_InvalidTable : Fun K "__init__" "InvalidTable.__init__" s_InvalidTable A0.i_InvalidTable A0.di_InvalidTable
  xm_InvalidTable : PySem.W.exmOne K (.ref A0.c_InvalidTable) (.ref A0.c_BranchError) = some true
  gc_InvalidNumber : mg "InvalidNumber" = some (.ref A0.c_InvalidNumber)
  er_InvalidNumber : ErrTxt K A0.c_InvalidNumber A0.i_InvalidNumber
  FI_InvalidNumber : Fun K "__init__" "InvalidNumber.__init__" s_InvalidNumber A0.i_InvalidNumber A0.di_InvalidNumber
  xm_InvalidNumber : PySem.W.exmOne K (.ref A0.c_InvalidNumber) (.ref A0.c_BranchError) = some true
  gc_UnlikeInputs : mg "UnlikeInputs" = some (.ref A0.c_UnlikeInputs)
  er_UnlikeInputs : ErrTxt K A0.c_UnlikeInputs A0.i_UnlikeInputs
  FI_UnlikeInputs : Fun K "__init__" "UnlikeInputs.__init__" s_UnlikeInputs A0.i_UnlikeInputs A0.di_UnlikeInputs
  xm_UnlikeInputs : PySem.W.exmOne K (.ref A0.c_UnlikeInputs) (.ref A0.c_BranchError) = some true
  gc_NothingToUndo : mg "NothingToUndo" = some (.ref A0.c_NothingToUndo)
  er_NothingToUndo : ErrTxt K A0.c_NothingToUndo A0.i_NothingToUndo
  FI_NothingToUndo : Fun K "__init__" "NothingToUndo.__init__" s_NothingToUndo A0.i_NothingToUndo A0.di_NothingToUndo
  xm_NothingToUndo : PySem.W.exmOne K (.ref A0.c_NothingToUndo) (.ref A0.c_BranchError) = some true
  gc_Unreadable : mg "Unreadable" = some (.ref A0.c_Unreadable)
  er_Unreadable : ErrTxt K A0.c_Unreadable A0.i_Unreadable
  FI_Unreadable : Fun K "__init__" "Unreadable.__init__" s_Unreadable A0.i_Unreadable A0.di_Unreadable
  xm_Unreadable : PySem.W.exmOne K (.ref A0.c_Unreadable) (.ref A0.c_BranchError) = some true
  gc_BranchError : mg "BranchError" = some (.ref A0.c_BranchError)
  xb : PySem.W.excIn K A0.c_BranchError [.type "ValueError", .type "Exception", .type "BaseException", .type "object"] "ValueError.__new__" = true
  kb : PySem.W.keepIn K (.ref A0.c_BranchError) = true
  eb : ExcC K A0.c_BranchError
  tab : kitTab K [A0.c_InvalidWidth, A0.c_InvalidWords, A0.c_InvalidOutcome, A0.c_InvalidCondition, A0.c_InvalidRanking, A0.c_InvalidKnowledge, A0.c_InvalidProgram, A0.c_InvalidRow, A0.c_InvalidRegister, A0.c_InvalidQuery, A0.c_InvalidTable, A0.c_InvalidNumber, A0.c_UnlikeInputs, A0.c_NothingToUndo, A0.c_Unreadable] A0.c_BranchError = true
/-- what a door lets out: the number of the class, the value -/
def inR (rs : List Int) (i : Int) : Bool := decide (0 ≤ i) && decide (i < (rs.length : Int))
def resRk (q : Addr) (rs : List Int) (c : Int) (r : Option (Nat × V)) : Option (Nat × V) := if okR rs c = true then r else some (4, .ref q)
def resW (wd : Int) (r : Option (Nat × V)) : Option (Nat × V) := if 1 ≤ wd then r else some (0, .int wd)
def resN (n : Int) (r : Option (Nat × V)) : Option (Nat × V) := if 1 ≤ n ∧ n ≤ 5 then r else some (11, .int n)
def resP (rs : List Int) (i j : Int) : Option (Nat × V) := if inR rs i = true then (if inR rs j = true then none else some (11, .int j)) else some (11, .int i)
def toldL (r : Option (Nat × V)) : List V := match r with | some (j, v) => [.str (kindName j), v] | none => [.str "none", .non]
/-- behind a try: what was caught -/
def MidK (H : Hp) (CS : List Addr) (l : L2.St) (r : Option (Nat × V)) (σ : L2.St) (H1 : Hp) : Prop := ∃ caught, σ = l ++ [some caught, none] ∧ Same H H1 ∧ ((caught = .non ∧ r = none) ∨ ∃ (a C : Addr) (j : Nat) (v : V), caught = .ref a ∧ ErrK H1 a C "value" v ∧ CS[j]? = some C ∧ kindName j ≠ "odd" ∧ r = some (j, v))
theorem MidK.bad {H : Hp} {CS : List Addr} {l : L2.St} {r : Option (Nat × V)} {j : Nat} {v : V} {C e a : Addr} {H' : Hp} (hc : CS[j]? = some C) (ho : kindName j ≠ "odd") (hr : r = some (j, v)) (s : Same H H') (he : H' e = some (.xd [("value", v)])) (n : H' a = none) :
    MidK H CS l r (l ++ [some (.ref a), none]) (upd H' a (exk a (.ref C) (some e))) :=
  ⟨_, rfl, s.trans (sameNew n), .inr ⟨a, C, j, v, rfl, ⟨e, upd_same, by rw [upd_ne (ne_of_none he n)]; exact he⟩, hc, ho, hr⟩⟩
theorem MidK.free {H : Hp} {CS : List Addr} {l : L2.St} {r : Option (Nat × V)} {H' : Hp} (hr : r = none) (s : Same H H') : MidK H CS l r (l ++ [some .non, none]) H' := ⟨_, rfl, s, .inl ⟨rfl, hr⟩⟩
theorem inR_yes {rs : List Int} {i : Int} (h : 0 ≤ i ∧ i < (rs.length : Int)) : inR rs i = true := by unfold inR; rw [← Bool.decide_and]; exact decide_eq_true h
theorem inR_no {rs : List Int} {i : Int} (h : ¬ (0 ≤ i ∧ i < (rs.length : Int))) : inR rs i = false := by unfold inR; rw [← Bool.decide_and]; exact decide_eq_false h
inductive Door (K : PySem.W.Frag) (H : Hp) : Int → V → V → V → Option (Nat × V) → Prop
  | d0 {q rt : Addr} {rs : List Int} {c i j : Int} : RkAt H q rt rs c → rs.length ≤ 5 → Door K H 0 (.ref q) (.int i) (.int j) (resRk q rs c (resP rs i j))
  | d1 {q rt : Addr} {rs : List Int} {c : Int} {x2 x3 : V} : RkAt H q rt rs c → rs.length ≤ 5 → Door K H 1 (.ref q) x2 x3 (resRk q rs c none)
  | d2 {q rt : Addr} {rs : List Int} {c wd : Int} {x3 : V} : RkAt H q rt rs c → rs.length ≤ 5 → wd ≤ 1000 → Door K H 2 (.ref q) (.int wd) x3 (resRk q rs c (resW wd none))
  | d3 {q rt : Addr} {rs : List Int} {c wd : Int} {x3 : V} : RkAt H q rt rs c → rs.length ≤ 5 → wd ≤ 1000 → Door K H 3 (.ref q) (.int wd) x3 (resRk q rs c (resW wd none))
  | d4 {q rt : Addr} {rs : List Int} {c : Int} {x2 x3 : V} : RkAt H q rt rs c → 1 ≤ rs.length → rs.length ≤ 5 → Door K H 4 (.ref q) x2 x3 (resRk q rs c none)
  | d5 {t : Addr} {xs : List Int} {wd : Int} {x3 : V} {r : Option (Nat × V)} : SqT K H t (xs.map V.int) → xs.length ≤ 60 → wd ≤ 1000 → ((∀ x ∈ xs, Word wd x) → r = none) → (∀ i, BadAt wd xs i → r = some (1, .int (i : Nat))) → Door K H 5 (.int wd) (.ref t) x3 (resW wd r)
  | d6 {n : Int} {x2 x3 : V} : Door K H 6 (.int n) x2 x3 (resN n none)
  | d7 {n j : Int} {x3 : V} : Door K H 7 (.int n) (.int j) x3 (resN n (if 0 ≤ j ∧ j < ((allRk n.toNat).length : Int) then none else some (11, .int j)))
def dOf (rs : List Int) (c : Int) : V → PyData
  | .int z => .int z
  | _ => rkD rs c
def toldD (rs : List Int) (c : Int) : Option (Nat × V) → PyData
  | none => .list [.str "none", .none]
  | some (j, v) => .list [.str (kindName j), dOf rs c v]
def Fit (q : Addr) : Option (Nat × V) → Prop
  | none => True
  | some (_, v) => v = .ref q ∨ ∃ z, v = .int z
theorem told_dp {K : PySem.W.Frag} {H : Hp} {d q rt : Addr} {rs : List Int} {c : Int} {r : Option (Nat × V)} (h : H d = some (.lst (toldL r))) (hr : RkAt H q rt rs c) (f : Fit q r) : Dp K H (.ref d) (toldD rs c r) := by
  match r, h, f with
  | none, h, _ => exact .lst (SqL.of h) (.cons (.str _) (.cons .non .nil))
  | some (j, v), h, .inl e => subst e; exact .lst (SqL.of h) (.cons (.str _) (.cons hr.dp .nil))
  | some (j, v), h, .inr ⟨z, e⟩ => subst e; exact .lst (SqL.of h) (.cons (.str _) (.cons (.int z) .nil))
theorem kind_lay (j : Nat) : (PyData.str (kindName j)).canLay0 = true := by
  by_cases h : j < 15
  · exact (show ∀ j ∈ List.range 15, (PyData.str (kindName j)).canLay0 = true by decide +kernel) j (List.mem_range.mpr h)
  · have e : kindName j = "odd" := by
      unfold kindName
      rw [List.getD_eq_getElem?_getD, List.getElem?_eq_none (by show 15 ≤ j; omega)]
      rfl
    rw [e]
    decide +kernel
theorem told_lay {q : Addr} {rs : List Int} {c : Int} {r : Option (Nat × V)} (f : Fit q r) : (toldD rs c r).canLay0 = true ∧ (toldD rs c r).depth ≤ 3 := by
  obtain ⟨l1, l2⟩ := rkD_lay (rs, c)
  match r, f with
  | none, _ => exact ⟨(by show PyData.canLay0 (.list [.str "none", .none]) = true; decide +kernel), (by show PyData.depth (.list [.str "none", .none]) ≤ 3; decide +kernel)⟩
  | some (j, v), .inl e =>
    subst e
    refine ⟨?_, ?_⟩
    · show (PyData.canLay0 (.str (kindName j)) && ((rkD rs c).canLay0 && true)) = true
      rw [show (rkD rs c).canLay0 = true from l1, kind_lay]
      rfl
    · show max 0 (max (rkD rs c).depth 0) + 1 ≤ 3
      rw [show (rkD rs c).depth = 2 from l2]
      decide
  | some (j, v), .inr ⟨z, e⟩ =>
    subst e
    refine ⟨?_, (by show max 0 (max 0 0) + 1 ≤ 3; decide)⟩
    show (PyData.canLay0 (.str (kindName j)) && (true && true)) = true
    rw [kind_lay]
    rfl
theorem told_all {q : Addr} {rs : List Int} {c : Int} : ∀ {l : List (Option (Nat × V))}, (∀ r ∈ l, Fit q r) → PyData.canLayAll0 (l.map (toldD rs c)) = true ∧ PyData.depthAll (l.map (toldD rs c)) ≤ 3
  | [], _ => ⟨rfl, Nat.zero_le _⟩
  | r :: l, h => by
    obtain ⟨a, b⟩ := told_lay (rs := rs) (c := c) (h r List.mem_cons_self)
    obtain ⟨x, y⟩ := told_all (rs := rs) (c := c) fun s m => h s (List.mem_cons_of_mem r m)
    refine ⟨?_, ?_⟩
    · show ((toldD rs c r).canLay0 && PyData.canLayAll0 (l.map (toldD rs c))) = true
      rw [a, x]
      rfl
    · show max (toldD rs c r).depth (PyData.depthAll (l.map (toldD rs c))) ≤ 3
      omega
theorem told_sh {q : Addr} {rs : List Int} {c : Int} {l : List (Option (Nat × V))} (h : ∀ r ∈ l, Fit q r) : SeqAt.shaped (.list (l.map (toldD rs c))) = true := by
  obtain ⟨a, b⟩ := told_all (rs := rs) (c := c) h
  unfold SeqAt.shaped
  show (PyData.canLayAll0 (l.map (toldD rs c)) && decide (PyData.depthAll (l.map (toldD rs c)) + 1 ≤ 64)) = true
  rw [a, decide_eq_true (by omega)]
  rfl
theorem toldAll_dp {K : PySem.W.Frag} {H : Hp} {q rt : Addr} {rs : List Int} {c : Int} (hr : RkAt H q rt rs c) : ∀ {l : List (Option (Nat × V))} {ds : List Addr}, Paired (fun d r => H d = some (.lst (toldL r)) ∧ Fit q r) ds l → DpAll K H (ds.map V.ref) (l.map (toldD rs c))
  | _, _, .nil => .nil
  | _, _, .cons h t => .cons (told_dp h.1 hr h.2) (toldAll_dp hr t)
def notPool : HO → Bool
  | .lst [.int _, .int _, .int _] => false
  | _ => true
theorem But.keep {H H' : Hp} {p x : Addr} {n : Nat} {o : HO} (b : But p H H') (pl : Pool H p n) (e : H x = some o) (ne : notPool o = true) : H' x = some o := by
  refine b x o (fun z => ?_) e
  obtain ⟨g, bb, c, ep, _⟩ := pl
  rw [z, ep] at e
  rw [← Option.some.inj e] at ne
  exact Bool.noConfusion ne
theorem RkAt.but {H H' : Hp} {p q rt : Addr} {n : Nat} {rs : List Int} {c : Int} (h : RkAt H q rt rs c) (b : But p H H') (pl : Pool H p n) : RkAt H' q rt rs c := ⟨b.keep pl h.1 rfl, b.keep pl h.2 rfl⟩
theorem refs_np (bs : List Addr) : notPool (.lst (bs.map V.ref)) = true := by cases bs <;> rfl
def Nums (H : Hp) (bs : List Addr) (zs : List Int) : Prop := Paired (fun b z => H b = some (.lst [.str "number", .int z])) bs zs
theorem Nums.same {H H' : Hp} {bs : List Addr} {zs : List Int} (h : Nums H bs zs) (s : Same H H') : Nums H' bs zs := pr_mono h fun a r e => s _ _ e
theorem Nums.but {H H' : Hp} {p : Addr} {n : Nat} {bs : List Addr} {zs : List Int} (h : Nums H bs zs) (b : But p H H') (pl : Pool H p n) : Nums H' bs zs := pr_mono h fun a r e => b.keep pl e rfl
theorem atI0 {x : V} {l : List V} : atI (x :: l) 0 = some x := by
  unfold atI ixN
  simp
/-- the first of some lists -/
theorem due_bad {H : Hp} {q : Addr} {rs : List Int} {c i j : Int} {e0 f0 : Addr} {bs : List Addr} (h1 : H e0 = some (.lst [.str "ranking", .ref q])) (h2 : H f0 = some (.lst [.str "none", .non])) (h3 : Nums H bs ([i, j].filter fun z => !inR rs z)) :
    ∃ d, atI ((if (!okR rs c) = true then [V.ref e0] else []) ++ bs.map V.ref ++ [V.ref f0]) 0 = some (.ref d) ∧ H d = some (.lst (toldL (resRk q rs c (resP rs i j)))) := by
  unfold resRk resP
  cases o : okR rs c with
  | false => exact ⟨e0, atI0, h1⟩
  | true =>
    cases yi : inR rs i with
    | false =>
      simp only [List.filter, yi, Bool.not_false] at h3
      cases h3 with
      | cons a b => exact ⟨_, atI0, a⟩
    | true =>
      cases yj : inR rs j with
      | false =>
        simp only [List.filter, yi, yj, Bool.not_false, Bool.not_true] at h3
        cases h3 with
        | cons a b => exact ⟨_, atI0, a⟩
      | true =>
        simp only [List.filter, yi, yj, Bool.not_true] at h3
        cases h3
        exact ⟨f0, atI0, h2⟩
theorem due_one {H : Hp} {q : Addr} {rs : List Int} {c : Int} {e0 f0 : Addr} (h1 : H e0 = some (.lst [.str "ranking", .ref q])) (h2 : H f0 = some (.lst [.str "none", .non])) :
    ∃ d, atI ((if (!okR rs c) = true then [V.ref e0] else []) ++ [V.ref f0]) 0 = some (.ref d) ∧ H d = some (.lst (toldL (resRk q rs c none))) := by
  unfold resRk
  cases o : okR rs c with
  | false => exact ⟨e0, atI0, h1⟩
  | true => exact ⟨f0, atI0, h2⟩
theorem due_late {H : Hp} {q : Addr} {rs : List Int} {c wd : Int} {e0 f0 g0 : Addr} (h1 : H e0 = some (.lst [.str "ranking", .ref q])) (h2 : H f0 = some (.lst [.str "none", .non])) (h3 : H g0 = some (.lst [.str "wide", .int wd])) :
    ∃ d, atI ((if (!okR rs c) = true then [V.ref e0] else []) ++ (if decide (wd < 1) = true then [V.ref g0] else []) ++ [V.ref f0]) 0 = some (.ref d) ∧ H d = some (.lst (toldL (resRk q rs c (resW wd none)))) := by
  unfold resRk resW
  cases o : okR rs c with
  | false => exact ⟨e0, atI0, h1⟩
  | true =>
    by_cases l : wd < 1
    · rw [decide_eq_true l, show (if 1 ≤ wd then none else some ((0 : Nat), V.int wd)) = some (0, V.int wd) from if_neg (by omega)]
      exact ⟨g0, atI0, h3⟩
    · rw [decide_eq_false l, show (if 1 ≤ wd then none else some ((0 : Nat), V.int wd)) = none from if_pos (by omega)]
      exact ⟨f0, atI0, h2⟩
theorem Nums.up {H : Hp} {B : Addr} {o : HO} {bs bs' : List Addr} {zs : List Int} (h : Nums H bs zs) (eB : H B = some (.lst (bs'.map V.ref))) : Nums (upd H B o) bs zs := pr_mono h fun a r e => by
  rw [upd_ne (fun z => ?_)]
  · exact e
  · rw [z, eB] at e
    cases bs' with
    | nil => exact nomatch e
    | cons b l =>
      have e2 := HO.lst.inj (Option.some.inj e)
      rw [List.map_cons] at e2
      exact nomatch (List.cons.inj e2).1
theorem cat3 {K : PySem.W.Frag} {σ : L2.St} {H : Hp} {Q : VK} {a b c : Nat} {x y z : Addr} {xs ys zs : List V} {v : V} (ha : σ[a]? = some (some (.ref x))) (hb : σ[b]? = some (some (.ref y))) (hc : σ[c]? = some (some (.ref z))) (hx : H x = some (.lst xs)) (hy : H y = some (.lst ys)) (hz : H z = some (.lst zs))
    (ln : xs.length + ys.length + zs.length ≤ 1000) (hv : atI (xs ++ ys ++ zs) 0 = some v) (k : ∀ H', Same H H' → Q v H') : tOp (rIxL K) (tOp rCat (tOp rCat (tVar a) (tVar b)) (tVar c)) (tC (.int 0)) σ H Q := by
  refine ⟨_, ha, _, hb, x, y, xs, ys, rfl, rfl, hx, hy, Nat.le_of_lt (small1000 (by omega)), fun p hp => ?_⟩
  refine ⟨_, hc, p, z, _, zs, rfl, rfl, upd_same, (sameNew hp) _ _ hz, Nat.le_of_lt (small1000 (by rw [List.length_append]; omega)), fun r hr => ?_⟩
  exact ⟨r, _, 0, v, rfl, rfl, SqL.of upd_same, hv, k _ ((sameNew hp).trans (sameNew hr))⟩
theorem cat2 {K : PySem.W.Frag} {σ : L2.St} {H : Hp} {Q : VK} {a b : Nat} {x y : Addr} {xs ys : List V} {v : V} (ha : σ[a]? = some (some (.ref x))) (hb : σ[b]? = some (some (.ref y))) (hx : H x = some (.lst xs)) (hy : H y = some (.lst ys))
    (ln : xs.length + ys.length ≤ 1000) (hv : atI (xs ++ ys) 0 = some v) (k : ∀ H', Same H H' → Q v H') : tOp (rIxL K) (tOp rCat (tVar a) (tVar b)) (tC (.int 0)) σ H Q := by
  refine ⟨_, ha, _, hb, x, y, xs, ys, rfl, rfl, hx, hy, Nat.le_of_lt (small1000 (by omega)), fun p hp => ?_⟩
  exact ⟨p, _, 0, v, rfl, rfl, SqL.of upd_same, hv, k _ (sameNew hp)⟩
theorem fitP (q : Addr) (rs : List Int) (c i j : Int) : Fit q (resRk q rs c (resP rs i j)) := by
  unfold resRk resP
  split
  · split
    · split
      · trivial
      · exact .inr ⟨_, rfl⟩
    · exact .inr ⟨_, rfl⟩
  · exact .inl rfl
theorem fitN (q : Addr) (rs : List Int) (c : Int) : Fit q (resRk q rs c none) := by
  unfold resRk
  split
  · trivial
  · exact .inl rfl
theorem fitW (q : Addr) (rs : List Int) (c wd : Int) : Fit q (resRk q rs c (resW wd none)) := by
  unfold resRk resW
  split
  · split
    · trivial
    · exact .inr ⟨_, rfl⟩
  · exact .inl rfl
def isW (wd z : Int) : Bool := decide (0 ≤ z) && decide (z < 2 ^ (if wd > 0 then wd else 0).toNat)
theorem isW_iff {wd z : Int} : isW wd z = true ↔ Word wd z := by
  have e : (if wd > 0 then wd else 0).toNat = wd.toNat := by split <;> omega
  unfold isW Word
  rw [e, ← Bool.decide_and, decide_eq_true_eq]
def badIx (wd : Int) (xs : List Int) (t : Nat) : List Nat := (List.range t).filter fun j => !isW wd (xs.getD j 0)
def WNums (H : Hp) (bs : List Addr) (js : List Nat) : Prop := Paired (fun b (j : Nat) => H b = some (.lst [.str "words", .int (j : Int)])) bs js
theorem WNums.same {H H' : Hp} {bs : List Addr} {zs : List Nat} (h : WNums H bs zs) (s : Same H H') : WNums H' bs zs := pr_mono h fun a r e => s _ _ e
theorem WNums.up {H : Hp} {B : Addr} {o : HO} {bs bs' : List Addr} {zs : List Nat} (h : WNums H bs zs) (eB : H B = some (.lst (bs'.map V.ref))) : WNums (upd H B o) bs zs := pr_mono h fun a r e => by
  rw [upd_ne (fun z => ?_)]
  · exact e
  · rw [z, eB] at e
    cases bs' with
    | nil => exact nomatch e
    | cons b l =>
      have e2 := HO.lst.inj (Option.some.inj e)
      rw [List.map_cons] at e2
      exact nomatch (List.cons.inj e2).1
def res5 (wd : Int) (xs : List Int) : Option (Nat × V) := (badIx wd xs xs.length).head?.map fun j => (1, .int (j : Nat))
theorem res5_all {wd : Int} {xs : List Int} (h : ∀ x ∈ xs, Word wd x) : res5 wd xs = none := by
  have e : badIx wd xs xs.length = [] := List.filter_eq_nil_iff.mpr fun j hj => by
    have jl := List.mem_range.mp hj
    have g : xs.getD j 0 = xs[j] := by rw [List.getD_eq_getElem?_getD, List.getElem?_eq_getElem jl]; rfl
    rw [g, isW_iff.mpr (h _ (List.getElem_mem jl))]
    decide
  unfold res5
  rw [e]
  rfl
theorem res5_bad {wd : Int} {xs : List Int} {i : Nat} (h : BadAt wd xs i) : res5 wd xs = some (1, .int (i : Nat)) := by
  obtain ⟨z, hz, nz, pre⟩ := h
  have il := (List.getElem?_eq_some_iff.mp hz).1
  have e : (badIx wd xs xs.length).head? = some i := by
    unfold badIx
    rw [List.head?_filter, List.find?_range_eq_some]
    refine ⟨?_, List.mem_range.mpr il, fun j hj => ?_⟩
    · rw [List.getD_eq_getElem?_getD, hz]
      show (!isW wd z) = true
      cases c : isW wd z with
      | false => rfl
      | true => exact absurd (isW_iff.mp c) nz
    · obtain ⟨y, hy⟩ : ∃ y, xs[j]? = some y := ⟨xs[j]'(by omega), List.getElem?_eq_getElem (by omega)⟩
      rw [List.getD_eq_getElem?_getD, hy]
      show (!!isW wd y) = true
      rw [isW_iff.mpr (pre j y hj hy)]
      rfl
  unfold res5
  rw [e]
  rfl
theorem due_words {H : Hp} {wd : Int} {xs : List Int} {g0 f0 : Addr} {bs : List Addr} (h1 : H g0 = some (.lst [.str "wide", .int wd])) (h2 : H f0 = some (.lst [.str "none", .non])) (h3 : WNums H bs (badIx wd xs xs.length)) :
    ∃ d, atI ((if decide (wd < 1) = true then [V.ref g0] else []) ++ bs.map V.ref ++ [V.ref f0]) 0 = some (.ref d) ∧ H d = some (.lst (toldL (resW wd (res5 wd xs)))) := by
  unfold resW
  by_cases l : wd < 1
  · rw [decide_eq_true l, if_neg (show ¬ 1 ≤ wd by omega)]
    exact ⟨g0, atI0, h1⟩
  · rw [decide_eq_false l, if_pos (show 1 ≤ wd by omega)]
    unfold res5
    generalize badIx wd xs xs.length = js at h3 ⊢
    cases h3 with
    | nil => exact ⟨f0, atI0, h2⟩
    | cons a b => exact ⟨_, atI0, a⟩
def in5 (n : Int) : Bool := decide (1 ≤ n) && decide (n ≤ 5)
theorem in5_iff {n : Int} : in5 n = true ↔ 1 ≤ n ∧ n ≤ 5 := by
  unfold in5
  rw [← Bool.decide_and, decide_eq_true_eq]
theorem due_n1 {H : Hp} {n : Int} {g0 f0 : Addr} (h1 : H g0 = some (.lst [.str "number", .int n])) (h2 : H f0 = some (.lst [.str "none", .non])) :
    ∃ d, atI ((if (!in5 n) = true then [V.ref g0] else []) ++ [V.ref f0]) 0 = some (.ref d) ∧ H d = some (.lst (toldL (resN n none))) := by
  unfold resN
  cases c : in5 n with
  | true =>
    rw [if_pos (in5_iff.mp c)]
    exact ⟨f0, atI0, h2⟩
  | false =>
    rw [if_neg fun q => absurd (in5_iff.mpr q) (by rw [c]; decide)]
    exact ⟨g0, atI0, h1⟩
theorem due_n2 {H : Hp} {n sp sz : Int} {g0 f0 t0 : Addr} (h1 : H g0 = some (.lst [.str "number", .int n])) (h2 : H f0 = some (.lst [.str "none", .non])) (h3 : H t0 = some (.lst [.str "number", .int sp])) (hs : 1 ≤ n ∧ n ≤ 5 → sz = ((allRk n.toNat).length : Int)) :
    ∃ d, atI ((if (!in5 n) = true then [V.ref g0] else []) ++ (if (!(decide (0 ≤ sp) && decide (sp < sz))) = true then [V.ref t0] else []) ++ [V.ref f0]) 0 = some (.ref d) ∧
      H d = some (.lst (toldL (resN n (if 0 ≤ sp ∧ sp < ((allRk n.toNat).length : Int) then none else some (11, .int sp))))) := by
  unfold resN
  cases c : in5 n with
  | false =>
    rw [if_neg fun q => absurd (in5_iff.mpr q) (by rw [c]; decide)]
    exact ⟨g0, atI0, h1⟩
  | true =>
    rw [if_pos (in5_iff.mp c), ← hs (in5_iff.mp c), ← Bool.decide_and]
    by_cases l : 0 ≤ sp ∧ sp < sz
    · rw [if_pos l, decide_eq_true l]
      exact ⟨f0, atI0, h2⟩
    · rw [if_neg l, decide_eq_false l]
      exact ⟨t0, atI0, h3⟩
def FitI : Option (Nat × V) → Prop
  | none => True
  | some (_, v) => ∃ z, v = .int z
theorem told_dpI {K : PySem.W.Frag} {H : Hp} {d : Addr} {r : Option (Nat × V)} (h : H d = some (.lst (toldL r))) (f : FitI r) : Dp K H (.ref d) (toldD [] 0 r) := by
  match r, h, f with
  | none, h, _ => exact .lst (SqL.of h) (.cons (.str _) (.cons .non .nil))
  | some (j, v), h, ⟨z, e⟩ => subst e; exact .lst (SqL.of h) (.cons (.str _) (.cons (.int z) .nil))
theorem fitI_fit {r : Option (Nat × V)} (f : FitI r) : Fit 0 r := by
  match r, f with
  | none, _ => trivial
  | some (j, v), e => exact .inr e
theorem told_sh1 {r : Option (Nat × V)} (f : FitI r) : SeqAt.shaped (toldD [] 0 r) = true := by
  obtain ⟨a, b⟩ := told_lay (rs := []) (c := 0) (fitI_fit f)
  unfold SeqAt.shaped
  rw [a, decide_eq_true (by omega)]
  rfl
theorem fitN1 (n : Int) : FitI (resN n none) := by
  unfold resN
  split
  · trivial
  · exact ⟨_, rfl⟩
theorem fitN2 (n sp : Int) (p : Prop) [Decidable p] : FitI (resN n (if p then none else some (11, .int sp))) := by
  unfold resN
  split
  · split
    · trivial
    · exact ⟨_, rfl⟩
  · exact ⟨_, rfl⟩
theorem fit5 (wd : Int) (xs : List Int) : FitI (resW wd (res5 wd xs)) := by
  unfold resW res5
  split
  · cases (badIx wd xs xs.length).head? with
    | none => trivial
    | some j => exact ⟨_, rfl⟩
  · exact ⟨_, rfl⟩
theorem len5 : ∀ n ∈ ([1, 2, 3, 4, 5] : List Nat), ([2, 8, 44, 308, 2612] : List Nat)[n - 1]? = some (allRk n).length := by decide +kernel
theorem badIx_succ {wd : Int} {xs : List Int} {t : Nat} {z : Int} (hz : xs[t]? = some z) : badIx wd xs (t + 1) = badIx wd xs t ++ (if isW wd z = true then [] else [t]) := by
  unfold badIx
  rw [List.range_succ, List.filter_append]
  congr 1
  cases c : isW wd z <;> simp [List.filter, List.getD_eq_getElem?_getD, hz, c]
theorem lens5 : (allRk 1).length = 2 ∧ (allRk 2).length = 8 ∧ (allRk 3).length = 44 ∧ (allRk 4).length = 308 ∧ (allRk 5).length = 2612 := by decide +kernel
theorem size_at (mn : Int) : ∃ sz : Int, atI [V.int 2, V.int 8, V.int 44, V.int 308, V.int 2612] (if (if mn - 1 > 0 then mn - 1 else 0) < 4 then (if mn - 1 > 0 then mn - 1 else 0) else 4) = some (.int sz) ∧ 0 < sz ∧ sz < 2 ^ 400 ∧ (1 ≤ mn ∧ mn ≤ 5 → sz = ((allRk mn.toNat).length : Int)) := by
  obtain ⟨l1, l2, l3, l4, l5⟩ := lens5
  have h : ∀ (ix : Int), ix = (if (if mn - 1 > 0 then mn - 1 else 0) < 4 then (if mn - 1 > 0 then mn - 1 else 0) else 4) → (ix = 0 ∨ ix = 1 ∨ ix = 2 ∨ ix = 3 ∨ ix = 4) ∧ (1 ≤ mn ∧ mn ≤ 5 → mn.toNat = ix.toNat + 1) := fun ix e => by
    constructor
    · split at e <;> split at e <;> omega
    · intro q
      split at e <;> split at e <;> omega
  generalize (if (if mn - 1 > 0 then mn - 1 else 0) < 4 then (if mn - 1 > 0 then mn - 1 else 0) else 4) = ix at h
  obtain ⟨c, q⟩ := h ix rfl
  rcases c with rfl | rfl | rfl | rfl | rfl
  · exact ⟨_, rfl, by decide, by decide, fun z => by rw [q z]; show (2 : Int) = ((allRk 1).length : Nat); rw [l1]; rfl⟩
  · exact ⟨_, rfl, by decide, by decide, fun z => by rw [q z]; show (8 : Int) = ((allRk 2).length : Nat); rw [l2]; rfl⟩
  · exact ⟨_, rfl, by decide, by decide, fun z => by rw [q z]; show (44 : Int) = ((allRk 3).length : Nat); rw [l3]; rfl⟩
  · exact ⟨_, rfl, by decide, by decide, fun z => by rw [q z]; show (308 : Int) = ((allRk 4).length : Nat); rw [l4]; rfl⟩
  · exact ⟨_, rfl, by decide, by decide, fun z => by rw [q z]; show (2612 : Int) = ((allRk 5).length : Nat); rw [l5]; rfl⟩
theorem all4 : ∀ n ∈ ([1, 2, 3, 4] : List Nat), ∀ p ∈ allRk n, p.1.length = n ∧ ∀ r ∈ p.1, 0 ≤ r ∧ r ≤ 4 := by decide +kernel

theorem errC {w : World} {K : PySem.W.Frag} {mg : Str → Option Value} {A0 : Ad} (T : Txt w K mg A0) {j : Nat} {C : Addr} (h : ([A0.c_InvalidWidth, A0.c_InvalidWords, A0.c_InvalidOutcome, A0.c_InvalidCondition, A0.c_InvalidRanking, A0.c_InvalidKnowledge, A0.c_InvalidProgram, A0.c_InvalidRow, A0.c_InvalidRegister, A0.c_InvalidQuery, A0.c_InvalidTable, A0.c_InvalidNumber, A0.c_UnlikeInputs, A0.c_NothingToUndo, A0.c_Unreadable] : List Addr)[j]? = some C) : ExcC K C ∧ XfC K C ∧ PySem.W.findIn K (.ref C) "value" = some none := by
  have jl : j < 15 := (List.getElem?_eq_some_iff.mp h).1
  match j, jl, h with
  | 0, _, z => cases z; exact ⟨T.er_InvalidWidth.ec, xf_of T.er_InvalidWidth.ec, T.er_InvalidWidth.no⟩
  | 1, _, z => cases z; exact ⟨T.er_InvalidWords.ec, xf_of T.er_InvalidWords.ec, T.er_InvalidWords.no⟩
  | 2, _, z => cases z; exact ⟨T.er_InvalidOutcome.ec, xf_of T.er_InvalidOutcome.ec, T.er_InvalidOutcome.no⟩
  | 3, _, z => cases z; exact ⟨T.er_InvalidCondition.ec, xf_of T.er_InvalidCondition.ec, T.er_InvalidCondition.no⟩
  | 4, _, z => cases z; exact ⟨T.er_InvalidRanking.ec, xf_of T.er_InvalidRanking.ec, T.er_InvalidRanking.no⟩
  | 5, _, z => cases z; exact ⟨T.er_InvalidKnowledge.ec, xf_of T.er_InvalidKnowledge.ec, T.er_InvalidKnowledge.no⟩
  | 6, _, z => cases z; exact ⟨T.er_InvalidProgram.ec, xf_of T.er_InvalidProgram.ec, T.er_InvalidProgram.no⟩
  | 7, _, z => cases z; exact ⟨T.er_InvalidRow.ec, xf_of T.er_InvalidRow.ec, T.er_InvalidRow.no⟩
  | 8, _, z => cases z; exact ⟨T.er_InvalidRegister.ec, xf_of T.er_InvalidRegister.ec, T.er_InvalidRegister.no⟩
  | 9, _, z => cases z; exact ⟨T.er_InvalidQuery.ec, xf_of T.er_InvalidQuery.ec, T.er_InvalidQuery.no⟩
  | 10, _, z => cases z; exact ⟨T.er_InvalidTable.ec, xf_of T.er_InvalidTable.ec, T.er_InvalidTable.no⟩
  | 11, _, z => cases z; exact ⟨T.er_InvalidNumber.ec, xf_of T.er_InvalidNumber.ec, T.er_InvalidNumber.no⟩
  | 12, _, z => cases z; exact ⟨T.er_UnlikeInputs.ec, xf_of T.er_UnlikeInputs.ec, T.er_UnlikeInputs.no⟩
  | 13, _, z => cases z; exact ⟨T.er_NothingToUndo.ec, xf_of T.er_NothingToUndo.ec, T.er_NothingToUndo.no⟩
  | 14, _, z => cases z; exact ⟨T.er_Unreadable.ec, xf_of T.er_Unreadable.ec, T.er_Unreadable.no⟩

section
variable {P : Program} {w : World} {K : PySem.W.Frag} {mg : Str → Option Value} {base : Heap} {A0 : Ad}
theorem scI_InvalidWidth : FnScope ["self", "value"] ["self", "value"] (defScope s_InvalidWidth) := ⟨rfl, rfl, rfl, by decide +kernel, rfl, by decide +kernel, by decide +kernel⟩
theorem bdI_InvalidWidth (T : Txt w K mg A0) : Binds K A0.di_InvalidWidth ["self", "value"] [] := T.FI_InvalidWidth.binds fun _ _ _ _ _ _ us hl => match us, hl with | [_, _], _ => rfl
theorem kbI_InvalidWidth (T : Txt w K mg A0) : ∀ (s : Shared) (u v : Value), BindsTo s A0.di_InvalidWidth ⟨[u], [("value", v)]⟩ (((["self", "value"] : List Str)).zip [u, v]) := fun s u v => by
  obtain ⟨oc, od, kV, doc, pm, an, cdv, ct, osl, e, lk, hcd⟩ := T.FI_InvalidWidth.ex
  rw [e]
  exact .of_eq rfl
theorem okI_InvalidWidth (T : Txt w K mg A0) : FnOk P w K mg base CX0 1 A0.i_InvalidWidth A0.di_InvalidWidth ["self", "value"] (sp_err A0.c_InvalidWidth) := by
  refine T.FI_InvalidWidth.ok scI_InvalidWidth (fun vs H Q E h => ?_) (fun cdv A outer s H vs Q E hr h => ?_)
  · obtain ⟨a, v, rfl, _⟩ := h
    rfl
  · obtain ⟨a, v, rfl, ha, k⟩ := h
    refine ⟨_, pss_one (ps_ost (pv 0) (pv 1)), ?_⟩
    exact ⟨v, rfl, _, rfl, a, A0.c_InvalidWidth, rfl, T.er_InvalidWidth.ox, T.er_InvalidWidth.no, .inl ⟨ha, fun d hd ne => k d hd ne⟩⟩
theorem scI_InvalidWords : FnScope ["self", "value"] ["self", "value"] (defScope s_InvalidWords) := ⟨rfl, rfl, rfl, by decide +kernel, rfl, by decide +kernel, by decide +kernel⟩
theorem bdI_InvalidWords (T : Txt w K mg A0) : Binds K A0.di_InvalidWords ["self", "value"] [] := T.FI_InvalidWords.binds fun _ _ _ _ _ _ us hl => match us, hl with | [_, _], _ => rfl
theorem kbI_InvalidWords (T : Txt w K mg A0) : ∀ (s : Shared) (u v : Value), BindsTo s A0.di_InvalidWords ⟨[u], [("value", v)]⟩ (((["self", "value"] : List Str)).zip [u, v]) := fun s u v => by
  obtain ⟨oc, od, kV, doc, pm, an, cdv, ct, osl, e, lk, hcd⟩ := T.FI_InvalidWords.ex
  rw [e]
  exact .of_eq rfl
theorem okI_InvalidWords (T : Txt w K mg A0) : FnOk P w K mg base CX0 1 A0.i_InvalidWords A0.di_InvalidWords ["self", "value"] (sp_err A0.c_InvalidWords) := by
  refine T.FI_InvalidWords.ok scI_InvalidWords (fun vs H Q E h => ?_) (fun cdv A outer s H vs Q E hr h => ?_)
  · obtain ⟨a, v, rfl, _⟩ := h
    rfl
  · obtain ⟨a, v, rfl, ha, k⟩ := h
    refine ⟨_, pss_one (ps_ost (pv 0) (pv 1)), ?_⟩
    exact ⟨v, rfl, _, rfl, a, A0.c_InvalidWords, rfl, T.er_InvalidWords.ox, T.er_InvalidWords.no, .inl ⟨ha, fun d hd ne => k d hd ne⟩⟩
theorem scI_InvalidOutcome : FnScope ["self", "value"] ["self", "value"] (defScope s_InvalidOutcome) := ⟨rfl, rfl, rfl, by decide +kernel, rfl, by decide +kernel, by decide +kernel⟩
theorem bdI_InvalidOutcome (T : Txt w K mg A0) : Binds K A0.di_InvalidOutcome ["self", "value"] [] := T.FI_InvalidOutcome.binds fun _ _ _ _ _ _ us hl => match us, hl with | [_, _], _ => rfl
theorem kbI_InvalidOutcome (T : Txt w K mg A0) : ∀ (s : Shared) (u v : Value), BindsTo s A0.di_InvalidOutcome ⟨[u], [("value", v)]⟩ (((["self", "value"] : List Str)).zip [u, v]) := fun s u v => by
  obtain ⟨oc, od, kV, doc, pm, an, cdv, ct, osl, e, lk, hcd⟩ := T.FI_InvalidOutcome.ex
  rw [e]
  exact .of_eq rfl
theorem okI_InvalidOutcome (T : Txt w K mg A0) : FnOk P w K mg base CX0 1 A0.i_InvalidOutcome A0.di_InvalidOutcome ["self", "value"] (sp_err A0.c_InvalidOutcome) := by
  refine T.FI_InvalidOutcome.ok scI_InvalidOutcome (fun vs H Q E h => ?_) (fun cdv A outer s H vs Q E hr h => ?_)
  · obtain ⟨a, v, rfl, _⟩ := h
    rfl
  · obtain ⟨a, v, rfl, ha, k⟩ := h
    refine ⟨_, pss_one (ps_ost (pv 0) (pv 1)), ?_⟩
    exact ⟨v, rfl, _, rfl, a, A0.c_InvalidOutcome, rfl, T.er_InvalidOutcome.ox, T.er_InvalidOutcome.no, .inl ⟨ha, fun d hd ne => k d hd ne⟩⟩
theorem scI_InvalidCondition : FnScope ["self", "value"] ["self", "value"] (defScope s_InvalidCondition) := ⟨rfl, rfl, rfl, by decide +kernel, rfl, by decide +kernel, by decide +kernel⟩
theorem bdI_InvalidCondition (T : Txt w K mg A0) : Binds K A0.di_InvalidCondition ["self", "value"] [] := T.FI_InvalidCondition.binds fun _ _ _ _ _ _ us hl => match us, hl with | [_, _], _ => rfl
theorem kbI_InvalidCondition (T : Txt w K mg A0) : ∀ (s : Shared) (u v : Value), BindsTo s A0.di_InvalidCondition ⟨[u], [("value", v)]⟩ (((["self", "value"] : List Str)).zip [u, v]) := fun s u v => by
  obtain ⟨oc, od, kV, doc, pm, an, cdv, ct, osl, e, lk, hcd⟩ := T.FI_InvalidCondition.ex
  rw [e]
  exact .of_eq rfl
theorem okI_InvalidCondition (T : Txt w K mg A0) : FnOk P w K mg base CX0 1 A0.i_InvalidCondition A0.di_InvalidCondition ["self", "value"] (sp_err A0.c_InvalidCondition) := by
  refine T.FI_InvalidCondition.ok scI_InvalidCondition (fun vs H Q E h => ?_) (fun cdv A outer s H vs Q E hr h => ?_)
  · obtain ⟨a, v, rfl, _⟩ := h
    rfl
  · obtain ⟨a, v, rfl, ha, k⟩ := h
    refine ⟨_, pss_one (ps_ost (pv 0) (pv 1)), ?_⟩
    exact ⟨v, rfl, _, rfl, a, A0.c_InvalidCondition, rfl, T.er_InvalidCondition.ox, T.er_InvalidCondition.no, .inl ⟨ha, fun d hd ne => k d hd ne⟩⟩
theorem scI_InvalidRanking : FnScope ["self", "value"] ["self", "value"] (defScope s_InvalidRanking) := ⟨rfl, rfl, rfl, by decide +kernel, rfl, by decide +kernel, by decide +kernel⟩
theorem bdI_InvalidRanking (T : Txt w K mg A0) : Binds K A0.di_InvalidRanking ["self", "value"] [] := T.FI_InvalidRanking.binds fun _ _ _ _ _ _ us hl => match us, hl with | [_, _], _ => rfl
theorem kbI_InvalidRanking (T : Txt w K mg A0) : ∀ (s : Shared) (u v : Value), BindsTo s A0.di_InvalidRanking ⟨[u], [("value", v)]⟩ (((["self", "value"] : List Str)).zip [u, v]) := fun s u v => by
  obtain ⟨oc, od, kV, doc, pm, an, cdv, ct, osl, e, lk, hcd⟩ := T.FI_InvalidRanking.ex
  rw [e]
  exact .of_eq rfl
theorem okI_InvalidRanking (T : Txt w K mg A0) : FnOk P w K mg base CX0 1 A0.i_InvalidRanking A0.di_InvalidRanking ["self", "value"] (sp_err A0.c_InvalidRanking) := by
  refine T.FI_InvalidRanking.ok scI_InvalidRanking (fun vs H Q E h => ?_) (fun cdv A outer s H vs Q E hr h => ?_)
  · obtain ⟨a, v, rfl, _⟩ := h
    rfl
  · obtain ⟨a, v, rfl, ha, k⟩ := h
    refine ⟨_, pss_one (ps_ost (pv 0) (pv 1)), ?_⟩
    exact ⟨v, rfl, _, rfl, a, A0.c_InvalidRanking, rfl, T.er_InvalidRanking.ox, T.er_InvalidRanking.no, .inl ⟨ha, fun d hd ne => k d hd ne⟩⟩
theorem scI_InvalidKnowledge : FnScope ["self", "value"] ["self", "value"] (defScope s_InvalidKnowledge) := ⟨rfl, rfl, rfl, by decide +kernel, rfl, by decide +kernel, by decide +kernel⟩
theorem bdI_InvalidKnowledge (T : Txt w K mg A0) : Binds K A0.di_InvalidKnowledge ["self", "value"] [] := T.FI_InvalidKnowledge.binds fun _ _ _ _ _ _ us hl => match us, hl with | [_, _], _ => rfl
theorem kbI_InvalidKnowledge (T : Txt w K mg A0) : ∀ (s : Shared) (u v : Value), BindsTo s A0.di_InvalidKnowledge ⟨[u], [("value", v)]⟩ (((["self", "value"] : List Str)).zip [u, v]) := fun s u v => by
  obtain ⟨oc, od, kV, doc, pm, an, cdv, ct, osl, e, lk, hcd⟩ := T.FI_InvalidKnowledge.ex
  rw [e]
  exact .of_eq rfl
theorem okI_InvalidKnowledge (T : Txt w K mg A0) : FnOk P w K mg base CX0 1 A0.i_InvalidKnowledge A0.di_InvalidKnowledge ["self", "value"] (sp_err A0.c_InvalidKnowledge) := by
  refine T.FI_InvalidKnowledge.ok scI_InvalidKnowledge (fun vs H Q E h => ?_) (fun cdv A outer s H vs Q E hr h => ?_)
  · obtain ⟨a, v, rfl, _⟩ := h
    rfl
  · obtain ⟨a, v, rfl, ha, k⟩ := h
    refine ⟨_, pss_one (ps_ost (pv 0) (pv 1)), ?_⟩
    exact ⟨v, rfl, _, rfl, a, A0.c_InvalidKnowledge, rfl, T.er_InvalidKnowledge.ox, T.er_InvalidKnowledge.no, .inl ⟨ha, fun d hd ne => k d hd ne⟩⟩
theorem scI_InvalidProgram : FnScope ["self", "value"] ["self", "value"] (defScope s_InvalidProgram) := ⟨rfl, rfl, rfl, by decide +kernel, rfl, by decide +kernel, by decide +kernel⟩
theorem bdI_InvalidProgram (T : Txt w K mg A0) : Binds K A0.di_InvalidProgram ["self", "value"] [] := T.FI_InvalidProgram.binds fun _ _ _ _ _ _ us hl => match us, hl with | [_, _], _ => rfl
theorem kbI_InvalidProgram (T : Txt w K mg A0) : ∀ (s : Shared) (u v : Value), BindsTo s A0.di_InvalidProgram ⟨[u], [("value", v)]⟩ (((["self", "value"] : List Str)).zip [u, v]) := fun s u v => by
  obtain ⟨oc, od, kV, doc, pm, an, cdv, ct, osl, e, lk, hcd⟩ := T.FI_InvalidProgram.ex
  rw [e]
  exact .of_eq rfl
theorem okI_InvalidProgram (T : Txt w K mg A0) : FnOk P w K mg base CX0 1 A0.i_InvalidProgram A0.di_InvalidProgram ["self", "value"] (sp_err A0.c_InvalidProgram) := by
  refine T.FI_InvalidProgram.ok scI_InvalidProgram (fun vs H Q E h => ?_) (fun cdv A outer s H vs Q E hr h => ?_)
  · obtain ⟨a, v, rfl, _⟩ := h
    rfl
  · obtain ⟨a, v, rfl, ha, k⟩ := h
    refine ⟨_, pss_one (ps_ost (pv 0) (pv 1)), ?_⟩
    exact ⟨v, rfl, _, rfl, a, A0.c_InvalidProgram, rfl, T.er_InvalidProgram.ox, T.er_InvalidProgram.no, .inl ⟨ha, fun d hd ne => k d hd ne⟩⟩
theorem scI_InvalidRow : FnScope ["self", "value"] ["self", "value"] (defScope s_InvalidRow) := ⟨rfl, rfl, rfl, by decide +kernel, rfl, by decide +kernel, by decide +kernel⟩
theorem bdI_InvalidRow (T : Txt w K mg A0) : Binds K A0.di_InvalidRow ["self", "value"] [] := T.FI_InvalidRow.binds fun _ _ _ _ _ _ us hl => match us, hl with | [_, _], _ => rfl
theorem kbI_InvalidRow (T : Txt w K mg A0) : ∀ (s : Shared) (u v : Value), BindsTo s A0.di_InvalidRow ⟨[u], [("value", v)]⟩ (((["self", "value"] : List Str)).zip [u, v]) := fun s u v => by
  obtain ⟨oc, od, kV, doc, pm, an, cdv, ct, osl, e, lk, hcd⟩ := T.FI_InvalidRow.ex
  rw [e]
  exact .of_eq rfl
theorem okI_InvalidRow (T : Txt w K mg A0) : FnOk P w K mg base CX0 1 A0.i_InvalidRow A0.di_InvalidRow ["self", "value"] (sp_err A0.c_InvalidRow) := by
  refine T.FI_InvalidRow.ok scI_InvalidRow (fun vs H Q E h => ?_) (fun cdv A outer s H vs Q E hr h => ?_)
  · obtain ⟨a, v, rfl, _⟩ := h
    rfl
  · obtain ⟨a, v, rfl, ha, k⟩ := h
    refine ⟨_, pss_one (ps_ost (pv 0) (pv 1)), ?_⟩
    exact ⟨v, rfl, _, rfl, a, A0.c_InvalidRow, rfl, T.er_InvalidRow.ox, T.er_InvalidRow.no, .inl ⟨ha, fun d hd ne => k d hd ne⟩⟩
theorem scI_InvalidRegister : FnScope ["self", "value"] ["self", "value"] (defScope s_InvalidRegister) := ⟨rfl, rfl, rfl, by decide +kernel, rfl, by decide +kernel, by decide +kernel⟩
theorem bdI_InvalidRegister (T : Txt w K mg A0) : Binds K A0.di_InvalidRegister ["self", "value"] [] := T.FI_InvalidRegister.binds fun _ _ _ _ _ _ us hl => match us, hl with | [_, _], _ => rfl
theorem kbI_InvalidRegister (T : Txt w K mg A0) : ∀ (s : Shared) (u v : Value), BindsTo s A0.di_InvalidRegister ⟨[u], [("value", v)]⟩ (((["self", "value"] : List Str)).zip [u, v]) := fun s u v => by
  obtain ⟨oc, od, kV, doc, pm, an, cdv, ct, osl, e, lk, hcd⟩ := T.FI_InvalidRegister.ex
  rw [e]
  exact .of_eq rfl
theorem okI_InvalidRegister (T : Txt w K mg A0) : FnOk P w K mg base CX0 1 A0.i_InvalidRegister A0.di_InvalidRegister ["self", "value"] (sp_err A0.c_InvalidRegister) := by
  refine T.FI_InvalidRegister.ok scI_InvalidRegister (fun vs H Q E h => ?_) (fun cdv A outer s H vs Q E hr h => ?_)
  · obtain ⟨a, v, rfl, _⟩ := h
    rfl
  · obtain ⟨a, v, rfl, ha, k⟩ := h
    refine ⟨_, pss_one (ps_ost (pv 0) (pv 1)), ?_⟩
    exact ⟨v, rfl, _, rfl, a, A0.c_InvalidRegister, rfl, T.er_InvalidRegister.ox, T.er_InvalidRegister.no, .inl ⟨ha, fun d hd ne => k d hd ne⟩⟩
theorem scI_InvalidQuery : FnScope ["self", "value"] ["self", "value"] (defScope s_InvalidQuery) := ⟨rfl, rfl, rfl, by decide +kernel, rfl, by decide +kernel, by decide +kernel⟩
theorem bdI_InvalidQuery (T : Txt w K mg A0) : Binds K A0.di_InvalidQuery ["self", "value"] [] := T.FI_InvalidQuery.binds fun _ _ _ _ _ _ us hl => match us, hl with | [_, _], _ => rfl
theorem kbI_InvalidQuery (T : Txt w K mg A0) : ∀ (s : Shared) (u v : Value), BindsTo s A0.di_InvalidQuery ⟨[u], [("value", v)]⟩ (((["self", "value"] : List Str)).zip [u, v]) := fun s u v => by
  obtain ⟨oc, od, kV, doc, pm, an, cdv, ct, osl, e, lk, hcd⟩ := T.FI_InvalidQuery.ex
  rw [e]
  exact .of_eq rfl
theorem okI_InvalidQuery (T : Txt w K mg A0) : FnOk P w K mg base CX0 1 A0.i_InvalidQuery A0.di_InvalidQuery ["self", "value"] (sp_err A0.c_InvalidQuery) := by
  refine T.FI_InvalidQuery.ok scI_InvalidQuery (fun vs H Q E h => ?_) (fun cdv A outer s H vs Q E hr h => ?_)
  · obtain ⟨a, v, rfl, _⟩ := h
    rfl
  · obtain ⟨a, v, rfl, ha, k⟩ := h
    refine ⟨_, pss_one (ps_ost (pv 0) (pv 1)), ?_⟩
    exact ⟨v, rfl, _, rfl, a, A0.c_InvalidQuery, rfl, T.er_InvalidQuery.ox, T.er_InvalidQuery.no, .inl ⟨ha, fun d hd ne => k d hd ne⟩⟩
theorem scI_InvalidTable : FnScope ["self", "value"] ["self", "value"] (defScope s_InvalidTable) := ⟨rfl, rfl, rfl, by decide +kernel, rfl, by decide +kernel, by decide +kernel⟩
theorem bdI_InvalidTable (T : Txt w K mg A0) : Binds K A0.di_InvalidTable ["self", "value"] [] := T.FI_InvalidTable.binds fun _ _ _ _ _ _ us hl => match us, hl with | [_, _], _ => rfl
theorem kbI_InvalidTable (T : Txt w K mg A0) : ∀ (s : Shared) (u v : Value), BindsTo s A0.di_InvalidTable ⟨[u], [("value", v)]⟩ (((["self", "value"] : List Str)).zip [u, v]) := fun s u v => by
  obtain ⟨oc, od, kV, doc, pm, an, cdv, ct, osl, e, lk, hcd⟩ := T.FI_InvalidTable.ex
  rw [e]
  exact .of_eq rfl
theorem okI_InvalidTable (T : Txt w K mg A0) : FnOk P w K mg base CX0 1 A0.i_InvalidTable A0.di_InvalidTable ["self", "value"] (sp_err A0.c_InvalidTable) := by
  refine T.FI_InvalidTable.ok scI_InvalidTable (fun vs H Q E h => ?_) (fun cdv A outer s H vs Q E hr h => ?_)
  · obtain ⟨a, v, rfl, _⟩ := h
    rfl
  · obtain ⟨a, v, rfl, ha, k⟩ := h
    refine ⟨_, pss_one (ps_ost (pv 0) (pv 1)), ?_⟩
    exact ⟨v, rfl, _, rfl, a, A0.c_InvalidTable, rfl, T.er_InvalidTable.ox, T.er_InvalidTable.no, .inl ⟨ha, fun d hd ne => k d hd ne⟩⟩
theorem scI_InvalidNumber : FnScope ["self", "value"] ["self", "value"] (defScope s_InvalidNumber) := ⟨rfl, rfl, rfl, by decide +kernel, rfl, by decide +kernel, by decide +kernel⟩
theorem bdI_InvalidNumber (T : Txt w K mg A0) : Binds K A0.di_InvalidNumber ["self", "value"] [] := T.FI_InvalidNumber.binds fun _ _ _ _ _ _ us hl => match us, hl with | [_, _], _ => rfl
theorem kbI_InvalidNumber (T : Txt w K mg A0) : ∀ (s : Shared) (u v : Value), BindsTo s A0.di_InvalidNumber ⟨[u], [("value", v)]⟩ (((["self", "value"] : List Str)).zip [u, v]) := fun s u v => by
  obtain ⟨oc, od, kV, doc, pm, an, cdv, ct, osl, e, lk, hcd⟩ := T.FI_InvalidNumber.ex
  rw [e]
  exact .of_eq rfl
theorem okI_InvalidNumber (T : Txt w K mg A0) : FnOk P w K mg base CX0 1 A0.i_InvalidNumber A0.di_InvalidNumber ["self", "value"] (sp_err A0.c_InvalidNumber) := by
  refine T.FI_InvalidNumber.ok scI_InvalidNumber (fun vs H Q E h => ?_) (fun cdv A outer s H vs Q E hr h => ?_)
  · obtain ⟨a, v, rfl, _⟩ := h
    rfl
  · obtain ⟨a, v, rfl, ha, k⟩ := h
    refine ⟨_, pss_one (ps_ost (pv 0) (pv 1)), ?_⟩
    exact ⟨v, rfl, _, rfl, a, A0.c_InvalidNumber, rfl, T.er_InvalidNumber.ox, T.er_InvalidNumber.no, .inl ⟨ha, fun d hd ne => k d hd ne⟩⟩
theorem scI_UnlikeInputs : FnScope ["self", "value"] ["self", "value"] (defScope s_UnlikeInputs) := ⟨rfl, rfl, rfl, by decide +kernel, rfl, by decide +kernel, by decide +kernel⟩
theorem bdI_UnlikeInputs (T : Txt w K mg A0) : Binds K A0.di_UnlikeInputs ["self", "value"] [] := T.FI_UnlikeInputs.binds fun _ _ _ _ _ _ us hl => match us, hl with | [_, _], _ => rfl
theorem kbI_UnlikeInputs (T : Txt w K mg A0) : ∀ (s : Shared) (u v : Value), BindsTo s A0.di_UnlikeInputs ⟨[u], [("value", v)]⟩ (((["self", "value"] : List Str)).zip [u, v]) := fun s u v => by
  obtain ⟨oc, od, kV, doc, pm, an, cdv, ct, osl, e, lk, hcd⟩ := T.FI_UnlikeInputs.ex
  rw [e]
  exact .of_eq rfl
theorem okI_UnlikeInputs (T : Txt w K mg A0) : FnOk P w K mg base CX0 1 A0.i_UnlikeInputs A0.di_UnlikeInputs ["self", "value"] (sp_err A0.c_UnlikeInputs) := by
  refine T.FI_UnlikeInputs.ok scI_UnlikeInputs (fun vs H Q E h => ?_) (fun cdv A outer s H vs Q E hr h => ?_)
  · obtain ⟨a, v, rfl, _⟩ := h
    rfl
  · obtain ⟨a, v, rfl, ha, k⟩ := h
    refine ⟨_, pss_one (ps_ost (pv 0) (pv 1)), ?_⟩
    exact ⟨v, rfl, _, rfl, a, A0.c_UnlikeInputs, rfl, T.er_UnlikeInputs.ox, T.er_UnlikeInputs.no, .inl ⟨ha, fun d hd ne => k d hd ne⟩⟩
theorem scI_NothingToUndo : FnScope ["self", "value"] ["self", "value"] (defScope s_NothingToUndo) := ⟨rfl, rfl, rfl, by decide +kernel, rfl, by decide +kernel, by decide +kernel⟩
theorem bdI_NothingToUndo (T : Txt w K mg A0) : Binds K A0.di_NothingToUndo ["self", "value"] [] := T.FI_NothingToUndo.binds fun _ _ _ _ _ _ us hl => match us, hl with | [_, _], _ => rfl
theorem kbI_NothingToUndo (T : Txt w K mg A0) : ∀ (s : Shared) (u v : Value), BindsTo s A0.di_NothingToUndo ⟨[u], [("value", v)]⟩ (((["self", "value"] : List Str)).zip [u, v]) := fun s u v => by
  obtain ⟨oc, od, kV, doc, pm, an, cdv, ct, osl, e, lk, hcd⟩ := T.FI_NothingToUndo.ex
  rw [e]
  exact .of_eq rfl
theorem okI_NothingToUndo (T : Txt w K mg A0) : FnOk P w K mg base CX0 1 A0.i_NothingToUndo A0.di_NothingToUndo ["self", "value"] (sp_err A0.c_NothingToUndo) := by
  refine T.FI_NothingToUndo.ok scI_NothingToUndo (fun vs H Q E h => ?_) (fun cdv A outer s H vs Q E hr h => ?_)
  · obtain ⟨a, v, rfl, _⟩ := h
    rfl
  · obtain ⟨a, v, rfl, ha, k⟩ := h
    refine ⟨_, pss_one (ps_ost (pv 0) (pv 1)), ?_⟩
    exact ⟨v, rfl, _, rfl, a, A0.c_NothingToUndo, rfl, T.er_NothingToUndo.ox, T.er_NothingToUndo.no, .inl ⟨ha, fun d hd ne => k d hd ne⟩⟩
theorem scI_Unreadable : FnScope ["self", "value"] ["self", "value"] (defScope s_Unreadable) := ⟨rfl, rfl, rfl, by decide +kernel, rfl, by decide +kernel, by decide +kernel⟩
theorem bdI_Unreadable (T : Txt w K mg A0) : Binds K A0.di_Unreadable ["self", "value"] [] := T.FI_Unreadable.binds fun _ _ _ _ _ _ us hl => match us, hl with | [_, _], _ => rfl
theorem kbI_Unreadable (T : Txt w K mg A0) : ∀ (s : Shared) (u v : Value), BindsTo s A0.di_Unreadable ⟨[u], [("value", v)]⟩ (((["self", "value"] : List Str)).zip [u, v]) := fun s u v => by
  obtain ⟨oc, od, kV, doc, pm, an, cdv, ct, osl, e, lk, hcd⟩ := T.FI_Unreadable.ex
  rw [e]
  exact .of_eq rfl
theorem okI_Unreadable (T : Txt w K mg A0) : FnOk P w K mg base CX0 1 A0.i_Unreadable A0.di_Unreadable ["self", "value"] (sp_err A0.c_Unreadable) := by
  refine T.FI_Unreadable.ok scI_Unreadable (fun vs H Q E h => ?_) (fun cdv A outer s H vs Q E hr h => ?_)
  · obtain ⟨a, v, rfl, _⟩ := h
    rfl
  · obtain ⟨a, v, rfl, ha, k⟩ := h
    refine ⟨_, pss_one (ps_ost (pv 0) (pv 1)), ?_⟩
    exact ⟨v, rfl, _, rfl, a, A0.c_Unreadable, rfl, T.er_Unreadable.ox, T.er_Unreadable.no, .inl ⟨ha, fun d hd ne => k d hd ne⟩⟩
/-! is_word -/
def sp_is_word (K : PySem.W.Frag) : Sp := fun vs H Q E => ∃ wd x : Int, vs = [.int wd, .int x] ∧ 1 ≤ wd ∧ wd ≤ 1000 ∧ Q (.bl (decide (0 ≤ x) && decide (x < 2 ^ wd.toNat))) H
theorem sc_is_word : FnScope ["width", "word"] ["width", "word"] (defScope s_is_word) := ⟨rfl, rfl, rfl, by decide +kernel, rfl, by decide +kernel, by decide +kernel⟩
theorem bd_is_word (T : Txt w K mg A0) : Binds K A0.d_is_word ["width", "word"] [] := T.F_is_word.binds fun _ _ _ _ _ _ us hl => match us, hl with | [_, _], _ => rfl
theorem ok_is_word (T : Txt w K mg A0) : FnOk P w K mg base CX0 1 A0.a_is_word A0.d_is_word ["width", "word"] (sp_is_word K) := by
  refine T.F_is_word.ok sc_is_word (fun vs H Q E h => ?_) (fun cdv A outer s H vs Q E hr h => ?_)
  · obtain ⟨wd, x, rfl, _⟩ := h
    rfl
  · obtain ⟨wd, x, rfl, h⟩ := h
    refine ⟨_, (pss_one (ps_ret (pe_chain op_le op_lt pe_int (pv 1) (pe_op op_shl pe_int (pv 0))))), ?_⟩
    obtain ⟨h1, h2, k⟩ := h
    refine ⟨_, rfl, _, _, rfl, rfl, _, rfl, ?_⟩
    by_cases c : 0 ≤ x
    · rw [decide_eq_true c, Bool.true_and] at k
      refine tT (decide_eq_true c) ?_
      refine ⟨_, rfl, _, _, rfl, rfl, ⟨by omega, by omega, by decide⟩, _, _, rfl, rfl, ?_⟩
      show Q (.bl (decide (x < 1 * 2 ^ wd.toNat))) H
      rw [Int.one_mul]
      exact k
    · rw [decide_eq_false c, Bool.false_and] at k
      refine tF (decide_eq_false c) ?_
      exact k
/-! sign_bit -/
def sp_sign_bit (K : PySem.W.Frag) : Sp := fun vs H Q E => ∃ wd : Int, vs = [.int wd] ∧ 1 ≤ wd ∧ wd ≤ 1000 ∧ Q (.int (2 ^ (wd - 1).toNat)) H
theorem sc_sign_bit : FnScope ["width"] ["width"] (defScope s_sign_bit) := ⟨rfl, rfl, rfl, by decide +kernel, rfl, by decide +kernel, by decide +kernel⟩
theorem bd_sign_bit (T : Txt w K mg A0) : Binds K A0.d_sign_bit ["width"] [] := T.F_sign_bit.binds fun _ _ _ _ _ _ us hl => match us, hl with | [_], _ => rfl
theorem ok_sign_bit (T : Txt w K mg A0) : FnOk P w K mg base CX0 1 A0.a_sign_bit A0.d_sign_bit ["width"] (sp_sign_bit K) := by
  refine T.F_sign_bit.ok sc_sign_bit (fun vs H Q E h => ?_) (fun cdv A outer s H vs Q E hr h => ?_)
  · obtain ⟨wd, rfl, _⟩ := h
    rfl
  · obtain ⟨wd, rfl, h⟩ := h
    refine ⟨_, (pss_one (ps_ret (pe_op op_shl pe_int (pe_op op_sub (pv 0) pe_int)))), ?_⟩
    obtain ⟨h1, h2, k⟩ := h
    refine ⟨_, rfl, _, _, rfl, rfl, _, _, rfl, rfl, ⟨by omega, by omega, by decide⟩, ?_⟩
    show Q (.int (1 * 2 ^ (wd - 1).toNat)) H
    rw [Int.one_mul]
    exact k
/-! outcome_by_cut -/
def sp_outcome_by_cut (K : PySem.W.Frag) : Sp := fun vs H Q E => ∃ c x y : Int, vs = [.int c, .int x, .int y] ∧ Q (.str (ocut c x y)) H
theorem sc_outcome_by_cut : FnScope ["cut", "first", "second", "mixed"] ["cut", "first", "second"] (defScope s_outcome_by_cut) := ⟨rfl, rfl, rfl, by decide +kernel, rfl, by decide +kernel, by decide +kernel⟩
theorem bd_outcome_by_cut (T : Txt w K mg A0) : Binds K A0.d_outcome_by_cut ["cut", "first", "second"] [] := T.F_outcome_by_cut.binds fun _ _ _ _ _ _ us hl => match us, hl with | [_, _, _], _ => rfl
theorem ok_outcome_by_cut (T : Txt w K mg A0) : FnOk P w K mg base CX0 1 A0.a_outcome_by_cut A0.d_outcome_by_cut ["cut", "first", "second"] (sp_outcome_by_cut K) := by
  refine T.F_outcome_by_cut.ok sc_outcome_by_cut (fun vs H Q E h => ?_) (fun cdv A outer s H vs Q E hr h => ?_)
  · obtain ⟨c, x, y, rfl, _⟩ := h
    rfl
  · obtain ⟨c, x, y, rfl, h⟩ := h
    refine ⟨_, (pss_cons (ps_if (pt_cmpR op_eq (pv 1) (pv 2) (nomark _)) (pss_one (ps_ret pe_str)) pss_nil)
        (pss_cons (ps_set (i := 3) sc_outcome_by_cut.nd rfl (Or.inl rfl) (pe_cmpR op_ne (pe_cmpR op_lt (pv 1) (pv 0) (nomark _)) (pe_cmpR op_lt (pv 2) (pv 0) (nomark _)) (nomark _)))
        (pss_cons (ps_if (pt_cmpR op_lt (pv 1) (pv 2) (nomark _)) (pss_one (ps_ret (pe_ifExp (pt_val (pv 3)) pe_str pe_str))) pss_nil)
        (pss_one (ps_ret (pe_ifExp (pt_val (pv 3)) pe_str pe_str)))))), ?_⟩
    unfold ocut at h
    refine ⟨_, rfl, _, rfl, rfl, _, rfl, ?_⟩
    by_cases e : x = y
    · rw [if_pos e] at h
      exact tT (decide_eq_true (congrArg V.int e)) h
    rw [if_neg e] at h
    refine tF (decide_eq_false (fun z => e (V.int.inj z))) ?_
    refine ⟨_, rfl, _, rfl, _, _, rfl, rfl, _, rfl, _, rfl, _, _, rfl, rfl, rfl, ?_⟩
    rw [mixed_is]
    refine ⟨_, rfl, _, rfl, _, _, rfl, rfl, _, rfl, ?_⟩
    generalize (decide (x < c) != decide (y < c)) = m at h
    by_cases l : x < y
    · rw [if_pos l] at h
      refine tT (decide_eq_true l) ?_
      refine ⟨_, rfl, m, rfl, ?_⟩
      cases m
      · exact tF rfl h
      · exact tT rfl h
    · rw [if_neg l] at h
      refine tF (decide_eq_false l) ?_
      refine ⟨_, rfl, m, rfl, ?_⟩
      cases m
      · exact tF rfl h
      · exact tT rfl h
/-! _is_ranking -/
def sp_is_ranking (K : PySem.W.Frag) : Sp := fun vs H Q E => ∃ (q rt : Addr) (rs : List Int) (c : Int), vs = [.ref q] ∧ RkAt H q rt rs c ∧ rs.length ≤ 60 ∧ ∀ H', Same H H' → Q (.bl (okR rs c)) H'
theorem sc_is_ranking : FnScope ["ranking", "ranks", "cut", "number", "many"] ["ranking"] (defScope s_is_ranking) := ⟨rfl, rfl, rfl, by decide +kernel, rfl, by decide +kernel, by decide +kernel⟩
theorem bd_is_ranking (T : Txt w K mg A0) : Binds K A0.d_is_ranking ["ranking"] [] := T.F_is_ranking.binds fun _ _ _ _ _ _ us hl => match us, hl with | [_], _ => rfl
set_option maxHeartbeats 0 in
theorem ok_is_ranking (T : Txt w K mg A0) : FnOk P w K mg base CX0 1 A0.a_is_ranking A0.d_is_ranking ["ranking"] (sp_is_ranking K) := by
  refine T.F_is_ranking.ok sc_is_ranking (fun vs H Q E h => ?_) (fun cdv A outer s H vs Q E hr h => ?_)
  · obtain ⟨q, rt, rs, c, rfl, _⟩ := h
    rfl
  · obtain ⟨q, rt, rs, c, rfl, h⟩ := h
    refine ⟨_, (pss_cons (ps_if (PW.pt (pw_or (pt_cmpR op_ne (pe_callB call_len_seq (by rfl) T.b_len (by decide +kernel) (pa_cons (pv 0) pa_nil)) pe_int (nomark _)) (pw_or1 (pt_cmpR op_isNotTy (pe_callTy RZ.call_type4 (by rfl) T.b_type (by decide +kernel) (pa_cons (pe_ix ix_tup (pv 0) pe_int (fun _ _ => rfl)) pa_nil)) (pe_bltn (v := .ty "tuple") (by rfl) T.b_tuple (by decide +kernel) rfl) (nomark _))))) (pss_one (ps_ret pe_bl)) pss_nil)
        (pss_cons (ps_asg (pv 0) (pg_tup rfl (pgs_cons (pg_name (i := 1) sc_is_ranking.nd rfl (Or.inl rfl)) (pgs_cons (pg_name (i := 2) sc_is_ranking.nd rfl (Or.inl rfl)) pgs_nil))))
        (pss_cons (ps_if (pt_val (pe_callB (cr_any rfl) (by rfl) T.b_any (by decide +kernel) (pa_cons (pe_lc (own := [("number", 3)]) (g := gName 3) rfl sc_is_ranking.nd (pi_tup (pe_tup (StX.pa_star (pv 1) (pa_cons (pv 2) pa_nil)))) (blkOk_by (own := [("number", 3)]) (N := ["ranking", "ranks", "cut", "number", "many"]) (sc := defScope s_is_ranking) (by decide +kernel)) (fun _ _ _ _ _ => pg_name (i := 3) sc_is_ranking.nd rfl (Or.inl rfl)) (fun _ _ _ _ _ => pts_nil) (fun _ _ _ _ _ => (pe_cmpR op_isNotTy (pe_callTy RZ.call_type4 (by rfl) T.b_type (by decide +kernel) (pa_cons (pv 3) pa_nil)) (pe_bltn (v := .ty "int") (by rfl) T.b_int (by decide +kernel) rfl) (nomark _)))) pa_nil))) (pss_one (ps_ret pe_bl)) pss_nil)
        (pss_cons (ps_set (i := 4) sc_is_ranking.nd rfl (Or.inl rfl) (pe_callB call_len_setO (by rfl) T.b_len (by decide +kernel) (pa_cons (pe_callTy (cr_setOf rfl) (by rfl) T.b_set (by decide +kernel) (pa_cons (pv 1) pa_nil)) pa_nil)))
        (pss_one (ps_ret (pe_and (pe_cmpR (op_eqD hr.units) (pe_callB (cr_sortedSet rfl) (by rfl) T.b_sorted (by decide +kernel) (pa_cons (pe_callTy (cr_setOf rfl) (by rfl) T.b_set (by decide +kernel) (pa_cons (pv 1) pa_nil)) pa_nil)) (pe_listRg rfl (by rfl) T.b_list (prg_1 (by rfl) T.b_range (pv 4))) (nomark _)) (pe_one (pe_chain op_le op_le pe_int (pv 2) (pv 4)))))))))), ?_⟩
    obtain ⟨hr, hz, k⟩ := h
    refine ⟨_, rfl, q, _, rfl, .inr (SqT.of hr.1), rfl, _, rfl, ?_⟩
    refine tF rfl ?_
    refine ⟨_, rfl, q, _, 0, .ref rt, rfl, rfl, SqT.of hr.1, rfl, .ref rt, "tuple", rfl, .tup hr.2, _, _, rfl, rfl, _, rfl, ?_⟩
    refine tF rfl ?_
    refine ⟨_, rfl, q, _, rfl, SqT.of hr.1, rfl, _, _, rfl, _, _, rfl, rfl, ?_⟩
    refine ⟨_, rfl, rt, _, rfl, .inl (SqT.of hr.2), _, rfl, (by rw [List.length_append, List.length_map]; exact Nat.le_of_lt (small1000 (show rs.length + 1 ≤ 1000 by omega))), fun tt htt => ?_⟩
    have et : (upd H tt (.tup (rs.map V.int ++ [.int c]))) tt = some (.tup ((rs ++ [c]).map V.int)) := by
      rw [upd_same, List.map_append]
      rfl
    refine ⟨tt, rfl, ⟨_, SqT.of et⟩, fun D hD => lc_tup (xs := (rs ++ [c]).map V.int) (fun i H' => Same (upd H tt (.tup (rs.map V.int ++ [.int c]))) H' ∧ i ≤ 61 ∧ H' D = some (.lst ((List.replicate i false).map V.bl))) ⟨sameNew hD, by omega, upd_same⟩ (fun i H' _ hp => SqT.of (hp.1 _ _ et)) ?_ ?_⟩
    · rintro i x H1 hi ⟨s1, i1, e1⟩
      obtain ⟨z, hz1, rfl⟩ := map_at hi
      have lt := (List.getElem?_eq_some_iff.mp hz1).1
      rw [List.length_append] at lt
      have lt2 : i < rs.length + 1 := lt
      refine ⟨rfl, ?_⟩
      refine yesR ?_
      refine tT rfl ?_
      refine ⟨_, rfl, .int z, "int", rfl, .int z, _, _, rfl, rfl, _, e1, small1000 (by rw [List.length_map, List.length_replicate]; omega), sameUp s1 hD, by omega, ?_⟩
      rw [upd_same, List.replicate_succ', List.map_append]
      rfl
    rintro H1 ⟨s1, _, e1⟩
    refine ⟨D, _, rfl, SqL.of e1, _, rfl, ?_⟩
    refine tF (by simp) ?_
    have s01 : Same H H1 := (sameNew htt).trans s1
    have hr1 := hr.same s01
    refine ⟨_, rfl, rt, rs, rfl, SqT.of hr1.2, by omega, fun p n ks hp nd mem ln => ⟨p, _, n, rfl, upd_same, ?_⟩⟩
    have en : n = (srt rs).length := by rw [← ln]; exact card_one nd (up_nodup (srt_up rs)) fun k => by rw [mem k, srt_mem]
    have s2 : Same H1 (upd H1 p (SetO w p (fun j => decide (j ∈ rs)) n)) := sameNew hp
    have hr2 := hr1.same s2
    refine ⟨_, rfl, rt, rs, rfl, SqT.of hr2.2, by omega, fun p2 n2 ks2 hp2 nd2 mem2 l2 => ?_⟩
    have n2m : n2 = (srt rs).length := by rw [← l2]; exact card_one nd2 (up_nodup (srt_up rs)) fun k => by rw [mem2 k, srt_mem]
    have nz := srt_len rs
    refine ⟨p2, _, n2, rfl, upd_same, by omega, fun ns p3 up mem3 l3 hp3 => ?_⟩
    obtain rfl : ns = srt rs := up_one up (srt_up rs) fun k => by rw [mem3 k, decide_eq_true_eq, srt_mem]
    have s4 := s2.trans ((sameNew hp2 (o := SetO w p2 (fun j => decide (j ∈ rs)) n2)).trans (sameNew hp3 (o := .lst ((srt rs).map V.int))))
    refine ⟨_, rfl, (n : Int), rfl, RgOk.of_le (by omega) (by omega) (by omega) (by omega), fun p4 hp4 => ?_⟩
    rw [rgV_rg]
    refine ⟨.list ((srt rs).map PyData.int), .list ((rg n).map PyData.int), .lst (SqL.of ((sameNew hp4) _ _ upd_same)) (ints_all _), .lst (SqL.of upd_same) (ints_all _), ints_shaped _, ints_shaped _, _, rfl, ?_⟩
    have kk := k _ (s01.trans (s4.trans (sameNew hp4 (o := .lst ((rg n).map V.int)))))
    have eq : PyData.eqv (.list ((srt rs).map PyData.int)) (.list ((rg n).map PyData.int)) = decide (srt rs = rg n) := ints_eqvA _ _
    rw [eq]
    unfold okR at kk
    rw [← en] at kk
    by_cases d1 : srt rs = rg n
    · refine tT (decide_eq_true d1) ?_
      rw [decide_eq_true d1, Bool.true_and] at kk
      refine ⟨_, rfl, _, _, rfl, rfl, _, rfl, ?_⟩
      by_cases d2 : 0 ≤ c
      · refine tT (decide_eq_true d2) ?_
        rw [decide_eq_true d2, Bool.true_and] at kk
        exact ⟨_, rfl, _, _, rfl, rfl, kk⟩
      · refine tF (decide_eq_false d2) ?_
        rw [decide_eq_false d2, Bool.false_and] at kk
        exact kk
    · refine tF (decide_eq_false d1) ?_
      rw [decide_eq_false d1, Bool.false_and] at kk
      exact kk
/-! _ranks_by_sign -/
def sp_ranks_by_sign (K : PySem.W.Frag) : Sp := fun vs H Q E => ∃ (q rt : Addr) (rs : List Int) (c : Int) (m : Nat), vs = [.ref q] ∧ RkAt H q rt rs c ∧ IsRk rs m ∧ rs.length ≤ 60 ∧ ∀ p H', Same H H' → H' p = some (.tup [.int c, .int ((m : Int) - c)]) → Q (.ref p) H'
theorem sc_ranks_by_sign : FnScope ["ranking", "ranks", "cut"] ["ranking"] (defScope s_ranks_by_sign) := ⟨rfl, rfl, rfl, by decide +kernel, rfl, by decide +kernel, by decide +kernel⟩
theorem bd_ranks_by_sign (T : Txt w K mg A0) : Binds K A0.d_ranks_by_sign ["ranking"] [] := T.F_ranks_by_sign.binds fun _ _ _ _ _ _ us hl => match us, hl with | [_], _ => rfl
theorem ok_ranks_by_sign (T : Txt w K mg A0) : FnOk P w K mg base CX0 1 A0.a_ranks_by_sign A0.d_ranks_by_sign ["ranking"] (sp_ranks_by_sign K) := by
  refine T.F_ranks_by_sign.ok sc_ranks_by_sign (fun vs H Q E h => ?_) (fun cdv A outer s H vs Q E hr h => ?_)
  · obtain ⟨q, rt, rs, c, m, rfl, _⟩ := h
    rfl
  · obtain ⟨q, rt, rs, c, m, rfl, h⟩ := h
    refine ⟨_, (pss_cons (ps_asg (pv 0) (pg_tup rfl (pgs_cons (pg_name (i := 1) sc_ranks_by_sign.nd rfl (Or.inl rfl)) (pgs_cons (pg_name (i := 2) sc_ranks_by_sign.nd rfl (Or.inl rfl)) pgs_nil))))
        (pss_one (ps_ret (pe_tup (pa_cons (pv 2) (pa_cons (pe_op op_sub (pe_callB call_len_setO (by rfl) T.b_len (by decide +kernel) (pa_cons (pe_callTy (cr_setOf rfl) (by rfl) T.b_set (by decide +kernel) (pa_cons (pv 1) pa_nil)) pa_nil)) (pv 2)) pa_nil)))))), ?_⟩
    obtain ⟨hr, is, hz, k⟩ := h
    refine ⟨_, rfl, q, _, rfl, SqT.of hr.1, rfl, _, _, rfl, _, _, rfl, rfl, ?_⟩
    refine ⟨_, rfl, _, rfl, rt, rs, rfl, SqT.of hr.2, by omega, fun p n ks hp nd mem ln => ⟨p, _, n, rfl, upd_same, ?_⟩⟩
    obtain rfl : n = m := by rw [← ln, isRk_card is nd mem]
    refine ⟨_, rfl, _, _, rfl, rfl, (by show 2 ≤ sizeLine; decide), fun r hr9 => ?_⟩
    exact k r _ ((sameNew hp).trans (sameNew hr9)) upd_same
/-! _gaps -/
def sp_gaps (K : PySem.W.Frag) : Sp := fun vs H Q E => ∃ (a : Addr) (r : List Int), vs = [.ref a] ∧ SqT K H a (r.map V.int) ∧ r ≠ [] ∧ r.length ≤ 60 ∧ ∀ H', Same H H' → Q (.int (gapsI r)) H'
theorem sc_gaps : FnScope ["ranks"] ["ranks"] (defScope s_gaps) := ⟨rfl, rfl, rfl, by decide +kernel, rfl, by decide +kernel, by decide +kernel⟩
theorem bd_gaps (T : Txt w K mg A0) : Binds K A0.d_gaps ["ranks"] [] := T.F_gaps.binds fun _ _ _ _ _ _ us hl => match us, hl with | [_], _ => rfl
theorem ok_gaps (T : Txt w K mg A0) : FnOk P w K mg base CX0 1 A0.a_gaps A0.d_gaps ["ranks"] (sp_gaps K) := by
  refine T.F_gaps.ok sc_gaps (fun vs H Q E h => ?_) (fun cdv A outer s H vs Q E hr h => ?_)
  · obtain ⟨a, r, rfl, _⟩ := h
    rfl
  · obtain ⟨a, r, rfl, h⟩ := h
    refine ⟨_, (pss_one (ps_ret (pe_op op_sub (pe_op op_add (pe_callB (cr_maxT rfl hr.units) (by rfl) T.b_max (by decide +kernel) (pa_cons (pv 0) pa_nil)) pe_int) (pe_callB call_len_setO (by rfl) T.b_len (by decide +kernel) (pa_cons (pe_callTy (cr_setOf rfl) (by rfl) T.b_set (by decide +kernel) (pa_cons (pv 0) pa_nil)) pa_nil))))), ?_⟩
    obtain ⟨ha, hne, hz, k⟩ := h
    refine ⟨_, rfl, a, r, rfl, ha, hne, _, _, rfl, rfl, _, rfl, a, r, rfl, ha, by omega, fun p n ks hp nd mem ln => ⟨p, _, n, rfl, upd_same, _, _, rfl, rfl, ?_⟩⟩
    have e : n = (srt r).length := by rw [← ln]; exact card_one nd (up_nodup (srt_up r)) fun k => by rw [mem k, srt_mem]
    rw [e]
    exact k _ (sameNew hp)
/-! _law_pool -/
def sp_law_pool (K : PySem.W.Frag) : Sp := fun vs H Q E => ∃ (a : Addr) (ns : List Int) (i : Int), vs = [.ref a, .int i] ∧ SqL K H a (ns.map V.int) ∧ 0 ≤ i ∧ i ≤ 1000 ∧ ns.length ≤ 63 ∧ ∀ p H', H p = none → Same H H' → Pool H' p 0 → Q (.ref p) H'
theorem sc_law_pool : FnScope ["script", "at", "cell"] ["script", "at"] (defScope s_law_pool) := ⟨rfl, rfl, rfl, by decide +kernel, rfl, by decide +kernel, by decide +kernel⟩
theorem bd_law_pool (T : Txt w K mg A0) : Binds K A0.d_law_pool ["script", "at"] [] := T.F_law_pool.binds fun _ _ _ _ _ _ us hl => match us, hl with | [_, _], _ => rfl
theorem ok_law_pool (T : Txt w K mg A0) : FnOk P w K mg base CX0 1 A0.a_law_pool A0.d_law_pool ["script", "at"] (sp_law_pool K) := by
  refine T.F_law_pool.ok sc_law_pool (fun vs H Q E h => ?_) (fun cdv A outer s H vs Q E hr h => ?_)
  · obtain ⟨a, ns, i, rfl, _⟩ := h
    rfl
  · obtain ⟨a, ns, i, rfl, h⟩ := h
    refine ⟨_, (pss_cons (ps_set (i := 2) sc_law_pool.nd rfl (Or.inl rfl) pe_int)
        (pss_cons (ps_if (pt_cmpR op_lt (pv 1) (pe_callB call_len_seq (by rfl) T.b_len (by decide +kernel) (pa_cons (pv 0) pa_nil)) (nomark _)) (pss_one (ps_set (i := 2) sc_law_pool.nd rfl (Or.inl rfl) (pe_ix ix_list (pv 0) (pv 1) (fun _ _ => rfl)))) pss_nil)
        (pss_one (ps_ret (pe_lst (pa_cons (pe_callB (call_max2 rfl) (by rfl) T.b_max (by decide +kernel) (pa_cons pe_int (pa_cons (pe_op op_sub (pe_callB call_abs (by rfl) T.b_abs (by decide +kernel) (pa_cons (pv 2) pa_nil)) (pe_op op_pow pe_int pe_int)) pa_nil))) (pa_cons (pe_op op_add (pe_op op_mod (pv 2) pe_int) (pe_op op_mul pe_int (pe_op op_add (pv 1) pe_int))) (pa_cons pe_int pa_nil)))))))), ?_⟩
    obtain ⟨hS, h0, h1, hl, k⟩ := h
    have fin : ∀ c : Int, ∀ p, H p = none → Q (.ref p) (upd H p (.lst [.int (if (if c < 0 then -c else c) - 10 ^ (18 : Int).toNat > 0 then (if c < 0 then -c else c) - 10 ^ (18 : Int).toNat else 0), .int (c % 2305843009213693951 + 3276509057 * (i + 1)), .int 0])) := fun c p hp => by
      refine k p _ hp (sameNew hp) ⟨_, _, _, upd_same, ?_, ?_, ?_, by decide, by decide⟩
      · generalize (if c < 0 then -c else c) - 10 ^ (18 : Int).toNat = z
        split <;> omega
      · have := Int.emod_nonneg c (show (2305843009213693951 : Int) ≠ 0 by decide)
        omega
      · have := Int.emod_lt_of_pos c (show (0 : Int) < 2305843009213693951 by decide)
        omega
    refine ⟨_, rfl, _, rfl, a, _, rfl, .inl hS, _, _, rfl, rfl, _, rfl, ?_⟩
    rw [List.length_map]
    by_cases c : i < (ns.length : Int)
    · obtain ⟨z, hz⟩ : ∃ z, ns[i.toNat]? = some z := ⟨ns[i.toNat]'(by omega), List.getElem?_eq_getElem (by omega)⟩
      refine tT (decide_eq_true c) ?_
      refine ⟨_, rfl, _, rfl, a, _, i, .int z, rfl, rfl, hS, ?_, ?_⟩
      · refine at_of (j := i.toNat) (by omega) ?_
        rw [List.getElem?_map, hz]
        rfl
      refine ⟨_, rfl, _, rfl, _, _, rfl, rfl, ⟨by decide, by decide, by decide⟩, _, _, rfl, rfl, _, _, rfl, ?_⟩
      refine ⟨_, rfl, _, _, rfl, rfl, (by show (0 : Int) < 2305843009213693951; decide), _, rfl, _, _, rfl, rfl, _, _, rfl, rfl, .inl ⟨by decide, by decide⟩, _, _, rfl, rfl, ?_⟩
      exact ⟨(by show 3 ≤ sizeLine; decide), fin z⟩
    · refine tF (decide_eq_false c) ?_
      refine ⟨_, rfl, _, rfl, _, _, rfl, rfl, ⟨by decide, by decide, by decide⟩, _, _, rfl, rfl, _, _, rfl, ?_⟩
      refine ⟨_, rfl, _, _, rfl, rfl, (by show (0 : Int) < 2305843009213693951; decide), _, rfl, _, _, rfl, rfl, _, _, rfl, rfl, .inl ⟨by decide, by decide⟩, _, _, rfl, rfl, ?_⟩
      exact ⟨(by show 3 ≤ sizeLine; decide), fin 0⟩
/-! _law_draw -/
def sp_law_draw (K : PySem.W.Frag) : Sp := fun vs H Q E => ∃ (p : Addr) (m : Int) (n : Nat), vs = [.ref p, .int m] ∧ Pool H p n ∧ n ≤ 100000 ∧ 0 < m ∧ m < 2 ^ 400 ∧ ∀ d H', 0 ≤ d → d < m → Pool H' p (n + 1) → But p H H' → Q (.int d) H'
theorem sc_law_draw : FnScope ["pool", "many", "drawn", "mixed"] ["pool", "many"] (defScope s_law_draw) := ⟨rfl, rfl, rfl, by decide +kernel, rfl, by decide +kernel, by decide +kernel⟩
theorem bd_law_draw (T : Txt w K mg A0) : Binds K A0.d_law_draw ["pool", "many"] [] := T.F_law_draw.binds fun _ _ _ _ _ _ us hl => match us, hl with | [_, _], _ => rfl
theorem ok_law_draw (T : Txt w K mg A0) : FnOk P w K mg base CX0 1 A0.a_law_draw A0.d_law_draw ["pool", "many"] (sp_law_draw K) := by
  refine T.F_law_draw.ok sc_law_draw (fun vs H Q E h => ?_) (fun cdv A outer s H vs Q E hr h => ?_)
  · obtain ⟨p, m, n, rfl, _⟩ := h
    rfl
  · obtain ⟨p, m, n, rfl, h⟩ := h
    refine ⟨_, (pss_cons (ps_if (pt_cmpR op_gt (pe_ix ix_list (pv 0) pe_int (fun _ _ => rfl)) pe_int (nomark _)) (pss_cons (ps_set (i := 2) sc_law_draw.nd rfl (Or.inl rfl) (pe_op op_mod (pe_ix ix_list (pv 0) pe_int (fun _ _ => rfl)) (pv 1)))
        (pss_cons (ps_asg (pe_op op_fdivW (pe_ix ix_list (pv 0) pe_int (fun _ _ => rfl)) (pv 1)) (pg_sub (pv 0) pe_int set_list))
        (pss_one (ps_ret (pv 2))))) pss_nil)
        (pss_cons (ps_asg (pe_op op_add (pe_ix ix_list (pv 0) pe_int (fun _ _ => rfl)) pe_int) (pg_sub (pv 0) pe_int set_list))
        (pss_cons (ps_set (i := 3) sc_law_draw.nd rfl (Or.inl rfl) (pe_op op_mod (pe_op op_powB (pe_op op_add (pe_ix ix_list (pv 0) pe_int (fun _ _ => rfl)) (pe_op op_mul pe_int (pe_ix ix_list (pv 0) pe_int (fun _ _ => rfl)))) pe_int) pe_int))
        (pss_cons (ps_set (i := 3) sc_law_draw.nd rfl (Or.inl rfl) (pe_op op_mod (pe_op op_powB (pe_op op_add (pv 3) (pe_op op_mul pe_int (pe_ix ix_list (pv 0) pe_int (fun _ _ => rfl)))) pe_int) pe_int))
        (pss_one (ps_ret (pe_op op_mod (pe_op op_fdivW (pv 3) pe_int) (pv 1)))))))), ?_⟩
    obtain ⟨pl, hn, h0, h1, k⟩ := h
    obtain ⟨g, b, c, hp, g0, b0, b1, c0, c1⟩ := pl
    have lm := log_ok h0 h1
    refine ⟨_, rfl, p, _, 0, .int g, rfl, rfl, SqL.of hp, rfl, _, _, rfl, rfl, _, rfl, ?_⟩
    by_cases z : 0 < g
    · refine tT (decide_eq_true z) ?_
      refine ⟨_, rfl, p, _, 0, .int g, rfl, rfl, SqL.of hp, rfl, _, rfl, _, _, rfl, rfl, h0, ?_⟩
      refine ⟨_, rfl, p, _, 0, .int g, rfl, rfl, SqL.of hp, rfl, _, rfl, _, _, rfl, rfl, ⟨h0, lm⟩, ?_⟩
      refine ⟨_, rfl, p, _, 0, 0, rfl, rfl, hp, rfl, ?_⟩
      refine ⟨_, rfl, ?_⟩
      exact k _ _ (Int.emod_nonneg g (by omega)) (Int.emod_lt_of_pos g h0) ⟨g / m, b, c, upd_same, Int.ediv_nonneg g0 (by omega), b0, b1, c0, by omega⟩ But.upd
    · refine tF (decide_eq_false z) ?_
      have e1 : ∀ o, (upd H p o) p = some o := fun o => upd_same
      refine ⟨_, rfl, p, _, 2, .int c, rfl, rfl, SqL.of hp, rfl, _, _, rfl, rfl, _, rfl, p, _, 2, 2, rfl, rfl, hp, rfl, ?_⟩
      have hp1 : (upd H p (.lst (List.set [V.int g, V.int b, V.int c] 2 (.int (c + 1))))) p = some (.lst [.int g, .int b, .int (c + 1)]) := upd_same
      refine ⟨_, rfl, p, _, 1, .int b, rfl, rfl, SqL.of hp1, rfl, _, rfl, p, _, 2, .int (c + 1), rfl, rfl, SqL.of hp1, rfl, _, _, rfl, rfl, .inl ⟨by decide, by decide⟩, _, _, rfl, rfl, _, _, rfl, rfl, powB_of (a := 64) (by omega) (by decide) (by decide) (by decide), _, _, rfl, rfl, (by show (0 : Int) < 162259276829213363391578010288127; decide), ?_⟩
      generalize hX : (b + 15487469 * (c + 1)) ^ (3 : Int).toNat % 162259276829213363391578010288127 = X
      have x0 : 0 ≤ X := by rw [← hX]; exact Int.emod_nonneg _ (by decide)
      have x1 : X < 162259276829213363391578010288127 := by rw [← hX]; exact Int.emod_lt_of_pos _ (by decide)
      refine ⟨_, rfl, _, rfl, p, _, 2, .int (c + 1), rfl, rfl, SqL.of hp1, rfl, _, _, rfl, rfl, .inl ⟨by decide, by decide⟩, _, _, rfl, rfl, _, _, rfl, rfl, powB_of (a := 120) (by omega) (by decide) (by decide) (by decide), _, _, rfl, rfl, (by show (0 : Int) < 170141183460469231731687303715884105727; decide), ?_⟩
      refine ⟨_, rfl, _, _, rfl, rfl, ⟨by decide, by decide⟩, _, rfl, _, _, rfl, rfl, h0, ?_⟩
      exact k _ _ (Int.emod_nonneg _ (by omega)) (Int.emod_lt_of_pos _ h0) ⟨g, b, c + 1, hp1, g0, b0, b1, by omega, by omega⟩ But.upd
/-! _law_power -/
def sp_law_power (K : PySem.W.Frag) : Sp := fun vs H Q E => ∃ m : Int, vs = [.int m] ∧ 0 ≤ m ∧ m ≤ 1000 ∧ Q (.int (2 ^ m.toNat)) H
theorem sc_law_power : FnScope ["many", "found", "turn"] ["many"] (defScope s_law_power) := ⟨rfl, rfl, rfl, by decide +kernel, rfl, by decide +kernel, by decide +kernel⟩
theorem bd_law_power (T : Txt w K mg A0) : Binds K A0.d_law_power ["many"] [] := T.F_law_power.binds fun _ _ _ _ _ _ us hl => match us, hl with | [_], _ => rfl
theorem ok_law_power (T : Txt w K mg A0) : FnOk P w K mg base CX0 1 A0.a_law_power A0.d_law_power ["many"] (sp_law_power K) := by
  refine T.F_law_power.ok sc_law_power (fun vs H Q E h => ?_) (fun cdv A outer s H vs Q E hr h => ?_)
  · obtain ⟨m, rfl, _⟩ := h
    rfl
  · obtain ⟨m, rfl, h⟩ := h
    refine ⟨_, (pss_cons (ps_set (i := 1) sc_law_power.nd rfl (Or.inl rfl) pe_int)
        (pss_cons (ps_for PassesOwn.never rfl (pi_range1 rfl T.b_range (pa_cons (pv 0) pa_nil)) (pg_name (i := 2) sc_law_power.nd rfl (Or.inl rfl)) (pss_one (ps_set (i := 1) sc_law_power.nd rfl (Or.inl rfl) (pe_op op_mul (pv 1) pe_int))))
        (pss_one (ps_ret (pv 1))))), ?_⟩
    obtain ⟨h0, h1, k⟩ := h
    refine ⟨_, rfl, m, rfl, by omega, by omega, for_range (n := m.toNat) (fun i σ H' => ∃ v, σ = [some (.int m), some (.int (2 ^ i)), v] ∧ H' = H) ⟨none, rfl, rfl⟩ ?_ ?_⟩
    · rintro i σ H' hi ⟨v, rfl, rfl⟩
      refine ⟨_, rfl, _, _, rfl, rfl, .inr ⟨by decide, by decide⟩, ?_⟩
      exact ⟨_, rfl, rfl⟩
    · rintro σ H' ⟨v, rfl, rfl⟩
      exact ⟨_, rfl, k⟩
/-! _law_all_rankings -/
def sp_law_all_rankings (K : PySem.W.Frag) : Sp := fun vs H Q E => ∃ n : Nat, vs = [.int (n : Int)] ∧ 1 ≤ n ∧ n ≤ 5 ∧ ∀ l qs H', H l = none → Same H H' → H' l = some (.lst (qs.map V.ref)) → RL H' qs (allRk n) → Q (.ref l) H'
theorem sc_law_all_rankings : FnScope ["many", "rows", "turn", "longer", "row", "rank", "found", "top", "cut"] ["many"] (defScope s_law_all_rankings) := ⟨rfl, rfl, rfl, by decide +kernel, rfl, by decide +kernel, by decide +kernel⟩
theorem bd_law_all_rankings (T : Txt w K mg A0) : Binds K A0.d_law_all_rankings ["many"] [] := T.F_law_all_rankings.binds fun _ _ _ _ _ _ us hl => match us, hl with | [_], _ => rfl
set_option maxHeartbeats 0 in
theorem ok_law_all_rankings (T : Txt w K mg A0) : FnOk P w K mg base CX0 1 A0.a_law_all_rankings A0.d_law_all_rankings ["many"] (sp_law_all_rankings K) := by
  refine T.F_law_all_rankings.ok sc_law_all_rankings (fun vs H Q E h => ?_) (fun cdv A outer s H vs Q E hr h => ?_)
  · obtain ⟨n, rfl, _⟩ := h
    rfl
  · obtain ⟨n, rfl, h⟩ := h
    refine ⟨_, (pss_cons (ps_set (i := 1) sc_law_all_rankings.nd rfl (Or.inl rfl) (pe_lst (pa_cons (pe_lst pa_nil) pa_nil)))
        (pss_cons (ps_for PassesOwn.never rfl (pi_range1 rfl T.b_range (pa_cons (pv 0) pa_nil)) (pg_name (i := 2) sc_law_all_rankings.nd rfl (Or.inl rfl)) (pss_cons (ps_set (i := 3) sc_law_all_rankings.nd rfl (Or.inl rfl) (pe_lst pa_nil))
        (pss_cons (ps_for PassesOwn.never rfl (pi_list (pv 1)) (pg_name (i := 4) sc_law_all_rankings.nd rfl (Or.inr rfl)) (pss_one (ps_expr (pe_bmX (K := K) rfl PySem.F.plainAttrs_list PySem.F.slot_list_extend PySem.F.type_list_extend mt_extend (pv 3) (pa_cons (pe_lc (own := [("rank", 5)]) (g := gName 5) rfl sc_law_all_rankings.nd (pi_range1 rfl T.b_range (pa_cons (pv 0) pa_nil)) (blkOk_by (own := [("rank", 5)]) (N := ["many", "rows", "turn", "longer", "row", "rank", "found", "top", "cut"]) (sc := defScope s_law_all_rankings) (by decide +kernel)) (fun _ _ _ _ _ => pg_name (i := 5) sc_law_all_rankings.nd rfl (Or.inl rfl)) (fun _ _ _ _ _ => pts_nil) (fun _ _ _ _ _ => (pe_op op_cat (pv 4) (pe_lst (pa_cons (pv 5) pa_nil))))) pa_nil) rfl rfl rfl rfl rfl))))
        (pss_one (ps_set (i := 1) sc_law_all_rankings.nd rfl (Or.inl rfl) (pv 3))))))
        (pss_cons (ps_set (i := 6) sc_law_all_rankings.nd rfl (Or.inl rfl) (pe_lst pa_nil))
        (pss_cons (ps_for PassesOwn.never rfl (pi_list (pv 1)) (pg_name (i := 4) sc_law_all_rankings.nd rfl (Or.inr rfl)) (pss_cons (ps_set (i := 7) sc_law_all_rankings.nd rfl (Or.inl rfl) (pe_op op_add (pe_callB (cr_max rfl) (by rfl) T.b_max (by decide +kernel) (pa_cons (pv 4) pa_nil)) pe_int))
        (pss_one (ps_if (pt_cmpR op_eq (pe_lenSetL (K := K) rfl rfl (by rfl) T.b_len (by rfl) T.b_set (pv 4) rfl) (pv 7) (nomark _)) (pss_one (ps_expr (pe_bmX (K := K) rfl PySem.F.plainAttrs_list PySem.F.slot_list_extend PySem.F.type_list_extend mt_extend (pv 6) (pa_cons (pe_lc (own := [("cut", 8)]) (g := gName 8) rfl sc_law_all_rankings.nd (pi_range1 rfl T.b_range (pa_cons (pe_op op_add (pv 7) pe_int) pa_nil)) (blkOk_by (own := [("cut", 8)]) (N := ["many", "rows", "turn", "longer", "row", "rank", "found", "top", "cut"]) (sc := defScope s_law_all_rankings) (by decide +kernel)) (fun _ _ _ _ _ => pg_name (i := 8) sc_law_all_rankings.nd rfl (Or.inl rfl)) (fun _ _ _ _ _ => pts_nil) (fun _ _ _ _ _ => (pe_tup (pa_cons (pe_callTy (show CallR _ _ (rTupOf K) from cr_tupOf) (by rfl) T.b_tuple (by decide +kernel) (pa_cons (pv 4) pa_nil)) (pa_cons (pv 8) pa_nil))))) pa_nil) rfl rfl rfl rfl rfl))) pss_nil))))
        (pss_one (ps_ret (pv 6))))))), ?_⟩
    obtain ⟨n1, n4, k⟩ := h
    have m4 := five n1 n4
    refine ⟨(by show 0 ≤ sizeLine; decide), fun t0 ht0 => ⟨(by show 1 ≤ sizeLine; decide), fun l0 hl0 => ?_⟩⟩
    have s0 : Same H (upd (upd H t0 (.lst [])) l0 (.lst [.ref t0])) := (sameNew ht0).trans (sameNew hl0)
    refine ⟨_, rfl, (n : Int), rfl, by omega, by omega, for_range (n := n) (fun i σ H' => ∃ (l : Addr) (as : List Addr) (u2 u3 u4 u5 u6 u7 u8 : Option V), σ = [some (.int (n : Int)), some (.ref l), u2, u3, u4, u5, u6, u7, u8] ∧ Same H H' ∧ H' l = some (.lst (as.map V.ref)) ∧ LL H' as (lawRows n i)) ⟨l0, [t0], _, _, _, _, _, _, _, rfl, s0, upd_same, .cons ((sameNew hl0) _ _ upd_same) .nil⟩ ?_ ?_⟩
    · rintro i σ H1 hi ⟨l, as, u2, u3, u4, u5, u6, u7, u8, rfl, s1, el, tl⟩
      obtain ⟨rs1, rs2⟩ := law_rows5 n m4 i (List.mem_range.mpr (by omega))
      have las := pr_len tl
      refine ⟨(by show 0 ≤ sizeLine; decide), fun D hD => ?_⟩
      have nel : ∀ {a : Addr} {o : HO}, H1 a = some o → a ≠ D := fun e => ne_of_none e hD
      have eD : (upd H1 D (.lst [])) D = some (.lst (([] : List Addr).map V.ref)) := upd_same
      have b0 : But D H1 (upd H1 D (.lst [])) := But.upd
      have asD : ∀ a ∈ as, a ≠ D := fun a ha => by
        obtain ⟨j, hj, e⟩ := List.mem_iff_getElem.mp ha
        obtain ⟨r, _, er⟩ := pr_at tl (show as[j]? = some a by rw [List.getElem?_eq_getElem hj, e])
        exact nel er
      refine ⟨_, rfl, l, rfl, ⟨_, SqL.of (b0 _ _ (nel el) el)⟩, for_list (K := K) (a := l) (xs := as.map V.ref) (fun i2 σ H' => ∃ (bs : List Addr) (u4 u5 u6 u7 u8 : Option V), σ = [some (.int (n : Int)), some (.ref l), some (.int (0 + (i : Nat))), some (.ref D), u4, u5, u6, u7, u8] ∧ But D H1 H' ∧ H' D = some (.lst (bs.map V.ref)) ∧ LL H' bs (((lawRows n i).take i2).flatMap (addR n)) ∧ ∀ b ∈ bs, b ≠ D) ⟨[], _, _, _, _, _, rfl, b0, eD, .nil, fun b m => absurd m (by simp)⟩ (fun i2 σ H' _ hp => ?_) ?_ ?_⟩
      · obtain ⟨_, _, _, _, _, _, _, b, _⟩ := hp
        exact SqL.of (b _ _ (nel el) el)
      · rintro i2 x σ H2 hx ⟨bs, u4, u5, u6, u7, u8, rfl, b2, eB, tb, nb⟩
        obtain ⟨a, ha, rfl⟩ := mapR_at hx
        obtain ⟨r, hr9, ea⟩ := pr_at tl ha
        have mr := List.mem_of_getElem? hr9
        obtain ⟨lr, _, _⟩ := rs2 r mr
        have ea2 := b2 _ _ (nel ea) ea
        have lb := pr_len tb
        have lb2 : bs.length ≤ 15625 := by
          rw [lb]
          have := flat_len (f := addR n) (m := 5) (l := (lawRows n i).take i2) fun x _ => by rw [addR_len]; exact n4
          have l3 : ((lawRows n i).take i2).length ≤ 3125 := by rw [List.length_take]; omega
          omega
        refine ⟨_, rfl, .inl ⟨rfl, _, SqL.of eB⟩, ?_⟩
        refine ⟨_, rfl, (n : Int), rfl, by omega, by omega, fun D2 hD2 => lc_range (lo := 0) (n := n) (fun j H' => Same H2 H' ∧ ∃ cs : List Addr, H' D2 = some (.lst (cs.map V.ref)) ∧ LL H' cs ((addR n r).take j) ∧ ∀ c ∈ cs, H2 c = none ∧ c ≠ D2) ⟨sameNew hD2, [], upd_same, .nil, fun c m => absurd m (by simp)⟩ ?_ ?_⟩
        · rintro j H3 hj ⟨s3, cs, eC, tc, nc⟩
          refine ⟨rfl, ?_⟩
          refine yesR ?_
          refine tT rfl ?_
          have lc5 : cs.length ≤ 6 := by rw [pr_len tc, List.length_take, addR_len]; omega
          refine ⟨_, rfl, _, rfl, (by show 1 ≤ sizeLine; decide), fun t ht => ?_⟩
          have sT := sameNew ht (o := .lst [.int (0 + (j : Int))])
          refine ⟨a, t, _, _, rfl, rfl, sT _ _ (s3 _ _ ea2), upd_same, Nat.le_of_lt (small20000 (by rw [List.length_map]; show r.length + 1 ≤ 20000; omega)), fun p hp => ?_⟩
          have sP := sT.trans (sameNew hp (o := .lst (r.map V.int ++ [.int (0 + (j : Int))])))
          have eC4 := sP _ _ eC
          have pD : p ≠ D2 := (ne_of_none (sT _ _ eC) hp).symm
          refine ⟨_, eC4, small20000 (by rw [List.length_map]; omega), sameUp (s3.trans sP) hD2, cs ++ [p], by rw [upd_same, List.map_append]; rfl, ?_, ?_⟩
          · rw [addR_take hj]
            refine LL.but (D := D2) (pr_snoc (LL.same tc sP) (by rw [upd_same, List.map_append, Int.zero_add]; rfl)) But.upd fun c m => ?_
            rcases List.mem_append.mp m with m | m
            · exact (nc c m).2
            · rw [List.mem_singleton.mp m]
              exact pD
          · intro c m
            rcases List.mem_append.mp m with m | m
            · exact nc c m
            · rw [List.mem_singleton.mp m]
              exact ⟨(s3.trans sT).free hp, pD⟩
        · rintro H3 ⟨s3, cs, eC, tc, nc⟩
          rw [List.take_of_length_le (by rw [addR_len]; exact Nat.le_refl _)] at tc
          have eB3 := s3 _ _ eB
          have lc5 : cs.length ≤ 6 := by rw [pr_len tc, addR_len]; omega
          refine ⟨D, D2, _, _, rfl, rfl, eB3, eC, Nat.le_of_lt (small20000 (by rw [List.length_map, List.length_map]; omega)), ?_⟩
          have csD : ∀ c ∈ cs, c ≠ D := fun c m => (ne_of_none eB (nc c m).1).symm
          have all : ∀ c ∈ bs ++ cs, c ≠ D := fun c m => by
            rcases List.mem_append.mp m with m | m
            · exact nb c m
            · exact csD c m
          refine ⟨bs ++ cs, _, _, _, _, _, rfl, b2.trans ((But.of s3).trans But.upd), by rw [upd_same, List.map_append], ?_, all⟩
          rw [flat_take hr9]
          exact LL.but (pr_app (LL.same tb s3) tc) But.upd all
      · rintro σ H2 ⟨bs, u4, u5, u6, u7, u8, rfl, b2, eB, tb, nb⟩
        rw [List.length_map, las, List.take_length] at tb
        refine ⟨_, rfl, D, bs, _, _, _, _, _, _, _, rfl, ?_, eB, tb⟩
        intro b o e
        exact b2 b o (nel (s1 b o e)) (s1 b o e)
    · rintro σ H1 ⟨l, as, u2, u3, u4, u5, u6, u7, u8, rfl, s1, el, tl⟩
      obtain ⟨rs1, rs2⟩ := law_rows5 n m4 n (List.mem_range.mpr (by omega))
      have las := pr_len tl
      refine ⟨(by show 0 ≤ sizeLine; decide), fun F hF => ?_⟩
      have nel : ∀ {a : Addr} {o : HO}, H1 a = some o → a ≠ F := fun e => ne_of_none e hF
      have b0 : But F H1 (upd H1 F (.lst [])) := But.upd
      refine ⟨_, rfl, l, rfl, ⟨_, SqL.of (b0 _ _ (nel el) el)⟩, for_list (K := K) (a := l) (xs := as.map V.ref) (fun i2 σ H' => ∃ (qs : List Addr) (u3 u4 u5 u7 u8 : Option V), σ = [some (.int (n : Int)), some (.ref l), u2, u3, u4, u5, some (.ref F), u7, u8] ∧ But F H1 H' ∧ H' F = some (.lst (qs.map V.ref)) ∧ RL H' qs (((lawRows n n).take i2).flatMap lawCuts)) ⟨[], _, _, _, _, _, rfl, b0, upd_same, .nil⟩ (fun i2 σ H' _ hp => ?_) ?_ ?_⟩
      · obtain ⟨_, _, _, _, _, _, _, b, _⟩ := hp
        exact SqL.of (b _ _ (nel el) el)
      · rintro i2 x σ H2 hx ⟨qs, u3, u4, u5, u7, u8, rfl, b2, eB, tb⟩
        obtain ⟨a, ha, rfl⟩ := mapR_at hx
        obtain ⟨r, hr9, ea⟩ := pr_at tl ha
        have mr := List.mem_of_getElem? hr9
        obtain ⟨lr, m0, m3⟩ := rs2 r mr
        have ea2 := b2 _ _ (nel ea) ea
        have cl : (cutsR r).length ≤ 6 := by
          unfold cutsR
          rw [List.length_map, List.length_range]
          omega
        have lb2 : qs.length ≤ 18750 := by
          rw [pr_len tb]
          have := flat_len (f := lawCuts) (m := 6) (l := (lawRows n n).take i2) fun x hx => by
            obtain ⟨_, y0, y3⟩ := rs2 x (List.mem_of_mem_take hx)
            unfold lawCuts
            split
            · unfold cutsR
              rw [List.length_map, List.length_range]
              omega
            · exact Nat.zero_le _
          have l3 : ((lawRows n n).take i2).length ≤ 3125 := by rw [List.length_take]; omega
          omega
        refine ⟨_, rfl, a, r, rfl, SqL.of ea2, by omega, fun mm hm hmax => ?_⟩
        have em : mm = mx r := mx_one hm hmax
        refine ⟨_, _, rfl, rfl, ?_⟩
        refine ⟨_, rfl, a, r, rfl, SqL.of ea2, by omega, fun ks nd mem => ⟨_, rfl, rfl, _, rfl, ?_⟩⟩
        have ek : ks.length = (srt r).length := card_one nd (up_nodup (srt_up r)) fun k => by rw [mem k, srt_mem]
        by_cases c : ((srt r).length : Int) = mx r + 1
        · refine tT (decide_eq_true (by rw [em, ek, c])) ?_
          have lcr : lawCuts r = cutsR r := if_pos c
          refine ⟨_, rfl, .inl ⟨rfl, _, SqL.of eB⟩, ?_⟩
          have e2 : (mm + 1 + 1).toNat = (mx r + 2).toNat := by rw [em]; omega
          refine ⟨_, rfl, _, _, rfl, rfl, mm + 1 + 1, rfl, by omega, by omega, fun D2 hD2 => lc_range (lo := 0) (n := (mm + 1 + 1).toNat) (fun j H' => Same H2 H' ∧ ∃ cs : List Addr, H' D2 = some (.lst (cs.map V.ref)) ∧ RL H' cs ((cutsR r).take j)) ⟨sameNew hD2, [], upd_same, .nil⟩ ?_ ?_⟩
          · rintro j H3 hj ⟨s3, cs, eC, tc⟩
            refine ⟨rfl, ?_⟩
            refine yesR ?_
            refine tT rfl ?_
            have lc5 : cs.length ≤ 6 := by rw [pr_len tc, List.length_take]; omega
            refine ⟨_, rfl, a, _, rfl, .inl ⟨SqL.of (s3 _ _ ea2), fun t ht => ?_⟩⟩
            have sT := sameNew ht (o := .tup (r.map V.int))
            refine ⟨_, rfl, (by show 2 ≤ sizeLine; decide), fun p hp => ?_⟩
            have sP := sT.trans (sameNew hp (o := .tup [.ref t, .int (0 + (j : Int))]))
            have eC4 := sP _ _ eC
            refine ⟨_, eC4, small20000 (by rw [List.length_map]; omega), sameUp (s3.trans sP) hD2, cs ++ [p], by rw [upd_same, List.map_append]; rfl, ?_⟩
            rw [cutsR_take (by omega)]
            exact RL.put (pr_snoc (RL.same tc sP) ⟨t, by rw [upd_same, Int.zero_add], (sameNew hp) _ _ upd_same⟩) eC4
          · rintro H3 ⟨s3, cs, eC, tc⟩
            have lcu : (cutsR r).length = (mx r + 2).toNat := by unfold cutsR; rw [List.length_map, List.length_range]
            rw [List.take_of_length_le (by omega)] at tc
            have lc5 : cs.length ≤ 6 := by rw [pr_len tc]; exact cl
            have eB3 := s3 _ _ eB
            refine ⟨F, D2, _, _, rfl, rfl, eB3, eC, Nat.le_of_lt (small20000 (by rw [List.length_map, List.length_map]; omega)), ?_⟩
            refine ⟨qs ++ cs, _, _, _, _, _, rfl, b2.trans ((But.of s3).trans But.upd), by rw [upd_same, List.map_append], ?_⟩
            rw [flat_take hr9, lcr]
            exact RL.put (pr_app (RL.same tb s3) tc) eB3
        · refine tF (decide_eq_false (fun z => c (by have := V.int.inj z; omega))) ?_
          have lcr : lawCuts r = [] := if_neg c
          refine ⟨qs, _, _, _, _, _, rfl, b2, eB, ?_⟩
          rw [flat_take hr9, lcr, List.append_nil]
          exact tb
      · rintro σ H2 ⟨qs, u3, u4, u5, u7, u8, rfl, b2, eB, tb⟩
        rw [List.length_map, las, List.take_length, law_all5 n m4] at tb
        refine ⟨_, rfl, k F qs H2 (s1.free hF) (fun b o e => b2 b o (nel (s1 b o e)) (s1 b o e)) eB tb⟩
/-! _law_kind -/
def sp_law_kind (K : PySem.W.Frag) (A0 : Ad) : Sp := fun vs H Q E => ∃ (a : Addr) (j : Nat) (C : Addr) (v : V), vs = [.ref a] ∧ ErrK H a C "value" v ∧ [A0.c_InvalidWidth, A0.c_InvalidWords, A0.c_InvalidOutcome, A0.c_InvalidCondition, A0.c_InvalidRanking, A0.c_InvalidKnowledge, A0.c_InvalidProgram, A0.c_InvalidRow, A0.c_InvalidRegister, A0.c_InvalidQuery, A0.c_InvalidTable, A0.c_InvalidNumber, A0.c_UnlikeInputs, A0.c_NothingToUndo, A0.c_Unreadable][j]? = some C ∧ kindName j ≠ "odd" ∧ ∀ H', Same H H' → Q (.str (kindName j)) H'
theorem sc_law_kind : FnScope ["caught", "some", "odd"] ["caught"] (defScope s_law_kind) := ⟨rfl, rfl, rfl, by decide +kernel, rfl, by decide +kernel, by decide +kernel⟩
theorem bd_law_kind (T : Txt w K mg A0) : Binds K A0.d_law_kind ["caught"] [] := T.F_law_kind.binds fun _ _ _ _ _ _ us hl => match us, hl with | [_], _ => rfl
set_option maxHeartbeats 0 in
theorem ok_law_kind (T : Txt w K mg A0) : FnOk P w K mg base CX0 1 A0.a_law_kind A0.d_law_kind ["caught"] (sp_law_kind K A0) := by
  refine T.F_law_kind.ok sc_law_kind (fun vs H Q E h => ?_) (fun cdv A outer s H vs Q E hr h => ?_)
  · obtain ⟨a, j, C, v, rfl, _⟩ := h
    rfl
  · obtain ⟨a, j, C, v, rfl, h⟩ := h
    refine ⟨_, (pss_cons (ps_set (i := 1) sc_law_kind.nd rfl (Or.inl rfl) (pe_lst (pa_cons (pe_callB call_isK (by rfl) T.b_isinstance (by decide +kernel) (pa_cons (pv 0) (pa_cons (pe_glob (v := .ref A0.c_InvalidWidth) rfl T.gc_InvalidWidth rfl) pa_nil))) (pa_cons (pe_callB call_isK (by rfl) T.b_isinstance (by decide +kernel) (pa_cons (pv 0) (pa_cons (pe_glob (v := .ref A0.c_InvalidWords) rfl T.gc_InvalidWords rfl) pa_nil))) (pa_cons (pe_callB call_isK (by rfl) T.b_isinstance (by decide +kernel) (pa_cons (pv 0) (pa_cons (pe_glob (v := .ref A0.c_InvalidOutcome) rfl T.gc_InvalidOutcome rfl) pa_nil))) pa_nil)))))
        (pss_cons (ps_set (i := 1) sc_law_kind.nd rfl (Or.inl rfl) (pe_op op_cat (pv 1) (pe_lst (pa_cons (pe_callB call_isK (by rfl) T.b_isinstance (by decide +kernel) (pa_cons (pv 0) (pa_cons (pe_glob (v := .ref A0.c_InvalidCondition) rfl T.gc_InvalidCondition rfl) pa_nil))) (pa_cons (pe_callB call_isK (by rfl) T.b_isinstance (by decide +kernel) (pa_cons (pv 0) (pa_cons (pe_glob (v := .ref A0.c_InvalidRanking) rfl T.gc_InvalidRanking rfl) pa_nil))) pa_nil)))))
        (pss_cons (ps_set (i := 1) sc_law_kind.nd rfl (Or.inl rfl) (pe_op op_cat (pv 1) (pe_lst (pa_cons (pe_callB call_isK (by rfl) T.b_isinstance (by decide +kernel) (pa_cons (pv 0) (pa_cons (pe_glob (v := .ref A0.c_InvalidProgram) rfl T.gc_InvalidProgram rfl) pa_nil))) (pa_cons (pe_callB call_isK (by rfl) T.b_isinstance (by decide +kernel) (pa_cons (pv 0) (pa_cons (pe_glob (v := .ref A0.c_InvalidRow) rfl T.gc_InvalidRow rfl) pa_nil))) pa_nil)))))
        (pss_cons (ps_set (i := 1) sc_law_kind.nd rfl (Or.inl rfl) (pe_op op_cat (pv 1) (pe_lst (pa_cons (pe_callB call_isK (by rfl) T.b_isinstance (by decide +kernel) (pa_cons (pv 0) (pa_cons (pe_glob (v := .ref A0.c_InvalidNumber) rfl T.gc_InvalidNumber rfl) pa_nil))) (pa_cons (pe_callB call_isK (by rfl) T.b_isinstance (by decide +kernel) (pa_cons (pv 0) (pa_cons (pe_glob (v := .ref A0.c_UnlikeInputs) rfl T.gc_UnlikeInputs rfl) pa_nil))) pa_nil)))))
        (pss_cons (ps_set (i := 2) sc_law_kind.nd rfl (Or.inl rfl) (pe_callB call_isK (by rfl) T.b_isinstance (by decide +kernel) (pa_cons (pv 0) (pa_cons (pe_tup (pa_cons (pe_glob (v := .ref A0.c_InvalidKnowledge) rfl T.gc_InvalidKnowledge rfl) (pa_cons (pe_glob (v := .ref A0.c_InvalidRegister) rfl T.gc_InvalidRegister rfl) (pa_cons (pe_glob (v := .ref A0.c_InvalidQuery) rfl T.gc_InvalidQuery rfl) (pa_cons (pe_glob (v := .ref A0.c_InvalidTable) rfl T.gc_InvalidTable rfl) (pa_cons (pe_glob (v := .ref A0.c_NothingToUndo) rfl T.gc_NothingToUndo rfl) (pa_cons (pe_glob (v := .ref A0.c_Unreadable) rfl T.gc_Unreadable rfl) pa_nil))))))) pa_nil))))
        (pss_cons (ps_if (PW.pt (pw_or (pt_val (pv 2)) (pw_or (pt_not (pt_val (pe_callB call_isK (by rfl) T.b_isinstance (by decide +kernel) (pa_cons (pv 0) (pa_cons (pe_glob (v := .ref A0.c_BranchError) rfl T.gc_BranchError rfl) pa_nil))))) (pw_or (pt_not (pt_val (pe_callB call_isK (by rfl) T.b_isinstance (by decide +kernel) (pa_cons (pv 0) (pa_cons (pe_bltn (v := .ty "ValueError") (by rfl) T.b_ValueError (by decide +kernel) rfl) pa_nil))))) (pw_or1 (pt_cmpR op_ne (pe_bmX (K := K) rfl PySem.F.plainAttrs_list PySem.F.slot_list_count PySem.F.type_list_count (show MtR _ _ (rCntB K) from mt_lcountB) (pv 1) (pa_cons pe_bl pa_nil) rfl rfl rfl rfl rfl) pe_int (nomark _))))))) (pss_one (ps_ret pe_str)) pss_nil)
        (pss_one (ps_ret (pe_ix ix_list (pe_bmX (K := K) rfl PySem.F.plainAttrs_str PySem.F.slot_str_split PySem.F.type_str_split mt_split pe_str (pa_cons pe_str pa_nil) rfl rfl rfl rfl rfl) (pe_bmX (K := K) rfl PySem.F.plainAttrs_list PySem.F.slot_list_index PySem.F.type_list_index (show MtR _ _ (rIndex K) from mt_index) (pv 1) (pa_cons pe_bl pa_nil) rfl rfl rfl rfl rfl) (fun _ _ => rfl)))))))))), ?_⟩
    obtain ⟨ea, eC, kn, k⟩ := h
    obtain ⟨b1, b2, _⟩ := kit_b T.tab eC
    have K0 : ∀ {i : Nat} {d : Addr}, ([A0.c_InvalidWidth, A0.c_InvalidWords, A0.c_InvalidOutcome, A0.c_InvalidCondition, A0.c_InvalidRanking, A0.c_InvalidKnowledge, A0.c_InvalidProgram, A0.c_InvalidRow, A0.c_InvalidRegister, A0.c_InvalidQuery, A0.c_InvalidTable, A0.c_InvalidNumber, A0.c_UnlikeInputs, A0.c_NothingToUndo, A0.c_Unreadable] : List Addr)[i]? = some d → PySem.W.kitOne K (.ref C) (.ref d) = some (decide (j = i)) := fun hd => kit_ij T.tab eC hd
    have jl : j < 15 := (List.getElem?_eq_some_iff.mp eC).1
    have ec : ExcC K C := by
      match j, jl, eC with
      | 0, _, z => cases z; exact T.er_InvalidWidth.ec
      | 1, _, z => cases z; exact T.er_InvalidWords.ec
      | 2, _, z => cases z; exact T.er_InvalidOutcome.ec
      | 3, _, z => cases z; exact T.er_InvalidCondition.ec
      | 4, _, z => cases z; exact T.er_InvalidRanking.ec
      | 5, _, z => cases z; exact T.er_InvalidKnowledge.ec
      | 6, _, z => cases z; exact T.er_InvalidProgram.ec
      | 7, _, z => cases z; exact T.er_InvalidRow.ec
      | 8, _, z => cases z; exact T.er_InvalidRegister.ec
      | 9, _, z => cases z; exact T.er_InvalidQuery.ec
      | 10, _, z => cases z; exact T.er_InvalidTable.ec
      | 11, _, z => cases z; exact T.er_InvalidNumber.ec
      | 12, _, z => cases z; exact T.er_UnlikeInputs.ec
      | 13, _, z => cases z; exact T.er_NothingToUndo.ec
      | 14, _, z => cases z; exact T.er_Unreadable.ec
    have isn : ∀ {i : Nat} {d : Addr} {H' : Hp} {Q' : VK}, ([A0.c_InvalidWidth, A0.c_InvalidWords, A0.c_InvalidOutcome, A0.c_InvalidCondition, A0.c_InvalidRanking, A0.c_InvalidKnowledge, A0.c_InvalidProgram, A0.c_InvalidRow, A0.c_InvalidRegister, A0.c_InvalidQuery, A0.c_InvalidTable, A0.c_InvalidNumber, A0.c_UnlikeInputs, A0.c_NothingToUndo, A0.c_Unreadable] : List Addr)[i]? = some d → Same H H' → Q' (.bl (decide (j = i))) H' → rIsK K [.ref a, .ref d] H' Q' := fun hd s q => .inl ⟨a, C, _, v, _, _, _, rfl, ea.same s, ec, .own _, K0 hd, q⟩
    obtain ⟨nk, cn, idx, i9, at9, nm, pre⟩ := kind_of kn jl
    refine ⟨_, rfl, isn (i := 0) rfl (Same.refl H) ?_⟩
    refine ⟨_, rfl, isn (i := 1) rfl (Same.refl H) ?_⟩
    refine ⟨_, rfl, isn (i := 2) rfl (Same.refl H) ?_⟩
    refine ⟨(by show 3 ≤ sizeLine; decide), fun l1 h1 => ?_⟩
    have s1 := sameNew h1 (o := .lst [.bl (decide (j = 0)), .bl (decide (j = 1)), .bl (decide (j = 2))])
    refine ⟨_, rfl, _, rfl, isn (i := 3) rfl s1 ?_⟩
    refine ⟨_, rfl, isn (i := 4) rfl s1 ?_⟩
    refine ⟨(by show 2 ≤ sizeLine; decide), fun l2 h2 => ?_⟩
    have s2 := sameNew h2 (o := .lst [.bl (decide (j = 3)), .bl (decide (j = 4))])
    refine ⟨l1, l2, _, _, rfl, rfl, s2 _ _ upd_same, upd_same, (by show 5 ≤ sizeLine; decide), fun l3 h3 => ?_⟩
    have s3 := s1.trans (s2.trans (sameNew h3 (o := .lst ([.bl (decide (j = 0)), .bl (decide (j = 1)), .bl (decide (j = 2))] ++ [.bl (decide (j = 3)), .bl (decide (j = 4))]))))
    obtain ⟨H3, eH3⟩ : ∃ H3, H3 = (upd (upd (upd H l1 (.lst [.bl (decide (j = 0)), .bl (decide (j = 1)), .bl (decide (j = 2))])) l2 (.lst [.bl (decide (j = 3)), .bl (decide (j = 4))])) l3 (.lst ([.bl (decide (j = 0)), .bl (decide (j = 1)), .bl (decide (j = 2))] ++ [.bl (decide (j = 3)), .bl (decide (j = 4))]))) := ⟨_, rfl⟩
    have e3 : H3 l3 = some (.lst [.bl (decide (j = 0)), .bl (decide (j = 1)), .bl (decide (j = 2)), .bl (decide (j = 3)), .bl (decide (j = 4))]) := by rw [eH3]; exact upd_same
    rw [← eH3] at s3 ⊢
    clear eH3
    refine ⟨_, rfl, _, rfl, isn (i := 6) rfl s3 ?_⟩
    refine ⟨_, rfl, isn (i := 7) rfl s3 ?_⟩
    refine ⟨(by show 2 ≤ sizeLine; decide), fun l4 h4 => ?_⟩
    have t4 := sameNew h4 (o := .lst [.bl (decide (j = 6)), .bl (decide (j = 7))])
    refine ⟨l3, l4, _, _, rfl, rfl, t4 _ _ e3, upd_same, (by show 7 ≤ sizeLine; decide), fun l5 h5 => ?_⟩
    have s5 := s3.trans (t4.trans (sameNew h5 (o := .lst ([.bl (decide (j = 0)), .bl (decide (j = 1)), .bl (decide (j = 2)), .bl (decide (j = 3)), .bl (decide (j = 4))] ++ [.bl (decide (j = 6)), .bl (decide (j = 7))]))))
    obtain ⟨H5, eH5⟩ : ∃ H5, H5 = (upd (upd H3 l4 (.lst [.bl (decide (j = 6)), .bl (decide (j = 7))])) l5 (.lst ([.bl (decide (j = 0)), .bl (decide (j = 1)), .bl (decide (j = 2)), .bl (decide (j = 3)), .bl (decide (j = 4))] ++ [.bl (decide (j = 6)), .bl (decide (j = 7))]))) := ⟨_, rfl⟩
    have e5 : H5 l5 = some (.lst [.bl (decide (j = 0)), .bl (decide (j = 1)), .bl (decide (j = 2)), .bl (decide (j = 3)), .bl (decide (j = 4)), .bl (decide (j = 6)), .bl (decide (j = 7))]) := by rw [eH5]; exact upd_same
    rw [← eH5] at s5 ⊢
    clear eH5
    refine ⟨_, rfl, _, rfl, isn (i := 11) rfl s5 ?_⟩
    refine ⟨_, rfl, isn (i := 12) rfl s5 ?_⟩
    refine ⟨(by show 2 ≤ sizeLine; decide), fun l6 h6 => ?_⟩
    have t6 := sameNew h6 (o := .lst [.bl (decide (j = 11)), .bl (decide (j = 12))])
    refine ⟨l5, l6, _, _, rfl, rfl, t6 _ _ e5, upd_same, (by show 9 ≤ sizeLine; decide), fun l7 h7 => ?_⟩
    have s7 := s5.trans (t6.trans (sameNew h7 (o := .lst ([.bl (decide (j = 0)), .bl (decide (j = 1)), .bl (decide (j = 2)), .bl (decide (j = 3)), .bl (decide (j = 4)), .bl (decide (j = 6)), .bl (decide (j = 7))] ++ [.bl (decide (j = 11)), .bl (decide (j = 12))]))))
    obtain ⟨H7, eH7⟩ : ∃ H7, H7 = (upd (upd H5 l6 (.lst [.bl (decide (j = 11)), .bl (decide (j = 12))])) l7 (.lst ([.bl (decide (j = 0)), .bl (decide (j = 1)), .bl (decide (j = 2)), .bl (decide (j = 3)), .bl (decide (j = 4)), .bl (decide (j = 6)), .bl (decide (j = 7))] ++ [.bl (decide (j = 11)), .bl (decide (j = 12))]))) := ⟨_, rfl⟩
    have e7 : H7 l7 = some (.lst [.bl (decide (j = 0)), .bl (decide (j = 1)), .bl (decide (j = 2)), .bl (decide (j = 3)), .bl (decide (j = 4)), .bl (decide (j = 6)), .bl (decide (j = 7)), .bl (decide (j = 11)), .bl (decide (j = 12))]) := by rw [eH7]; exact upd_same
    rw [← eH7] at s7 ⊢
    clear eH7
    change H7 l7 = some (.lst ((bsOf j).map V.bl)) at e7
    refine ⟨_, rfl, (by show 6 ≤ sizeLine; decide), fun tp htp => ?_⟩
    have s8 := s7.trans (sameNew htp (o := .tup [.ref A0.c_InvalidKnowledge, .ref A0.c_InvalidRegister, .ref A0.c_InvalidQuery, .ref A0.c_InvalidTable, .ref A0.c_NothingToUndo, .ref A0.c_Unreadable]))
    have e8 := (sameNew htp (o := .tup [.ref A0.c_InvalidKnowledge, .ref A0.c_InvalidRegister, .ref A0.c_InvalidQuery, .ref A0.c_InvalidTable, .ref A0.c_NothingToUndo, .ref A0.c_Unreadable])) _ _ e7
    have kf : ∀ (i : Nat) (d : Addr), ([A0.c_InvalidWidth, A0.c_InvalidWords, A0.c_InvalidOutcome, A0.c_InvalidCondition, A0.c_InvalidRanking, A0.c_InvalidKnowledge, A0.c_InvalidProgram, A0.c_InvalidRow, A0.c_InvalidRegister, A0.c_InvalidQuery, A0.c_InvalidTable, A0.c_InvalidNumber, A0.c_UnlikeInputs, A0.c_NothingToUndo, A0.c_Unreadable] : List Addr)[i]? = some d → i ∈ ([5, 8, 9, 10, 13, 14] : List Nat) → PySem.W.kitOne K (.ref C) (.ref d) = some false := fun i d hd m => by rw [K0 hd, decide_eq_false (nk i m)]
    refine .inr ⟨a, C, _, v, tp, _, [.ref A0.c_InvalidKnowledge, .ref A0.c_InvalidRegister, .ref A0.c_InvalidQuery, .ref A0.c_InvalidTable, .ref A0.c_NothingToUndo, .ref A0.c_Unreadable], false, rfl, ea.same s8, ec, upd_same, .cons (.own _) (.cons (.own _) (.cons (.own _) (.cons (.own _) (.cons (.own _) (.cons (.own _) .nil))))), ?_, ?_⟩
    · refine kitAny_no fun u m => ?_
      rcases List.mem_cons.mp m with rfl | m
      · exact kf 5 _ rfl (by decide)
      rcases List.mem_cons.mp m with rfl | m
      · exact kf 8 _ rfl (by decide)
      rcases List.mem_cons.mp m with rfl | m
      · exact kf 9 _ rfl (by decide)
      rcases List.mem_cons.mp m with rfl | m
      · exact kf 10 _ rfl (by decide)
      rcases List.mem_cons.mp m with rfl | m
      · exact kf 13 _ rfl (by decide)
      rw [List.mem_singleton.mp m]
      exact kf 14 _ rfl (by decide)
    refine ⟨_, rfl, false, rfl, ?_⟩
    refine tF rfl ?_
    refine ⟨_, rfl, .inl ⟨a, C, _, v, _, _, true, rfl, ea.same s8, ec, .own _, b1, _, rfl, ?_⟩⟩
    refine tF rfl ?_
    refine ⟨_, rfl, .inl ⟨a, C, _, v, _, _, true, rfl, ea.same s8, ec, .ty _, b2, _, rfl, ?_⟩⟩
    refine tF rfl ?_
    refine ⟨_, rfl, .inl ⟨rfl, _, SqL.of e8⟩, l7, bsOf j, true, rfl, rfl, SqL.of e8, rfl, _, rfl, ?_⟩
    refine tF (by rw [cn]; rfl) ?_
    refine ⟨rfl, _, _, rfl, rfl, rfl, (by rw [sizeLine_eq]; decide), fun p hp => ?_⟩
    rw [kindSplit]
    have s9 := s8.trans (sameNew hp (o := .lst (kindNames.map V.str)))
    have e9 := (sameNew hp (o := .lst (kindNames.map V.str))) _ _ e8
    refine ⟨_, rfl, .inl ⟨rfl, _, SqL.of e9⟩, l7, (bsOf j).map V.bl, .bl true, idx, .bl true, rfl, rfl, SqL.of e9, rfl, List.all_eq_true.mpr (fun x m => by obtain ⟨b, _, rfl⟩ := List.mem_map.mp m; rfl), by rw [List.getElem?_map, at9]; rfl, rfl, (fun m z hm hz => by
      rw [List.getElem?_map, pre m hm] at hz
      cases hz
      rfl), ?_⟩
    exact ⟨p, _, (idx : Int), .str (kindName j), rfl, rfl, SqL.of upd_same, at_of (j := idx) rfl (by rw [List.getElem?_map, nm]; rfl), k _ s9⟩
/-! _law_is_ranking -/
def sp_law_is_ranking (K : PySem.W.Frag) (A0 : Ad) : Sp := fun vs H Q E => ∃ (q rt : Addr) (rs : List Int) (c : Int), vs = [.ref q] ∧ RkAt H q rt rs c ∧ 1 ≤ rs.length ∧ rs.length ≤ 5 ∧ (∀ r ∈ rs, -1 ≤ r ∧ r ≤ 20) ∧ ∀ H', Same H H' → Q (.bl (okR rs c)) H'
theorem sc_law_is_ranking : FnScope ["one", "ranks", "cut"] ["one"] (defScope s_law_is_ranking) := ⟨rfl, rfl, rfl, by decide +kernel, rfl, by decide +kernel, by decide +kernel⟩
theorem bd_law_is_ranking (T : Txt w K mg A0) : Binds K A0.d_law_is_ranking ["one"] [] := T.F_law_is_ranking.binds fun _ _ _ _ _ _ us hl => match us, hl with | [_], _ => rfl
set_option maxHeartbeats 0 in
theorem ok_law_is_ranking (T : Txt w K mg A0) : FnOk P w K mg base CX0 1 A0.a_law_is_ranking A0.d_law_is_ranking ["one"] (sp_law_is_ranking K A0) := by
  refine T.F_law_is_ranking.ok sc_law_is_ranking (fun vs H Q E h => ?_) (fun cdv A outer s H vs Q E hr h => ?_)
  · obtain ⟨q, rt, rs, c, rfl, _⟩ := h
    rfl
  · obtain ⟨q, rt, rs, c, rfl, h⟩ := h
    refine ⟨_, (pss_cons (ps_asg (pv 0) (pg_tup rfl (pgs_cons (pg_name (i := 1) sc_law_is_ranking.nd rfl (Or.inl rfl)) (pgs_cons (pg_name (i := 2) sc_law_is_ranking.nd rfl (Or.inl rfl)) pgs_nil))))
        (pss_one (ps_ret (pe_and (pe_cmpR (op_eqD hr.units) (pe_callB (cr_sortedSet rfl) (by rfl) T.b_sorted (by decide +kernel) (pa_cons (pe_callTy (cr_setOf rfl) (by rfl) T.b_set (by decide +kernel) (pa_cons (pv 1) pa_nil)) pa_nil)) (pe_listRg rfl (by rfl) T.b_list (prg_1 (by rfl) T.b_range (pe_op op_add (pe_callB (cr_maxT rfl hr.units) (by rfl) T.b_max (by decide +kernel) (pa_cons (pv 1) pa_nil)) pe_int))) (nomark _)) (pe_one (pe_chain op_le op_le pe_int (pv 2) (pe_op op_add (pe_callB (cr_maxT rfl hr.units) (by rfl) T.b_max (by decide +kernel) (pa_cons (pv 1) pa_nil)) pe_int))))))), ?_⟩
    obtain ⟨hr1, n1, n5, bnd, k⟩ := h
    refine ⟨_, rfl, q, _, rfl, SqT.of hr1.1, rfl, _, _, rfl, _, _, rfl, rfl, ?_⟩
    have ne : rs ≠ [] := fun e => by rw [e] at n1; exact absurd n1 (by decide)
    obtain ⟨mi, mb⟩ := mx_in ne
    have mbd := bnd _ mi
    obtain ⟨m, em⟩ : ∃ m : Nat, mx rs + 1 = (m : Int) := ⟨(mx rs + 1).toNat, by omega⟩
    have ko := okR_mx (c := c) ne em
    refine ⟨_, rfl, rt, rs, rfl, SqT.of hr1.2, by omega, fun p2 n2 ks2 hp2 nd2 mem2 l2 => ?_⟩
    have n2m : n2 = (srt rs).length := by rw [← l2]; exact card_one nd2 (up_nodup (srt_up rs)) fun k => by rw [mem2 k, srt_mem]
    have nz := srt_len rs
    refine ⟨p2, _, n2, rfl, upd_same, by omega, fun ns p3 up mem3 l3 hp3 => ?_⟩
    obtain rfl : ns = srt rs := up_one up (srt_up rs) fun k => by rw [mem3 k, decide_eq_true_eq, srt_mem]
    have s4 := (sameNew hp2 (o := SetO w p2 (fun j => decide (j ∈ rs)) n2)).trans (sameNew hp3 (o := .lst ((srt rs).map V.int)))
    refine ⟨_, rfl, rt, rs, rfl, SqT.of (s4 _ _ hr1.2), ne, _, _, rfl, rfl, (m : Int), by rw [← em], RgOk.of_le (by omega) (by omega) (by omega) (by omega), fun p4 hp4 => ?_⟩
    rw [rgV_rg]
    refine ⟨.list ((srt rs).map PyData.int), .list ((rg m).map PyData.int), .lst (SqL.of ((sameNew hp4) _ _ upd_same)) (ints_all _), .lst (SqL.of upd_same) (ints_all _), ints_shaped _, ints_shaped _, _, rfl, ?_⟩
    have kk := k _ (s4.trans (sameNew hp4 (o := .lst ((rg m).map V.int))))
    have eq : PyData.eqv (.list ((srt rs).map PyData.int)) (.list ((rg m).map PyData.int)) = decide (srt rs = rg m) := ints_eqvA _ _
    have hr2 := hr1.same (s4.trans (sameNew hp4 (o := .lst ((rg m).map V.int))))
    rw [eq]
    rw [ko] at kk
    by_cases d1 : srt rs = rg m
    · refine tT (decide_eq_true d1) ?_
      rw [decide_eq_true d1, Bool.true_and] at kk
      refine ⟨_, rfl, _, _, rfl, rfl, _, rfl, ?_⟩
      by_cases d2 : 0 ≤ c
      · refine tT (decide_eq_true d2) ?_
        rw [decide_eq_true d2, Bool.true_and] at kk
        refine ⟨_, rfl, rt, rs, rfl, SqT.of hr2.2, ne, _, _, rfl, rfl, _, _, rfl, rfl, ?_⟩
        rw [← em] at kk
        exact kk
      · refine tF (decide_eq_false d2) ?_
        rw [decide_eq_false d2, Bool.false_and] at kk
        exact kk
    · refine tF (decide_eq_false d1) ?_
      rw [decide_eq_false d1, Bool.false_and] at kk
      exact kk
/-! outcome_between -/
def sp_outcome_between (K : PySem.W.Frag) : Sp := fun vs H Q E => ∃ (q rt : Addr) (rs : List Int) (c : Int) (i j : Nat) (a b : Int), vs = [.ref q, .int (i : Int), .int (j : Int)] ∧ RkAt H q rt rs c ∧ rs[i]? = some a ∧ rs[j]? = some b ∧ Q (.str (ocut c a b)) H
theorem sc_outcome_between : FnScope ["ranking", "first", "second", "ranks", "cut"] ["ranking", "first", "second"] (defScope s_outcome_between) := ⟨rfl, rfl, rfl, by decide +kernel, rfl, by decide +kernel, by decide +kernel⟩
theorem bd_outcome_between (T : Txt w K mg A0) : Binds K A0.d_outcome_between ["ranking", "first", "second"] [] := T.F_outcome_between.binds fun _ _ _ _ _ _ us hl => match us, hl with | [_, _, _], _ => rfl
theorem ok_outcome_between (T : Txt w K mg A0) : FnOk P w K mg base CX0 2 A0.a_outcome_between A0.d_outcome_between ["ranking", "first", "second"] (sp_outcome_between K) := by
  refine T.F_outcome_between.ok sc_outcome_between (fun vs H Q E h => ?_) (fun cdv A outer s H vs Q E hr h => ?_)
  · obtain ⟨q, rt, rs, c, i, j, a, b, rfl, _⟩ := h
    rfl
  · obtain ⟨q, rt, rs, c, i, j, a, b, rfl, h⟩ := h
    refine ⟨_, (pss_cons (ps_asg (pv 0) (pg_tup rfl (pgs_cons (pg_name (i := 3) sc_outcome_between.nd rfl (Or.inl rfl)) (pgs_cons (pg_name (i := 4) sc_outcome_between.nd rfl (Or.inl rfl)) pgs_nil))))
        (pss_one (ps_ret (pe_call (ok_outcome_by_cut T) (hr.mono (by decide)) rfl T.g_outcome_by_cut T.F_outcome_by_cut.kp (bd_outcome_by_cut T) .nil pass0 (pa_cons (pv 4) (pa_cons (pe_ix ix_tup (pv 3) (pv 1) (fun _ _ => rfl)) (pa_cons (pe_ix ix_tup (pv 3) (pv 2) (fun _ _ => rfl)) pa_nil))))))), ?_⟩
    obtain ⟨hr, ha, hb, k⟩ := h
    have la := (List.getElem?_eq_some_iff.mp ha).1
    have lb := (List.getElem?_eq_some_iff.mp hb).1
    refine ⟨_, rfl, q, _, rfl, SqT.of hr.1, rfl, _, _, rfl, _, _, rfl, rfl, ?_⟩
    refine ⟨_, rfl, _, rfl, _, rfl, rt, _, (i : Int), .int a, rfl, rfl, SqT.of hr.2, at_of (j := i) rfl (by rw [List.getElem?_map, ha]; rfl), _, rfl, _, rfl, rt, _, (j : Int), .int b, rfl, rfl, SqT.of hr.2, at_of (j := j) rfl (by rw [List.getElem?_map, hb]; rfl), c, a, b, rfl, k⟩
/-! all_rankings -/
def sp_all_rankings (K : PySem.W.Frag) : Sp := fun vs H Q E => ∃ n : Nat, vs = [.int (n : Int)] ∧ 1 ≤ n ∧ n ≤ 5 ∧ ∀ l qs H', H l = none → Same H H' → H' l = some (.lst (qs.map V.ref)) → RL H' qs (allRk n) → Q (.ref l) H'
theorem sc_all_rankings : FnScope ["items", "found", "_", "longer", "ranks", "rank", "cut"] ["items"] (defScope s_all_rankings) := ⟨rfl, rfl, rfl, by decide +kernel, rfl, by decide +kernel, by decide +kernel⟩
theorem bd_all_rankings (T : Txt w K mg A0) : Binds K A0.d_all_rankings ["items"] [] := T.F_all_rankings.binds fun _ _ _ _ _ _ us hl => match us, hl with | [_], _ => rfl
set_option maxHeartbeats 0 in
theorem ok_all_rankings (T : Txt w K mg A0) : FnOk P w K mg base CX0 2 A0.a_all_rankings A0.d_all_rankings ["items"] (sp_all_rankings K) := by
  refine T.F_all_rankings.ok sc_all_rankings (fun vs H Q E h => ?_) (fun cdv A outer s H vs Q E hr h => ?_)
  · obtain ⟨n, rfl, _⟩ := h
    rfl
  · obtain ⟨n, rfl, h⟩ := h
    refine ⟨_, (pss_cons (ps_set (i := 1) sc_all_rankings.nd rfl (Or.inl rfl) (pe_lst (pa_cons (pe_tup pa_nil) pa_nil)))
        (pss_cons (ps_for PassesOwn.never rfl (pi_range1 rfl T.b_range (pa_cons (pv 0) pa_nil)) (pg_name (i := 2) sc_all_rankings.nd rfl (Or.inl rfl)) (pss_cons (ps_setLc2 (i := 3) (own := [("ranks", 4), ("rank", 5)]) (vs1 := [5]) (g := gName 4) (g1 := gName 5) rfl sc_all_rankings.nd rfl rfl (sw_true rfl rfl rfl (by decide +kernel)) (pi_list (pv 1)) (blkOk_by (own := [("ranks", 4), ("rank", 5)]) (N := ["items", "found", "_", "longer", "ranks", "rank", "cut"]) (sc := defScope s_all_rankings) (by decide +kernel)) (by decide) (fun _ _ _ _ _ => pg_name (i := 4) sc_all_rankings.nd rfl (Or.inl rfl)) (fun _ _ _ _ _ => pts_nil) (fun _ _ _ _ _ => (pi_range1 rfl T.b_range (pa_cons (pv 0) pa_nil))) (fun _ _ _ _ _ => pg_name (i := 5) sc_all_rankings.nd rfl (Or.inl rfl)) (fun _ _ _ _ _ => pts_nil) (fun _ _ _ _ _ => (pe_op (show OpR _ _ (rCatA K) from op_catA) (pv 4) (pe_tup (pa_cons (pv 5) pa_nil)))))
        (pss_one (ps_setLc (i := 1) (own := [("ranks", 4)]) (g := gName 4) rfl sc_all_rankings.nd rfl rfl (sw_true rfl rfl rfl (by decide +kernel)) (pi_list (pv 3)) (blkOk_by (own := [("ranks", 4)]) (N := ["items", "found", "_", "longer", "ranks", "rank", "cut"]) (sc := defScope s_all_rankings) (by decide +kernel)) (fun _ _ _ _ _ => pg_name (i := 4) sc_all_rankings.nd rfl (Or.inl rfl)) (fun _ _ _ _ _ => pts_one (pt_cmpR op_le (pe_call (ok_gaps T) (hr.mono (by decide)) rfl T.g_gaps T.F_gaps.kp (bd_gaps T) .nil pass0 (pa_cons (pv 4) pa_nil)) (pe_op op_sub (pv 0) (pe_callB (show CallR _ _ (rLenSq K) from cr_lenSq) (by rfl) T.b_len (by decide +kernel) (pa_cons (pv 4) pa_nil))) (nomark _))) (fun _ _ _ _ _ => (pv 4))))))
        (pss_one (ps_ret (pe_lc2 (own := [("ranks", 4), ("cut", 6)]) (vs1 := [6]) (g := gName 4) (g1 := gName 6) rfl sc_all_rankings.nd (pi_list (pv 1)) (blkOk_by (own := [("ranks", 4), ("cut", 6)]) (N := ["items", "found", "_", "longer", "ranks", "rank", "cut"]) (sc := defScope s_all_rankings) (by decide +kernel)) (by decide) (fun _ _ _ _ _ => pg_name (i := 4) sc_all_rankings.nd rfl (Or.inl rfl)) (fun _ _ _ _ _ => pts_nil) (fun _ _ _ _ _ => (pi_range1 rfl T.b_range (pa_cons (pe_op op_add (pe_callB (show CallR _ _ (rMaxT K) from cr_maxT rfl hr.units) (by rfl) T.b_max (by decide +kernel) (pa_cons (pv 4) pa_nil)) pe_int) pa_nil))) (fun _ _ _ _ _ => pg_name (i := 6) sc_all_rankings.nd rfl (Or.inl rfl)) (fun _ _ _ _ _ => pts_nil) (fun _ _ _ _ _ => (pe_tup (pa_cons (pv 4) (pa_cons (pv 6) pa_nil))))))))), ?_⟩
    obtain ⟨n1, n5, k⟩ := h
    have m5 := five n1 n5
    refine ⟨(by show 0 ≤ sizeLine; decide), fun t0 ht0 => ⟨(by show 1 ≤ sizeLine; decide), fun l0 hl0 => ?_⟩⟩
    have s0 : Same H (upd (upd H t0 (.tup [])) l0 (.lst [.ref t0])) := (sameNew ht0).trans (sameNew hl0)
    refine ⟨_, rfl, (n : Int), rfl, by omega, by omega, for_range (n := n) (fun i σ H' => ∃ (l : Addr) (as : List Addr) (u v w2 y x2 : Option V), σ = [some (.int (n : Int)), some (.ref l), u, v, w2, y, x2] ∧ Same H H' ∧ H' l = some (.lst (as.map V.ref)) ∧ TL H' as (rowsR n i)) ⟨l0, [t0], _, _, _, _, _, rfl, s0, upd_same, .cons ((sameNew hl0) _ _ upd_same) .nil⟩ ?_ ?_⟩
    · rintro i σ H1 hi ⟨l, as, u, v, w2, y, x2, rfl, s1, el, tl⟩
      obtain ⟨rs1, rs2⟩ := rows_small n m5 i (List.mem_range.mpr hi)
      have las := pr_len tl
      refine ⟨_, rfl, l, rfl, ⟨_, SqL.of el⟩, fun D hD => itl_by (xs := as.map V.ref) (fun i2 H' => Same H1 H' ∧ ∃ bs : List Addr, H' D = some (.lst (bs.map V.ref)) ∧ TL H' bs (((rowsR n i).take i2).flatMap (addR n))) ⟨sameNew hD, [], upd_same, .nil⟩ (fun i2 H' _ hp => SqL.of (hp.1 _ _ el)) ?_ ?_⟩
      · rintro i2 x H2 hx ⟨s2, bs, eD, tb⟩
        obtain ⟨a, ha, rfl⟩ := mapR_at hx
        obtain ⟨r, hr9, ea⟩ := pr_at tl ha
        have mr := List.mem_of_getElem? hr9
        have lr := rs2 r mr
        have lt2 := (List.getElem?_eq_some_iff.mp hr9).1
        have fl : (((rowsR n i).take i2).flatMap (addR n)).length ≤ 3500 := by
          have := flat_len (f := addR n) (m := 5) (l := (rowsR n i).take i2) fun x _ => by
            unfold addR
            rw [List.length_map, List.length_range]
            exact n5
          have l3 : ((rowsR n i).take i2).length ≤ 700 := by rw [List.length_take]; omega
          omega
        refine ⟨rfl, ?_⟩
        refine yesR ?_
        refine tT rfl ?_
        refine ⟨_, rfl, (n : Int), rfl, by omega, by omega, itr_by (lo := 0) (n := n) (fun j H' => Same H1 H' ∧ ∃ bs : List Addr, H' D = some (.lst (bs.map V.ref)) ∧ TL H' bs (((rowsR n i).take i2).flatMap (addR n) ++ (addR n r).take j)) ⟨s2, bs, eD, by simpa using tb⟩ ?_ ?_⟩
        · rintro j H3 hj ⟨s3, bs3, eD3, tb3⟩
          refine ⟨rfl, ?_⟩
          refine yesR ?_
          refine tT rfl ?_
          have lb3 : bs3.length ≤ 8000 := by
            rw [pr_len tb3, List.length_append]
            have : ((addR n r).take j).length ≤ 5 := by
              rw [List.length_take]
              unfold addR
              rw [List.length_map, List.length_range]
              omega
            omega
          refine ⟨_, rfl, _, rfl, (by show 1 ≤ sizeLine; decide), fun t ht => ?_⟩
          have sT := sameNew ht (o := .tup [.int (0 + (j : Int))])
          have st := addR_take (r := r) hj
          have fin : ∀ (p : Addr) (H4 : Hp), Same (upd H3 t (.tup [.int (0 + (j : Int))])) H4 → H4 p = some (.tup ((r ++ [((j : Nat) : Int)]).map V.int)) → ∃ acc, H4 D = some (.lst acc) ∧ acc.length < sizeLine ∧ Same H1 (upd H4 D (.lst (acc ++ [V.ref p]))) ∧ ∃ bs : List Addr, (upd H4 D (.lst (acc ++ [V.ref p]))) D = some (.lst (bs.map V.ref)) ∧ TL (upd H4 D (.lst (acc ++ [V.ref p]))) bs (((rowsR n i).take i2).flatMap (addR n) ++ (addR n r).take (j + 1)) := fun p H4 s4 ep => by
            have s34 := sT.trans s4
            have eD4 := s34 _ _ eD3
            refine ⟨_, eD4, small9000 (by rw [List.length_map]; omega), sameUp (s3.trans s34) hD, bs3 ++ [p], by rw [upd_same, List.map_append]; rfl, ?_⟩
            rw [st, ← List.append_assoc]
            exact TL.put (pr_snoc (TL.same tb3 s34) ep) eD4
          refine ⟨a, t, r.map V.int, [.int (0 + (j : Int))], rfl, rfl, SqT.of (sT _ _ (s3 _ _ ea)), SqT.of upd_same, Nat.le_of_lt (small9000 (by rw [List.length_map]; show r.length + 1 ≤ 9000; omega)), fun e => ?_, fun _ e => absurd e (by simp), fun _ _ p hp => ?_⟩
          · have r0 : r = [] := List.map_eq_nil_iff.mp e
            exact fin t _ (Same.refl _) (by rw [r0, upd_same, Int.zero_add]; rfl)
          · refine fin p _ (sameNew hp) ?_
            rw [upd_same, List.map_append, Int.zero_add]
            rfl
        · rintro H3 ⟨s3, bs3, eD3, tb3⟩
          refine ⟨s3, bs3, eD3, ?_⟩
          rw [flat_take hr9]
          have : (addR n r).take n = addR n r := List.take_of_length_le (by unfold addR; rw [List.length_map, List.length_range]; exact Nat.le_refl _)
          rw [this] at tb3
          exact tb3
      · rintro H2 ⟨s2, bs, eD, tb⟩
        rw [List.length_map, las, List.take_length] at tb
        have lb := pr_len tb
        have fl : ((rowsR n i).flatMap (addR n)).length ≤ 3500 := by
          have := flat_len (f := addR n) (m := 5) (l := rowsR n i) fun x _ => by
            unfold addR
            rw [List.length_map, List.length_range]
            exact n5
          omega
        have lrow : ∀ r ∈ (rowsR n i).flatMap (addR n), r.length = i + 1 ∧ r ≠ [] := fun r m => by
          obtain ⟨r0, m0, m1⟩ := List.mem_flatMap.mp m
          obtain ⟨x, _, rfl⟩ := List.mem_map.mp m1
          exact ⟨by rw [List.length_append, rs2 r0 m0]; rfl, by simp⟩
        refine ⟨_, rfl, D, rfl, ⟨_, SqL.of eD⟩, fun D2 hD2 => lc_list (xs := bs.map V.ref) (fun i3 H' => Same H2 H' ∧ ∃ cs : List Addr, H' D2 = some (.lst (cs.map V.ref)) ∧ TL H' cs ((((rowsR n i).flatMap (addR n)).take i3).filter (keepR n))) ⟨sameNew hD2, [], upd_same, .nil⟩ (fun i3 H' _ hp => SqL.of (hp.1 _ _ eD)) ?_ ?_⟩
        · rintro i3 x H3 hx ⟨s3, cs, eC, tc⟩
          obtain ⟨a, ha, rfl⟩ := mapR_at hx
          obtain ⟨r, hr9, ea⟩ := pr_at tb ha
          obtain ⟨lr, rne⟩ := lrow r (List.mem_of_getElem? hr9)
          have lc3 := pr_len tc
          have lc4 : cs.length ≤ 3500 := by
            rw [lc3]
            have h1 := List.length_filter_le (keepR n) (((rowsR n i).flatMap (addR n)).take i3)
            rw [List.length_take] at h1
            omega
          have step : (((rowsR n i).flatMap (addR n)).take (i3 + 1)).filter (keepR n) = (((rowsR n i).flatMap (addR n)).take i3).filter (keepR n) ++ (if keepR n r then [r] else []) := by
            rw [List.take_add_one, hr9, List.filter_append]
            congr 1
            cases c : keepR n r <;> simp [List.filter, c]
          refine ⟨rfl, ?_⟩
          refine ⟨_, rfl, a, r, rfl, SqT.of (s3 _ _ ea), rne, by omega, fun H4 s4 => ?_⟩
          refine ⟨_, rfl, _, rfl, a, _, rfl, .inr (SqT.of (s4 _ _ (s3 _ _ ea))), _, _, rfl, rfl, _, _, rfl, rfl, _, rfl, ?_⟩
          rw [List.length_map]
          have kd : decide (gapsI r ≤ (n : Int) - ((r.length : Nat) : Int)) = keepR n r := rfl
          cases c : keepR n r with
          | false =>
            rw [c] at kd step
            refine tF kd ⟨s3.trans s4, cs, s4 _ _ eC, ?_⟩
            rw [step]
            simpa using TL.same tc s4
          | true =>
            rw [c] at kd step
            refine tT kd ?_
            refine ⟨_, rfl, _, s4 _ _ eC, small9000 (by rw [List.length_map]; omega), sameUp (s3.trans s4) hD2, cs ++ [a], by rw [upd_same, List.map_append]; rfl, ?_⟩
            rw [step]
            exact TL.put (pr_snoc (TL.same tc s4) (s4 _ _ (s3 _ _ ea))) (s4 _ _ eC)
        · rintro H3 ⟨s3, cs, eC, tc⟩
          rw [List.length_map, lb, List.take_length] at tc
          exact ⟨D2, cs, _, _, _, _, _, rfl, s1.trans (s2.trans s3), eC, tc⟩
    · rintro σ H1 ⟨l, as, u, v, w2, y, x2, rfl, s1, el, tl⟩
      obtain ⟨ra1, ra2⟩ := rows_last n m5
      have las := pr_len tl
      refine ⟨_, rfl, l, rfl, ⟨_, SqL.of el⟩, fun D hD => itl_by (xs := as.map V.ref) (fun i2 H' => Same H1 H' ∧ ∃ qs : List Addr, H' D = some (.lst (qs.map V.ref)) ∧ RL H' qs (((rowsR n n).take i2).flatMap cutsR)) ⟨sameNew hD, [], upd_same, .nil⟩ (fun i2 H' _ hp => SqL.of (hp.1 _ _ el)) ?_ ?_⟩
      · rintro i2 x H2 hx ⟨s2, qs, eD, tq⟩
        obtain ⟨a, ha, rfl⟩ := mapR_at hx
        obtain ⟨r, hr9, ea⟩ := pr_at tl ha
        obtain ⟨lr, m0, m4⟩ := ra2 r (List.mem_of_getElem? hr9)
        have cl : ∀ x : List Int, 0 ≤ mx x → mx x ≤ 4 → (cutsR x).length ≤ 6 := fun x _ h => by
          unfold cutsR
          rw [List.length_map, List.length_range]
          omega
        have fl : (((rowsR n n).take i2).flatMap cutsR).length ≤ 4200 := by
          have := flat_len (f := cutsR) (m := 6) (l := (rowsR n n).take i2) fun x hx => by
            obtain ⟨_, a1, a2⟩ := ra2 x (List.mem_of_mem_take hx)
            exact cl x a1 a2
          have l3 : ((rowsR n n).take i2).length ≤ 700 := by rw [List.length_take]; omega
          omega
        have rne : r ≠ [] := fun e => by rw [e] at lr; exact absurd lr.symm (by show n ≠ 0; omega)
        refine ⟨rfl, ?_⟩
        refine yesR ?_
        refine tT rfl ?_
        refine ⟨_, rfl, a, r, rfl, SqT.of (s2 _ _ ea), rne, _, _, rfl, rfl, mx r + 2, rfl, by omega, by omega, itr_by (lo := 0) (n := (mx r + 2).toNat) (fun j H' => Same H1 H' ∧ ∃ qs : List Addr, H' D = some (.lst (qs.map V.ref)) ∧ RL H' qs (((rowsR n n).take i2).flatMap cutsR ++ (cutsR r).take j)) ⟨s2, qs, eD, by simpa using tq⟩ ?_ ?_⟩
        · rintro j H3 hj ⟨s3, qs3, eD3, tq3⟩
          refine ⟨rfl, ?_⟩
          refine yesR ?_
          refine tT rfl ?_
          have lb3 : qs3.length ≤ 8000 := by
            rw [pr_len tq3, List.length_append]
            have c6 := cl r m0 m4
            have : ((cutsR r).take j).length ≤ 6 := by rw [List.length_take]; omega
            omega
          refine ⟨_, rfl, _, rfl, (by show 2 ≤ sizeLine; decide), fun t ht => ?_⟩
          have sT := sameNew ht (o := .tup [.ref a, .int (0 + (j : Int))])
          have eD4 := sT _ _ eD3
          refine ⟨_, eD4, small9000 (by rw [List.length_map]; omega), sameUp (s3.trans sT) hD, qs3 ++ [t], by rw [upd_same, List.map_append]; rfl, ?_⟩
          rw [cutsR_take hj, ← List.append_assoc]
          exact RL.put (pr_snoc (RL.same tq3 sT) ⟨a, by rw [upd_same, Int.zero_add], sT _ _ (s3 _ _ ea)⟩) eD4
        · rintro H3 ⟨s3, qs3, eD3, tq3⟩
          refine ⟨s3, qs3, eD3, ?_⟩
          rw [flat_take hr9]
          have : (cutsR r).take (mx r + 2).toNat = cutsR r := List.take_of_length_le (by unfold cutsR; rw [List.length_map, List.length_range]; exact Nat.le_refl _)
          rw [this] at tq3
          exact tq3
      · rintro H2 ⟨s2, qs, eD, tq⟩
        rw [List.length_map, las, List.take_length] at tq
        exact k D qs H2 (s1.free hD) (s1.trans s2) eD tq
/-! _fits -/
def sp_fits (K : PySem.W.Frag) : Sp := fun vs H Q E => ∃ (q rt : Addr) (rs : List Int) (c : Int) (m : Nat) (wd : Int), vs = [.ref q, .int wd] ∧ RkAt H q rt rs c ∧ IsRk rs m ∧ rs.length ≤ 60 ∧ 1 ≤ wd ∧ wd ≤ 1000 ∧ ∀ H', Same H H' → Q (.bl (decide (c ≤ 2 ^ (wd - 1).toNat) && decide ((m : Int) - c ≤ 2 ^ (wd - 1).toNat))) H'
theorem sc_fits : FnScope ["ranking", "width"] ["ranking", "width"] (defScope s_fits) := ⟨rfl, rfl, rfl, by decide +kernel, rfl, by decide +kernel, by decide +kernel⟩
theorem bd_fits (T : Txt w K mg A0) : Binds K A0.d_fits ["ranking", "width"] [] := T.F_fits.binds fun _ _ _ _ _ _ us hl => match us, hl with | [_, _], _ => rfl
theorem ok_fits (T : Txt w K mg A0) : FnOk P w K mg base CX0 2 A0.a_fits A0.d_fits ["ranking", "width"] (sp_fits K) := by
  refine T.F_fits.ok sc_fits (fun vs H Q E h => ?_) (fun cdv A outer s H vs Q E hr h => ?_)
  · obtain ⟨q, rt, rs, c, m, wd, rfl, _⟩ := h
    rfl
  · obtain ⟨q, rt, rs, c, m, wd, rfl, h⟩ := h
    refine ⟨_, (pss_one (ps_ret (pe_cmpR op_le (pe_callB (cr_maxT2 rfl hr.units) (by rfl) T.b_max (by decide +kernel) (pa_cons (pe_call (ok_ranks_by_sign T) (hr.mono (by decide)) rfl T.g_ranks_by_sign T.F_ranks_by_sign.kp (bd_ranks_by_sign T) .nil pass0 (pa_cons (pv 0) pa_nil)) pa_nil)) (pe_call (ok_sign_bit T) (hr.mono (by decide)) rfl T.g_sign_bit T.F_sign_bit.kp (bd_sign_bit T) .nil pass0 (pa_cons (pv 1) pa_nil)) (nomark _)))), ?_⟩
    obtain ⟨hr, is, hz, h1, h2, k⟩ := h
    refine ⟨_, rfl, q, rt, rs, c, m, rfl, hr, is, hz, fun p H2 s2 e2 => ?_⟩
    refine ⟨p, c, (m : Int) - c, rfl, SqT.of e2, ?_⟩
    refine ⟨_, rfl, wd, rfl, h1, h2, _, _, rfl, rfl, ?_⟩
    have kk := k _ s2
    have e : (decide ((if c < (m : Int) - c then (m : Int) - c else c) ≤ 2 ^ (wd - 1).toNat)) = (decide (c ≤ 2 ^ (wd - 1).toNat) && decide ((m : Int) - c ≤ 2 ^ (wd - 1).toNat)) := by
      rw [← Bool.decide_and]
      refine decide_eq_decide.mpr ?_
      split <;> omega
    rw [← e] at kk
    exact kk
/-! _law_wide -/
def sp_law_wide (K : PySem.W.Frag) : Sp := fun vs H Q E => ∃ (p : Addr) (n : Nat), vs = [.ref p] ∧ Pool H p n ∧ n ≤ 90000 ∧ ∀ wd H', 1 ≤ wd → wd ≤ 300 → Pool H' p (n + 4) → But p H H' → Q (.int wd) H'
theorem sc_law_wide : FnScope ["pool", "some"] ["pool"] (defScope s_law_wide) := ⟨rfl, rfl, rfl, by decide +kernel, rfl, by decide +kernel, by decide +kernel⟩
theorem bd_law_wide (T : Txt w K mg A0) : Binds K A0.d_law_wide ["pool"] [] := T.F_law_wide.binds fun _ _ _ _ _ _ us hl => match us, hl with | [_], _ => rfl
theorem ok_law_wide (T : Txt w K mg A0) : FnOk P w K mg base CX0 2 A0.a_law_wide A0.d_law_wide ["pool"] (sp_law_wide K) := by
  refine T.F_law_wide.ok sc_law_wide (fun vs H Q E h => ?_) (fun cdv A outer s H vs Q E hr h => ?_)
  · obtain ⟨p, n, rfl, _⟩ := h
    rfl
  · obtain ⟨p, n, rfl, h⟩ := h
    refine ⟨_, (pss_cons (ps_set (i := 1) sc_law_wide.nd rfl (Or.inl rfl) (pe_lst (pa_cons (pe_op op_add pe_int (pe_call (ok_law_draw T) (hr.mono (by decide)) rfl T.g_law_draw T.F_law_draw.kp (bd_law_draw T) .nil pass0 (pa_cons (pv 0) (pa_cons pe_int pa_nil)))) (pa_cons (pe_ix ix_list (pe_lst (pa_cons pe_int (pa_cons pe_int (pa_cons pe_int (pa_cons pe_int (pa_cons pe_int pa_nil)))))) (pe_call (ok_law_draw T) (hr.mono (by decide)) rfl T.g_law_draw T.F_law_draw.kp (bd_law_draw T) .nil pass0 (pa_cons (pv 0) (pa_cons pe_int pa_nil))) (fun _ _ => rfl)) (pa_cons (pe_op op_add pe_int (pe_call (ok_law_draw T) (hr.mono (by decide)) rfl T.g_law_draw T.F_law_draw.kp (bd_law_draw T) .nil pass0 (pa_cons (pv 0) (pa_cons pe_int pa_nil)))) pa_nil)))))
        (pss_one (ps_ret (pe_ix ix_list (pv 1) (pe_call (ok_law_draw T) (hr.mono (by decide)) rfl T.g_law_draw T.F_law_draw.kp (bd_law_draw T) .nil pass0 (pa_cons (pv 0) (pa_cons pe_int pa_nil))) (fun _ _ => rfl))))), ?_⟩
    obtain ⟨pl, hn, k⟩ := h
    refine ⟨_, rfl, p, 4, n, rfl, pl, by omega, by decide, by decide, fun d1 H1 l1 u1 pl1 b1 => ?_⟩
    refine ⟨_, _, rfl, rfl, ?_⟩
    refine ⟨(by show 5 ≤ sizeLine; decide), fun q hq => ?_⟩
    refine ⟨_, rfl, p, 5, n + 1, rfl, pl1.new hq, by omega, by decide, by decide, fun d2 H2 l2 u2 pl2 b2 => ?_⟩
    have nqp : q ≠ p := pl1.ne hq
    obtain ⟨w5, e5, i5, j5⟩ : ∃ w5 : Int, atI [V.int 8, V.int 16, V.int 32, V.int 64, V.int 300] d2 = some (.int w5) ∧ 1 ≤ w5 ∧ w5 ≤ 300 := by
      have : d2 = 0 ∨ d2 = 1 ∨ d2 = 2 ∨ d2 = 3 ∨ d2 = 4 := by omega
      rcases this with rfl | rfl | rfl | rfl | rfl <;> exact ⟨_, rfl, by decide, by decide⟩
    refine ⟨q, _, d2, .int w5, rfl, rfl, SqL.of (b2 q _ nqp upd_same), e5, ?_⟩
    refine ⟨_, rfl, p, 300, n + 2, rfl, pl2, by omega, by decide, by decide, fun d3 H3 l3 u3 pl3 b3 => ?_⟩
    refine ⟨_, _, rfl, rfl, ?_⟩
    refine ⟨(by show 3 ≤ sizeLine; decide), fun r hr' => ?_⟩
    have nrp : r ≠ p := pl3.ne hr'
    refine ⟨_, rfl, _, rfl, p, 3, n + 3, rfl, pl3.new hr', by omega, by decide, by decide, fun d4 H4 l4 u4 pl4 b4 => ?_⟩
    obtain ⟨w3, e3, i3, j3⟩ : ∃ w3 : Int, atI [V.int (1 + d1), V.int w5, V.int (1 + d3)] d4 = some (.int w3) ∧ 1 ≤ w3 ∧ w3 ≤ 300 := by
      have : d4 = 0 ∨ d4 = 1 ∨ d4 = 2 := by omega
      rcases this with rfl | rfl | rfl
      · exact ⟨_, rfl, by omega, by omega⟩
      · exact ⟨_, rfl, i5, j5⟩
      · exact ⟨_, rfl, by omega, by omega⟩
    refine ⟨r, _, d4, .int w3, rfl, rfl, SqL.of (b4 r _ nrp upd_same), e3, ?_⟩
    exact k w3 H4 i3 j3 pl4 (b1.trans ((But.new hq).trans (b2.trans (b3.trans ((But.new hr').trans b4)))))
/-! _law_bent -/
def sp_law_bent (K : PySem.W.Frag) (A0 : Ad) : Sp := fun vs H Q E => ∃ (p : Addr) (n : Nat) (q rt : Addr) (rs : List Int) (c : Int), vs = [.ref p, .ref q] ∧ Pool H p n ∧ n ≤ 90000 ∧ RkAt H q rt rs c ∧ 1 ≤ rs.length ∧ rs.length ≤ 5 ∧ (∀ r ∈ rs, 0 ≤ r ∧ r ≤ 4) ∧ ∀ q' rt' rs' c' H', Pool H' p (n + 3) → But p H H' → RkAt H' q' rt' rs' c' → rs'.length = rs.length → (∀ r ∈ rs', -1 ≤ r ∧ r ≤ 20) → Q (.ref q') H'
theorem sc_law_bent : FnScope ["pool", "one", "ranks", "cut", "way", "spot", "rank"] ["pool", "one"] (defScope s_law_bent) := ⟨rfl, rfl, rfl, by decide +kernel, rfl, by decide +kernel, by decide +kernel⟩
theorem bd_law_bent (T : Txt w K mg A0) : Binds K A0.d_law_bent ["pool", "one"] [] := T.F_law_bent.binds fun _ _ _ _ _ _ us hl => match us, hl with | [_, _], _ => rfl
set_option maxHeartbeats 0 in
theorem ok_law_bent (T : Txt w K mg A0) : FnOk P w K mg base CX0 2 A0.a_law_bent A0.d_law_bent ["pool", "one"] (sp_law_bent K A0) := by
  refine T.F_law_bent.ok sc_law_bent (fun vs H Q E h => ?_) (fun cdv A outer s H vs Q E hr h => ?_)
  · obtain ⟨p, n, q, rt, rs, c, rfl, _⟩ := h
    rfl
  · obtain ⟨p, n, q, rt, rs, c, rfl, h⟩ := h
    refine ⟨_, (pss_cons (ps_par (i := 2) (j := 3) rfl sc_law_bent.nd rfl rfl (by decide) rfl rfl (pa_cons (pe_callTy call_list_of (by rfl) T.b_list (by decide +kernel) (pa_cons (pe_ix ix_tup (pv 1) pe_int (fun _ _ => rfl)) pa_nil)) (pa_cons (pe_ix ix_tup (pv 1) pe_int (fun _ _ => rfl)) pa_nil)) rfl)
        (pss_cons (ps_par (i := 4) (j := 5) rfl sc_law_bent.nd rfl rfl (by decide) rfl rfl (pa_cons (pe_call (ok_law_draw T) (hr.mono (by decide)) rfl T.g_law_draw T.F_law_draw.kp (bd_law_draw T) .nil pass0 (pa_cons (pv 0) (pa_cons pe_int pa_nil))) (pa_cons (pe_call (ok_law_draw T) (hr.mono (by decide)) rfl T.g_law_draw T.F_law_draw.kp (bd_law_draw T) .nil pass0 (pa_cons (pv 0) (pa_cons (pe_callB call_len_seq (by rfl) T.b_len (by decide +kernel) (pa_cons (pv 2) pa_nil)) pa_nil))) pa_nil)) rfl)
        (Evl.pss_cut (ps_if (pt_cmpR op_eq (pv 4) pe_int (nomark _)) (pss_one (ps_setLc (i := 2) (own := [("rank", 6)]) (g := gName 6) rfl sc_law_bent.nd rfl rfl (sw_true rfl rfl rfl (by decide +kernel)) (pi_list (pv 2)) (blkOk_by (own := [("rank", 6)]) (N := ["pool", "one", "ranks", "cut", "way", "spot", "rank"]) (sc := defScope s_law_bent) (by decide +kernel)) (fun _ _ _ _ _ => pg_name (i := 6) sc_law_bent.nd rfl (Or.inl rfl)) (fun _ _ _ _ _ => pts_nil) (fun _ _ _ _ _ => (pe_op op_add (pv 6) pe_int)))) (pss_one (ps_if (pt_cmpR op_eq (pv 4) pe_int (nomark _)) (pss_one (ps_asg (pe_op op_add (pe_callB (cr_max rfl) (by rfl) T.b_max (by decide +kernel) (pa_cons (pv 2) pa_nil)) pe_int) (pg_sub (pv 2) (pv 5) set_list))) (pss_one (ps_if (pt_cmpR op_eq (pv 4) pe_int (nomark _)) (pss_one (ps_asg (pe_un un_neg pe_int) (pg_sub (pv 2) (pv 5) set_list))) (pss_one (ps_if (pt_cmpR op_eq (pv 4) pe_int (nomark _)) (pss_one (ps_set (i := 3) sc_law_bent.nd rfl (Or.inl rfl) (pe_ix ix_list (pe_lst (pa_cons (pe_un un_neg pe_int) (pa_cons (pe_op op_add (pe_callB (cr_max rfl) (by rfl) T.b_max (by decide +kernel) (pa_cons (pv 2) pa_nil)) pe_int) (pa_cons (pe_op op_add (pe_callB (cr_max rfl) (by rfl) T.b_max (by decide +kernel) (pa_cons (pv 2) pa_nil)) pe_int) (pa_cons (pe_op op_sub pe_int (pe_op op_pow pe_int pe_int)) pa_nil))))) (pe_call (ok_law_draw T) (hr.mono (by decide)) rfl T.g_law_draw T.F_law_draw.kp (bd_law_draw T) .nil pass0 (pa_cons (pv 0) (pa_cons pe_int pa_nil))) (fun _ _ => rfl)))) pss_nil)))))))
        (pss_one (ps_ret (pe_tup (pa_cons (pe_callTy call_tuple_of (by rfl) T.b_tuple (by decide +kernel) (pa_cons (pv 2) pa_nil)) (pa_cons (pv 3) pa_nil)))))))), ?_⟩
    obtain ⟨pl, hn, hr1, n1, n5, bnd, k⟩ := h
    refine ⟨_, rfl, q, _, 0, .ref rt, rfl, rfl, SqT.of hr1.1, rfl, rt, _, rfl, .inr (SqT.of hr1.2), fun l hl => ?_⟩
    have sl := sameNew hl (o := .lst (rs.map V.int))
    refine ⟨_, rfl, q, _, 1, .int c, rfl, rfl, SqT.of (sl _ _ hr1.1), rfl, ?_⟩
    refine ⟨_, _, rfl, ?_⟩
    have nlp : l ≠ p := by
      obtain ⟨_, _, _, ep, _⟩ := pl
      exact (ne_of_none ep hl).symm
    refine ⟨_, rfl, p, 6, n, rfl, pl.new hl, by omega, by decide, by decide, fun way H1 y0 y1 pl1 b1 => ?_⟩
    have el1 : H1 l = some (.lst (rs.map V.int)) := b1 _ _ nlp upd_same
    refine ⟨_, rfl, _, rfl, l, _, rfl, .inl (SqL.of el1), p, _, n + 1, rfl, pl1, by omega, by rw [List.length_map]; omega, by rw [List.length_map]; exact Int.lt_of_le_of_lt (show _ ≤ (5 : Int) by omega) (by decide), fun spot H2 z0 z1 pl2 b2 => ?_⟩
    rw [List.length_map] at z1
    have el2 := b2 _ _ nlp el1
    refine ⟨_, _, rfl, ?_⟩
    have b02 : But p H H2 := (But.of sl).trans (b1.trans b2)
    refine ⟨fun σ H' => ∃ (l' : Addr) (rs' : List Int) (c' : Int) (u : Option V), σ = [some (.ref p), some (.ref q), some (.ref l'), some (.int c'), some (.int way), some (.int spot), u] ∧ But p H H' ∧ Pool H' p (n + 3) ∧ H' l' = some (.lst (rs'.map V.int)) ∧ rs'.length = rs.length ∧ (∀ r ∈ rs', -1 ≤ r ∧ r ≤ 20), ?_, ?_⟩
    · refine ⟨_, rfl, rfl, _, rfl, ?_⟩
      have ne : rs ≠ [] := fun e => by rw [e] at n1; exact absurd n1 (by decide)
      by_cases c0 : way = 0
      · refine tT (by simp [c0]) ?_
        refine ⟨_, rfl, l, rfl, ⟨_, SqL.of el2⟩, fun D hD => lc_intsL (fun x => x + 1) (SqL.of el2) (by omega) hD (fun _ => rfl) (fun x H3 Q3 _ s3 q3 => ?_) (fun H3 s3 e3 => ?_)⟩
        · exact ⟨_, rfl, _, _, rfl, rfl, q3 _ (Same.refl _)⟩
        · refine ⟨D, rs.map (fun x => x + 1), c, _, rfl, b02.trans (But.of s3), (pl2.same s3).mono (by omega), e3, by rw [List.length_map], fun r m => ?_⟩
          obtain ⟨r', m', rfl⟩ := List.mem_map.mp m
          have := bnd r' m'
          show -1 ≤ r' + 1 ∧ r' + 1 ≤ 20
          omega
      refine tF (by simp [c0]) ?_
      refine ⟨_, rfl, rfl, _, rfl, ?_⟩
      by_cases c1 : way = 1
      · refine tT (by simp [c1]) ?_
        refine ⟨_, rfl, l, rs, rfl, SqL.of el2, by omega, fun m hm mb => ⟨_, _, rfl, rfl, ?_⟩⟩
        have ix : ixN (List.map V.int rs).length spot = some spot.toNat := by
          unfold ixN
          rw [if_pos z0, if_pos (by rw [List.length_map]; exact z1)]
        refine ⟨_, rfl, _, rfl, l, _, spot, spot.toNat, rfl, rfl, el2, ix, ?_⟩
        refine ⟨l, rs.set spot.toNat (m + 2), c, _, rfl, fun b o hb e => by rw [upd_ne (ne_of_none e hl)]; exact b02 b o hb e, (pl2.put nlp).mono (by omega), by rw [upd_same, List.map_set], by rw [List.length_set], fun r mr => ?_⟩
        rcases List.mem_or_eq_of_mem_set mr with mr | rfl
        · have := bnd r mr
          omega
        · have := bnd m hm
          omega
      refine tF (by simp [c1]) ?_
      refine ⟨_, rfl, rfl, _, rfl, ?_⟩
      by_cases c2 : way = 2
      · refine tT (by simp [c2]) ?_
        refine ⟨_, rfl, ?_⟩
        have ix : ixN (List.map V.int rs).length spot = some spot.toNat := by
          unfold ixN
          rw [if_pos z0, if_pos (by rw [List.length_map]; exact z1)]
        refine ⟨_, rfl, _, rfl, l, _, spot, spot.toNat, rfl, rfl, el2, ix, ?_⟩
        refine ⟨l, rs.set spot.toNat (-1), c, _, rfl, fun b o hb e => by rw [upd_ne (ne_of_none e hl)]; exact b02 b o hb e, (pl2.put nlp).mono (by omega), by rw [upd_same, List.map_set], by rw [List.length_set], fun r mr => ?_⟩
        rcases List.mem_or_eq_of_mem_set mr with mr | rfl
        · have := bnd r mr
          omega
        · decide
      refine tF (by simp [c2]) ?_
      refine ⟨_, rfl, rfl, _, rfl, ?_⟩
      by_cases c3 : way = 3
      · refine tT (by simp [c3]) ?_
        refine ⟨_, rfl, ?_⟩
        refine ⟨_, rfl, l, rs, rfl, SqL.of el2, by omega, fun m hm mb => ⟨_, _, rfl, rfl, ?_⟩⟩
        refine ⟨_, rfl, l, rs, rfl, SqL.of el2, by omega, fun m2 hm2 mb2 => ⟨_, _, rfl, rfl, ?_⟩⟩
        refine ⟨_, _, rfl, rfl, ⟨by decide, by decide, by decide⟩, _, _, rfl, rfl, ?_⟩
        refine ⟨(by show 4 ≤ sizeLine; decide), fun r hr9 => ?_⟩
        have nrp : r ≠ p := pl2.ne hr9
        refine ⟨_, rfl, p, 4, n + 1 + 1, rfl, pl2.new hr9, by omega, by decide, by decide, fun d H3 l3 u3 pl3 b3 => ?_⟩
        obtain ⟨w3, e3⟩ : ∃ w3 : Int, atI [V.int (-1), V.int (m + 2), V.int (m2 + 3), V.int (0 - 10 ^ (20 : Int).toNat)] d = some (.int w3) := by
          have : d = 0 ∨ d = 1 ∨ d = 2 ∨ d = 3 := by omega
          rcases this with rfl | rfl | rfl | rfl <;> exact ⟨_, rfl⟩
        refine ⟨r, _, d, .int w3, rfl, rfl, SqL.of (b3 r _ nrp upd_same), e3, ?_⟩
        exact ⟨l, rs, w3, _, rfl, b02.trans ((But.new hr9).trans b3), pl3, b3 l _ nlp ((sameNew hr9) _ _ el2), rfl, fun r m => by have := bnd r m; omega⟩
      refine tF (by simp [c3]) ?_
      exact ⟨l, rs, c, _, rfl, b02, pl2.mono (by omega), el2, rfl, fun r m => by have := bnd r m; omega⟩
    · rintro σ H3 ⟨l', rs', c', u, rfl, b3, pl3, e3, ln, bd⟩
      refine ⟨_, rfl, l', _, rfl, .inl ⟨SqL.of e3, fun t ht => ?_⟩⟩
      have st := sameNew ht (o := .tup (rs'.map V.int))
      refine ⟨_, rfl, (by show 2 ≤ sizeLine; decide), fun q' hq' => ?_⟩
      have sq := sameNew hq' (o := .tup [.ref t, .int c'])
      exact k q' t rs' c' _ ((pl3.same st).same sq) (b3.trans (But.of (st.trans sq))) ⟨upd_same, sq _ _ upd_same⟩ ln bd
/-! check_width -/
def sp_check_width (K : PySem.W.Frag) (A0 : Ad) : Sp := fun vs H Q E => ∃ wd : Int, vs = [.int wd] ∧ (1 ≤ wd → Q .non H) ∧ (wd < 1 → Lets A0.c_InvalidWidth (.int wd) H E)
theorem sc_check_width : FnScope ["width"] ["width"] (defScope s_check_width) := ⟨rfl, rfl, rfl, by decide +kernel, rfl, by decide +kernel, by decide +kernel⟩
theorem bd_check_width (T : Txt w K mg A0) : Binds K A0.d_check_width ["width"] [] := T.F_check_width.binds fun _ _ _ _ _ _ us hl => match us, hl with | [_], _ => rfl
theorem ok_check_width (T : Txt w K mg A0) : FnOk P w K mg base (L2.CX P w) 3 A0.a_check_width A0.d_check_width ["width"] (sp_check_width K A0) := by
  refine T.F_check_width.okX sc_check_width (fun vs H Q E h => ?_) (fun cdv A outer s H vs Q E hr h => ?_)
  · obtain ⟨wd, rfl, _⟩ := h
    rfl
  · obtain ⟨wd, rfl, h⟩ := h
    refine ⟨_, (pss_one (ps_if (pt_cmpR op_lt (pv 0) pe_int (nomark _)) (pss_one (ps_raise rfl (takes_of rfl rfl rfl rfl) (pmk_oex (T.er_InvalidWidth).ox (T.er_InvalidWidth).ii (T.er_InvalidWidth).ti (okI_InvalidWidth T) (hr.mono (by decide)) (bdI_InvalidWidth T) .nil pass0 rfl T.gc_InvalidWidth (pa_cons (pv 0) pa_nil)))) pss_nil)), ?_⟩
    obtain ⟨k, e⟩ := h
    refine ⟨_, rfl, _, _, rfl, rfl, _, rfl, ?_⟩
    by_cases c : wd < 1
    · refine tT (decide_eq_true c) ?_
      exact ⟨_, rfl, mkO_end (e c).now⟩
    · refine tF (decide_eq_false c) ?_
      exact k (by omega)
/-! check_words -/
def sp_check_words (K : PySem.W.Frag) (A0 : Ad) : Sp := fun vs H Q E => ∃ (wd : Int) (t : Addr) (xs : List Int), vs = [.int wd, .ref t] ∧ 1 ≤ wd ∧ wd ≤ 1000 ∧ SqT K H t (xs.map V.int) ∧ ((∀ x ∈ xs, Word wd x) → ∀ H', Same H H' → Q .non H') ∧ ∀ i, BadAt wd xs i → Lets A0.c_InvalidWords (.int (i : Nat)) H E
theorem sc_check_words : FnScope ["width", "words", "index", "word"] ["width", "words"] (defScope s_check_words) := ⟨rfl, rfl, rfl, by decide +kernel, rfl, by decide +kernel, by decide +kernel⟩
theorem bd_check_words (T : Txt w K mg A0) : Binds K A0.d_check_words ["width", "words"] [] := T.F_check_words.binds fun _ _ _ _ _ _ us hl => match us, hl with | [_, _], _ => rfl
theorem ok_check_words (T : Txt w K mg A0) : FnOk P w K mg base (L2.CX P w) 3 A0.a_check_words A0.d_check_words ["width", "words"] (sp_check_words K A0) := by
  refine T.F_check_words.okX sc_check_words (fun vs H Q E h => ?_) (fun cdv A outer s H vs Q E hr h => ?_)
  · obtain ⟨wd, t, xs, rfl, _⟩ := h
    rfl
  · obtain ⟨wd, t, xs, rfl, h⟩ := h
    refine ⟨_, (pss_one (ps_for (passes_of rfl) rfl (pi_enumT rfl T.b_enumerate (pa_cons (pv 1) pa_nil)) (pg_tup rfl (pgs_cons (pg_name (i := 2) sc_check_words.nd rfl (Or.inl rfl)) (pgs_cons (pg_name (i := 3) sc_check_words.nd rfl (Or.inl rfl)) pgs_nil))) (pss_one (ps_if (pt_not (pt_val (pe_call (ok_is_word T) (hr.mono (by decide)) rfl T.g_is_word T.F_is_word.kp (bd_is_word T) .nil pass0 (pa_cons (pv 0) (pa_cons (pv 3) pa_nil))))) (pss_one (ps_raise rfl (takes_of rfl rfl rfl rfl) (pmk_oex (T.er_InvalidWords).ox (T.er_InvalidWords).ii (T.er_InvalidWords).ti (okI_InvalidWords T) (hr.mono (by decide)) (bdI_InvalidWords T) .nil pass0 rfl T.gc_InvalidWords (pa_cons (pv 2) pa_nil)))) pss_nil)))), ?_⟩
    obtain ⟨h1, h2, ht, k, e⟩ := h
    refine ⟨_, rfl, t, _, rfl, ht, for_it walk_enumT (fun i σ H' => ∃ u v, σ = [some (.int wd), some (.ref t), u, v] ∧ Same H H' ∧ ∀ (j : Nat) (y : Int), j < i → xs[j]? = some y → Word wd y) ⟨none, none, rfl, Same.refl H, fun j y z => absurd z (Nat.not_lt_zero j)⟩ (fun i σ H' _ hp => ?_) ?_ ?_⟩
    · obtain ⟨_, _, _, s, _⟩ := hp
      exact sameT s ht
    · rintro i x σ H1 H2 hi ⟨u, v, rfl, s, pre⟩ ⟨T1, x1, y, rfl, fr, rfl, e1, e2⟩
      cases e1
      obtain ⟨z, hz, rfl⟩ := map_at e2
      have s2 : Same H (upd H1 T1 (.tup [.int (i : Nat), .int z])) := s.trans (sameNew fr)
      refine ⟨T1, _, rfl, SqT.of upd_same, rfl, _, _, rfl, _, _, rfl, rfl, ?_⟩
      refine ⟨_, rfl, _, rfl, wd, z, rfl, h1, h2, _, rfl, ?_⟩
      have bad : ¬ Word wd z → Lets A0.c_InvalidWords (.int (i : Nat)) (upd H1 T1 (.tup [.int (i : Nat), .int z])) E := fun c => (e i ⟨z, hz, c, pre⟩).later s2
      by_cases c : 0 ≤ z ∧ z < 2 ^ wd.toNat
      · refine tF (by rw [decide_eq_true c.1, decide_eq_true c.2]; rfl) ?_
        refine ⟨_, _, rfl, s2, fun j y hj hy => ?_⟩
        by_cases cj : j = i
        · rw [cj, hz] at hy
          cases hy
          exact c
        · exact pre j y (by omega) hy
      · refine tT (by rw [← Bool.decide_and, decide_eq_false c]; rfl) ?_
        exact ⟨_, rfl, mkO_end (bad c).now⟩
    · rintro σ H' ⟨u, v, rfl, s, pre⟩
      refine k (fun x m => ?_) H' s
      obtain ⟨j, hj, e⟩ := List.mem_iff_getElem.mp m
      exact pre j x (by rw [List.length_map]; exact hj) (by rw [List.getElem?_eq_getElem hj, e])
/-! check_ranking -/
def sp_check_ranking (K : PySem.W.Frag) (A0 : Ad) : Sp := fun vs H Q E => ∃ (q rt : Addr) (rs : List Int) (c : Int), vs = [.ref q] ∧ RkAt H q rt rs c ∧ rs.length ≤ 60 ∧ (okR rs c = true → ∀ H', Same H H' → Q .non H') ∧ (okR rs c = false → Lets A0.c_InvalidRanking (.ref q) H E)
theorem sc_check_ranking : FnScope ["ranking"] ["ranking"] (defScope s_check_ranking) := ⟨rfl, rfl, rfl, by decide +kernel, rfl, by decide +kernel, by decide +kernel⟩
theorem bd_check_ranking (T : Txt w K mg A0) : Binds K A0.d_check_ranking ["ranking"] [] := T.F_check_ranking.binds fun _ _ _ _ _ _ us hl => match us, hl with | [_], _ => rfl
theorem ok_check_ranking (T : Txt w K mg A0) : FnOk P w K mg base (L2.CX P w) 3 A0.a_check_ranking A0.d_check_ranking ["ranking"] (sp_check_ranking K A0) := by
  refine T.F_check_ranking.okX sc_check_ranking (fun vs H Q E h => ?_) (fun cdv A outer s H vs Q E hr h => ?_)
  · obtain ⟨q, rt, rs, c, rfl, _⟩ := h
    rfl
  · obtain ⟨q, rt, rs, c, rfl, h⟩ := h
    refine ⟨_, (pss_one (ps_if (pt_not (pt_val (pe_call (ok_is_ranking T) (hr.mono (by decide)) rfl T.g_is_ranking T.F_is_ranking.kp (bd_is_ranking T) .nil pass0 (pa_cons (pv 0) pa_nil)))) (pss_one (ps_raise rfl (takes_of rfl rfl rfl rfl) (pmk_oex (T.er_InvalidRanking).ox (T.er_InvalidRanking).ii (T.er_InvalidRanking).ti (okI_InvalidRanking T) (hr.mono (by decide)) (bdI_InvalidRanking T) .nil pass0 rfl T.gc_InvalidRanking (pa_cons (pv 0) pa_nil)))) pss_nil)), ?_⟩
    obtain ⟨hr, hz, k, e⟩ := h
    refine ⟨_, rfl, q, rt, rs, c, rfl, hr, hz, fun H1 s1 => ⟨_, rfl, ?_⟩⟩
    by_cases o : okR rs c = true
    · refine tF (by rw [o]; rfl) ?_
      exact k o H1 s1
    · refine tT (by simp [o]) ?_
      exact ⟨_, rfl, mkO_end ((e (by simpa using o)).later s1).now⟩
/-! check_items -/
def sp_check_items (K : PySem.W.Frag) (A0 : Ad) : Sp := fun vs H Q E => ∃ n : Int, vs = [.int n] ∧ (1 ≤ n → n ≤ 5 → Q .non H) ∧ (¬ (1 ≤ n ∧ n ≤ 5) → Lets A0.c_InvalidNumber (.int n) H E)
theorem sc_check_items : FnScope ["items"] ["items"] (defScope s_check_items) := ⟨rfl, rfl, rfl, by decide +kernel, rfl, by decide +kernel, by decide +kernel⟩
theorem bd_check_items (T : Txt w K mg A0) : Binds K A0.d_check_items ["items"] [] := T.F_check_items.binds fun _ _ _ _ _ _ us hl => match us, hl with | [_], _ => rfl
theorem ok_check_items (T : Txt w K mg A0) : FnOk P w K mg base (L2.CX P w) 3 A0.a_check_items A0.d_check_items ["items"] (sp_check_items K A0) := by
  refine T.F_check_items.okX sc_check_items (fun vs H Q E h => ?_) (fun cdv A outer s H vs Q E hr h => ?_)
  · obtain ⟨n, rfl, _⟩ := h
    rfl
  · obtain ⟨n, rfl, h⟩ := h
    refine ⟨_, (pss_one (ps_if (PW.pt (pw_or (pt_cmpR op_lt (pv 0) pe_int (nomark _)) (pw_or1 (pt_cmpR op_gt (pv 0) (pe_glob (v := .int 5) rfl (T.gi_MOST_ITEMS).choose_spec ⟨_, rfl⟩) (nomark _))))) (pss_one (ps_raise rfl (takes_of rfl rfl rfl rfl) (pmk_oex (T.er_InvalidNumber).ox (T.er_InvalidNumber).ii (T.er_InvalidNumber).ti (okI_InvalidNumber T) (hr.mono (by decide)) (bdI_InvalidNumber T) .nil pass0 rfl T.gc_InvalidNumber (pa_cons (pv 0) pa_nil)))) pss_nil)), ?_⟩
    obtain ⟨k, e⟩ := h
    refine ⟨_, rfl, _, _, rfl, rfl, _, rfl, ?_⟩
    by_cases c : n < 1
    · refine tT (decide_eq_true c) ?_
      exact ⟨_, rfl, mkO_end (e (by omega)).now⟩
    refine tF (decide_eq_false c) ?_
    refine ⟨_, rfl, _, _, rfl, rfl, _, rfl, ?_⟩
    by_cases c2 : 5 < n
    · refine tT (decide_eq_true c2) ?_
      exact ⟨_, rfl, mkO_end (e (by omega)).now⟩
    refine tF (decide_eq_false c2) ?_
    exact k (by omega) (by omega)
/-! ranking_of -/
def sp_ranking_of (K : PySem.W.Frag) (A0 : Ad) : Sp := fun vs H Q E => ∃ (wd : Int) (t : Addr) (xs : List Int), vs = [.int wd, .ref t] ∧ wd ≤ 1000 ∧ SqT K H t (xs.map V.int) ∧ xs.length ≤ 60 ∧ (1 ≤ wd → (∀ x ∈ xs, Word wd x) → ∀ q rt H', Same H H' → RkAt H' q rt (rks xs) (ct xs (2 ^ (wd - 1).toNat)) → Q (.ref q) H') ∧ (wd < 1 → Lets A0.c_InvalidWidth (.int wd) H E) ∧ (1 ≤ wd → ∀ i, BadAt wd xs i → Lets A0.c_InvalidWords (.int (i : Nat)) H E)
theorem sc_ranking_of : FnScope ["width", "words", "different", "not_negative", "word"] ["width", "words"] (defScope s_ranking_of) := ⟨rfl, rfl, rfl, by decide +kernel, rfl, by decide +kernel, by decide +kernel⟩
theorem bd_ranking_of (T : Txt w K mg A0) : Binds K A0.d_ranking_of ["width", "words"] [] := T.F_ranking_of.binds fun _ _ _ _ _ _ us hl => match us, hl with | [_, _], _ => rfl
set_option maxHeartbeats 0 in
theorem ok_ranking_of (T : Txt w K mg A0) : FnOk P w K mg base (L2.CX P w) 4 A0.a_ranking_of A0.d_ranking_of ["width", "words"] (sp_ranking_of K A0) := by
  refine T.F_ranking_of.okX sc_ranking_of (fun vs H Q E h => ?_) (fun cdv A outer s H vs Q E hr h => ?_)
  · obtain ⟨wd, t, xs, rfl, _⟩ := h
    rfl
  · obtain ⟨wd, t, xs, rfl, h⟩ := h
    refine ⟨_, (pss_cons (ps_expr (pe_callS (ok_check_width T) (hr.mono (by decide)) rfl T.g_check_width T.F_check_width.kp (bd_check_width T) (fun σ => passAt (takes_of rfl rfl rfl rfl) σ) (pa_cons (pv 0) pa_nil)))
        (pss_cons (ps_expr (pe_callS (ok_check_words T) (hr.mono (by decide)) rfl T.g_check_words T.F_check_words.kp (bd_check_words T) (fun σ => passAt (takes_of rfl rfl rfl rfl) σ) (pa_cons (pv 0) (pa_cons (pv 1) pa_nil))))
        (pss_cons (ps_set (i := 2) sc_ranking_of.nd rfl (Or.inr rfl) (pe_callB (cr_sortedSet rfl) (by rfl) T.b_sorted (by decide +kernel) (pa_cons (pe_callTy (cr_setOf rfl) (by rfl) T.b_set (by decide +kernel) (pa_cons (pv 1) pa_nil)) pa_nil)))
        (pss_cons (ps_setLc (i := 3) (own := [("word", 4)]) (g := gName 4) rfl sc_ranking_of.nd rfl rfl (sw_true rfl rfl rfl (by decide +kernel)) (pi_list (pv 2)) (blkOk_by (own := [("word", 4)]) (N := ["width", "words", "different", "not_negative", "word"]) (sc := defScope s_ranking_of) (by decide +kernel)) (fun _ _ _ _ _ => pg_name (i := 4) sc_ranking_of.nd rfl (Or.inl rfl)) (fun _ _ _ _ _ => pts_one (pt_cmpR op_lt (pv 4) (pe_call (ok_sign_bit T) (hr.mono (by decide)) rfl T.g_sign_bit T.F_sign_bit.kp (bd_sign_bit T) .nil pass0 (pa_cons (pv 0) pa_nil)) (nomark _))) (fun _ _ _ _ _ => (pv 4)))
        (pss_one (ps_ret (pe_tup (pa_cons (pe_callTy call_tuple_of (by rfl) T.b_tuple (by decide +kernel) (pa_cons (pe_lc (own := [("word", 4)]) (g := gName 4) rfl sc_ranking_of.nd (pi_tup (pv 1)) (blkOk_by (own := [("word", 4)]) (N := ["width", "words", "different", "not_negative", "word"]) (sc := defScope s_ranking_of) (by decide +kernel)) (fun _ _ _ _ _ => pg_name (i := 4) sc_ranking_of.nd rfl (Or.inl rfl)) (fun _ _ _ _ _ => pts_nil) (fun _ _ _ _ _ => (pe_bmX (K := K) rfl PySem.F.plainAttrs_list PySem.F.slot_list_index PySem.F.type_list_index (show MtR _ _ (rIndex K) from mt_index) (pv 2) (pa_cons (pv 4) pa_nil) rfl rfl rfl rfl rfl))) pa_nil)) (pa_cons (pe_callB call_len_seq (by rfl) T.b_len (by decide +kernel) (pa_cons (pv 3) pa_nil)) pa_nil))))))))), ?_⟩
    obtain ⟨h2, ht, hz, k, ew, ex⟩ := h
    refine ⟨_, rfl, wd, rfl, fun h1 => ?_, ew⟩
    refine ⟨_, rfl, _, rfl, wd, t, xs, rfl, h1, h2, ht, fun hx H1 s1 => ?_, ex h1⟩
    refine ⟨_, rfl, t, xs, rfl, sameT s1 ht, by omega, fun p n ks hp nd mem ln => ?_⟩
    have ln2 : n ≤ xs.length := by
      have e1 := card_one nd (up_nodup (srt_up xs)) (fun k => by rw [mem k, srt_mem])
      have e2 := srt_len xs
      omega
    refine ⟨p, _, n, rfl, upd_same, by omega, fun ns p2 up mem2 _ hp2 => ?_⟩
    obtain rfl : ns = srt xs := up_one up (srt_up xs) fun k => by rw [mem2 k, decide_eq_true_eq, srt_mem]
    have ls := srt_len xs
    have s2 := s1.trans ((sameNew hp (o := SetO w p (fun j => decide (j ∈ xs)) n)).trans (sameNew hp2 (o := .lst ((srt xs).map V.int))))
    have e2 : (upd (upd H1 p (SetO w p (fun j => decide (j ∈ xs)) n)) p2 (.lst ((srt xs).map V.int))) p2 = some (.lst ((srt xs).map V.int)) := upd_same
    refine ⟨_, rfl, p2, rfl, ⟨_, SqL.of upd_same⟩, fun D hD => lc_filtL (fun y => decide (y < 2 ^ (wd - 1).toNat)) (SqL.of upd_same) (by omega) hD (fun _ => rfl) (fun x H3 Q3 _ s3 q3 => ?_) (fun x H3 Q3 _ _ q3 => ?_) (fun H3 s3 e3 => ?_)⟩
    · exact ⟨_, rfl, _, rfl, wd, rfl, h1, h2, _, _, rfl, rfl, _, rfl, q3 _ (Same.refl _)⟩
    · exact ⟨_, rfl, q3⟩
    have s13 := s2.trans s3
    have e23 := s3 _ _ e2
    refine ⟨_, rfl, t, rfl, ⟨_, sameT s13 ht⟩, fun D2 hD2 => lc_ints (fun x => ((rk (srt xs) x : Nat) : Int)) (sameT s13 ht) (by omega) hD2 (fun _ => rfl) (fun x H4 Q4 hm s4 q4 => ?_) (fun H4 s4 e4 => ?_)⟩
    · have m := srt_mem.mpr hm
      have ar := at_rk (srt_up xs) m
      refine ⟨_, rfl, .inl ⟨rfl, _, SqL.of (s4 _ _ e23)⟩, _, rfl, p2, (srt xs).map V.int, .int x, rk (srt xs) x, .int x, rfl, rfl, SqL.of (s4 _ _ e23), rfl, by simp [flatV], by rw [List.getElem?_map, ar]; rfl, by show (x == x) = true; simp, fun j z' hj hz' => ?_, q4 _ (Same.refl _)⟩
      obtain ⟨y, hy, rfl⟩ := map_at hz'
      show (y == x) = false
      refine beq_eq_false_iff_ne.mpr fun e => ?_
      subst e
      have := rk_at (srt_up xs) hy
      omega
    refine ⟨D2, _, rfl, .inl ⟨SqL.of e4, fun q hq => ?_⟩⟩
    have e3' := (s4.trans (sameNew hq (o := .tup ((rks xs).map V.int)))) _ _ e3
    refine ⟨_, rfl, D, _, rfl, .inl (SqL.of e3'), (by show 2 ≤ sizeLine; decide), fun r hr9 => ?_⟩
    refine k h1 hx r q _ (s13.trans (s4.trans ((sameNew hq).trans (sameNew hr9)))) ⟨?_, ?_⟩
    · rw [upd_same, List.length_map]
      rfl
    · exact (sameNew hr9) _ _ upd_same
/-! outcome_in -/
def sp_outcome_in (K : PySem.W.Frag) (A0 : Ad) : Sp := fun vs H Q E => ∃ (q rt : Addr) (rs : List Int) (c : Int) (i j : Int), vs = [.ref q, .int i, .int j] ∧ RkAt H q rt rs c ∧ rs.length ≤ 60 ∧ (okR rs c = true → (0 ≤ i ∧ i < (rs.length : Int)) → (0 ≤ j ∧ j < (rs.length : Int)) → ∀ a b H', rs[i.toNat]? = some a → rs[j.toNat]? = some b → Same H H' → Q (.str (ocut c a b)) H') ∧ (okR rs c = true → ¬ (0 ≤ i ∧ i < (rs.length : Int)) → Lets A0.c_InvalidNumber (.int i) H E) ∧ (okR rs c = true → (0 ≤ i ∧ i < (rs.length : Int)) → ¬ (0 ≤ j ∧ j < (rs.length : Int)) → Lets A0.c_InvalidNumber (.int j) H E) ∧ (okR rs c = false → Lets A0.c_InvalidRanking (.ref q) H E)
theorem sc_outcome_in : FnScope ["ranking", "first", "second", "number"] ["ranking", "first", "second"] (defScope s_outcome_in) := ⟨rfl, rfl, rfl, by decide +kernel, rfl, by decide +kernel, by decide +kernel⟩
theorem bd_outcome_in (T : Txt w K mg A0) : Binds K A0.d_outcome_in ["ranking", "first", "second"] [] := T.F_outcome_in.binds fun _ _ _ _ _ _ us hl => match us, hl with | [_, _, _], _ => rfl
theorem ok_outcome_in (T : Txt w K mg A0) : FnOk P w K mg base (L2.CX P w) 4 A0.a_outcome_in A0.d_outcome_in ["ranking", "first", "second"] (sp_outcome_in K A0) := by
  refine T.F_outcome_in.okX sc_outcome_in (fun vs H Q E h => ?_) (fun cdv A outer s H vs Q E hr h => ?_)
  · obtain ⟨q, rt, rs, c, i, j, rfl, _⟩ := h
    rfl
  · obtain ⟨q, rt, rs, c, i, j, rfl, h⟩ := h
    refine ⟨_, (pss_cons (ps_expr (pe_callS (ok_check_ranking T) (hr.mono (by decide)) rfl T.g_check_ranking T.F_check_ranking.kp (bd_check_ranking T) (fun σ => passAt (takes_of rfl rfl rfl rfl) σ) (pa_cons (pv 0) pa_nil)))
        (pss_cons (ps_for (passes_of rfl) rfl (pi_tup (pe_tup (pa_cons (pv 1) (pa_cons (pv 2) pa_nil)))) (pg_name (i := 3) sc_outcome_in.nd rfl (Or.inl rfl)) (pss_one (ps_if (PW.pt (pw_or (pt_cmpR op_lt (pv 3) pe_int (nomark _)) (pw_or1 (pt_cmpR op_ge (pv 3) (pe_callB call_len_seq (by rfl) T.b_len (by decide +kernel) (pa_cons (pe_ix ix_tup (pv 0) pe_int (fun _ _ => rfl)) pa_nil)) (nomark _))))) (pss_one (ps_raise rfl (takes_of rfl rfl rfl rfl) (pmk_oex (T.er_InvalidNumber).ox (T.er_InvalidNumber).ii (T.er_InvalidNumber).ti (okI_InvalidNumber T) (hr.mono (by decide)) (bdI_InvalidNumber T) .nil pass0 rfl T.gc_InvalidNumber (pa_cons (pv 3) pa_nil)))) pss_nil)))
        (pss_one (ps_ret (pe_call (ok_outcome_between T) (hr.mono (by decide)) rfl T.g_outcome_between T.F_outcome_between.kp (bd_outcome_between T) .nil pass0 (pa_cons (pv 0) (pa_cons (pv 1) (pa_cons (pv 2) pa_nil)))))))), ?_⟩
    obtain ⟨hr, hz, k, ei, ej, e⟩ := h
    refine ⟨_, rfl, q, rt, rs, c, rfl, hr, hz, fun o H1 s1 => ?_, e⟩
    refine ⟨_, rfl, _, rfl, (by show 2 ≤ sizeLine; decide), fun tt htt => ⟨tt, rfl, ⟨_, SqT.of upd_same⟩, for_tup (K := K) (a := tt) (xs := [.int i, .int j]) (fun d σ H' => ∃ u, σ = [some (.ref q), some (.int i), some (.int j), u] ∧ Same (upd H1 tt (.tup [.int i, .int j])) H' ∧ (1 ≤ d → 0 ≤ i ∧ i < (rs.length : Int)) ∧ (2 ≤ d → 0 ≤ j ∧ j < (rs.length : Int))) ⟨none, rfl, Same.refl _, fun z => absurd z (by omega), fun z => absurd z (by omega)⟩ (fun _ σ H' _ hp => ?_) ?_ ?_⟩⟩
    · obtain ⟨_, _, s, _⟩ := hp
      exact SqT.of (s _ _ upd_same)
    · rintro d x σ H2 hd ⟨u, rfl, s2, d1, d2⟩
      have sm := s1.trans ((sameNew htt).trans s2)
      obtain ⟨z, rfl, bad, good⟩ : ∃ z : Int, x = .int z ∧ (¬ (0 ≤ z ∧ z < (rs.length : Int)) → Lets A0.c_InvalidNumber (.int z) H E) ∧ ((0 ≤ z ∧ z < (rs.length : Int)) → (1 ≤ d + 1 → 0 ≤ i ∧ i < (rs.length : Int)) ∧ (2 ≤ d + 1 → 0 ≤ j ∧ j < (rs.length : Int))) := by
        match d, hd, d1 with
        | 0, e, _ => exact ⟨_, (Option.some.inj e).symm, ei o, fun g => ⟨fun _ => g, fun z => absurd z (by omega)⟩⟩
        | 1, e, d1 => exact ⟨_, (Option.some.inj e).symm, ej o (d1 (by omega)), fun g => ⟨fun _ => d1 (by omega), fun _ => g⟩⟩
      have hr2 := hr.same sm
      refine ⟨_, rfl, _, _, rfl, rfl, _, rfl, ?_⟩
      by_cases c1 : z < 0
      · refine tT (decide_eq_true c1) ?_
        exact ⟨_, rfl, mkO_end ((bad (by omega)).later sm).now⟩
      refine tF (decide_eq_false c1) ?_
      refine ⟨_, rfl, _, rfl, q, _, 0, .ref rt, rfl, rfl, SqT.of hr2.1, rfl, rt, _, rfl, .inr (SqT.of hr2.2), _, _, rfl, rfl, _, rfl, ?_⟩
      rw [List.length_map]
      by_cases c2 : (rs.length : Int) ≤ z
      · refine tT (decide_eq_true c2) ?_
        exact ⟨_, rfl, mkO_end ((bad (by omega)).later sm).now⟩
      refine tF (decide_eq_false c2) ?_
      exact ⟨_, rfl, s2, (good ⟨by omega, by omega⟩).1, (good ⟨by omega, by omega⟩).2⟩
    · rintro σ H2 ⟨u, rfl, s2, d1, d2⟩
      have sm := s1.trans ((sameNew htt).trans s2)
      have gi := d1 (by show 1 ≤ 2; decide)
      have gj := d2 (by show 2 ≤ 2; decide)
      obtain ⟨a, ha⟩ : ∃ a, rs[i.toNat]? = some a := ⟨_, List.getElem?_eq_getElem (by omega)⟩
      obtain ⟨b, hb⟩ : ∃ b, rs[j.toNat]? = some b := ⟨_, List.getElem?_eq_getElem (by omega)⟩
      exact ⟨_, rfl, _, rfl, _, rfl, q, rt, rs, c, i.toNat, j.toNat, a, b, by rw [Int.toNat_of_nonneg gi.1, Int.toNat_of_nonneg gj.1]; rfl, hr.same sm, ha, hb, k o gi gj a b _ ha hb sm⟩
/-! least_width -/
def sp_least_width (K : PySem.W.Frag) (A0 : Ad) : Sp := fun vs H Q E => ∃ (q rt : Addr) (rs : List Int) (c : Int), vs = [.ref q] ∧ RkAt H q rt rs c ∧ rs.length ≤ 60 ∧ (okR rs c = true → ∀ z H', Same H H' → Q (.int z) H') ∧ (okR rs c = false → Lets A0.c_InvalidRanking (.ref q) H E)
theorem sc_least_width : FnScope ["ranking"] ["ranking"] (defScope s_least_width) := ⟨rfl, rfl, rfl, by decide +kernel, rfl, by decide +kernel, by decide +kernel⟩
theorem bd_least_width (T : Txt w K mg A0) : Binds K A0.d_least_width ["ranking"] [] := T.F_least_width.binds fun _ _ _ _ _ _ us hl => match us, hl with | [_], _ => rfl
theorem ok_least_width (T : Txt w K mg A0) : FnOk P w K mg base (L2.CX P w) 4 A0.a_least_width A0.d_least_width ["ranking"] (sp_least_width K A0) := by
  refine T.F_least_width.okX sc_least_width (fun vs H Q E h => ?_) (fun cdv A outer s H vs Q E hr h => ?_)
  · obtain ⟨q, rt, rs, c, rfl, _⟩ := h
    rfl
  · obtain ⟨q, rt, rs, c, rfl, h⟩ := h
    refine ⟨_, (pss_cons (ps_expr (pe_callS (ok_check_ranking T) (hr.mono (by decide)) rfl T.g_check_ranking T.F_check_ranking.kp (bd_check_ranking T) (fun σ => passAt (takes_of rfl rfl rfl rfl) σ) (pa_cons (pv 0) pa_nil)))
        (pss_one (ps_ret (pe_op op_add pe_int (pe_bits (pe_op op_sub (pe_callB (cr_maxT2 rfl hr.units) (by rfl) T.b_max (by decide +kernel) (pa_cons (pe_call (ok_ranks_by_sign T) (hr.mono (by decide)) rfl T.g_ranks_by_sign T.F_ranks_by_sign.kp (bd_ranks_by_sign T) .nil pass0 (pa_cons (pv 0) pa_nil)) pa_nil)) pe_int)))))), ?_⟩
    obtain ⟨hr, hz, k, e⟩ := h
    refine ⟨_, rfl, q, rt, rs, c, rfl, hr, hz, fun o H1 s1 => ?_, e⟩
    obtain ⟨is, c0, cm⟩ := okR_is o
    refine ⟨_, rfl, q, rt, rs, c, _, rfl, hr.same s1, is, hz, fun p H2 s2 e2 => ?_⟩
    exact ⟨p, _, _, rfl, SqT.of e2, _, _, rfl, rfl, _, rfl, _, _, rfl, rfl, k o _ _ (s1.trans s2)⟩
/-! least_words -/
def sp_least_words (K : PySem.W.Frag) (A0 : Ad) : Sp := fun vs H Q E => ∃ (q rt : Addr) (rs : List Int) (c : Int) (wd : Int), vs = [.ref q, .int wd] ∧ RkAt H q rt rs c ∧ rs.length ≤ 60 ∧ wd ≤ 1000 ∧ (okR rs c = true → 1 ≤ wd → ∀ H', Same H H' → Q .non H') ∧ (okR rs c = true → 1 ≤ wd → ∀ p H', Same H H' → Q (.ref p) H') ∧ (okR rs c = true → wd < 1 → Lets A0.c_InvalidWidth (.int wd) H E) ∧ (okR rs c = false → Lets A0.c_InvalidRanking (.ref q) H E)
theorem sc_least_words : FnScope ["ranking", "width", "ranks", "cut", "rank"] ["ranking", "width"] (defScope s_least_words) := ⟨rfl, rfl, rfl, by decide +kernel, rfl, by decide +kernel, by decide +kernel⟩
theorem bd_least_words (T : Txt w K mg A0) : Binds K A0.d_least_words ["ranking", "width"] [] := T.F_least_words.binds fun _ _ _ _ _ _ us hl => match us, hl with | [_, _], _ => rfl
set_option maxHeartbeats 0 in
theorem ok_least_words (T : Txt w K mg A0) : FnOk P w K mg base (L2.CX P w) 4 A0.a_least_words A0.d_least_words ["ranking", "width"] (sp_least_words K A0) := by
  refine T.F_least_words.okX sc_least_words (fun vs H Q E h => ?_) (fun cdv A outer s H vs Q E hr h => ?_)
  · obtain ⟨q, rt, rs, c, wd, rfl, _⟩ := h
    rfl
  · obtain ⟨q, rt, rs, c, wd, rfl, h⟩ := h
    refine ⟨_, (pss_cons (ps_expr (pe_callS (ok_check_ranking T) (hr.mono (by decide)) rfl T.g_check_ranking T.F_check_ranking.kp (bd_check_ranking T) (fun σ => passAt (takes_of rfl rfl rfl rfl) σ) (pa_cons (pv 0) pa_nil)))
        (pss_cons (ps_expr (pe_callS (ok_check_width T) (hr.mono (by decide)) rfl T.g_check_width T.F_check_width.kp (bd_check_width T) (fun σ => passAt (takes_of rfl rfl rfl rfl) σ) (pa_cons (pv 1) pa_nil)))
        (pss_cons (ps_if (pt_not (pt_val (pe_call (ok_fits T) (hr.mono (by decide)) rfl T.g_fits T.F_fits.kp (bd_fits T) .nil pass0 (pa_cons (pv 0) (pa_cons (pv 1) pa_nil))))) (pss_one (ps_ret pe_non)) pss_nil)
        (pss_cons (ps_asg (pv 0) (pg_tup rfl (pgs_cons (pg_name (i := 2) sc_least_words.nd rfl (Or.inl rfl)) (pgs_cons (pg_name (i := 3) sc_least_words.nd rfl (Or.inr rfl)) pgs_nil))))
        (pss_one (ps_ret (pe_callTy call_tuple_of (by rfl) T.b_tuple (by decide +kernel) (pa_cons (pe_lc (own := [("rank", 4)]) (g := gName 4) rfl sc_least_words.nd (pi_tup (pv 2)) (blkOk_by (own := [("rank", 4)]) (N := ["ranking", "width", "ranks", "cut", "rank"]) (sc := defScope s_least_words) (by decide +kernel)) (fun _ _ _ _ _ => pg_name (i := 4) sc_least_words.nd rfl (Or.inl rfl)) (fun _ _ _ _ _ => pts_nil) (fun _ _ _ _ _ => (pe_ifExp (pt_cmpR op_lt (pv 4) (pv 3) (nomark _)) (pv 4) (pe_op op_sub (pe_op op_add (pe_call (ok_sign_bit T) (hr.mono (by decide)) rfl T.g_sign_bit T.F_sign_bit.kp (bd_sign_bit T) .nil pass0 (pa_cons (pv 1) pa_nil)) (pv 4)) (pv 3))))) pa_nil)))))))), ?_⟩
    obtain ⟨hr, hz, h2, kn, k, ew, e⟩ := h
    refine ⟨_, rfl, q, rt, rs, c, rfl, hr, hz, fun o H1 s1 => ?_, e⟩
    obtain ⟨is, c0, cm⟩ := okR_is o
    have m8 := srt_len rs
    refine ⟨_, rfl, wd, rfl, fun h1 => ?_, fun z => (ew o z).later s1⟩
    generalize hm : (srt rs).length = m at *
    have hr1 := hr.same s1
    refine ⟨_, rfl, _, rfl, q, rt, rs, c, m, wd, rfl, hr1, is, hz, h1, h2, fun H2 s2 => ⟨_, rfl, ?_⟩⟩
    cases hb : (decide (c ≤ 2 ^ (wd - 1).toNat) && decide ((m : Int) - c ≤ 2 ^ (wd - 1).toNat)) with
    | false =>
      refine tT rfl ?_
      exact kn o h1 _ (s1.trans s2)
    | true =>
      refine tF rfl ?_
      have s12 := s1.trans s2
      have hr2 := hr.same s12
      refine ⟨_, rfl, q, _, rfl, SqT.of hr2.1, rfl, _, _, rfl, _, _, rfl, rfl, ?_⟩
      refine ⟨_, rfl, rt, rfl, ⟨_, SqT.of hr2.2⟩, fun D hD => lc_ints (lw (2 ^ (wd - 1).toNat) c) (SqT.of hr2.2) (by omega) hD (fun _ => rfl) (fun x H3 Q3 _ s3 q3 => ?_) (fun H3 s3 e3 => ?_)⟩
      · have q4 := q3 H3 (Same.refl _)
        unfold lw at q4
        refine ⟨_, rfl, _, rfl, _, _, rfl, rfl, _, rfl, ?_⟩
        by_cases d : x < c
        · rw [if_pos d] at q4
          refine tT (decide_eq_true d) ?_
          exact ⟨_, rfl, q4⟩
        · rw [if_neg d] at q4
          refine tF (decide_eq_false d) ?_
          exact ⟨_, rfl, wd, rfl, h1, h2, _, rfl, _, _, rfl, rfl, _, rfl, _, _, rfl, rfl, q4⟩
      refine ⟨D, _, rfl, .inl ⟨SqL.of e3, fun t ht => ?_⟩⟩
      exact k o h1 t _ (s12.trans (s3.trans (sameNew ht)))
/-! count_words -/
def sp_count_words (K : PySem.W.Frag) (A0 : Ad) : Sp := fun vs H Q E => ∃ (q rt : Addr) (rs : List Int) (c : Int) (wd : Int), vs = [.ref q, .int wd] ∧ RkAt H q rt rs c ∧ rs.length ≤ 8 ∧ wd ≤ 1000 ∧ (okR rs c = true → 1 ≤ wd → ∀ z H', Same H H' → Q (.int z) H') ∧ (okR rs c = true → wd < 1 → Lets A0.c_InvalidWidth (.int wd) H E) ∧ (okR rs c = false → Lets A0.c_InvalidRanking (.ref q) H E)
theorem sc_count_words : FnScope ["ranking", "width", "not_negative", "negative"] ["ranking", "width"] (defScope s_count_words) := ⟨rfl, rfl, rfl, by decide +kernel, rfl, by decide +kernel, by decide +kernel⟩
theorem bd_count_words (T : Txt w K mg A0) : Binds K A0.d_count_words ["ranking", "width"] [] := T.F_count_words.binds fun _ _ _ _ _ _ us hl => match us, hl with | [_, _], _ => rfl
set_option maxHeartbeats 0 in
theorem ok_count_words (T : Txt w K mg A0) : FnOk P w K mg base (L2.CX P w) 4 A0.a_count_words A0.d_count_words ["ranking", "width"] (sp_count_words K A0) := by
  refine T.F_count_words.okX sc_count_words (fun vs H Q E h => ?_) (fun cdv A outer s H vs Q E hr h => ?_)
  · obtain ⟨q, rt, rs, c, wd, rfl, _⟩ := h
    rfl
  · obtain ⟨q, rt, rs, c, wd, rfl, h⟩ := h
    refine ⟨_, (pss_cons (ps_expr (pe_callS (ok_check_ranking T) (hr.mono (by decide)) rfl T.g_check_ranking T.F_check_ranking.kp (bd_check_ranking T) (fun σ => passAt (takes_of rfl rfl rfl rfl) σ) (pa_cons (pv 0) pa_nil)))
        (pss_cons (ps_expr (pe_callS (ok_check_width T) (hr.mono (by decide)) rfl T.g_check_width T.F_check_width.kp (bd_check_width T) (fun σ => passAt (takes_of rfl rfl rfl rfl) σ) (pa_cons (pv 1) pa_nil)))
        (pss_cons (ps_asg (pe_call (ok_ranks_by_sign T) (hr.mono (by decide)) rfl T.g_ranks_by_sign T.F_ranks_by_sign.kp (bd_ranks_by_sign T) .nil pass0 (pa_cons (pv 0) pa_nil)) (pg_tup rfl (pgs_cons (pg_name (i := 2) sc_count_words.nd rfl (Or.inl rfl)) (pgs_cons (pg_name (i := 3) sc_count_words.nd rfl (Or.inl rfl)) pgs_nil))))
        (pss_one (ps_ret (pe_op op_mulW (pe_callBfun cr_comb rfl T.gf_comb (pa_cons (pe_call (ok_sign_bit T) (hr.mono (by decide)) rfl T.g_sign_bit T.F_sign_bit.kp (bd_sign_bit T) .nil pass0 (pa_cons (pv 1) pa_nil)) (pa_cons (pv 2) pa_nil))) (pe_callBfun cr_comb rfl T.gf_comb (pa_cons (pe_call (ok_sign_bit T) (hr.mono (by decide)) rfl T.g_sign_bit T.F_sign_bit.kp (bd_sign_bit T) .nil pass0 (pa_cons (pv 1) pa_nil)) (pa_cons (pv 3) pa_nil))))))))), ?_⟩
    obtain ⟨hr, hz8, h2, k, ew, e⟩ := h
    have hz : rs.length ≤ 60 := by omega
    refine ⟨_, rfl, q, rt, rs, c, rfl, hr, hz, fun o H1 s1 => ?_, e⟩
    obtain ⟨is, c0, cm⟩ := okR_is o
    have m8 := srt_len rs
    refine ⟨_, rfl, wd, rfl, fun h1 => ?_, fun z => (ew o z).later s1⟩
    have hp0 := pow_pos (wd - 1).toNat
    have hp1 : (2 : Int) ^ (wd - 1).toNat ≤ 2 ^ 1000 := pow_le (by omega)
    have lg := fun (k : Int) (k0 : 0 ≤ k) (k8 : k ≤ 8) => cmb_log (n := 2 ^ (wd - 1).toNat) (Int.le_of_lt hp0) hp1 k0 k8
    generalize hm : (srt rs).length = m at *
    refine ⟨_, rfl, q, rt, rs, c, m, rfl, hr.same s1, is, hz, fun p H2 s2 e2 => ?_⟩
    refine ⟨p, _, rfl, SqT.of e2, rfl, _, _, rfl, _, _, rfl, rfl, ?_⟩
    obtain ⟨a1, a2⟩ := lg c c0 (by omega)
    obtain ⟨b1, b2⟩ := lg ((m : Int) - c) (by omega) (by omega)
    refine ⟨_, rfl, wd, rfl, h1, h2, _, rfl, _, c, rfl, Int.le_of_lt hp0, c0, by omega, a1, ?_⟩
    refine ⟨_, rfl, wd, rfl, h1, h2, _, rfl, _, (m : Int) - c, rfl, Int.le_of_lt hp0, by omega, by omega, b1, ?_⟩
    exact ⟨_, _, rfl, rfl, by show _ + _ < 1000000; omega, k o h1 _ _ (s1.trans s2)⟩
/-! count_rankings -/
def sp_count_rankings (K : PySem.W.Frag) (A0 : Ad) : Sp := fun vs H Q E => ∃ n : Int, vs = [.int n] ∧ (1 ≤ n → n ≤ 5 → ∀ H', Same H H' → Q (.int ((allRk n.toNat).length : Int)) H') ∧ (¬ (1 ≤ n ∧ n ≤ 5) → Lets A0.c_InvalidNumber (.int n) H E)
theorem sc_count_rankings : FnScope ["items"] ["items"] (defScope s_count_rankings) := ⟨rfl, rfl, rfl, by decide +kernel, rfl, by decide +kernel, by decide +kernel⟩
theorem bd_count_rankings (T : Txt w K mg A0) : Binds K A0.d_count_rankings ["items"] [] := T.F_count_rankings.binds fun _ _ _ _ _ _ us hl => match us, hl with | [_], _ => rfl
theorem ok_count_rankings (T : Txt w K mg A0) : FnOk P w K mg base (L2.CX P w) 4 A0.a_count_rankings A0.d_count_rankings ["items"] (sp_count_rankings K A0) := by
  refine T.F_count_rankings.okX sc_count_rankings (fun vs H Q E h => ?_) (fun cdv A outer s H vs Q E hr h => ?_)
  · obtain ⟨n, rfl, _⟩ := h
    rfl
  · obtain ⟨n, rfl, h⟩ := h
    refine ⟨_, (pss_cons (ps_expr (pe_callS (ok_check_items T) (hr.mono (by decide)) rfl T.g_check_items T.F_check_items.kp (bd_check_items T) (fun σ => passAt (takes_of rfl rfl rfl rfl) σ) (pa_cons (pv 0) pa_nil)))
        (pss_one (ps_ret (pe_callB call_len_seq (by rfl) T.b_len (by decide +kernel) (pa_cons (pe_call (ok_all_rankings T) (hr.mono (by decide)) rfl T.g_all_rankings T.F_all_rankings.kp (bd_all_rankings T) .nil pass0 (pa_cons (pv 0) pa_nil)) pa_nil))))), ?_⟩
    obtain ⟨k, e⟩ := h
    refine ⟨_, rfl, n, rfl, fun n1 n5 => ?_, e⟩
    refine ⟨_, rfl, n.toNat, by rw [Int.toNat_of_nonneg (by omega)]; rfl, by omega, by omega, fun l qs H1 hl s1 e1 r1 => ?_⟩
    refine ⟨l, _, rfl, .inl (SqL.of e1), ?_⟩
    rw [List.length_map, pr_len r1]
    exact k n1 n5 _ s1
/-! nth_ranking -/
def sp_nth_ranking (K : PySem.W.Frag) (A0 : Ad) : Sp := fun vs H Q E => ∃ n j : Int, vs = [.int n, .int j] ∧ (1 ≤ n → n ≤ 5 → 0 ≤ j → j < ((allRk n.toNat).length : Int) → ∀ q rt p H', (allRk n.toNat)[j.toNat]? = some p → Same H H' → RkAt H' q rt p.1 p.2 → Q (.ref q) H') ∧ (1 ≤ n → n ≤ 5 → ¬ (0 ≤ j ∧ j < ((allRk n.toNat).length : Int)) → Lets A0.c_InvalidNumber (.int j) H E) ∧ (¬ (1 ≤ n ∧ n ≤ 5) → Lets A0.c_InvalidNumber (.int n) H E)
theorem sc_nth_ranking : FnScope ["items", "number", "rankings"] ["items", "number"] (defScope s_nth_ranking) := ⟨rfl, rfl, rfl, by decide +kernel, rfl, by decide +kernel, by decide +kernel⟩
theorem bd_nth_ranking (T : Txt w K mg A0) : Binds K A0.d_nth_ranking ["items", "number"] [] := T.F_nth_ranking.binds fun _ _ _ _ _ _ us hl => match us, hl with | [_, _], _ => rfl
theorem ok_nth_ranking (T : Txt w K mg A0) : FnOk P w K mg base (L2.CX P w) 4 A0.a_nth_ranking A0.d_nth_ranking ["items", "number"] (sp_nth_ranking K A0) := by
  refine T.F_nth_ranking.okX sc_nth_ranking (fun vs H Q E h => ?_) (fun cdv A outer s H vs Q E hr h => ?_)
  · obtain ⟨n, j, rfl, _⟩ := h
    rfl
  · obtain ⟨n, j, rfl, h⟩ := h
    refine ⟨_, (pss_cons (ps_expr (pe_callS (ok_check_items T) (hr.mono (by decide)) rfl T.g_check_items T.F_check_items.kp (bd_check_items T) (fun σ => passAt (takes_of rfl rfl rfl rfl) σ) (pa_cons (pv 0) pa_nil)))
        (pss_cons (ps_set (i := 2) sc_nth_ranking.nd rfl (Or.inl rfl) (pe_call (ok_all_rankings T) (hr.mono (by decide)) rfl T.g_all_rankings T.F_all_rankings.kp (bd_all_rankings T) .nil pass0 (pa_cons (pv 0) pa_nil)))
        (pss_cons (ps_if (PW.pt (pw_or (pt_cmpR op_lt (pv 1) pe_int (nomark _)) (pw_or1 (pt_cmpR op_ge (pv 1) (pe_callB call_len_seq (by rfl) T.b_len (by decide +kernel) (pa_cons (pv 2) pa_nil)) (nomark _))))) (pss_one (ps_raise rfl (takes_of rfl rfl rfl rfl) (pmk_oex (T.er_InvalidNumber).ox (T.er_InvalidNumber).ii (T.er_InvalidNumber).ti (okI_InvalidNumber T) (hr.mono (by decide)) (bdI_InvalidNumber T) .nil pass0 rfl T.gc_InvalidNumber (pa_cons (pv 1) pa_nil)))) pss_nil)
        (pss_one (ps_ret (pe_ix ix_list (pv 2) (pv 1) (fun _ _ => rfl))))))), ?_⟩
    obtain ⟨k, e2, e⟩ := h
    refine ⟨_, rfl, n, rfl, fun n1 n5 => ?_, e⟩
    refine ⟨_, rfl, n.toNat, by rw [Int.toNat_of_nonneg (by omega)]; rfl, by omega, by omega, fun l qs H1 hl s1 e1 r1 => ?_⟩
    have lq := pr_len r1
    refine ⟨_, rfl, _, _, rfl, rfl, _, rfl, ?_⟩
    by_cases c : j < 0
    · refine tT (decide_eq_true c) ?_
      exact ⟨_, rfl, mkO_end ((e2 n1 n5 (by omega)).later s1).now⟩
    refine tF (decide_eq_false c) ?_
    refine ⟨_, rfl, _, rfl, l, _, rfl, .inl (SqL.of e1), _, _, rfl, rfl, _, rfl, ?_⟩
    rw [List.length_map, lq]
    by_cases c2 : ((allRk n.toNat).length : Int) ≤ j
    · refine tT (decide_eq_true c2) ?_
      exact ⟨_, rfl, mkO_end ((e2 n1 n5 (by omega)).later s1).now⟩
    refine tF (decide_eq_false c2) ?_
    obtain ⟨q, hq⟩ : ∃ q, qs[j.toNat]? = some q := ⟨_, List.getElem?_eq_getElem (by omega)⟩
    obtain ⟨p, hp, rt, hr9⟩ := pr_at r1 hq
    exact ⟨_, rfl, _, rfl, l, _, j, .ref q, rfl, rfl, SqL.of e1, at_of (j := j.toNat) (by omega) (by rw [List.getElem?_map, hq]; rfl), k n1 n5 (by omega) (by omega) q rt p _ hp s1 hr9⟩
/-! ranking_number -/
def sp_ranking_number (K : PySem.W.Frag) (A0 : Ad) : Sp := fun vs H Q E => ∃ (q rt : Addr) (rs : List Int) (c : Int), vs = [.ref q] ∧ RkAt H q rt rs c ∧ 1 ≤ rs.length ∧ rs.length ≤ 5 ∧ (okR rs c = true → ∀ z H', Same H H' → Q (.int z) H') ∧ (okR rs c = false → Lets A0.c_InvalidRanking (.ref q) H E)
theorem sc_ranking_number : FnScope ["ranking"] ["ranking"] (defScope s_ranking_number) := ⟨rfl, rfl, rfl, by decide +kernel, rfl, by decide +kernel, by decide +kernel⟩
theorem bd_ranking_number (T : Txt w K mg A0) : Binds K A0.d_ranking_number ["ranking"] [] := T.F_ranking_number.binds fun _ _ _ _ _ _ us hl => match us, hl with | [_], _ => rfl
theorem ok_ranking_number (T : Txt w K mg A0) : FnOk P w K mg base (L2.CX P w) 4 A0.a_ranking_number A0.d_ranking_number ["ranking"] (sp_ranking_number K A0) := by
  refine T.F_ranking_number.okX sc_ranking_number (fun vs H Q E h => ?_) (fun cdv A outer s H vs Q E hr h => ?_)
  · obtain ⟨q, rt, rs, c, rfl, _⟩ := h
    rfl
  · obtain ⟨q, rt, rs, c, rfl, h⟩ := h
    refine ⟨_, (pss_cons (ps_expr (pe_callS (ok_check_ranking T) (hr.mono (by decide)) rfl T.g_check_ranking T.F_check_ranking.kp (bd_check_ranking T) (fun σ => passAt (takes_of rfl rfl rfl rfl) σ) (pa_cons (pv 0) pa_nil)))
        (pss_one (ps_ret (pe_bmX (K := K) rfl PySem.F.plainAttrs_list PySem.F.slot_list_index PySem.F.type_list_index (show MtR _ _ (rIndexD K) from mt_indexD (units1 hr)) (pe_call (ok_all_rankings T) (hr.mono (by decide)) rfl T.g_all_rankings T.F_all_rankings.kp (bd_all_rankings T) .nil pass0 (pa_cons (pe_callB call_len_seq (by rfl) T.b_len (by decide +kernel) (pa_cons (pe_ix ix_tup (pv 0) pe_int (fun _ _ => rfl)) pa_nil)) pa_nil)) (pa_cons (pv 0) pa_nil) rfl rfl rfl rfl rfl)))), ?_⟩
    obtain ⟨hr, n1, n5, k, e⟩ := h
    refine ⟨_, rfl, q, rt, rs, c, rfl, hr, by omega, fun o H1 s1 => ?_, e⟩
    obtain ⟨j, hj⟩ := all_has n1 n5 o
    have m5 := five n1 n5
    have r1 := hr.same s1
    refine ⟨_, rfl, q, _, 0, .ref rt, rfl, rfl, SqT.of r1.1, rfl, rt, _, rfl, .inr (SqT.of r1.2), rs.length, by rw [List.length_map]; rfl, n1, n5, fun l qs H2 hl s2 e2 r2 => ?_⟩
    have r12 := r1.same s2
    refine ⟨.inl ⟨rfl, _, SqL.of e2⟩, _, rfl, l, .ref q, rkD rs c, rksD (allRk rs.length), j, rkD rs c, rfl, rfl, .lst (SqL.of e2) (rks_all r2), r12.dp, rks_shaped _, rkD_sh, ?_, SeqAt.eqv_refl _ (SeqAt.canLay_of_shaped rkD_sh), fun i z hi hz => ?_, k o _ _ (s1.trans s2)⟩
    · unfold rksD
      rw [List.getElem?_map, hj]
      rfl
    · unfold rksD at hz
      rw [List.getElem?_map] at hz
      obtain ⟨r, hr9, rfl⟩ := Option.map_eq_some_iff.mp hz
      rw [rkD_eqv]
      refine decide_eq_false fun e => ?_
      exact all_once m5 hr9 hj hi (Prod.ext e.1 e.2)
/-! _law_told -/
def sp_law_told (K : PySem.W.Frag) (A0 : Ad) : Sp := fun vs H Q E => ∃ (d : Int) (x1 x2 x3 : V) (r : Option (Nat × V)), vs = [.int d, x1, x2, x3] ∧ Door K H d x1 x2 x3 r ∧ ∀ p H', Same H H' → H' p = some (.lst (toldL r)) → Q (.ref p) H'
theorem sc_law_told : FnScope ["door", "one", "two", "last", "caught", "e"] ["door", "one", "two", "last"] (defScope s_law_told) := ⟨rfl, rfl, rfl, by decide +kernel, rfl, by decide +kernel, by decide +kernel⟩
theorem bd_law_told (T : Txt w K mg A0) : Binds K A0.d_law_told ["door", "one", "two", "last"] [] := T.F_law_told.binds fun _ _ _ _ _ _ us hl => match us, hl with | [_, _, _, _], _ => rfl
theorem ok_law_told (T : Txt w K mg A0) : FnOk P w K mg base CX0 5 A0.a_law_told A0.d_law_told ["door", "one", "two", "last"] (sp_law_told K A0) := by
  refine T.F_law_told.ok sc_law_told (fun vs H Q E h => ?_) (fun cdv A outer s H vs Q E hr h => ?_)
  · obtain ⟨d, x1, x2, x3, r, rfl, _⟩ := h
    rfl
  · obtain ⟨d, x1, x2, x3, r, rfl, h⟩ := h
    refine ⟨_, (pss_cons (ps_set (i := 4) sc_law_told.nd rfl (Or.inl rfl) pe_non)
        (Evl.pss_cut (ps_try_kept (i := 5) rfl rfl rfl sc_law_told.nd rfl rfl ⟨rfl, by decide, Or.inl T.gc_BranchError⟩
        (fun W pn xe tk po => (pss_one (ps_if (pt_cmpR op_eq (pv 0) pe_int (nomark _)) (pss_one (ps_expr (pe_callS (ok_outcome_in T) (hr.mono (by decide)) rfl T.g_outcome_in T.F_outcome_in.kp (bd_outcome_in T) (fun σ => passAt tk σ) (pa_cons (pv 1) (pa_cons (pv 2) (pa_cons (pv 3) pa_nil)))))) (pss_one (ps_if (pt_cmpR op_eq (pv 0) pe_int (nomark _)) (pss_one (ps_expr (pe_callS (ok_least_width T) (hr.mono (by decide)) rfl T.g_least_width T.F_least_width.kp (bd_least_width T) (fun σ => passAt tk σ) (pa_cons (pv 1) pa_nil)))) (pss_one (ps_if (pt_cmpR op_eq (pv 0) pe_int (nomark _)) (pss_one (ps_expr (pe_callS (ok_least_words T) (hr.mono (by decide)) rfl T.g_least_words T.F_least_words.kp (bd_least_words T) (fun σ => passAt tk σ) (pa_cons (pv 1) (pa_cons (pv 2) pa_nil))))) (pss_one (ps_if (pt_cmpR op_eq (pv 0) pe_int (nomark _)) (pss_one (ps_expr (pe_callS (ok_count_words T) (hr.mono (by decide)) rfl T.g_count_words T.F_count_words.kp (bd_count_words T) (fun σ => passAt tk σ) (pa_cons (pv 1) (pa_cons (pv 2) pa_nil))))) (pss_one (ps_if (pt_cmpR op_eq (pv 0) pe_int (nomark _)) (pss_one (ps_expr (pe_callS (ok_ranking_number T) (hr.mono (by decide)) rfl T.g_ranking_number T.F_ranking_number.kp (bd_ranking_number T) (fun σ => passAt tk σ) (pa_cons (pv 1) pa_nil)))) (pss_one (ps_if (pt_cmpR op_eq (pv 0) pe_int (nomark _)) (pss_one (ps_expr (pe_callS (ok_ranking_of T) (hr.mono (by decide)) rfl T.g_ranking_of T.F_ranking_of.kp (bd_ranking_of T) (fun σ => passAt tk σ) (pa_cons (pv 1) (pa_cons (pv 2) pa_nil))))) (pss_one (ps_if (pt_cmpR op_eq (pv 0) pe_int (nomark _)) (pss_one (ps_expr (pe_callS (ok_count_rankings T) (hr.mono (by decide)) rfl T.g_count_rankings T.F_count_rankings.kp (bd_count_rankings T) (fun σ => passAt tk σ) (pa_cons (pv 1) pa_nil)))) (pss_one (ps_expr (pe_callS (ok_nth_ranking T) (hr.mono (by decide)) rfl T.g_nth_ranking T.F_nth_ranking.kp (bd_nth_ranking T) (fun σ => passAt tk σ) (pa_cons (pv 1) (pa_cons (pv 2) pa_nil))))))))))))))))))))
        (fun a oe cls d pn hz hf => (pss_one (ps_set (i := 4) sc_law_told.nd rfl (Or.inl rfl) (pv 5)))))
        (pss_one (ps_ret (pe_ifExp (pt_cmpR op_isN (pv 4) pe_non (nomark _)) (pe_lst (pa_cons pe_str (pa_cons pe_non pa_nil))) (pe_lst (pa_cons (pe_call (ok_law_kind T) (hr.mono (by decide)) rfl T.g_law_kind T.F_law_kind.kp (bd_law_kind T) .nil pass0 (pa_cons (pv 4) pa_nil)) (pa_cons (pe_errK (pv 4)) pa_nil)))))))), ?_⟩
    obtain ⟨hd, k⟩ := h
    refine ⟨MidK H ([A0.c_InvalidWidth, A0.c_InvalidWords, A0.c_InvalidOutcome, A0.c_InvalidCondition, A0.c_InvalidRanking, A0.c_InvalidKnowledge, A0.c_InvalidProgram, A0.c_InvalidRow, A0.c_InvalidRegister, A0.c_InvalidQuery, A0.c_InvalidTable, A0.c_InvalidNumber, A0.c_UnlikeInputs, A0.c_NothingToUndo, A0.c_Unreadable] : List Addr) [some (.int d), some x1, some x2, some x3] r, ?_, ?_⟩
    · clear k
      cases hd with
      | d0 hr hz =>
        rename_i q rt rs c i j
        refine ⟨_, rfl, rfl, _, rfl, ?_⟩
        refine tT rfl ?_
        exact ⟨_, rfl, _, rfl, _, rfl, q, rt, rs, c, i, j, rfl, hr, by omega, fun o gi gj a b H' _ _ s => MidK.free (CS := ([A0.c_InvalidWidth, A0.c_InvalidWords, A0.c_InvalidOutcome, A0.c_InvalidCondition, A0.c_InvalidRanking, A0.c_InvalidKnowledge, A0.c_InvalidProgram, A0.c_InvalidRow, A0.c_InvalidRegister, A0.c_InvalidQuery, A0.c_InvalidTable, A0.c_InvalidNumber, A0.c_UnlikeInputs, A0.c_NothingToUndo, A0.c_Unreadable] : List Addr)) (l := [some (.int 0), some (.ref q), some (.int i), some (.int j)]) (r := resRk q rs c (resP rs i j)) (by simp [resRk, resP, inR_yes gi, inR_yes gj, o]) s,
          fun o gi e H' he s1 e1 => ⟨T.xm_InvalidNumber, fun a ha => ⟨_, rfl, fun hn => MidK.bad (CS := ([A0.c_InvalidWidth, A0.c_InvalidWords, A0.c_InvalidOutcome, A0.c_InvalidCondition, A0.c_InvalidRanking, A0.c_InvalidKnowledge, A0.c_InvalidProgram, A0.c_InvalidRow, A0.c_InvalidRegister, A0.c_InvalidQuery, A0.c_InvalidTable, A0.c_InvalidNumber, A0.c_UnlikeInputs, A0.c_NothingToUndo, A0.c_Unreadable] : List Addr)) (l := [some (.int 0), some (.ref q), some (.int i), some (.int j)]) (C := A0.c_InvalidNumber) (r := resRk q rs c (resP rs i j)) (j := 11) rfl (by decide) (by simp [resRk, resP, inR_no gi, o]) s1 e1 hn⟩⟩,
          fun o gi gj e H' he s1 e1 => ⟨T.xm_InvalidNumber, fun a ha => ⟨_, rfl, fun hn => MidK.bad (CS := ([A0.c_InvalidWidth, A0.c_InvalidWords, A0.c_InvalidOutcome, A0.c_InvalidCondition, A0.c_InvalidRanking, A0.c_InvalidKnowledge, A0.c_InvalidProgram, A0.c_InvalidRow, A0.c_InvalidRegister, A0.c_InvalidQuery, A0.c_InvalidTable, A0.c_InvalidNumber, A0.c_UnlikeInputs, A0.c_NothingToUndo, A0.c_Unreadable] : List Addr)) (l := [some (.int 0), some (.ref q), some (.int i), some (.int j)]) (C := A0.c_InvalidNumber) (r := resRk q rs c (resP rs i j)) (j := 11) rfl (by decide) (by simp [resRk, resP, inR_yes gi, inR_no gj, o]) s1 e1 hn⟩⟩,
          fun o e H' he s1 e1 => ⟨T.xm_InvalidRanking, fun a ha => ⟨_, rfl, fun hn => MidK.bad (CS := ([A0.c_InvalidWidth, A0.c_InvalidWords, A0.c_InvalidOutcome, A0.c_InvalidCondition, A0.c_InvalidRanking, A0.c_InvalidKnowledge, A0.c_InvalidProgram, A0.c_InvalidRow, A0.c_InvalidRegister, A0.c_InvalidQuery, A0.c_InvalidTable, A0.c_InvalidNumber, A0.c_UnlikeInputs, A0.c_NothingToUndo, A0.c_Unreadable] : List Addr)) (l := [some (.int 0), some (.ref q), some (.int i), some (.int j)]) (C := A0.c_InvalidRanking) (r := resRk q rs c (resP rs i j)) (j := 4) rfl (by decide) (by simp [resRk, o]) s1 e1 hn⟩⟩⟩
      | d1 hr hz =>
        rename_i q rt rs c
        refine ⟨_, rfl, rfl, _, rfl, ?_⟩
        refine tF rfl ?_
        refine ⟨_, rfl, rfl, _, rfl, ?_⟩
        refine tT rfl ?_
        exact ⟨_, rfl, q, rt, rs, c, rfl, hr, by omega, fun o z H' s => MidK.free (CS := ([A0.c_InvalidWidth, A0.c_InvalidWords, A0.c_InvalidOutcome, A0.c_InvalidCondition, A0.c_InvalidRanking, A0.c_InvalidKnowledge, A0.c_InvalidProgram, A0.c_InvalidRow, A0.c_InvalidRegister, A0.c_InvalidQuery, A0.c_InvalidTable, A0.c_InvalidNumber, A0.c_UnlikeInputs, A0.c_NothingToUndo, A0.c_Unreadable] : List Addr)) (l := [some (.int 1), some (.ref q), some x2, some x3]) (r := resRk q rs c none) (by simp [resRk, o]) s,
          fun o e H' he s1 e1 => ⟨T.xm_InvalidRanking, fun a ha => ⟨_, rfl, fun hn => MidK.bad (CS := ([A0.c_InvalidWidth, A0.c_InvalidWords, A0.c_InvalidOutcome, A0.c_InvalidCondition, A0.c_InvalidRanking, A0.c_InvalidKnowledge, A0.c_InvalidProgram, A0.c_InvalidRow, A0.c_InvalidRegister, A0.c_InvalidQuery, A0.c_InvalidTable, A0.c_InvalidNumber, A0.c_UnlikeInputs, A0.c_NothingToUndo, A0.c_Unreadable] : List Addr)) (l := [some (.int 1), some (.ref q), some x2, some x3]) (C := A0.c_InvalidRanking) (r := resRk q rs c none) (j := 4) rfl (by decide) (by simp [resRk, o]) s1 e1 hn⟩⟩⟩
      | d2 hr hz hw =>
        rename_i q rt rs c wd
        refine ⟨_, rfl, rfl, _, rfl, ?_⟩
        refine tF rfl ?_
        refine ⟨_, rfl, rfl, _, rfl, ?_⟩
        refine tF rfl ?_
        refine ⟨_, rfl, rfl, _, rfl, ?_⟩
        refine tT rfl ?_
        exact ⟨_, rfl, _, rfl, q, rt, rs, c, wd, rfl, hr, by omega, hw, fun o h1 H' s => MidK.free (CS := ([A0.c_InvalidWidth, A0.c_InvalidWords, A0.c_InvalidOutcome, A0.c_InvalidCondition, A0.c_InvalidRanking, A0.c_InvalidKnowledge, A0.c_InvalidProgram, A0.c_InvalidRow, A0.c_InvalidRegister, A0.c_InvalidQuery, A0.c_InvalidTable, A0.c_InvalidNumber, A0.c_UnlikeInputs, A0.c_NothingToUndo, A0.c_Unreadable] : List Addr)) (l := [some (.int 2), some (.ref q), some (.int wd), some x3]) (r := resRk q rs c (resW wd none)) (by simp [resRk, resW, o, h1]) s, fun o h1 p H' s => MidK.free (CS := ([A0.c_InvalidWidth, A0.c_InvalidWords, A0.c_InvalidOutcome, A0.c_InvalidCondition, A0.c_InvalidRanking, A0.c_InvalidKnowledge, A0.c_InvalidProgram, A0.c_InvalidRow, A0.c_InvalidRegister, A0.c_InvalidQuery, A0.c_InvalidTable, A0.c_InvalidNumber, A0.c_UnlikeInputs, A0.c_NothingToUndo, A0.c_Unreadable] : List Addr)) (l := [some (.int 2), some (.ref q), some (.int wd), some x3]) (r := resRk q rs c (resW wd none)) (by simp [resRk, resW, o, h1]) s,
          fun o h1 e H' he s1 e1 => ⟨T.xm_InvalidWidth, fun a ha => ⟨_, rfl, fun hn => MidK.bad (CS := ([A0.c_InvalidWidth, A0.c_InvalidWords, A0.c_InvalidOutcome, A0.c_InvalidCondition, A0.c_InvalidRanking, A0.c_InvalidKnowledge, A0.c_InvalidProgram, A0.c_InvalidRow, A0.c_InvalidRegister, A0.c_InvalidQuery, A0.c_InvalidTable, A0.c_InvalidNumber, A0.c_UnlikeInputs, A0.c_NothingToUndo, A0.c_Unreadable] : List Addr)) (l := [some (.int 2), some (.ref q), some (.int wd), some x3]) (C := A0.c_InvalidWidth) (r := resRk q rs c (resW wd none)) (j := 0) rfl (by decide) (by simp [resRk, resW, o, show ¬ 1 ≤ wd from by omega]) s1 e1 hn⟩⟩,
          fun o e H' he s1 e1 => ⟨T.xm_InvalidRanking, fun a ha => ⟨_, rfl, fun hn => MidK.bad (CS := ([A0.c_InvalidWidth, A0.c_InvalidWords, A0.c_InvalidOutcome, A0.c_InvalidCondition, A0.c_InvalidRanking, A0.c_InvalidKnowledge, A0.c_InvalidProgram, A0.c_InvalidRow, A0.c_InvalidRegister, A0.c_InvalidQuery, A0.c_InvalidTable, A0.c_InvalidNumber, A0.c_UnlikeInputs, A0.c_NothingToUndo, A0.c_Unreadable] : List Addr)) (l := [some (.int 2), some (.ref q), some (.int wd), some x3]) (C := A0.c_InvalidRanking) (r := resRk q rs c (resW wd none)) (j := 4) rfl (by decide) (by simp [resRk, o]) s1 e1 hn⟩⟩⟩
      | d3 hr hz hw =>
        rename_i q rt rs c wd
        refine ⟨_, rfl, rfl, _, rfl, ?_⟩
        refine tF rfl ?_
        refine ⟨_, rfl, rfl, _, rfl, ?_⟩
        refine tF rfl ?_
        refine ⟨_, rfl, rfl, _, rfl, ?_⟩
        refine tF rfl ?_
        refine ⟨_, rfl, rfl, _, rfl, ?_⟩
        refine tT rfl ?_
        exact ⟨_, rfl, _, rfl, q, rt, rs, c, wd, rfl, hr, by omega, hw, fun o h1 z H' s => MidK.free (CS := ([A0.c_InvalidWidth, A0.c_InvalidWords, A0.c_InvalidOutcome, A0.c_InvalidCondition, A0.c_InvalidRanking, A0.c_InvalidKnowledge, A0.c_InvalidProgram, A0.c_InvalidRow, A0.c_InvalidRegister, A0.c_InvalidQuery, A0.c_InvalidTable, A0.c_InvalidNumber, A0.c_UnlikeInputs, A0.c_NothingToUndo, A0.c_Unreadable] : List Addr)) (l := [some (.int 3), some (.ref q), some (.int wd), some x3]) (r := resRk q rs c (resW wd none)) (by simp [resRk, resW, o, h1]) s,
          fun o h1 e H' he s1 e1 => ⟨T.xm_InvalidWidth, fun a ha => ⟨_, rfl, fun hn => MidK.bad (CS := ([A0.c_InvalidWidth, A0.c_InvalidWords, A0.c_InvalidOutcome, A0.c_InvalidCondition, A0.c_InvalidRanking, A0.c_InvalidKnowledge, A0.c_InvalidProgram, A0.c_InvalidRow, A0.c_InvalidRegister, A0.c_InvalidQuery, A0.c_InvalidTable, A0.c_InvalidNumber, A0.c_UnlikeInputs, A0.c_NothingToUndo, A0.c_Unreadable] : List Addr)) (l := [some (.int 3), some (.ref q), some (.int wd), some x3]) (C := A0.c_InvalidWidth) (r := resRk q rs c (resW wd none)) (j := 0) rfl (by decide) (by simp [resRk, resW, o, show ¬ 1 ≤ wd from by omega]) s1 e1 hn⟩⟩,
          fun o e H' he s1 e1 => ⟨T.xm_InvalidRanking, fun a ha => ⟨_, rfl, fun hn => MidK.bad (CS := ([A0.c_InvalidWidth, A0.c_InvalidWords, A0.c_InvalidOutcome, A0.c_InvalidCondition, A0.c_InvalidRanking, A0.c_InvalidKnowledge, A0.c_InvalidProgram, A0.c_InvalidRow, A0.c_InvalidRegister, A0.c_InvalidQuery, A0.c_InvalidTable, A0.c_InvalidNumber, A0.c_UnlikeInputs, A0.c_NothingToUndo, A0.c_Unreadable] : List Addr)) (l := [some (.int 3), some (.ref q), some (.int wd), some x3]) (C := A0.c_InvalidRanking) (r := resRk q rs c (resW wd none)) (j := 4) rfl (by decide) (by simp [resRk, o]) s1 e1 hn⟩⟩⟩
      | d4 hr hn hz =>
        rename_i q rt rs c
        refine ⟨_, rfl, rfl, _, rfl, ?_⟩
        refine tF rfl ?_
        refine ⟨_, rfl, rfl, _, rfl, ?_⟩
        refine tF rfl ?_
        refine ⟨_, rfl, rfl, _, rfl, ?_⟩
        refine tF rfl ?_
        refine ⟨_, rfl, rfl, _, rfl, ?_⟩
        refine tF rfl ?_
        refine ⟨_, rfl, rfl, _, rfl, ?_⟩
        refine tT rfl ?_
        exact ⟨_, rfl, q, rt, rs, c, rfl, hr, hn, hz, fun o z H' s => MidK.free (CS := ([A0.c_InvalidWidth, A0.c_InvalidWords, A0.c_InvalidOutcome, A0.c_InvalidCondition, A0.c_InvalidRanking, A0.c_InvalidKnowledge, A0.c_InvalidProgram, A0.c_InvalidRow, A0.c_InvalidRegister, A0.c_InvalidQuery, A0.c_InvalidTable, A0.c_InvalidNumber, A0.c_UnlikeInputs, A0.c_NothingToUndo, A0.c_Unreadable] : List Addr)) (l := [some (.int 4), some (.ref q), some x2, some x3]) (r := resRk q rs c none) (by simp [resRk, o]) s,
          fun o e H' he s1 e1 => ⟨T.xm_InvalidRanking, fun a ha => ⟨_, rfl, fun hm => MidK.bad (CS := ([A0.c_InvalidWidth, A0.c_InvalidWords, A0.c_InvalidOutcome, A0.c_InvalidCondition, A0.c_InvalidRanking, A0.c_InvalidKnowledge, A0.c_InvalidProgram, A0.c_InvalidRow, A0.c_InvalidRegister, A0.c_InvalidQuery, A0.c_InvalidTable, A0.c_InvalidNumber, A0.c_UnlikeInputs, A0.c_NothingToUndo, A0.c_Unreadable] : List Addr)) (l := [some (.int 4), some (.ref q), some x2, some x3]) (C := A0.c_InvalidRanking) (r := resRk q rs c none) (j := 4) rfl (by decide) (by simp [resRk, o]) s1 e1 hm⟩⟩⟩
      | d5 ht hz hw rg rb =>
        rename_i t xs wd r
        refine ⟨_, rfl, rfl, _, rfl, ?_⟩
        refine tF rfl ?_
        refine ⟨_, rfl, rfl, _, rfl, ?_⟩
        refine tF rfl ?_
        refine ⟨_, rfl, rfl, _, rfl, ?_⟩
        refine tF rfl ?_
        refine ⟨_, rfl, rfl, _, rfl, ?_⟩
        refine tF rfl ?_
        refine ⟨_, rfl, rfl, _, rfl, ?_⟩
        refine tF rfl ?_
        refine ⟨_, rfl, rfl, _, rfl, ?_⟩
        refine tT rfl ?_
        exact ⟨_, rfl, _, rfl, wd, t, xs, rfl, hw, ht, hz, fun h1 hx q rt H' s _ => MidK.free (CS := ([A0.c_InvalidWidth, A0.c_InvalidWords, A0.c_InvalidOutcome, A0.c_InvalidCondition, A0.c_InvalidRanking, A0.c_InvalidKnowledge, A0.c_InvalidProgram, A0.c_InvalidRow, A0.c_InvalidRegister, A0.c_InvalidQuery, A0.c_InvalidTable, A0.c_InvalidNumber, A0.c_UnlikeInputs, A0.c_NothingToUndo, A0.c_Unreadable] : List Addr)) (l := [some (.int 5), some (.int wd), some (.ref t), some x3]) (r := resW wd r) (by simp [resW, h1, rg hx]) s,
          fun h1 e H' he s1 e1 => ⟨T.xm_InvalidWidth, fun a ha => ⟨_, rfl, fun hn => MidK.bad (CS := ([A0.c_InvalidWidth, A0.c_InvalidWords, A0.c_InvalidOutcome, A0.c_InvalidCondition, A0.c_InvalidRanking, A0.c_InvalidKnowledge, A0.c_InvalidProgram, A0.c_InvalidRow, A0.c_InvalidRegister, A0.c_InvalidQuery, A0.c_InvalidTable, A0.c_InvalidNumber, A0.c_UnlikeInputs, A0.c_NothingToUndo, A0.c_Unreadable] : List Addr)) (l := [some (.int 5), some (.int wd), some (.ref t), some x3]) (C := A0.c_InvalidWidth) (r := resW wd r) (j := 0) rfl (by decide) (by simp [resW, show ¬ 1 ≤ wd from by omega]) s1 e1 hn⟩⟩,
          fun h1 i hb e H' he s1 e1 => ⟨T.xm_InvalidWords, fun a ha => ⟨_, rfl, fun hn => MidK.bad (CS := ([A0.c_InvalidWidth, A0.c_InvalidWords, A0.c_InvalidOutcome, A0.c_InvalidCondition, A0.c_InvalidRanking, A0.c_InvalidKnowledge, A0.c_InvalidProgram, A0.c_InvalidRow, A0.c_InvalidRegister, A0.c_InvalidQuery, A0.c_InvalidTable, A0.c_InvalidNumber, A0.c_UnlikeInputs, A0.c_NothingToUndo, A0.c_Unreadable] : List Addr)) (l := [some (.int 5), some (.int wd), some (.ref t), some x3]) (C := A0.c_InvalidWords) (r := resW wd r) (j := 1) rfl (by decide) (by simp [resW, h1, rb i hb]) s1 e1 hn⟩⟩⟩
      | d6 =>
        rename_i n
        refine ⟨_, rfl, rfl, _, rfl, ?_⟩
        refine tF rfl ?_
        refine ⟨_, rfl, rfl, _, rfl, ?_⟩
        refine tF rfl ?_
        refine ⟨_, rfl, rfl, _, rfl, ?_⟩
        refine tF rfl ?_
        refine ⟨_, rfl, rfl, _, rfl, ?_⟩
        refine tF rfl ?_
        refine ⟨_, rfl, rfl, _, rfl, ?_⟩
        refine tF rfl ?_
        refine ⟨_, rfl, rfl, _, rfl, ?_⟩
        refine tF rfl ?_
        refine ⟨_, rfl, rfl, _, rfl, ?_⟩
        refine tT rfl ?_
        exact ⟨_, rfl, n, rfl, fun n1 n5 H' s => MidK.free (CS := ([A0.c_InvalidWidth, A0.c_InvalidWords, A0.c_InvalidOutcome, A0.c_InvalidCondition, A0.c_InvalidRanking, A0.c_InvalidKnowledge, A0.c_InvalidProgram, A0.c_InvalidRow, A0.c_InvalidRegister, A0.c_InvalidQuery, A0.c_InvalidTable, A0.c_InvalidNumber, A0.c_UnlikeInputs, A0.c_NothingToUndo, A0.c_Unreadable] : List Addr)) (l := [some (.int 6), some (.int n), some x2, some x3]) (r := resN n none) (by simp [resN, n1, n5]) s,
          fun hn e H' he s1 e1 => ⟨T.xm_InvalidNumber, fun a ha => ⟨_, rfl, fun hm => MidK.bad (CS := ([A0.c_InvalidWidth, A0.c_InvalidWords, A0.c_InvalidOutcome, A0.c_InvalidCondition, A0.c_InvalidRanking, A0.c_InvalidKnowledge, A0.c_InvalidProgram, A0.c_InvalidRow, A0.c_InvalidRegister, A0.c_InvalidQuery, A0.c_InvalidTable, A0.c_InvalidNumber, A0.c_UnlikeInputs, A0.c_NothingToUndo, A0.c_Unreadable] : List Addr)) (l := [some (.int 6), some (.int n), some x2, some x3]) (C := A0.c_InvalidNumber) (r := resN n none) (j := 11) rfl (by decide) (by simp only [resN, if_neg hn]) s1 e1 hm⟩⟩⟩
      | d7 =>
        rename_i n j
        refine ⟨_, rfl, rfl, _, rfl, ?_⟩
        refine tF rfl ?_
        refine ⟨_, rfl, rfl, _, rfl, ?_⟩
        refine tF rfl ?_
        refine ⟨_, rfl, rfl, _, rfl, ?_⟩
        refine tF rfl ?_
        refine ⟨_, rfl, rfl, _, rfl, ?_⟩
        refine tF rfl ?_
        refine ⟨_, rfl, rfl, _, rfl, ?_⟩
        refine tF rfl ?_
        refine ⟨_, rfl, rfl, _, rfl, ?_⟩
        refine tF rfl ?_
        refine ⟨_, rfl, rfl, _, rfl, ?_⟩
        refine tF rfl ?_
        exact ⟨_, rfl, _, rfl, n, j, rfl, fun n1 n5 j0 j1 q rt p H' _ s _ => MidK.free (CS := ([A0.c_InvalidWidth, A0.c_InvalidWords, A0.c_InvalidOutcome, A0.c_InvalidCondition, A0.c_InvalidRanking, A0.c_InvalidKnowledge, A0.c_InvalidProgram, A0.c_InvalidRow, A0.c_InvalidRegister, A0.c_InvalidQuery, A0.c_InvalidTable, A0.c_InvalidNumber, A0.c_UnlikeInputs, A0.c_NothingToUndo, A0.c_Unreadable] : List Addr)) (l := [some (.int 7), some (.int n), some (.int j), some x3]) (r := resN n (if 0 ≤ j ∧ j < ((allRk n.toNat).length : Int) then none else some (11, .int j))) (by simp [resN, n1, n5, j0, j1]) s,
          fun n1 n5 hj e H' he s1 e1 => ⟨T.xm_InvalidNumber, fun a ha => ⟨_, rfl, fun hn => MidK.bad (CS := ([A0.c_InvalidWidth, A0.c_InvalidWords, A0.c_InvalidOutcome, A0.c_InvalidCondition, A0.c_InvalidRanking, A0.c_InvalidKnowledge, A0.c_InvalidProgram, A0.c_InvalidRow, A0.c_InvalidRegister, A0.c_InvalidQuery, A0.c_InvalidTable, A0.c_InvalidNumber, A0.c_UnlikeInputs, A0.c_NothingToUndo, A0.c_Unreadable] : List Addr)) (l := [some (.int 7), some (.int n), some (.int j), some x3]) (C := A0.c_InvalidNumber) (r := resN n (if 0 ≤ j ∧ j < ((allRk n.toNat).length : Int) then none else some (11, .int j))) (j := 11) rfl (by decide) (by simp only [resN, if_pos (And.intro n1 n5), if_neg hj]) s1 e1 hn⟩⟩,
          fun hn e H' he s1 e1 => ⟨T.xm_InvalidNumber, fun a ha => ⟨_, rfl, fun hm => MidK.bad (CS := ([A0.c_InvalidWidth, A0.c_InvalidWords, A0.c_InvalidOutcome, A0.c_InvalidCondition, A0.c_InvalidRanking, A0.c_InvalidKnowledge, A0.c_InvalidProgram, A0.c_InvalidRow, A0.c_InvalidRegister, A0.c_InvalidQuery, A0.c_InvalidTable, A0.c_InvalidNumber, A0.c_UnlikeInputs, A0.c_NothingToUndo, A0.c_Unreadable] : List Addr)) (l := [some (.int 7), some (.int n), some (.int j), some x3]) (C := A0.c_InvalidNumber) (r := resN n (if 0 ≤ j ∧ j < ((allRk n.toNat).length : Int) then none else some (11, .int j))) (j := 11) rfl (by decide) (by simp only [resN, if_neg hn]) s1 e1 hm⟩⟩⟩
    · rintro σ H1 ⟨caught, rfl, s1, hc⟩
      rcases hc with ⟨rfl, rfl⟩ | ⟨a, C, j, v, rfl, ea, hC, ho, rfl⟩
      · refine ⟨_, rfl, rfl, _, rfl, ?_⟩
        refine tT rfl ?_
        exact ⟨(by show 2 ≤ sizeLine; decide), fun p hp => k p _ (s1.trans (sameNew hp)) upd_same⟩
      · refine ⟨_, rfl, rfl, _, rfl, ?_⟩
        refine tF rfl ?_
        refine ⟨_, rfl, a, j, C, v, rfl, ea, hC, ho, fun H2 s2 => ?_⟩
        obtain ⟨_, xf, nf⟩ := errC T hC
        refine ⟨_, rfl, a, C, v, rfl, ea.same s2, xf, nf, ?_⟩
        exact ⟨(by show 2 ≤ sizeLine; decide), fun p hp => k p _ (s1.trans (s2.trans (sameNew hp))) upd_same⟩
/-! _law_rankings_right -/
def sp_law_rankings_right (K : PySem.W.Frag) (A0 : Ad) : Sp := fun vs H Q E => ∃ (p : Addr) (n : Nat), vs = [.ref p] ∧ Pool H p n ∧ n ≤ 20000 ∧ ∀ H', Pool H' p (n + 100) → But p H H' → Q (.bl true) H'
theorem sc_law_rankings_right : FnScope ["pool", "some", "one", "free", "early", "many", "pair", "turn", "bad", "each", "wide", "late", "dues", "told"] ["pool"] (defScope s_law_rankings_right) := ⟨rfl, rfl, rfl, by decide +kernel, rfl, by decide +kernel, by decide +kernel⟩
theorem bd_law_rankings_right (T : Txt w K mg A0) : Binds K A0.d_law_rankings_right ["pool"] [] := T.F_law_rankings_right.binds fun _ _ _ _ _ _ us hl => match us, hl with | [_], _ => rfl
set_option maxHeartbeats 0 in
theorem ok_law_rankings_right (T : Txt w K mg A0) : FnOk P w K mg base CX0 6 A0.a_law_rankings_right A0.d_law_rankings_right ["pool"] (sp_law_rankings_right K A0) := by
  refine T.F_law_rankings_right.ok sc_law_rankings_right (fun vs H Q E h => ?_) (fun cdv A outer s H vs Q E hr h => ?_)
  · obtain ⟨p, n, rfl, _⟩ := h
    rfl
  · obtain ⟨p, n, rfl, h⟩ := h
    refine ⟨_, (pss_cons (ps_set (i := 1) sc_law_rankings_right.nd rfl (Or.inl rfl) (pe_call (ok_law_all_rankings T) (hr.mono (by decide)) rfl T.g_law_all_rankings T.F_law_all_rankings.kp (bd_law_all_rankings T) .nil pass0 (pa_cons (pe_op op_add pe_int (pe_call (ok_law_draw T) (hr.mono (by decide)) rfl T.g_law_draw T.F_law_draw.kp (bd_law_draw T) .nil pass0 (pa_cons (pv 0) (pa_cons pe_int pa_nil)))) pa_nil)))
        (pss_cons (ps_par (i := 2) (j := 3) rfl sc_law_rankings_right.nd rfl rfl (by decide) rfl rfl (pa_cons (pe_call (ok_law_bent T) (hr.mono (by decide)) rfl T.g_law_bent T.F_law_bent.kp (bd_law_bent T) .nil pass0 (pa_cons (pv 0) (pa_cons (pe_ix ix_list (pv 1) (pe_call (ok_law_draw T) (hr.mono (by decide)) rfl T.g_law_draw T.F_law_draw.kp (bd_law_draw T) .nil pass0 (pa_cons (pv 0) (pa_cons (pe_callB call_len_seq (by rfl) T.b_len (by decide +kernel) (pa_cons (pv 1) pa_nil)) pa_nil))) (fun _ _ => rfl)) pa_nil))) (pa_cons (pe_lst (pa_cons (pe_lst (pa_cons pe_str (pa_cons pe_non pa_nil))) pa_nil)) pa_nil)) rfl)
        (pss_cons (ps_asg (pe_tup (pa_cons (pe_op op_rep (pe_lst (pa_cons (pe_lst (pa_cons pe_str (pa_cons (pv 2) pa_nil))) pa_nil)) (pe_callTy call_int1 (by rfl) T.b_int (by decide +kernel) (pa_cons (pe_not (pe_call (ok_law_is_ranking T) (hr.mono (by decide)) rfl T.g_law_is_ranking T.F_law_is_ranking.kp (bd_law_is_ranking T) .nil pass0 (pa_cons (pv 2) pa_nil))) pa_nil))) (pa_cons (pe_callB call_len_seq (by rfl) T.b_len (by decide +kernel) (pa_cons (pe_ix ix_tup (pv 2) pe_int (fun _ _ => rfl)) pa_nil)) pa_nil))) (pg_tup rfl (pgs_cons (pg_name (i := 4) sc_law_rankings_right.nd rfl (Or.inl rfl)) (pgs_cons (pg_name (i := 5) sc_law_rankings_right.nd rfl (Or.inr rfl)) pgs_nil))))
        (pss_cons (ps_setLc (i := 6) (own := [("turn", 7)]) (g := gName 7) rfl sc_law_rankings_right.nd rfl rfl (sw_true rfl rfl rfl (by decide +kernel)) (pi_range1 rfl T.b_range (pa_cons pe_int pa_nil)) (blkOk_by (own := [("turn", 7)]) (N := ["pool", "some", "one", "free", "early", "many", "pair", "turn", "bad", "each", "wide", "late", "dues", "told"]) (sc := defScope s_law_rankings_right) (by decide +kernel)) (fun _ _ _ _ _ => pg_name (i := 7) sc_law_rankings_right.nd rfl (Or.inl rfl)) (fun _ _ _ _ _ => pts_nil) (fun _ _ _ _ _ => (pe_ix (show IxR _ (rIxL K) from ix_list) (pe_lst (pa_cons (pe_call (ok_law_draw T) (hr.mono (by decide)) rfl T.g_law_draw T.F_law_draw.kp (bd_law_draw T) .nil pass0 (pa_cons (pv 0) (pa_cons (pv 5) pa_nil))) (pa_cons (pe_un un_neg pe_int) (pa_cons (pv 5) (pa_cons (pe_op op_pow pe_int pe_int) pa_nil))))) (pe_callB (call_max2 rfl) (by rfl) T.b_max (by decide +kernel) (pa_cons pe_int (pa_cons (pe_op op_sub (pe_call (ok_law_draw T) (hr.mono (by decide)) rfl T.g_law_draw T.F_law_draw.kp (bd_law_draw T) .nil pass0 (pa_cons (pv 0) (pa_cons pe_int pa_nil))) pe_int) pa_nil))) (fun _ _ => rfl))))
        (pss_cons (ps_setLc (i := 8) (own := [("each", 9)]) (g := gName 9) rfl sc_law_rankings_right.nd rfl rfl (sw_true rfl rfl rfl (by decide +kernel)) (pi_list (pv 6)) (blkOk_by (own := [("each", 9)]) (N := ["pool", "some", "one", "free", "early", "many", "pair", "turn", "bad", "each", "wide", "late", "dues", "told"]) (sc := defScope s_law_rankings_right) (by decide +kernel)) (fun _ _ _ _ _ => pg_name (i := 9) sc_law_rankings_right.nd rfl (Or.inl rfl)) (fun _ _ _ _ _ => pts_one (pt_not (pt_chain op_le op_lt pe_int (pv 9) (pv 5)))) (fun _ _ _ _ _ => (pe_lst (pa_cons pe_str (pa_cons (pv 9) pa_nil)))))
        (pss_cons (ps_set (i := 10) sc_law_rankings_right.nd rfl (Or.inl rfl) (pe_ix ix_list (pe_lst (pa_cons (pe_call (ok_law_wide T) (hr.mono (by decide)) rfl T.g_law_wide T.F_law_wide.kp (bd_law_wide T) .nil pass0 (pa_cons (pv 0) pa_nil)) (pa_cons pe_int (pa_cons (pe_op op_sub pe_int (pe_op op_pow pe_int pe_int)) pa_nil)))) (pe_callB (call_max2 rfl) (by rfl) T.b_max (by decide +kernel) (pa_cons pe_int (pa_cons (pe_op op_sub (pe_call (ok_law_draw T) (hr.mono (by decide)) rfl T.g_law_draw T.F_law_draw.kp (bd_law_draw T) .nil pass0 (pa_cons (pv 0) (pa_cons pe_int pa_nil))) pe_int) pa_nil))) (fun _ _ => rfl)))
        (pss_cons (ps_set (i := 11) sc_law_rankings_right.nd rfl (Or.inl rfl) (pe_op op_rep (pe_lst (pa_cons (pe_lst (pa_cons pe_str (pa_cons (pv 10) pa_nil))) pa_nil)) (pe_callTy call_int1 (by rfl) T.b_int (by decide +kernel) (pa_cons (pe_cmpR op_lt (pv 10) pe_int (nomark _)) pa_nil))))
        (pss_cons (ps_set (i := 12) sc_law_rankings_right.nd rfl (Or.inl rfl) (pe_op op_cat (pe_op op_cat (pe_lst (pa_cons (pe_ix ix_list (pe_op op_cat (pe_op op_cat (pv 4) (pv 8)) (pv 3)) pe_int (fun _ _ => rfl)) (pa_cons (pe_ix ix_list (pe_op op_cat (pv 4) (pv 3)) pe_int (fun _ _ => rfl)) pa_nil))) (pe_op op_rep (pe_lst (pa_cons (pe_ix ix_list (pe_op op_cat (pe_op op_cat (pv 4) (pv 11)) (pv 3)) pe_int (fun _ _ => rfl)) pa_nil)) pe_int)) (pe_lst (pa_cons (pe_ix ix_list (pe_op op_cat (pv 4) (pv 3)) pe_int (fun _ _ => rfl)) pa_nil))))
        (pss_cons (ps_set (i := 13) sc_law_rankings_right.nd rfl (Or.inl rfl) (pe_lst (pa_cons (pe_call (ok_law_told T) (hr.mono (by decide)) rfl T.g_law_told T.F_law_told.kp (bd_law_told T) .nil pass0 (pa_cons pe_int (pa_cons (pv 2) (pa_cons (pe_ix ix_list (pv 6) pe_int (fun _ _ => rfl)) (pa_cons (pe_ix ix_list (pv 6) pe_int (fun _ _ => rfl)) pa_nil))))) (pa_cons (pe_call (ok_law_told T) (hr.mono (by decide)) rfl T.g_law_told T.F_law_told.kp (bd_law_told T) .nil pass0 (pa_cons pe_int (pa_cons (pv 2) (pa_cons pe_int (pa_cons pe_int pa_nil))))) (pa_cons (pe_call (ok_law_told T) (hr.mono (by decide)) rfl T.g_law_told T.F_law_told.kp (bd_law_told T) .nil pass0 (pa_cons pe_int (pa_cons (pv 2) (pa_cons (pv 10) (pa_cons pe_int pa_nil))))) pa_nil)))))
        (pss_one (ps_ret (pe_cmpR (op_eqD hr.units) (pe_op op_cat (pv 13) (pe_lst (pa_cons (pe_call (ok_law_told T) (hr.mono (by decide)) rfl T.g_law_told T.F_law_told.kp (bd_law_told T) .nil pass0 (pa_cons pe_int (pa_cons (pv 2) (pa_cons (pv 10) (pa_cons pe_int pa_nil))))) (pa_cons (pe_call (ok_law_told T) (hr.mono (by decide)) rfl T.g_law_told T.F_law_told.kp (bd_law_told T) .nil pass0 (pa_cons pe_int (pa_cons (pv 2) (pa_cons pe_int (pa_cons pe_int pa_nil))))) pa_nil)))) (pv 12) (nomark _))))))))))))), ?_⟩
    obtain ⟨pl, hn, k⟩ := h
    refine ⟨_, rfl, p, 4, n, rfl, pl, by omega, by decide, by decide, fun d1 H1 l1 u1 pl1 b1 => ?_⟩
    obtain ⟨m, em⟩ : ∃ m : Nat, 1 + d1 = (m : Int) := ⟨(1 + d1).toNat, by omega⟩
    have m1 : 1 ≤ m := by omega
    have m4 : m ≤ 4 := by omega
    refine ⟨_, _, rfl, rfl, m, (by show [V.int (1 + d1)] = [V.int (m : Int)]; rw [em]), m1, by omega, fun l qs H2 hl s2 e2 r2 => ?_⟩
    have nlp : l ≠ p := pl1.ne hl
    have lq := pr_len r2
    obtain ⟨a0, a308⟩ := all_len4 m1 m4
    have pl2 := pl1.same s2
    refine ⟨_, rfl, _, rfl, _, rfl, _, rfl, l, _, rfl, .inl (SqL.of e2), p, _, n + 1, rfl, pl2, by omega, by rw [List.length_map]; omega, by rw [List.length_map]; exact Int.lt_of_le_of_lt (show _ ≤ (400 : Int) by omega) (by decide), fun d2 H3 l3 u3 pl3 b3 => ?_⟩
    rw [List.length_map] at u3
    obtain ⟨q0, hq0⟩ : ∃ q0, qs[d2.toNat]? = some q0 := ⟨_, List.getElem?_eq_getElem (by omega)⟩
    obtain ⟨p0, hp0, rt0, hr0⟩ := pr_at r2 hq0
    have nq0 : ∀ {x : Addr} {o : HO}, H2 x = some o → (∀ a b c, o ≠ .lst [V.int a, V.int b, V.int c]) → x ≠ p := fun {x o} e ne z => by
      obtain ⟨g, b, c, ep, _⟩ := pl2
      rw [z, ep] at e
      exact ne _ _ _ (Option.some.inj e).symm
    have hr3 : RkAt H3 q0 rt0 p0.1 p0.2 := ⟨b3 _ _ (nq0 hr0.1 fun _ _ _ z => nomatch z) hr0.1, b3 _ _ (nq0 hr0.2 fun _ _ _ z => nomatch z) hr0.2⟩
    obtain ⟨ln0, bd0⟩ := all4 m (four m1 m4) p0 (List.mem_of_getElem? hp0)
    refine ⟨l, _, d2, .ref q0, rfl, rfl, SqL.of (b3 l _ nlp e2), at_of (j := d2.toNat) (by omega) (by rw [List.getElem?_map, hq0]; rfl), ?_⟩
    refine ⟨p, n + 2, q0, rt0, p0.1, p0.2, rfl, pl3, by omega, hr3, by omega, by omega, bd0, fun q rt rs c H4 pl4 b4 hr4 ln bd => ?_⟩
    refine ⟨(by show 2 ≤ sizeLine; decide), fun f0 hf0 => ⟨(by show 1 ≤ sizeLine; decide), fun f1 hf1 => ?_⟩⟩
    refine ⟨_, _, rfl, ?_⟩
    have s5 : Same H4 (upd (upd H4 f0 (.lst [.str "none", .non])) f1 (.lst [.ref f0])) := (sameNew hf0).trans (sameNew hf1)
    have ef0 : (upd (upd H4 f0 (.lst [.str "none", .non])) f1 (.lst [.ref f0])) f0 = some (.lst [.str "none", .non]) := (sameNew hf1) _ _ upd_same
    have ef1 : (upd (upd H4 f0 (.lst [.str "none", .non])) f1 (.lst [.ref f0])) f1 = some (.lst [.ref f0]) := upd_same
    generalize (upd (upd H4 f0 (.lst [.str "none", .non])) f1 (.lst [.ref f0])) = H5 at s5 ef0 ef1 ⊢
    have hr5 := hr4.same s5
    refine ⟨_, rfl, (by show 2 ≤ sizeLine; decide), fun e0 he0 => ⟨(by show 1 ≤ sizeLine; decide), fun e1 he1 => ?_⟩⟩
    have s6 : Same H5 (upd (upd H5 e0 (.lst [.str "ranking", .ref q])) e1 (.lst [.ref e0])) := (sameNew he0).trans (sameNew he1)
    have ee0 : (upd (upd H5 e0 (.lst [.str "ranking", .ref q])) e1 (.lst [.ref e0])) e0 = some (.lst [.str "ranking", .ref q]) := (sameNew he1) _ _ upd_same
    have ee1 : (upd (upd H5 e0 (.lst [.str "ranking", .ref q])) e1 (.lst [.ref e0])) e1 = some (.lst [.ref e0]) := upd_same
    generalize (upd (upd H5 e0 (.lst [.str "ranking", .ref q])) e1 (.lst [.ref e0])) = H6 at s6 ee0 ee1 ⊢
    refine ⟨_, rfl, q, rt, rs, c, rfl, hr5.same s6, by omega, by omega, bd, fun H7 s7 => ⟨_, rfl, .inr ⟨_, rfl, ?_⟩⟩⟩
    refine ⟨e1, _, [.ref e0], rfl, rfl, s7 _ _ ee1, by split <;> decide, by split <;> decide, (by show 1 * _ ≤ sizeLine; split <;> decide), fun e2 he2 => ?_⟩
    rw [rep_if]
    have s8 := s7.trans (sameNew he2 (o := .lst (if (!okR rs c) = true then [V.ref e0] else [])))
    have ee2 : (upd H7 e2 (.lst (if (!okR rs c) = true then [V.ref e0] else []))) e2 = some (.lst (if (!okR rs c) = true then [V.ref e0] else [])) := upd_same
    generalize (upd H7 e2 (.lst (if (!okR rs c) = true then [V.ref e0] else []))) = H8 at s8 ee2 ⊢
    have hr8 := hr5.same (s6.trans s8)
    refine ⟨_, rfl, q, _, 0, .ref rt, rfl, rfl, SqT.of hr8.1, rfl, rt, _, rfl, .inr (SqT.of hr8.2), (by show 2 ≤ sizeLine; decide), fun tp htp => ?_⟩
    rw [List.length_map]
    refine ⟨tp, _, rfl, SqT.of upd_same, rfl, _, _, rfl, _, _, rfl, rfl, ?_⟩
    have s9 : Same H5 (upd H8 tp (.tup [.ref e2, .int (rs.length : Nat)])) := s6.trans (s8.trans (sameNew htp))
    have ee9 := (sameNew htp (o := .tup [.ref e2, .int (rs.length : Nat)])) _ _ ee2
    have e09 := (s8.trans (sameNew htp (o := .tup [.ref e2, .int (rs.length : Nat)]))) _ _ ee0
    generalize (upd H8 tp (.tup [.ref e2, .int (rs.length : Nat)])) = H9 at s9 ee9 e09 ⊢
    have pl9 := (pl4.same s5).same s9
    have hr9 := hr5.same s9
    refine ⟨2, rfl, by omega, by omega, fun D hD => lc_range (lo := 0) (n := 2) (fun i H' => ∃ xs : List Int, xs.length = i ∧ H' D = some (.lst (xs.map V.int)) ∧ Pool H' p (n + 5 + 2 * i) ∧ But p H9 H') ⟨[], rfl, upd_same, pl9.new hD, But.new hD⟩ ?_ ?_⟩
    · rintro i H' hi ⟨xs, lx, eD, plx, bx⟩
      refine ⟨rfl, ?_⟩
      refine yesR ?_
      refine tT rfl ?_
      have nDp : D ≠ p := pl9.ne hD
      refine ⟨_, rfl, _, rfl, p, ((rs.length : Nat) : Int), _, rfl, plx, by omega, by omega, Int.lt_of_le_of_lt (show _ ≤ (5 : Int) by omega) (by decide), fun d3 H1' y0 y1 plx1 bx1 => ?_⟩
      refine ⟨_, rfl, _, rfl, _, _, rfl, rfl, ⟨by decide, by decide, by decide⟩, (by show 4 ≤ sizeLine; decide), fun r hr0' => ?_⟩
      have nrp : r ≠ p := plx1.ne hr0'
      refine ⟨_, rfl, p, 9, _, rfl, plx1.new hr0', by omega, by decide, by decide, fun d4 H2' z0 z1 plx2 bx2 => ⟨_, _, rfl, rfl, _, _, rfl, ?_⟩⟩
      obtain ⟨w3, e3⟩ : ∃ w3 : Int, atI [V.int d3, V.int (-1), V.int (rs.length : Nat), V.int (10 ^ (30 : Int).toNat)] (if d4 - 5 > 0 then d4 - 5 else 0) = some (.int w3) := by
        have h : (if d4 - 5 > 0 then d4 - 5 else 0) = 0 ∨ (if d4 - 5 > 0 then d4 - 5 else 0) = 1 ∨ (if d4 - 5 > 0 then d4 - 5 else 0) = 2 ∨ (if d4 - 5 > 0 then d4 - 5 else 0) = 3 := by split <;> omega
        rcases h with h | h | h | h <;> rw [h] <;> exact ⟨_, rfl⟩
      refine ⟨r, _, _, .int w3, rfl, rfl, SqL.of (bx2 r _ nrp upd_same), e3, ?_⟩
      have bb := bx1.trans ((But.new hr0').trans bx2)
      refine ⟨xs.map V.int, bb D _ nDp eD, small1000 (by rw [List.length_map]; omega), xs ++ [w3], by rw [List.length_append, lx]; rfl, by rw [upd_same, List.map_append]; rfl, (plx2.put nDp).mono (by omega), fun b o hb e => ?_⟩
      rw [upd_ne (ne_of_none e hD)]
      exact bb b o hb (bx b o hb e)
    rintro H10 ⟨xs, lx, eD, pl10, b10⟩
    obtain ⟨i, j, rfl⟩ : ∃ i j, xs = [i, j] := by
      match xs, lx with
      | [i, j], _ => exact ⟨i, j, rfl⟩
    have hr10 := hr9.but b10 pl9
    refine ⟨_, rfl, D, rfl, ⟨_, SqL.of eD⟩, fun B hB => lc_list (xs := [i, j].map V.int) (fun t H' => Same H10 H' ∧ ∃ bs : List Addr, H' B = some (.lst (bs.map V.ref)) ∧ Nums H' bs (([i, j].take t).filter fun z => !inR rs z) ∧ bs.length ≤ t) ⟨sameNew hB, [], upd_same, .nil, Nat.le_refl _⟩ (fun t H' _ hp => SqL.of (hp.1 _ _ eD)) ?_ ?_⟩
    · rintro t x H' hx ⟨s', bs, eB, nb, lb⟩
      obtain ⟨z, hz, rfl⟩ := map_at hx
      have tl := (List.getElem?_eq_some_iff.mp hz).1
      refine ⟨rfl, ?_⟩
      have st := filt_succ (p := fun z => !inR rs z) hz
      have good : inR rs z = true → Same H10 H' ∧ ∃ bs : List Addr, H' B = some (.lst (bs.map V.ref)) ∧ Nums H' bs (([i, j].take (t + 1)).filter fun z => !inR rs z) ∧ bs.length ≤ t + 1 := fun y => by
        refine ⟨s', bs, eB, ?_, by omega⟩
        rw [st, y]
        simpa using nb
      refine ⟨_, rfl, _, _, rfl, rfl, _, rfl, ?_⟩
      by_cases c1 : 0 ≤ z
      · refine tT (decide_eq_true c1) ?_
        refine ⟨_, rfl, _, _, rfl, rfl, _, rfl, ?_⟩
        by_cases c2 : z < (rs.length : Int)
        · exact tF (by rw [decide_eq_true c2]; rfl) (good (inR_yes ⟨c1, c2⟩))
        · refine tT (by rw [decide_eq_false c2]; rfl) ?_
          have y := inR_no (rs := rs) (i := z) (fun q => c2 q.2)
          rw [y] at st
          refine ⟨_, rfl, (by show 2 ≤ sizeLine; decide), fun b hb => ?_⟩
          refine ⟨bs.map V.ref, (sameNew hb) _ _ eB, small1000 (by rw [List.length_map]; omega), sameUp (s'.trans (sameNew hb)) hB, bs ++ [b], by rw [upd_same, List.map_append]; rfl, ?_, by rw [List.length_append]; show bs.length + 1 ≤ t + 1; omega⟩
          rw [st]
          exact Nums.up (pr_app (nb.same (sameNew hb)) (.cons upd_same .nil)) ((sameNew hb) _ _ eB)
      · refine tF (decide_eq_false c1) ?_
        refine ⟨_, rfl, ?_⟩
        refine tT rfl ?_
        have y := inR_no (rs := rs) (i := z) (fun q => c1 q.1)
        rw [y] at st
        refine ⟨_, rfl, (by show 2 ≤ sizeLine; decide), fun b hb => ?_⟩
        refine ⟨bs.map V.ref, (sameNew hb) _ _ eB, small1000 (by rw [List.length_map]; omega), sameUp (s'.trans (sameNew hb)) hB, bs ++ [b], by rw [upd_same, List.map_append]; rfl, ?_, by rw [List.length_append]; show bs.length + 1 ≤ t + 1; omega⟩
        rw [st]
        exact Nums.up (pr_app (nb.same (sameNew hb)) (.cons upd_same .nil)) ((sameNew hb) _ _ eB)
    rintro H11 ⟨s11, bs, eB, nb, lb⟩
    change Nums H11 bs ([i, j].filter fun z => !inR rs z) at nb
    change bs.length ≤ 2 at lb
    have pl11 := pl10.same s11
    refine ⟨_, rfl, p, _, rfl, pl11, by omega, fun wd0 H12 w1 w2 pl12 b12 => ?_⟩
    refine ⟨_, _, rfl, rfl, ⟨by decide, by decide, by decide⟩, _, _, rfl, rfl, (by show 3 ≤ sizeLine; decide), fun r2 hr2 => ?_⟩
    have nr2p : r2 ≠ p := pl12.ne hr2
    refine ⟨_, rfl, p, 5, _, rfl, pl12.new hr2, by omega, by decide, by decide, fun d5 H13 y0 y1 pl13 b13 => ⟨_, _, rfl, rfl, _, _, rfl, ?_⟩⟩
    obtain ⟨wd, e3, wdb⟩ : ∃ wd : Int, atI [V.int wd0, V.int 0, V.int (0 - 10 ^ (20 : Int).toNat)] (if d5 - 2 > 0 then d5 - 2 else 0) = some (.int wd) ∧ wd ≤ 1000 := by
      have h : (if d5 - 2 > 0 then d5 - 2 else 0) = 0 ∨ (if d5 - 2 > 0 then d5 - 2 else 0) = 1 ∨ (if d5 - 2 > 0 then d5 - 2 else 0) = 2 := by split <;> omega
      rcases h with h | h | h <;> rw [h]
      · exact ⟨_, rfl, by omega⟩
      · exact ⟨_, rfl, by decide⟩
      · exact ⟨_, rfl, by decide⟩
    refine ⟨r2, _, _, .int wd, rfl, rfl, SqL.of (b13 r2 _ nr2p upd_same), e3, ?_⟩
    have bb : But p H11 H13 := b12.trans ((But.new hr2).trans b13)
    have hr13 := (hr10.same s11).but bb pl11
    have eB13 := bb.keep pl11 eB (refs_np bs)
    have nb13 := nb.but bb pl11
    have tr : ∀ {x : Addr} {o : HO}, H9 x = some o → notPool o = true → H13 x = some o := fun {x o} e ne => bb.keep pl11 (s11 _ _ (b10.keep pl9 e ne)) ne
    have e0' := tr e09 rfl
    have e2' := tr ee9 (by cases okR rs c <;> rfl)
    have f0' := tr (s9 _ _ ef0) rfl
    have f1' := tr (s9 _ _ ef1) rfl
    have eD' := bb.keep pl11 (s11 _ _ eD) rfl
    have pEnd := pl13.mono (show _ ≤ n + 100 by omega)
    have bEnd : But p H H13 := b1.trans ((But.of s2).trans (b3.trans (b4.trans ((But.of (s5.trans s9)).trans (b10.trans ((But.of s11).trans bb))))))
    have kk : ∀ H', Same H13 H' → Q (.bl true) H' := fun H' s => k H' (pEnd.same s) (bEnd.trans (But.of s))
    clear k pEnd bEnd tr nb eB b12 b13 b1 b3 b4 b10 bb
    refine ⟨_, rfl, (by show 2 ≤ sizeLine; decide), fun g0 hg0 => ⟨(by show 1 ≤ sizeLine; decide), fun g1 hg1 => ?_⟩⟩
    refine ⟨_, rfl, _, _, rfl, rfl, .inr ⟨_, rfl, ?_⟩⟩
    refine ⟨g1, _, [.ref g0], rfl, rfl, upd_same, by split <;> decide, by split <;> decide, (by show 1 * _ ≤ sizeLine; split <;> decide), fun g2 hg2 => ?_⟩
    rw [rep_if]
    have s14 : Same H13 (upd (upd (upd H13 g0 (.lst [.str "wide", .int wd])) g1 (.lst [.ref g0])) g2 (.lst (if decide (wd < 1) = true then [V.ref g0] else []))) := ((sameNew hg0).trans (sameNew hg1)).trans (sameNew hg2)
    have eg0 : (upd (upd (upd H13 g0 (.lst [.str "wide", .int wd])) g1 (.lst [.ref g0])) g2 (.lst (if decide (wd < 1) = true then [V.ref g0] else []))) g0 = some (.lst [.str "wide", .int wd]) := ((sameNew hg1).trans (sameNew hg2)) _ _ upd_same
    have eg2 : (upd (upd (upd H13 g0 (.lst [.str "wide", .int wd])) g1 (.lst [.ref g0])) g2 (.lst (if decide (wd < 1) = true then [V.ref g0] else []))) g2 = some (.lst (if decide (wd < 1) = true then [V.ref g0] else [])) := upd_same
    generalize (upd (upd (upd H13 g0 (.lst [.str "wide", .int wd])) g1 (.lst [.ref g0])) g2 (.lst (if decide (wd < 1) = true then [V.ref g0] else []))) = H14 at s14 eg0 eg2 ⊢
    have le1 : (if (!okR rs c) = true then [V.ref e0] else []).length ≤ 1 := by cases okR rs c <;> simp
    have le2 : (if decide (wd < 1) = true then [V.ref g0] else []).length ≤ 1 := by cases decide (wd < 1) <;> simp
    obtain ⟨u1, a1, t1⟩ := due_bad (H := H14) (s14 _ _ e0') (s14 _ _ f0') (nb13.same s14)
    obtain ⟨u2, a2, t2⟩ := due_one (rs := rs) (c := c) (H := H14) (s14 _ _ e0') (s14 _ _ f0')
    obtain ⟨u3, a3, t3⟩ := due_late (rs := rs) (c := c) (H := H14) (s14 _ _ e0') (s14 _ _ f0') eg0
    refine cat3 rfl rfl rfl (s14 _ _ e2') (s14 _ _ eB13) (s14 _ _ f1') (by rw [List.length_map]; show _ + _ + 1 ≤ 1000; omega) a1 fun H15 s15 => ?_
    have s15' := s14.trans s15
    refine cat2 rfl rfl (s15' _ _ e2') (s15' _ _ f1') (by show _ + 1 ≤ 1000; omega) a2 fun H16 s16 => ?_
    refine ⟨(by show 2 ≤ sizeLine; decide), fun x1 hx1 => ?_⟩
    have b17 : Same H14 (upd H16 x1 (.lst [.ref u1, .ref u2])) := (s15.trans s16).trans (sameNew hx1)
    have ex1 : (upd H16 x1 (.lst [.ref u1, .ref u2])) x1 = some (.lst [.ref u1, .ref u2]) := upd_same
    generalize (upd H16 x1 (.lst [.ref u1, .ref u2])) = H17 at b17 ex1 ⊢
    have s17 := s14.trans b17
    refine cat3 rfl rfl rfl (s17 _ _ e2') (b17 _ _ eg2) (s17 _ _ f1') (by show _ + _ + 1 ≤ 1000; omega) a3 fun H18 s18 => ?_
    refine ⟨(by show 1 ≤ sizeLine; decide), fun y1 hy1 => ?_⟩
    refine ⟨y1, 2, [.ref u3], rfl, rfl, upd_same, by decide, by decide, (by show 1 * 2 ≤ sizeLine; decide), fun y2 hy2 => ?_⟩
    refine ⟨x1, y2, [.ref u1, .ref u2], [.ref u3, .ref u3], rfl, rfl, ((s18.trans (sameNew hy1)).trans (sameNew hy2)) _ _ ex1, upd_same, (by show 4 ≤ sizeLine; decide), fun y3 hy3 => ?_⟩
    have b19 : Same H14 (upd (upd (upd H18 y1 (.lst [.ref u3])) y2 (.lst [.ref u3, .ref u3])) y3 (.lst [.ref u1, .ref u2, .ref u3, .ref u3])) := (((b17.trans s18).trans (sameNew hy1)).trans (sameNew hy2)).trans (sameNew hy3)
    have ey3 : (upd (upd (upd H18 y1 (.lst [.ref u3])) y2 (.lst [.ref u3, .ref u3])) y3 (.lst [.ref u1, .ref u2, .ref u3, .ref u3])) y3 = some (.lst [.ref u1, .ref u2, .ref u3, .ref u3]) := upd_same
    change tLst _ _ (upd (upd (upd H18 y1 (.lst [.ref u3])) y2 (.lst [.ref u3, .ref u3])) y3 (.lst [.ref u1, .ref u2, .ref u3, .ref u3])) _
    generalize (upd (upd (upd H18 y1 (.lst [.ref u3])) y2 (.lst [.ref u3, .ref u3])) y3 (.lst [.ref u1, .ref u2, .ref u3, .ref u3])) = H19 at b19 ey3 ⊢
    have s19 := s14.trans b19
    refine cat2 rfl rfl (s19 _ _ e2') (s19 _ _ f1') (by show _ + 1 ≤ 1000; omega) a2 fun H20 s20 => ?_
    refine ⟨(by show 1 ≤ sizeLine; decide), fun y4 hy4 => ?_⟩
    refine ⟨y3, y4, [.ref u1, .ref u2, .ref u3, .ref u3], [.ref u2], rfl, rfl, (s20.trans (sameNew hy4)) _ _ ey3, upd_same, (by show 5 ≤ sizeLine; decide), fun y5 hy5 => ?_⟩
    have b21 : Same H14 (upd (upd H20 y4 (.lst [.ref u2])) y5 (.lst [.ref u1, .ref u2, .ref u3, .ref u3, .ref u2])) := ((b19.trans s20).trans (sameNew hy4)).trans (sameNew hy5)
    have ey5 : (upd (upd H20 y4 (.lst [.ref u2])) y5 (.lst [.ref u1, .ref u2, .ref u3, .ref u3, .ref u2])) y5 = some (.lst [.ref u1, .ref u2, .ref u3, .ref u3, .ref u2]) := upd_same
    change gName 12 _ _ (upd (upd H20 y4 (.lst [.ref u2])) y5 (.lst [.ref u1, .ref u2, .ref u3, .ref u3, .ref u2])) _
    generalize (upd (upd H20 y4 (.lst [.ref u2])) y5 (.lst [.ref u1, .ref u2, .ref u3, .ref u3, .ref u2])) = H21 at b21 ey5 ⊢
    have s21 := s14.trans b21
    have hr21 := hr13.same s21
    refine ⟨_, rfl, _, rfl, D, _, 0, .int i, rfl, rfl, SqL.of (s21 _ _ eD'), rfl, _, rfl, D, _, 1, .int j, rfl, rfl, SqL.of (s21 _ _ eD'), rfl, 0, .ref q, .int i, .int j, _, rfl, .d0 hr21 (by omega), fun v0 H22 s22 w0 => ?_⟩
    have hr22 := hr21.same s22
    refine ⟨_, rfl, 1, .ref q, .int 0, .int 0, _, rfl, .d1 hr22 (by omega), fun v1 H23 s23 w1 => ?_⟩
    have hr23 := hr22.same s23
    refine ⟨_, rfl, _, rfl, 2, .ref q, .int wd, .int 0, _, rfl, .d2 hr23 (by omega) wdb, fun v2 H24 s24 w2 => ?_⟩
    refine ⟨(by show 3 ≤ sizeLine; decide), fun z1 hz1 => ?_⟩
    have hr25 := (hr23.same s24).same (sameNew hz1 (o := .lst [.ref v0, .ref v1, .ref v2]))
    refine ⟨_, rfl, _, rfl, _, rfl, 3, .ref q, .int wd, .int 0, _, rfl, .d3 hr25 (by omega) wdb, fun v3 H26 s26 w3 => ?_⟩
    have hr26 := hr25.same s26
    refine ⟨_, rfl, 4, .ref q, .int 0, .int 0, _, rfl, .d4 hr26 (by omega) (by omega), fun v4 H27 s27 w4 => ?_⟩
    refine ⟨(by show 2 ≤ sizeLine; decide), fun z2 hz2 => ?_⟩
    refine ⟨z1, z2, [.ref v0, .ref v1, .ref v2], [.ref v3, .ref v4], rfl, rfl, ((s26.trans s27).trans (sameNew hz2)) _ _ upd_same, upd_same, (by show 5 ≤ sizeLine; decide), fun z3 hz3 => ?_⟩
    refine ⟨_, rfl, ?_⟩
    have t27 := (sameNew hz2 (o := .lst [.ref v3, .ref v4])).trans (sameNew hz3 (o := .lst ([.ref v0, .ref v1, .ref v2] ++ [.ref v3, .ref v4])))
    have t26 := s27.trans t27
    have t25 := s26.trans t26
    have t24 := (sameNew hz1 (o := .lst [.ref v0, .ref v1, .ref v2])).trans t25
    have t23 := s24.trans t24
    have t22 := s23.trans t23
    have t21 := s22.trans t22
    have tb := b21.trans t21
    have hrF := hr26.same t26
    have fit : ∀ r ∈ [resRk q rs c (resP rs i j), resRk q rs c none, resRk q rs c (resW wd none), resRk q rs c (resW wd none), resRk q rs c none], Fit q r := fun r m => by
      simp only [List.mem_cons, List.not_mem_nil, or_false] at m
      rcases m with rfl | rfl | rfl | rfl | rfl
      · exact fitP ..
      · exact fitN ..
      · exact fitW ..
      · exact fitW ..
      · exact fitN ..
    refine ⟨.list ([resRk q rs c (resP rs i j), resRk q rs c none, resRk q rs c (resW wd none), resRk q rs c (resW wd none), resRk q rs c none].map (toldD rs c)), .list ([resRk q rs c (resP rs i j), resRk q rs c none, resRk q rs c (resW wd none), resRk q rs c (resW wd none), resRk q rs c none].map (toldD rs c)),
      .lst (SqL.of upd_same) (toldAll_dp (ds := [v0, v1, v2, v3, v4]) hrF (.cons ⟨t22 _ _ w0, fitP ..⟩ (.cons ⟨t23 _ _ w1, fitN ..⟩ (.cons ⟨t24 _ _ w2, fitW ..⟩ (.cons ⟨t26 _ _ w3, fitW ..⟩ (.cons ⟨t27 _ _ w4, fitN ..⟩ .nil)))))),
      .lst (SqL.of (t21 _ _ ey5)) (toldAll_dp (ds := [u1, u2, u3, u3, u2]) hrF (.cons ⟨tb _ _ t1, fitP ..⟩ (.cons ⟨tb _ _ t2, fitN ..⟩ (.cons ⟨tb _ _ t3, fitW ..⟩ (.cons ⟨tb _ _ t3, fitW ..⟩ (.cons ⟨tb _ _ t2, fitN ..⟩ .nil)))))), told_sh fit, told_sh fit, ?_⟩
    rw [SeqAt.eqv_refl _ (SeqAt.canLay_of_shaped (told_sh fit))]
    exact kk _ (s21.trans t21)
/-! _law_others_right -/
def sp_law_others_right (K : PySem.W.Frag) (A0 : Ad) : Sp := fun vs H Q E => ∃ (p : Addr) (n : Nat), vs = [.ref p] ∧ Pool H p n ∧ n ≤ 20000 ∧ ∀ H', Pool H' p (n + 100) → But p H H' → Q (.bl true) H'
theorem sc_law_others_right : FnScope ["pool", "wide", "free", "some", "top", "turn", "early", "bad", "spot", "one", "many", "size", "late"] ["pool"] (defScope s_law_others_right) := ⟨rfl, rfl, rfl, by decide +kernel, rfl, by decide +kernel, by decide +kernel⟩
theorem bd_law_others_right (T : Txt w K mg A0) : Binds K A0.d_law_others_right ["pool"] [] := T.F_law_others_right.binds fun _ _ _ _ _ _ us hl => match us, hl with | [_], _ => rfl
set_option maxHeartbeats 0 in
theorem ok_law_others_right (T : Txt w K mg A0) : FnOk P w K mg base CX0 6 A0.a_law_others_right A0.d_law_others_right ["pool"] (sp_law_others_right K A0) := by
  refine T.F_law_others_right.ok sc_law_others_right (fun vs H Q E h => ?_) (fun cdv A outer s H vs Q E hr h => ?_)
  · obtain ⟨p, n, rfl, _⟩ := h
    rfl
  · obtain ⟨p, n, rfl, h⟩ := h
    refine ⟨_, (pss_cons (ps_asg (pe_tup (pa_cons (pe_ix ix_list (pe_lst (pa_cons (pe_call (ok_law_wide T) (hr.mono (by decide)) rfl T.g_law_wide T.F_law_wide.kp (bd_law_wide T) .nil pass0 (pa_cons (pv 0) pa_nil)) (pa_cons pe_int (pa_cons (pe_un un_neg pe_int) pa_nil)))) (pe_callB (call_max2 rfl) (by rfl) T.b_max (by decide +kernel) (pa_cons pe_int (pa_cons (pe_op op_sub (pe_call (ok_law_draw T) (hr.mono (by decide)) rfl T.g_law_draw T.F_law_draw.kp (bd_law_draw T) .nil pass0 (pa_cons (pv 0) (pa_cons pe_int pa_nil))) pe_int) pa_nil))) (fun _ _ => rfl)) (pa_cons (pe_lst (pa_cons (pe_lst (pa_cons pe_str (pa_cons pe_non pa_nil))) pa_nil)) pa_nil))) (pg_tup rfl (pgs_cons (pg_name (i := 1) sc_law_others_right.nd rfl (Or.inr rfl)) (pgs_cons (pg_name (i := 2) sc_law_others_right.nd rfl (Or.inl rfl)) pgs_nil))))
        (pss_cons (ps_par (i := 3) (j := 4) rfl sc_law_others_right.nd rfl rfl (by decide) rfl rfl (pa_cons (pe_lst pa_nil) (pa_cons (pe_call (ok_law_power T) (hr.mono (by decide)) rfl T.g_law_power T.F_law_power.kp (bd_law_power T) .nil pass0 (pa_cons (pe_callB (call_max2 rfl) (by rfl) T.b_max (by decide +kernel) (pa_cons pe_int (pa_cons (pv 1) pa_nil))) pa_nil)) pa_nil)) rfl)
        (pss_cons (ps_for PassesOwn.never rfl (pi_range1 rfl T.b_range (pa_cons pe_int pa_nil)) (pg_name (i := 5) sc_law_others_right.nd rfl (Or.inl rfl)) (pss_one (ps_expr (pe_bmX (K := K) rfl PySem.F.plainAttrs_list PySem.F.slot_list_append PySem.F.type_list_append mt_append (pv 3) (pa_cons (pe_ix ix_list (pe_lst (pa_cons (pe_call (ok_law_draw T) (hr.mono (by decide)) rfl T.g_law_draw T.F_law_draw.kp (bd_law_draw T) .nil pass0 (pa_cons (pv 0) (pa_cons (pv 4) pa_nil))) (pa_cons (pe_un un_neg pe_int) (pa_cons (pe_call (ok_law_power T) (hr.mono (by decide)) rfl T.g_law_power T.F_law_power.kp (bd_law_power T) .nil pass0 (pa_cons pe_int pa_nil)) pa_nil)))) (pe_callB (call_max2 rfl) (by rfl) T.b_max (by decide +kernel) (pa_cons pe_int (pa_cons (pe_op op_sub (pe_call (ok_law_draw T) (hr.mono (by decide)) rfl T.g_law_draw T.F_law_draw.kp (bd_law_draw T) .nil pass0 (pa_cons (pv 0) (pa_cons pe_int pa_nil))) pe_int) pa_nil))) (fun _ _ => rfl)) pa_nil) rfl rfl rfl rfl rfl))))
        (pss_cons (ps_set (i := 6) sc_law_others_right.nd rfl (Or.inl rfl) (pe_op op_rep (pe_lst (pa_cons (pe_lst (pa_cons pe_str (pa_cons (pv 1) pa_nil))) pa_nil)) (pe_callTy call_int1 (by rfl) T.b_int (by decide +kernel) (pa_cons (pe_cmpR op_lt (pv 1) pe_int (nomark _)) pa_nil))))
        (pss_cons (ps_setLc (i := 7) (own := [("spot", 8), ("one", 9)]) rfl sc_law_others_right.nd rfl rfl (sw_true rfl rfl rfl (by decide +kernel)) (pi_enum rfl T.b_enumerate (pa_cons (pv 3) pa_nil)) (blkOk_by (own := [("spot", 8), ("one", 9)]) (N := ["pool", "wide", "free", "some", "top", "turn", "early", "bad", "spot", "one", "many", "size", "late"]) (sc := defScope s_law_others_right) (by decide +kernel)) (fun _ _ _ _ _ => (show PG _ _ (gTup K 2 (gCons (gName 8) (gCons (gName 9) gNil))) from pg_tup rfl (pgs_cons (pg_name (i := 8) sc_law_others_right.nd rfl (Or.inl rfl)) (pgs_cons (pg_name (i := 9) sc_law_others_right.nd rfl (Or.inl rfl)) pgs_nil)))) (fun _ _ _ _ _ => pts_one (pt_not (pt_chain op_le op_lt pe_int (pv 9) (pe_call (ok_law_power T) (hr.mono (by decide)) rfl T.g_law_power T.F_law_power.kp (bd_law_power T) .nil pass0 (pa_cons (pe_callB (call_max2 rfl) (by rfl) T.b_max (by decide +kernel) (pa_cons pe_int (pa_cons (pv 1) pa_nil))) pa_nil))))) (fun _ _ _ _ _ => (pe_lst (pa_cons pe_str (pa_cons (pv 8) pa_nil)))))
        (pss_cons (ps_if (pt_cmpR (op_neD hr.units) (pe_call (ok_law_told T) (hr.mono (by decide)) rfl T.g_law_told T.F_law_told.kp (bd_law_told T) .nil pass0 (pa_cons pe_int (pa_cons (pv 1) (pa_cons (pe_callTy call_tuple_of (by rfl) T.b_tuple (by decide +kernel) (pa_cons (pv 3) pa_nil)) (pa_cons pe_int pa_nil))))) (pe_ix ix_list (pe_op op_cat (pe_op op_cat (pv 6) (pv 7)) (pv 2)) pe_int (fun _ _ => rfl)) (nomark _)) (pss_one (ps_ret pe_bl)) pss_nil)
        (pss_cons (ps_set (i := 10) sc_law_others_right.nd rfl (Or.inl rfl) (pe_ix ix_list (pe_lst (pa_cons (pe_op op_add pe_int (pe_call (ok_law_draw T) (hr.mono (by decide)) rfl T.g_law_draw T.F_law_draw.kp (bd_law_draw T) .nil pass0 (pa_cons (pv 0) (pa_cons pe_int pa_nil)))) (pa_cons pe_int (pa_cons pe_int (pa_cons (pe_un un_neg (pe_op op_pow pe_int pe_int)) pa_nil))))) (pe_callB (call_max2 rfl) (by rfl) T.b_max (by decide +kernel) (pa_cons pe_int (pa_cons (pe_op op_sub (pe_call (ok_law_draw T) (hr.mono (by decide)) rfl T.g_law_draw T.F_law_draw.kp (bd_law_draw T) .nil pass0 (pa_cons (pv 0) (pa_cons pe_int pa_nil))) pe_int) pa_nil))) (fun _ _ => rfl)))
        (pss_cons (ps_par (i := 6) (j := 11) rfl sc_law_others_right.nd rfl rfl (by decide) rfl rfl (pa_cons (pe_op op_rep (pe_lst (pa_cons (pe_lst (pa_cons pe_str (pa_cons (pv 10) pa_nil))) pa_nil)) (pe_callTy call_int1 (by rfl) T.b_int (by decide +kernel) (pa_cons (pe_not (pe_chain op_le op_le pe_int (pv 10) pe_int)) pa_nil))) (pa_cons (pe_ix ix_list (pe_lst (pa_cons pe_int (pa_cons pe_int (pa_cons pe_int (pa_cons pe_int (pa_cons pe_int pa_nil)))))) (pe_callB (call_min2 rfl) (by rfl) T.b_min (by decide +kernel) (pa_cons pe_int (pa_cons (pe_callB (call_max2 rfl) (by rfl) T.b_max (by decide +kernel) (pa_cons pe_int (pa_cons (pe_op op_sub (pv 10) pe_int) pa_nil))) pa_nil))) (fun _ _ => rfl)) pa_nil)) rfl)
        (pss_cons (ps_set (i := 8) sc_law_others_right.nd rfl (Or.inl rfl) (pe_ix ix_list (pe_lst (pa_cons (pe_call (ok_law_draw T) (hr.mono (by decide)) rfl T.g_law_draw T.F_law_draw.kp (bd_law_draw T) .nil pass0 (pa_cons (pv 0) (pa_cons (pv 11) pa_nil))) (pa_cons (pe_un un_neg pe_int) (pa_cons (pv 11) (pa_cons (pe_op op_pow pe_int pe_int) pa_nil))))) (pe_call (ok_law_draw T) (hr.mono (by decide)) rfl T.g_law_draw T.F_law_draw.kp (bd_law_draw T) .nil pass0 (pa_cons (pv 0) (pa_cons pe_int pa_nil))) (fun _ _ => rfl)))
        (pss_cons (ps_set (i := 12) sc_law_others_right.nd rfl (Or.inl rfl) (pe_op op_rep (pe_lst (pa_cons (pe_lst (pa_cons pe_str (pa_cons (pv 8) pa_nil))) pa_nil)) (pe_callTy call_int1 (by rfl) T.b_int (by decide +kernel) (pa_cons (pe_not (pe_chain op_le op_lt pe_int (pv 8) (pv 11))) pa_nil))))
        (pss_one (ps_ret (pe_cmpR (op_eqD hr.units) (pe_lst (pa_cons (pe_call (ok_law_told T) (hr.mono (by decide)) rfl T.g_law_told T.F_law_told.kp (bd_law_told T) .nil pass0 (pa_cons pe_int (pa_cons (pv 10) (pa_cons pe_int (pa_cons pe_int pa_nil))))) (pa_cons (pe_call (ok_law_told T) (hr.mono (by decide)) rfl T.g_law_told T.F_law_told.kp (bd_law_told T) .nil pass0 (pa_cons pe_int (pa_cons (pv 10) (pa_cons (pv 8) (pa_cons pe_int pa_nil))))) pa_nil))) (pe_lst (pa_cons (pe_ix ix_list (pe_op op_cat (pv 6) (pv 2)) pe_int (fun _ _ => rfl)) (pa_cons (pe_ix ix_list (pe_op op_cat (pe_op op_cat (pv 6) (pv 12)) (pv 2)) pe_int (fun _ _ => rfl)) pa_nil))) (nomark _)))))))))))))), ?_⟩
    obtain ⟨pl, hn, k⟩ := h
    refine ⟨_, rfl, p, n, rfl, pl, by omega, fun wd0 H1 w1 w2 pl1 b1 => ?_⟩
    refine ⟨_, rfl, (by show 3 ≤ sizeLine; decide), fun r1 hr1 => ?_⟩
    have nr1 : r1 ≠ p := pl1.ne hr1
    refine ⟨_, rfl, p, 5, _, rfl, pl1.new hr1, by omega, by decide, by decide, fun d2 H2 y0 y1 pl2 b2 => ⟨_, _, rfl, rfl, _, _, rfl, ?_⟩⟩
    obtain ⟨wd, e1, wdb⟩ : ∃ wd : Int, atI [V.int wd0, V.int 0, V.int (-3)] (if d2 - 2 > 0 then d2 - 2 else 0) = some (.int wd) ∧ wd ≤ 300 := by
      have h : (if d2 - 2 > 0 then d2 - 2 else 0) = 0 ∨ (if d2 - 2 > 0 then d2 - 2 else 0) = 1 ∨ (if d2 - 2 > 0 then d2 - 2 else 0) = 2 := by split <;> omega
      rcases h with h | h | h <;> rw [h]
      · exact ⟨_, rfl, by omega⟩
      · exact ⟨_, rfl, by decide⟩
      · exact ⟨_, rfl, by decide⟩
    refine ⟨r1, _, _, .int wd, rfl, rfl, SqL.of (b2 r1 _ nr1 upd_same), e1, ?_⟩
    refine ⟨(by show 2 ≤ sizeLine; decide), fun f0 hf0 => ⟨(by show 1 ≤ sizeLine; decide), fun f1 hf1 => ⟨(by show 2 ≤ sizeLine; decide), fun tp htp => ?_⟩⟩⟩
    refine ⟨tp, _, rfl, SqT.of upd_same, rfl, _, _, rfl, _, _, rfl, rfl, ?_⟩
    have s3 : Same H2 (upd (upd (upd H2 f0 (.lst [.str "none", .non])) f1 (.lst [.ref f0])) tp (.tup [.int wd, .ref f1])) := ((sameNew hf0).trans (sameNew hf1)).trans (sameNew htp)
    have ef0 : (upd (upd (upd H2 f0 (.lst [.str "none", .non])) f1 (.lst [.ref f0])) tp (.tup [.int wd, .ref f1])) f0 = some (.lst [.str "none", .non]) := ((sameNew hf1).trans (sameNew htp)) _ _ upd_same
    have ef1 : (upd (upd (upd H2 f0 (.lst [.str "none", .non])) f1 (.lst [.ref f0])) tp (.tup [.int wd, .ref f1])) f1 = some (.lst [.ref f0]) := (sameNew htp) _ _ upd_same
    generalize (upd (upd (upd H2 f0 (.lst [.str "none", .non])) f1 (.lst [.ref f0])) tp (.tup [.int wd, .ref f1])) = H3 at s3 ef0 ef1 ⊢
    have b13 : But p H H3 := b1.trans ((But.new hr1).trans (b2.trans (But.of s3)))
    have pl3 := pl2.same s3
    refine ⟨(by show 0 ≤ sizeLine; decide), fun l hl => ?_⟩
    refine ⟨_, rfl, _, _, rfl, _, rfl, by split <;> omega, by split <;> omega, ?_⟩
    refine ⟨_, _, rfl, ?_⟩
    have top0 : (0 : Int) < 2 ^ (if wd > 1 then wd else 1).toNat := pow_pos _
    have top1 : (2 : Int) ^ (if wd > 1 then wd else 1).toNat < 2 ^ 400 := pow_lt (by split <;> omega)
    generalize (2 : Int) ^ (if wd > 1 then wd else 1).toNat = top at top0 top1 ⊢
    have nlp : l ≠ p := pl3.ne hl
    refine ⟨4, rfl, by omega, by omega, for_range (n := 4) (fun i σ H' => ∃ (xs : List Int) (u : Option V), σ = [some (.ref p), some (.int wd), some (.ref f1), some (.ref l), some (.int top), u, none, none, none, none, none, none, none] ∧ xs.length = i ∧ H' l = some (.lst (xs.map V.int)) ∧ Pool H' p (n + 5 + 2 * i) ∧ But p H3 H' ∧ ∀ x ∈ xs, x < 2 ^ 400) ⟨[], none, rfl, rfl, upd_same, pl3.new hl, But.new hl, fun x m => absurd m (by simp)⟩ ?_ ?_⟩
    · rintro i σ H' hi ⟨xs, u, rfl, lx, eL, plx, bx, bd⟩
      refine ⟨_, rfl, .inl ⟨rfl, _, SqL.of eL⟩, _, rfl, _, rfl, p, top, _, rfl, plx, by omega, top0, top1, fun d3 H1' y0 y1 plx1 bx1 => ?_⟩
      refine ⟨_, rfl, 300, rfl, by decide, by decide, (by show 3 ≤ sizeLine; decide), fun r hr0' => ?_⟩
      have nrp : r ≠ p := plx1.ne hr0'
      refine ⟨_, rfl, p, 6, _, rfl, plx1.new hr0', by omega, by decide, by decide, fun d4 H2' z0 z1 plx2 bx2 => ⟨_, _, rfl, rfl, _, _, rfl, ?_⟩⟩
      obtain ⟨w3, e3, wb⟩ : ∃ w3 : Int, atI [V.int d3, V.int (-1), V.int (2 ^ (300 : Int).toNat)] (if d4 - 3 > 0 then d4 - 3 else 0) = some (.int w3) ∧ w3 < 2 ^ 400 := by
        have h : (if d4 - 3 > 0 then d4 - 3 else 0) = 0 ∨ (if d4 - 3 > 0 then d4 - 3 else 0) = 1 ∨ (if d4 - 3 > 0 then d4 - 3 else 0) = 2 := by split <;> omega
        rcases h with h | h | h <;> rw [h]
        · exact ⟨_, rfl, by omega⟩
        · exact ⟨_, rfl, by decide⟩
        · exact ⟨_, rfl, pow_lt (by decide)⟩
      refine ⟨r, _, _, .int w3, rfl, rfl, SqL.of (bx2 r _ nrp upd_same), e3, ?_⟩
      have bb := bx1.trans ((But.new hr0').trans bx2)
      refine ⟨l, _, _, rfl, rfl, bb l _ nlp eL, small1000 (by rw [List.length_map]; omega), ?_⟩
      refine ⟨xs ++ [w3], _, rfl, by rw [List.length_append, lx]; rfl, by rw [upd_same, List.map_append]; rfl, (plx2.put nlp).mono (by omega), fun b o hb e => ?_, fun x m => ?_⟩
      · rw [upd_ne (ne_of_none e hl)]
        exact bb b o hb (bx b o hb e)
      · rcases List.mem_append.mp m with m | m
        · exact bd x m
        · rw [List.mem_singleton.mp m]
          exact wb
    rintro σ H5 ⟨xs, u, rfl, lx, eL, pl5, b5, bd⟩
    refine flagL (b := decide (wd < 1)) rfl (fun H' Q' _ q => ⟨_, rfl, _, _, rfl, rfl, q _ (Same.refl _)⟩) fun g0 g2 H6 s6 eg0 eg2 => ?_
    have f0' := s6 _ _ (b5.keep pl3 ef0 rfl)
    have f1' := s6 _ _ (b5.keep pl3 ef1 rfl)
    have eL6 := s6 _ _ eL
    have pl6 := pl5.same s6
    have b16 : But p H H6 := b13.trans (b5.trans (But.of s6))
    refine ⟨_, rfl, l, xs.map V.int, rfl, SqL.of eL6, fun B hB => ite_by (xs := xs.map V.int) (fun t H' => Same H6 H' ∧ ∃ bs : List Addr, H' B = some (.lst (bs.map V.ref)) ∧ WNums H' bs (badIx wd xs t) ∧ bs.length ≤ t) ⟨sameNew hB, [], upd_same, .nil, Nat.le_refl _⟩ (fun t H' _ hp => SqL.of (hp.1 _ _ eL6)) ?_ ?_⟩
    · rintro t x H' T9 hx ⟨s', bs, eB, nb, lb⟩ hT
      obtain ⟨z, hz, rfl⟩ := map_at hx
      refine ⟨T9, _, rfl, SqT.of upd_same, rfl, _, _, rfl, _, _, rfl, rfl, ?_⟩
      refine ⟨rfl, ?_⟩
      have st := badIx_succ (wd := wd) hz
      have tl := (List.getElem?_eq_some_iff.mp hz).1
      have sT : Same H' (upd H' T9 (.tup [.int (t : Nat), .int z])) := sameNew hT
      have good : isW wd z = true → Same H6 (upd H' T9 (.tup [.int (t : Nat), .int z])) ∧ ∃ bs : List Addr, (upd H' T9 (.tup [.int (t : Nat), .int z])) B = some (.lst (bs.map V.ref)) ∧ WNums (upd H' T9 (.tup [.int (t : Nat), .int z])) bs (badIx wd xs (t + 1)) ∧ bs.length ≤ t + 1 := fun y => by
        refine ⟨s'.trans sT, bs, sT _ _ eB, ?_, by omega⟩
        rw [st, if_pos y, List.append_nil]
        exact nb.same sT
      have bad : isW wd z = false → ∀ b, (upd H' T9 (.tup [.int (t : Nat), .int z])) b = none → ∃ acc, (upd (upd H' T9 (.tup [.int (t : Nat), .int z])) b (.lst [.str "words", .int (t : Nat)])) B = some (.lst acc) ∧ acc.length < sizeLine ∧ (Same H6 (upd (upd (upd H' T9 (.tup [.int (t : Nat), .int z])) b (.lst [.str "words", .int (t : Nat)])) B (.lst (acc ++ [.ref b]))) ∧
          ∃ bs : List Addr, (upd (upd (upd H' T9 (.tup [.int (t : Nat), .int z])) b (.lst [.str "words", .int (t : Nat)])) B (.lst (acc ++ [.ref b]))) B = some (.lst (bs.map V.ref)) ∧ WNums (upd (upd (upd H' T9 (.tup [.int (t : Nat), .int z])) b (.lst [.str "words", .int (t : Nat)])) B (.lst (acc ++ [.ref b]))) bs (badIx wd xs (t + 1)) ∧ bs.length ≤ t + 1) := fun y b hb => by
        have s2 := sT.trans (sameNew hb (o := .lst [.str "words", .int (t : Nat)]))
        refine ⟨bs.map V.ref, s2 _ _ eB, small1000 (by rw [List.length_map]; omega), sameUp (s'.trans s2) hB, bs ++ [b], by rw [upd_same, List.map_append]; rfl, ?_, by rw [List.length_append]; show bs.length + 1 ≤ t + 1; omega⟩
        rw [st, y]
        exact WNums.up (pr_app (nb.same s2) (.cons upd_same .nil)) (s2 _ _ eB)
      refine ⟨_, rfl, _, _, rfl, rfl, _, rfl, ?_⟩
      by_cases c1 : 0 ≤ z
      · refine tT (decide_eq_true c1) ?_
        refine ⟨_, rfl, _, _, rfl, _, rfl, by split <;> omega, by split <;> omega, _, _, rfl, rfl, _, rfl, ?_⟩
        by_cases c2 : z < 2 ^ (if wd > 0 then wd else 0).toNat
        · exact tF (by rw [decide_eq_true c2]; rfl) (good (by unfold isW; rw [decide_eq_true c1, decide_eq_true c2]; rfl))
        · refine tT (by rw [decide_eq_false c2]; rfl) ?_
          exact ⟨_, rfl, (by show 2 ≤ sizeLine; decide), fun b hb => bad (by unfold isW; rw [decide_eq_false c2, Bool.and_false]) b hb⟩
      · refine tF (decide_eq_false c1) ?_
        refine ⟨_, rfl, ?_⟩
        refine tT rfl ?_
        exact ⟨_, rfl, (by show 2 ≤ sizeLine; decide), fun b hb => bad (by unfold isW; rw [decide_eq_false c1, Bool.false_and]) b hb⟩
    rintro H7 ⟨s7, bs, eB, nb, lb⟩
    rw [List.length_map] at nb lb
    have le1 : (if decide (wd < 1) = true then [V.ref g0] else []).length ≤ 1 := by cases decide (wd < 1) <;> simp
    refine ⟨_, rfl, _, rfl, l, _, rfl, .inl ⟨SqL.of (s7 _ _ eL6), fun tt htt => ?_⟩⟩
    refine ⟨5, .int wd, .ref tt, .int 0, _, rfl, .d5 (xs := xs) (SqT.of upd_same) (by omega) (by omega) res5_all (fun i hb => res5_bad hb), fun v0 H8 s8 w0 => ?_⟩
    have s68 := s7.trans ((sameNew htt (o := .tup (xs.map V.int))).trans s8)
    have s78 := (sameNew htt (o := .tup (xs.map V.int))).trans s8
    obtain ⟨u1, a1, t1⟩ := due_words (H := H7) (s7 _ _ eg0) (s7 _ _ f0') nb
    refine cat3 rfl rfl rfl (s68 _ _ eg2) (s78 _ _ eB) (s68 _ _ f1') (by rw [List.length_map]; show _ + _ + 1 ≤ 1000; omega) a1 fun H9 s9 => ?_
    refine ⟨toldD [] 0 (resW wd (res5 wd xs)), toldD [] 0 (resW wd (res5 wd xs)), told_dpI (s9 _ _ w0) (fit5 ..), told_dpI ((s78.trans s9) _ _ t1) (fit5 ..), told_sh1 (fit5 ..), told_sh1 (fit5 ..), _, rfl, ?_⟩
    refine tF (by rw [SeqAt.eqv_refl _ (SeqAt.canLay_of_shaped (told_sh1 (fit5 ..)))]; rfl) ?_
    have s69 := s68.trans s9
    have pl9 := pl6.same s69
    have f0' := s69 _ _ f0'
    have f1' := s69 _ _ f1'
    have b19 : But p H H9 := b16.trans (But.of s69)
    clear eg0 eg2 nb eB t1 w0 s9 s8 s78 s68 s7 s69 b16 b13 pl6 eL6 eL
    refine ⟨_, rfl, p, 4, _, rfl, pl9, by omega, by decide, by decide, fun d6 H10 y0 y1 pl10 b10 => ⟨_, _, rfl, rfl, _, _, rfl, rfl, ⟨by decide, by decide, by decide⟩, _, rfl, (by show 4 ≤ sizeLine; decide), fun r2 hr2 => ?_⟩⟩
    have nr2 : r2 ≠ p := pl10.ne hr2
    refine ⟨_, rfl, p, 7, _, rfl, pl10.new hr2, by omega, by decide, by decide, fun d7 H11 y0 y1 pl11 b11 => ⟨_, _, rfl, rfl, _, _, rfl, ?_⟩⟩
    obtain ⟨mn, e3⟩ : ∃ mn : Int, atI [V.int (1 + d6), V.int 0, V.int 6, V.int (-(10 ^ (20 : Int).toNat))] (if d7 - 3 > 0 then d7 - 3 else 0) = some (.int mn) := by
      have h : (if d7 - 3 > 0 then d7 - 3 else 0) = 0 ∨ (if d7 - 3 > 0 then d7 - 3 else 0) = 1 ∨ (if d7 - 3 > 0 then d7 - 3 else 0) = 2 ∨ (if d7 - 3 > 0 then d7 - 3 else 0) = 3 := by split <;> omega
      rcases h with h | h | h | h <;> rw [h] <;> exact ⟨_, rfl⟩
    refine ⟨r2, _, _, .int mn, rfl, rfl, SqL.of (b11 r2 _ nr2 upd_same), e3, ?_⟩
    have b911 : But p H9 H11 := b10.trans ((But.new hr2).trans b11)
    refine flagL (b := !in5 mn) rfl (fun H' Q' _ q => ?_) fun g0 g2 H12 s12 eg0 eg2 => ?_
    · refine ⟨_, rfl, _, _, rfl, rfl, _, rfl, ?_⟩
      by_cases c1 : 1 ≤ mn
      · refine tT (decide_eq_true c1) ?_
        have e : in5 mn = decide (mn ≤ 5) := by unfold in5; rw [decide_eq_true c1]; rfl
        rw [e] at q
        exact ⟨_, _, rfl, rfl, _, rfl, q _ (Same.refl _)⟩
      · refine tF (decide_eq_false c1) ?_
        have e : in5 mn = false := by unfold in5; rw [decide_eq_false c1]; rfl
        rw [e] at q
        exact ⟨_, rfl, q _ (Same.refl _)⟩
    refine ⟨(by show 5 ≤ sizeLine; decide), fun r3 hr3 => ?_⟩
    obtain ⟨sz, e4, z0, z1, hs⟩ := size_at mn
    refine ⟨_, rfl, _, _, rfl, rfl, _, _, rfl, _, _, rfl, r3, _, _, .int sz, rfl, rfl, SqL.of upd_same, e4, _, _, rfl, ?_⟩
    have s13 : Same H11 (upd H12 r3 (.lst [V.int 2, V.int 8, V.int 44, V.int 308, V.int 2612])) := s12.trans (sameNew hr3)
    have eg0 := (sameNew hr3 (o := .lst [V.int 2, V.int 8, V.int 44, V.int 308, V.int 2612])) _ _ eg0
    have eg2 := (sameNew hr3 (o := .lst [V.int 2, V.int 8, V.int 44, V.int 308, V.int 2612])) _ _ eg2
    generalize (upd H12 r3 (.lst [V.int 2, V.int 8, V.int 44, V.int 308, V.int 2612])) = H13 at s13 eg0 eg2 ⊢
    have pl13 := pl11.same s13
    refine ⟨_, rfl, _, rfl, p, sz, _, rfl, pl13, by omega, z0, z1, fun d8 H14 y0 y1 pl14 b14 => ⟨_, rfl, _, rfl, _, _, rfl, rfl, ⟨by decide, by decide, by decide⟩, (by show 4 ≤ sizeLine; decide), fun r4 hr4 => ?_⟩⟩
    have nr4 : r4 ≠ p := pl14.ne hr4
    refine ⟨_, rfl, p, 4, _, rfl, pl14.new hr4, by omega, by decide, by decide, fun d9 H15 y0 y1 pl15 b15 => ?_⟩
    obtain ⟨sp, e5⟩ : ∃ sp : Int, atI [V.int d8, V.int (-1), V.int sz, V.int (10 ^ (30 : Int).toNat)] d9 = some (.int sp) := by
      have h : d9 = 0 ∨ d9 = 1 ∨ d9 = 2 ∨ d9 = 3 := by omega
      rcases h with rfl | rfl | rfl | rfl <;> exact ⟨_, rfl⟩
    refine ⟨r4, _, _, .int sp, rfl, rfl, SqL.of (b15 r4 _ nr4 upd_same), e5, ?_⟩
    have b1315 : But p H13 H15 := b14.trans ((But.new hr4).trans b15)
    refine flagL (b := !(decide (0 ≤ sp) && decide (sp < sz))) rfl (fun H' Q' _ q => ?_) fun t0 t2 H16 s16 et0 et2 => ?_
    · refine ⟨_, rfl, _, _, rfl, rfl, _, rfl, ?_⟩
      by_cases c1 : 0 ≤ sp
      · refine tT (decide_eq_true c1) ?_
        rw [decide_eq_true c1, Bool.true_and] at q
        exact ⟨_, rfl, _, _, rfl, rfl, _, rfl, q _ (Same.refl _)⟩
      · refine tF (decide_eq_false c1) ?_
        rw [decide_eq_false c1, Bool.false_and] at q
        exact ⟨_, rfl, q _ (Same.refl _)⟩
    have hf0 := s16 _ _ (b1315.keep pl13 (s13 _ _ (b911.keep pl9 f0' rfl)) rfl)
    have hf1 := s16 _ _ (b1315.keep pl13 (s13 _ _ (b911.keep pl9 f1' rfl)) rfl)
    have hg0 := s16 _ _ (b1315.keep pl13 eg0 rfl)
    have hg2 := s16 _ _ (b1315.keep pl13 eg2 (by cases in5 mn <;> rfl))
    have kk : ∀ H', Same H16 H' → Q (.bl true) H' := fun H' s => k H' (((pl15.same s16).same s).mono (by omega)) (b19.trans (b911.trans ((But.of s13).trans (b1315.trans (But.of (s16.trans s))))))
    have le2 : (if (!in5 mn) = true then [V.ref g0] else []).length ≤ 1 := by cases in5 mn <;> simp
    have le3 : (if (!(decide (0 ≤ sp) && decide (sp < sz))) = true then [V.ref t0] else []).length ≤ 1 := by cases (decide (0 ≤ sp) && decide (sp < sz)) <;> simp
    obtain ⟨u2, a2, t2'⟩ := due_n1 hg0 hf0
    obtain ⟨u3, a3, t3'⟩ := due_n2 hg0 hf0 et0 hs
    refine ⟨_, rfl, 6, .int mn, .int 0, .int 0, _, rfl, .d6, fun v1 H17 s17 w1 => ?_⟩
    refine ⟨_, rfl, _, rfl, 7, .int mn, .int sp, .int 0, _, rfl, .d7, fun v2 H18 s18 w2 => ?_⟩
    refine ⟨(by show 2 ≤ sizeLine; decide), fun x1 hx1 => ?_⟩
    have s19 := (s17.trans s18).trans (sameNew hx1 (o := .lst [.ref v1, .ref v2]))
    refine cat2 rfl rfl (s19 _ _ hg2) (s19 _ _ hf1) (by show _ + 1 ≤ 1000; omega) a2 fun H20 s20 => ?_
    have s20' := s19.trans s20
    refine cat3 rfl rfl rfl (s20' _ _ hg2) (s20' _ _ et2) (s20' _ _ hf1) (by show _ + _ + 1 ≤ 1000; omega) a3 fun H21 s21 => ?_
    refine ⟨(by show 2 ≤ sizeLine; decide), fun x2 hx2 => ?_⟩
    have q1 := ((sameNew hx1 (o := .lst [.ref v1, .ref v2])).trans s20).trans (s21.trans (sameNew hx2 (o := .lst [.ref u2, .ref u3])))
    have q2 := s18.trans q1
    have q0 := s17.trans q2
    have fit : ∀ r ∈ [resN mn none, resN mn (if 0 ≤ sp ∧ sp < ((allRk mn.toNat).length : Int) then none else some (11, .int sp))], Fit 0 r := fun r m => by
      simp only [List.mem_cons, List.not_mem_nil, or_false] at m
      rcases m with rfl | rfl
      · exact fitI_fit (fitN1 ..)
      · exact fitI_fit (fitN2 ..)
    refine ⟨.list ([resN mn none, resN mn (if 0 ≤ sp ∧ sp < ((allRk mn.toNat).length : Int) then none else some (11, .int sp))].map (toldD [] 0)), .list ([resN mn none, resN mn (if 0 ≤ sp ∧ sp < ((allRk mn.toNat).length : Int) then none else some (11, .int sp))].map (toldD [] 0)),
      .lst (SqL.of ((s20.trans (s21.trans (sameNew hx2))) _ _ upd_same)) (.cons (told_dpI (q2 _ _ w1) (fitN1 ..)) (.cons (told_dpI (q1 _ _ w2) (fitN2 ..)) .nil)),
      .lst (SqL.of upd_same) (.cons (told_dpI (q0 _ _ t2') (fitN1 ..)) (.cons (told_dpI (q0 _ _ t3') (fitN2 ..)) .nil)), told_sh fit, told_sh fit, ?_⟩
    rw [SeqAt.eqv_refl _ (SeqAt.canLay_of_shaped (told_sh fit))]
    exact kk _ q0
/-! law -/
def sp_law (K : PySem.W.Frag) : Sp := fun vs H Q E => ∃ (a : Addr) (ns : List Int), vs = [.ref a] ∧ SqL K H a (ns.map V.int) ∧ ns.length ≤ 63 ∧ ∀ H', Q (.bl true) H'
theorem sc_law : FnScope ["script", "at", "pool", "turn"] ["script"] (defScope s_law) := ⟨rfl, rfl, rfl, by decide +kernel, rfl, by decide +kernel, by decide +kernel⟩
theorem bd_law (T : Txt w K mg A0) : Binds K A0.d_law ["script"] [] := T.F_law.binds fun _ _ _ _ _ _ us hl => match us, hl with | [_], _ => rfl
set_option maxHeartbeats 0 in
theorem ok_law (T : Txt w K mg A0) : FnOk P w K mg base CX0 7 A0.a_law A0.d_law ["script"] (sp_law K) := by
  refine T.F_law.ok sc_law (fun vs H Q E h => ?_) (fun cdv A outer s H vs Q E hr h => ?_)
  · obtain ⟨a, ns, rfl, _⟩ := h
    rfl
  · obtain ⟨a, ns, rfl, h⟩ := h
    refine ⟨_, (pss_cons (ps_for PassesOwn.never rfl (pi_range1 rfl T.b_range (pa_cons (pe_callB (call_max2 rfl) (by rfl) T.b_max (by decide +kernel) (pa_cons pe_int (pa_cons (pe_callB (call_min2 rfl) (by rfl) T.b_min (by decide +kernel) (pa_cons pe_int (pa_cons (pe_callB call_len_seq (by rfl) T.b_len (by decide +kernel) (pa_cons (pv 0) pa_nil)) pa_nil))) pa_nil))) pa_nil)) (pg_name (i := 1) sc_law.nd rfl (Or.inl rfl)) (pss_cons (ps_set (i := 2) sc_law.nd rfl (Or.inl rfl) (pe_call (ok_law_pool T) (hr.mono (by decide)) rfl T.g_law_pool T.F_law_pool.kp (bd_law_pool T) .nil pass0 (pa_cons (pv 0) (pa_cons (pv 1) pa_nil))))
        (pss_one (ps_for PassesOwn.never rfl (pi_range1 rfl T.b_range (pa_cons pe_int pa_nil)) (pg_name (i := 3) sc_law.nd rfl (Or.inl rfl)) (pss_one (ps_if (PW.pt (pw_or (pt_not (pt_val (pe_call (ok_law_rankings_right T) (hr.mono (by decide)) rfl T.g_law_rankings_right T.F_law_rankings_right.kp (bd_law_rankings_right T) .nil pass0 (pa_cons (pv 2) pa_nil)))) (pw_or1 (pt_not (pt_val (pe_call (ok_law_others_right T) (hr.mono (by decide)) rfl T.g_law_others_right T.F_law_others_right.kp (bd_law_others_right T) .nil pass0 (pa_cons (pv 2) pa_nil))))))) (pss_one (ps_ret pe_bl)) pss_nil))))))
        (pss_one (ps_ret (pe_and (pe_cmpR (op_eqD hr.units) (pe_call (ok_law_told T) (hr.mono (by decide)) rfl T.g_law_told T.F_law_told.kp (bd_law_told T) .nil pass0 (pa_cons pe_int (pa_cons (pe_tup (pa_cons (pe_tup (pa_cons pe_int (pa_cons pe_int pa_nil))) (pa_cons pe_int pa_nil))) (pa_cons pe_int (pa_cons pe_int pa_nil))))) (pe_lst (pa_cons pe_str (pa_cons (pe_tup (pa_cons (pe_tup (pa_cons pe_int (pa_cons pe_int pa_nil))) (pa_cons pe_int pa_nil))) pa_nil))) (nomark _)) (pe_one (pe_cmpR (op_eqD hr.units) (pe_call (ok_law_told T) (hr.mono (by decide)) rfl T.g_law_told T.F_law_told.kp (bd_law_told T) .nil pass0 (pa_cons pe_int (pa_cons pe_int (pa_cons pe_int (pa_cons pe_int pa_nil))))) (pe_lst (pa_cons pe_str (pa_cons pe_int pa_nil))) (nomark _))))))), ?_⟩
    obtain ⟨hS, hlen, k⟩ := h
    refine ⟨_, rfl, a, _, rfl, .inl hS, _, _, rfl, _, _, rfl, _, rfl, ?_⟩
    rw [List.length_map]
    obtain ⟨m, hm, em⟩ := laps_of (n := ns.length) (t := 8) (by decide)
    rw [em]
    refine ⟨by omega, by omega, for_range (n := m) (fun i σ H' => ∃ v1 v2 v3, σ = [some (.ref a), v1, v2, v3] ∧ Same H H') ⟨none, none, none, rfl, Same.refl H⟩ ?_ ?_⟩
    · rintro i σ H1 hi ⟨v1, v2, v3, rfl, s1⟩
      refine ⟨_, rfl, _, rfl, a, ns, _, rfl, s1.seq hS, by omega, by omega, hlen, fun p H2 hp s2 pl => ?_⟩
      refine ⟨8, rfl, by decide, by decide, for_range (n := 8) (fun j σ H' => ∃ u3, σ = [some (.ref a), some (.int (0 + (i : Nat))), some (.ref p), u3] ∧ But p H1 H' ∧ Pool H' p (200 * j)) ⟨_, rfl, But.of s2, pl⟩ ?_ ?_⟩
      · rintro j σ H3 hj ⟨u3, rfl, b3, pl3⟩
        refine ⟨_, rfl, p, _, rfl, pl3, by omega, fun H4 pl4 b4 => ⟨true, rfl, ?_⟩⟩
        refine tF rfl ?_
        refine ⟨_, rfl, p, _, rfl, pl4, by omega, fun H5 pl5 b5 => ⟨true, rfl, ?_⟩⟩
        refine tF rfl ?_
        exact ⟨_, rfl, b3.trans (b4.trans b5), pl5.mono (by omega)⟩
      · rintro σ H3 ⟨u3, rfl, b3, pl3⟩
        exact ⟨_, _, _, rfl, fun b o e => b3 b o (ne_of_none (s1 _ _ e) hp) (s1 _ _ e)⟩
    rintro σ H1 ⟨v1, v2, v3, rfl, s1⟩
    refine ⟨(by show 2 ≤ sizeLine; decide), fun t1 ht1 => ⟨(by show 2 ≤ sizeLine; decide), fun q hq => ?_⟩⟩
    have hr0 : RkAt (upd (upd H1 t1 (.tup [.int 0, .int 2])) q (.tup [.ref t1, .int 1])) q t1 [0, 2] 1 := ⟨upd_same, (sameNew hq) _ _ upd_same⟩
    have ok : okR [0, 2] 1 = false := by decide +kernel
    refine ⟨4, .ref q, .int 0, .int 0, _, rfl, .d4 hr0 (by decide) (by decide), fun v0 H4 s4 w0 => ?_⟩
    have e4 : resRk q [0, 2] 1 none = some (4, .ref q) := by unfold resRk; rw [ok]; rfl
    rw [e4] at w0
    refine ⟨(by show 2 ≤ sizeLine; decide), fun t2 ht2 => ⟨(by show 2 ≤ sizeLine; decide), fun q2 hq2 => ⟨(by show 2 ≤ sizeLine; decide), fun l2 hl2 => ?_⟩⟩⟩
    have sF : Same H4 (upd (upd (upd H4 t2 (.tup [.int 0, .int 2])) q2 (.tup [.ref t2, .int 1])) l2 (.lst [.str "ranking", .ref q2])) := ((sameNew ht2).trans (sameNew hq2)).trans (sameNew hl2)
    have hr2 : RkAt (upd (upd (upd H4 t2 (.tup [.int 0, .int 2])) q2 (.tup [.ref t2, .int 1])) l2 (.lst [.str "ranking", .ref q2])) q2 t2 [0, 2] 1 := ⟨(sameNew hl2) _ _ upd_same, ((sameNew hq2).trans (sameNew hl2)) _ _ upd_same⟩
    refine ⟨.list [.str (kindName 4), rkD [0, 2] 1], .list [.str "ranking", rkD [0, 2] 1], .lst (SqL.of (sF _ _ w0)) (.cons (.str _) (.cons ((hr0.same s4).same sF).dp .nil)), .lst (SqL.of upd_same) (.cons (.str _) (.cons hr2.dp .nil)), by decide +kernel, by decide +kernel, _, rfl, ?_⟩
    refine tT (by decide +kernel) ?_
    refine ⟨7, .int 2, .int 8, .int 0, _, rfl, .d7, fun v1 H5 s5 w1 => ?_⟩
    have e7 : resN 2 (if 0 ≤ (8 : Int) ∧ (8 : Int) < ((allRk (2 : Int).toNat).length : Int) then none else some (11, .int 8)) = some (11, .int 8) := by
      have l2 : (allRk (2 : Int).toNat).length = 8 := lens5.2.1
      rw [l2]
      rfl
    rw [e7] at w1
    refine ⟨(by show 2 ≤ sizeLine; decide), fun l3 hl3 => ?_⟩
    refine ⟨.list [.str (kindName 11), .int 8], .list [.str "number", .int 8], .lst (SqL.of ((sameNew hl3) _ _ w1)) (.cons (.str _) (.cons (.int _) .nil)), .lst (SqL.of upd_same) (.cons (.str _) (.cons (.int _) .nil)), by decide +kernel, by decide +kernel, ?_⟩
    rw [show PyData.eqv (.list [.str (kindName 11), .int 8]) (.list [.str "number", .int 8]) = true by decide +kernel]
    exact k _
end
/-! ### the end -/
theorem all_mk {l : PySem.W.OpenLaw} {w : World} {K : PySem.W.Frag} {h : Heap} {mg : Str → Option Value} {fa : Addr} (X : K.In h) (G : h.Ns mainGlobals mg) (hfa : mg "law" = some (.ref fa))
    {f0 : Addr} {od0 an0 : Option Addr} {sl0 : Array (Option Value)} {oc0 kV0 dc0 pm0 cd0 ct0 : Value}
    {f1 : Addr} {od1 an1 : Option Addr} {sl1 : Array (Option Value)} {oc1 kV1 dc1 pm1 cd1 ct1 : Value}
    {f2 : Addr} {od2 an2 : Option Addr} {sl2 : Array (Option Value)} {oc2 kV2 dc2 pm2 cd2 ct2 : Value}
    {f3 : Addr} {od3 an3 : Option Addr} {sl3 : Array (Option Value)} {oc3 kV3 dc3 pm3 cd3 ct3 : Value}
    {f4 : Addr} {od4 an4 : Option Addr} {sl4 : Array (Option Value)} {oc4 kV4 dc4 pm4 cd4 ct4 : Value}
    {f5 : Addr} {od5 an5 : Option Addr} {sl5 : Array (Option Value)} {oc5 kV5 dc5 pm5 cd5 ct5 : Value}
    {f6 : Addr} {od6 an6 : Option Addr} {sl6 : Array (Option Value)} {oc6 kV6 dc6 pm6 cd6 ct6 : Value}
    {f7 : Addr} {od7 an7 : Option Addr} {sl7 : Array (Option Value)} {oc7 kV7 dc7 pm7 cd7 ct7 : Value}
    {f8 : Addr} {od8 an8 : Option Addr} {sl8 : Array (Option Value)} {oc8 kV8 dc8 pm8 cd8 ct8 : Value}
    {f9 : Addr} {od9 an9 : Option Addr} {sl9 : Array (Option Value)} {oc9 kV9 dc9 pm9 cd9 ct9 : Value}
    {f10 : Addr} {od10 an10 : Option Addr} {sl10 : Array (Option Value)} {oc10 kV10 dc10 pm10 cd10 ct10 : Value}
    {f11 : Addr} {od11 an11 : Option Addr} {sl11 : Array (Option Value)} {oc11 kV11 dc11 pm11 cd11 ct11 : Value}
    {f12 : Addr} {od12 an12 : Option Addr} {sl12 : Array (Option Value)} {oc12 kV12 dc12 pm12 cd12 ct12 : Value}
    {f13 : Addr} {od13 an13 : Option Addr} {sl13 : Array (Option Value)} {oc13 kV13 dc13 pm13 cd13 ct13 : Value}
    {f14 : Addr} {od14 an14 : Option Addr} {sl14 : Array (Option Value)} {oc14 kV14 dc14 pm14 cd14 ct14 : Value}
    {f15 : Addr} {od15 an15 : Option Addr} {sl15 : Array (Option Value)} {oc15 kV15 dc15 pm15 cd15 ct15 : Value}
    {f16 : Addr} {od16 an16 : Option Addr} {sl16 : Array (Option Value)} {oc16 kV16 dc16 pm16 cd16 ct16 : Value}
    {f17 : Addr} {od17 an17 : Option Addr} {sl17 : Array (Option Value)} {oc17 kV17 dc17 pm17 cd17 ct17 : Value}
    {f18 : Addr} {od18 an18 : Option Addr} {sl18 : Array (Option Value)} {oc18 kV18 dc18 pm18 cd18 ct18 : Value}
    {f19 : Addr} {od19 an19 : Option Addr} {sl19 : Array (Option Value)} {oc19 kV19 dc19 pm19 cd19 ct19 : Value}
    {f20 : Addr} {od20 an20 : Option Addr} {sl20 : Array (Option Value)} {oc20 kV20 dc20 pm20 cd20 ct20 : Value}
    {f21 : Addr} {od21 an21 : Option Addr} {sl21 : Array (Option Value)} {oc21 kV21 dc21 pm21 cd21 ct21 : Value}
    {f22 : Addr} {od22 an22 : Option Addr} {sl22 : Array (Option Value)} {oc22 kV22 dc22 pm22 cd22 ct22 : Value}
    {f23 : Addr} {od23 an23 : Option Addr} {sl23 : Array (Option Value)} {oc23 kV23 dc23 pm23 cd23 ct23 : Value}
    {f24 : Addr} {od24 an24 : Option Addr} {sl24 : Array (Option Value)} {oc24 kV24 dc24 pm24 cd24 ct24 : Value}
    {f25 : Addr} {od25 an25 : Option Addr} {sl25 : Array (Option Value)} {oc25 kV25 dc25 pm25 cd25 ct25 : Value}
    {f26 : Addr} {od26 an26 : Option Addr} {sl26 : Array (Option Value)} {oc26 kV26 dc26 pm26 cd26 ct26 : Value}
    {f27 : Addr} {od27 an27 : Option Addr} {sl27 : Array (Option Value)} {oc27 kV27 dc27 pm27 cd27 ct27 : Value}
    {f28 : Addr} {od28 an28 : Option Addr} {sl28 : Array (Option Value)} {oc28 kV28 dc28 pm28 cd28 ct28 : Value}
    {f29 : Addr} {od29 an29 : Option Addr} {sl29 : Array (Option Value)} {oc29 kV29 dc29 pm29 cd29 ct29 : Value}
    {f30 : Addr} {od30 an30 : Option Addr} {sl30 : Array (Option Value)} {oc30 kV30 dc30 pm30 cd30 ct30 : Value}
    {f31 : Addr} {od31 an31 : Option Addr} {sl31 : Array (Option Value)} {oc31 kV31 dc31 pm31 cd31 ct31 : Value}
    {f32 : Addr} {od32 an32 : Option Addr} {sl32 : Array (Option Value)} {oc32 kV32 dc32 pm32 cd32 ct32 : Value}
    (a0 : PySem.W.nsIn K mainGlobals "check_width" = some (some (.ref f0))) (l0 : K.lookup f0 = some ⟨oc0, od0, .func (PySem.W.fnOf "check_width" "check_width" (defArgs s_check_width) (defBody s_check_width) (defScope s_check_width) .none kV0 dc0 pm0 an0 cd0 ct0), sl0⟩) (c0 : PySem.W.codeIn K cd0 "check_width" = true) (k0 : PySem.W.keepIn K (.ref f0) = true)
    (a1 : PySem.W.nsIn K mainGlobals "check_words" = some (some (.ref f1))) (l1 : K.lookup f1 = some ⟨oc1, od1, .func (PySem.W.fnOf "check_words" "check_words" (defArgs s_check_words) (defBody s_check_words) (defScope s_check_words) .none kV1 dc1 pm1 an1 cd1 ct1), sl1⟩) (c1 : PySem.W.codeIn K cd1 "check_words" = true) (k1 : PySem.W.keepIn K (.ref f1) = true)
    (a2 : PySem.W.nsIn K mainGlobals "is_word" = some (some (.ref f2))) (l2 : K.lookup f2 = some ⟨oc2, od2, .func (PySem.W.fnOf "is_word" "is_word" (defArgs s_is_word) (defBody s_is_word) (defScope s_is_word) .none kV2 dc2 pm2 an2 cd2 ct2), sl2⟩) (c2 : PySem.W.codeIn K cd2 "is_word" = true) (k2 : PySem.W.keepIn K (.ref f2) = true)
    (a3 : PySem.W.nsIn K mainGlobals "sign_bit" = some (some (.ref f3))) (l3 : K.lookup f3 = some ⟨oc3, od3, .func (PySem.W.fnOf "sign_bit" "sign_bit" (defArgs s_sign_bit) (defBody s_sign_bit) (defScope s_sign_bit) .none kV3 dc3 pm3 an3 cd3 ct3), sl3⟩) (c3 : PySem.W.codeIn K cd3 "sign_bit" = true) (k3 : PySem.W.keepIn K (.ref f3) = true)
    (a4 : PySem.W.nsIn K mainGlobals "outcome_by_cut" = some (some (.ref f4))) (l4 : K.lookup f4 = some ⟨oc4, od4, .func (PySem.W.fnOf "outcome_by_cut" "outcome_by_cut" (defArgs s_outcome_by_cut) (defBody s_outcome_by_cut) (defScope s_outcome_by_cut) .none kV4 dc4 pm4 an4 cd4 ct4), sl4⟩) (c4 : PySem.W.codeIn K cd4 "outcome_by_cut" = true) (k4 : PySem.W.keepIn K (.ref f4) = true)
    (a5 : PySem.W.nsIn K mainGlobals "check_ranking" = some (some (.ref f5))) (l5 : K.lookup f5 = some ⟨oc5, od5, .func (PySem.W.fnOf "check_ranking" "check_ranking" (defArgs s_check_ranking) (defBody s_check_ranking) (defScope s_check_ranking) .none kV5 dc5 pm5 an5 cd5 ct5), sl5⟩) (c5 : PySem.W.codeIn K cd5 "check_ranking" = true) (k5 : PySem.W.keepIn K (.ref f5) = true)
    (a6 : PySem.W.nsIn K mainGlobals "check_items" = some (some (.ref f6))) (l6 : K.lookup f6 = some ⟨oc6, od6, .func (PySem.W.fnOf "check_items" "check_items" (defArgs s_check_items) (defBody s_check_items) (defScope s_check_items) .none kV6 dc6 pm6 an6 cd6 ct6), sl6⟩) (c6 : PySem.W.codeIn K cd6 "check_items" = true) (k6 : PySem.W.keepIn K (.ref f6) = true)
    (a7 : PySem.W.nsIn K mainGlobals "ranking_of" = some (some (.ref f7))) (l7 : K.lookup f7 = some ⟨oc7, od7, .func (PySem.W.fnOf "ranking_of" "ranking_of" (defArgs s_ranking_of) (defBody s_ranking_of) (defScope s_ranking_of) .none kV7 dc7 pm7 an7 cd7 ct7), sl7⟩) (c7 : PySem.W.codeIn K cd7 "ranking_of" = true) (k7 : PySem.W.keepIn K (.ref f7) = true)
    (a8 : PySem.W.nsIn K mainGlobals "outcome_in" = some (some (.ref f8))) (l8 : K.lookup f8 = some ⟨oc8, od8, .func (PySem.W.fnOf "outcome_in" "outcome_in" (defArgs s_outcome_in) (defBody s_outcome_in) (defScope s_outcome_in) .none kV8 dc8 pm8 an8 cd8 ct8), sl8⟩) (c8 : PySem.W.codeIn K cd8 "outcome_in" = true) (k8 : PySem.W.keepIn K (.ref f8) = true)
    (a9 : PySem.W.nsIn K mainGlobals "outcome_between" = some (some (.ref f9))) (l9 : K.lookup f9 = some ⟨oc9, od9, .func (PySem.W.fnOf "outcome_between" "outcome_between" (defArgs s_outcome_between) (defBody s_outcome_between) (defScope s_outcome_between) .none kV9 dc9 pm9 an9 cd9 ct9), sl9⟩) (c9 : PySem.W.codeIn K cd9 "outcome_between" = true) (k9 : PySem.W.keepIn K (.ref f9) = true)
    (a10 : PySem.W.nsIn K mainGlobals "least_width" = some (some (.ref f10))) (l10 : K.lookup f10 = some ⟨oc10, od10, .func (PySem.W.fnOf "least_width" "least_width" (defArgs s_least_width) (defBody s_least_width) (defScope s_least_width) .none kV10 dc10 pm10 an10 cd10 ct10), sl10⟩) (c10 : PySem.W.codeIn K cd10 "least_width" = true) (k10 : PySem.W.keepIn K (.ref f10) = true)
    (a11 : PySem.W.nsIn K mainGlobals "least_words" = some (some (.ref f11))) (l11 : K.lookup f11 = some ⟨oc11, od11, .func (PySem.W.fnOf "least_words" "least_words" (defArgs s_least_words) (defBody s_least_words) (defScope s_least_words) .none kV11 dc11 pm11 an11 cd11 ct11), sl11⟩) (c11 : PySem.W.codeIn K cd11 "least_words" = true) (k11 : PySem.W.keepIn K (.ref f11) = true)
    (a12 : PySem.W.nsIn K mainGlobals "count_words" = some (some (.ref f12))) (l12 : K.lookup f12 = some ⟨oc12, od12, .func (PySem.W.fnOf "count_words" "count_words" (defArgs s_count_words) (defBody s_count_words) (defScope s_count_words) .none kV12 dc12 pm12 an12 cd12 ct12), sl12⟩) (c12 : PySem.W.codeIn K cd12 "count_words" = true) (k12 : PySem.W.keepIn K (.ref f12) = true)
    (a13 : PySem.W.nsIn K mainGlobals "count_rankings" = some (some (.ref f13))) (l13 : K.lookup f13 = some ⟨oc13, od13, .func (PySem.W.fnOf "count_rankings" "count_rankings" (defArgs s_count_rankings) (defBody s_count_rankings) (defScope s_count_rankings) .none kV13 dc13 pm13 an13 cd13 ct13), sl13⟩) (c13 : PySem.W.codeIn K cd13 "count_rankings" = true) (k13 : PySem.W.keepIn K (.ref f13) = true)
    (a14 : PySem.W.nsIn K mainGlobals "nth_ranking" = some (some (.ref f14))) (l14 : K.lookup f14 = some ⟨oc14, od14, .func (PySem.W.fnOf "nth_ranking" "nth_ranking" (defArgs s_nth_ranking) (defBody s_nth_ranking) (defScope s_nth_ranking) .none kV14 dc14 pm14 an14 cd14 ct14), sl14⟩) (c14 : PySem.W.codeIn K cd14 "nth_ranking" = true) (k14 : PySem.W.keepIn K (.ref f14) = true)
    (a15 : PySem.W.nsIn K mainGlobals "ranking_number" = some (some (.ref f15))) (l15 : K.lookup f15 = some ⟨oc15, od15, .func (PySem.W.fnOf "ranking_number" "ranking_number" (defArgs s_ranking_number) (defBody s_ranking_number) (defScope s_ranking_number) .none kV15 dc15 pm15 an15 cd15 ct15), sl15⟩) (c15 : PySem.W.codeIn K cd15 "ranking_number" = true) (k15 : PySem.W.keepIn K (.ref f15) = true)
    (a16 : PySem.W.nsIn K mainGlobals "all_rankings" = some (some (.ref f16))) (l16 : K.lookup f16 = some ⟨oc16, od16, .func (PySem.W.fnOf "all_rankings" "all_rankings" (defArgs s_all_rankings) (defBody s_all_rankings) (defScope s_all_rankings) .none kV16 dc16 pm16 an16 cd16 ct16), sl16⟩) (c16 : PySem.W.codeIn K cd16 "all_rankings" = true) (k16 : PySem.W.keepIn K (.ref f16) = true)
    (a17 : PySem.W.nsIn K mainGlobals "_is_ranking" = some (some (.ref f17))) (l17 : K.lookup f17 = some ⟨oc17, od17, .func (PySem.W.fnOf "_is_ranking" "_is_ranking" (defArgs s_is_ranking) (defBody s_is_ranking) (defScope s_is_ranking) .none kV17 dc17 pm17 an17 cd17 ct17), sl17⟩) (c17 : PySem.W.codeIn K cd17 "_is_ranking" = true) (k17 : PySem.W.keepIn K (.ref f17) = true)
    (a18 : PySem.W.nsIn K mainGlobals "_ranks_by_sign" = some (some (.ref f18))) (l18 : K.lookup f18 = some ⟨oc18, od18, .func (PySem.W.fnOf "_ranks_by_sign" "_ranks_by_sign" (defArgs s_ranks_by_sign) (defBody s_ranks_by_sign) (defScope s_ranks_by_sign) .none kV18 dc18 pm18 an18 cd18 ct18), sl18⟩) (c18 : PySem.W.codeIn K cd18 "_ranks_by_sign" = true) (k18 : PySem.W.keepIn K (.ref f18) = true)
    (a19 : PySem.W.nsIn K mainGlobals "_fits" = some (some (.ref f19))) (l19 : K.lookup f19 = some ⟨oc19, od19, .func (PySem.W.fnOf "_fits" "_fits" (defArgs s_fits) (defBody s_fits) (defScope s_fits) .none kV19 dc19 pm19 an19 cd19 ct19), sl19⟩) (c19 : PySem.W.codeIn K cd19 "_fits" = true) (k19 : PySem.W.keepIn K (.ref f19) = true)
    (a20 : PySem.W.nsIn K mainGlobals "_gaps" = some (some (.ref f20))) (l20 : K.lookup f20 = some ⟨oc20, od20, .func (PySem.W.fnOf "_gaps" "_gaps" (defArgs s_gaps) (defBody s_gaps) (defScope s_gaps) .none kV20 dc20 pm20 an20 cd20 ct20), sl20⟩) (c20 : PySem.W.codeIn K cd20 "_gaps" = true) (k20 : PySem.W.keepIn K (.ref f20) = true)
    (a21 : PySem.W.nsIn K mainGlobals "_law_pool" = some (some (.ref f21))) (l21 : K.lookup f21 = some ⟨oc21, od21, .func (PySem.W.fnOf "_law_pool" "_law_pool" (defArgs s_law_pool) (defBody s_law_pool) (defScope s_law_pool) .none kV21 dc21 pm21 an21 cd21 ct21), sl21⟩) (c21 : PySem.W.codeIn K cd21 "_law_pool" = true) (k21 : PySem.W.keepIn K (.ref f21) = true)
    (a22 : PySem.W.nsIn K mainGlobals "_law_draw" = some (some (.ref f22))) (l22 : K.lookup f22 = some ⟨oc22, od22, .func (PySem.W.fnOf "_law_draw" "_law_draw" (defArgs s_law_draw) (defBody s_law_draw) (defScope s_law_draw) .none kV22 dc22 pm22 an22 cd22 ct22), sl22⟩) (c22 : PySem.W.codeIn K cd22 "_law_draw" = true) (k22 : PySem.W.keepIn K (.ref f22) = true)
    (a23 : PySem.W.nsIn K mainGlobals "_law_wide" = some (some (.ref f23))) (l23 : K.lookup f23 = some ⟨oc23, od23, .func (PySem.W.fnOf "_law_wide" "_law_wide" (defArgs s_law_wide) (defBody s_law_wide) (defScope s_law_wide) .none kV23 dc23 pm23 an23 cd23 ct23), sl23⟩) (c23 : PySem.W.codeIn K cd23 "_law_wide" = true) (k23 : PySem.W.keepIn K (.ref f23) = true)
    (a24 : PySem.W.nsIn K mainGlobals "_law_power" = some (some (.ref f24))) (l24 : K.lookup f24 = some ⟨oc24, od24, .func (PySem.W.fnOf "_law_power" "_law_power" (defArgs s_law_power) (defBody s_law_power) (defScope s_law_power) .none kV24 dc24 pm24 an24 cd24 ct24), sl24⟩) (c24 : PySem.W.codeIn K cd24 "_law_power" = true) (k24 : PySem.W.keepIn K (.ref f24) = true)
    (a25 : PySem.W.nsIn K mainGlobals "_law_all_rankings" = some (some (.ref f25))) (l25 : K.lookup f25 = some ⟨oc25, od25, .func (PySem.W.fnOf "_law_all_rankings" "_law_all_rankings" (defArgs s_law_all_rankings) (defBody s_law_all_rankings) (defScope s_law_all_rankings) .none kV25 dc25 pm25 an25 cd25 ct25), sl25⟩) (c25 : PySem.W.codeIn K cd25 "_law_all_rankings" = true) (k25 : PySem.W.keepIn K (.ref f25) = true)
    (a26 : PySem.W.nsIn K mainGlobals "_law_kind" = some (some (.ref f26))) (l26 : K.lookup f26 = some ⟨oc26, od26, .func (PySem.W.fnOf "_law_kind" "_law_kind" (defArgs s_law_kind) (defBody s_law_kind) (defScope s_law_kind) .none kV26 dc26 pm26 an26 cd26 ct26), sl26⟩) (c26 : PySem.W.codeIn K cd26 "_law_kind" = true) (k26 : PySem.W.keepIn K (.ref f26) = true)
    (a27 : PySem.W.nsIn K mainGlobals "_law_told" = some (some (.ref f27))) (l27 : K.lookup f27 = some ⟨oc27, od27, .func (PySem.W.fnOf "_law_told" "_law_told" (defArgs s_law_told) (defBody s_law_told) (defScope s_law_told) .none kV27 dc27 pm27 an27 cd27 ct27), sl27⟩) (c27 : PySem.W.codeIn K cd27 "_law_told" = true) (k27 : PySem.W.keepIn K (.ref f27) = true)
    (a28 : PySem.W.nsIn K mainGlobals "_law_bent" = some (some (.ref f28))) (l28 : K.lookup f28 = some ⟨oc28, od28, .func (PySem.W.fnOf "_law_bent" "_law_bent" (defArgs s_law_bent) (defBody s_law_bent) (defScope s_law_bent) .none kV28 dc28 pm28 an28 cd28 ct28), sl28⟩) (c28 : PySem.W.codeIn K cd28 "_law_bent" = true) (k28 : PySem.W.keepIn K (.ref f28) = true)
    (a29 : PySem.W.nsIn K mainGlobals "_law_is_ranking" = some (some (.ref f29))) (l29 : K.lookup f29 = some ⟨oc29, od29, .func (PySem.W.fnOf "_law_is_ranking" "_law_is_ranking" (defArgs s_law_is_ranking) (defBody s_law_is_ranking) (defScope s_law_is_ranking) .none kV29 dc29 pm29 an29 cd29 ct29), sl29⟩) (c29 : PySem.W.codeIn K cd29 "_law_is_ranking" = true) (k29 : PySem.W.keepIn K (.ref f29) = true)
    (a30 : PySem.W.nsIn K mainGlobals "_law_rankings_right" = some (some (.ref f30))) (l30 : K.lookup f30 = some ⟨oc30, od30, .func (PySem.W.fnOf "_law_rankings_right" "_law_rankings_right" (defArgs s_law_rankings_right) (defBody s_law_rankings_right) (defScope s_law_rankings_right) .none kV30 dc30 pm30 an30 cd30 ct30), sl30⟩) (c30 : PySem.W.codeIn K cd30 "_law_rankings_right" = true) (k30 : PySem.W.keepIn K (.ref f30) = true)
    (a31 : PySem.W.nsIn K mainGlobals "_law_others_right" = some (some (.ref f31))) (l31 : K.lookup f31 = some ⟨oc31, od31, .func (PySem.W.fnOf "_law_others_right" "_law_others_right" (defArgs s_law_others_right) (defBody s_law_others_right) (defScope s_law_others_right) .none kV31 dc31 pm31 an31 cd31 ct31), sl31⟩) (c31 : PySem.W.codeIn K cd31 "_law_others_right" = true) (k31 : PySem.W.keepIn K (.ref f31) = true)
    (a32 : PySem.W.nsIn K mainGlobals "law" = some (some (.ref f32))) (l32 : K.lookup f32 = some ⟨oc32, od32, .func (PySem.W.fnOf "law" "law" (defArgs s_law) (defBody s_law) (defScope s_law) .none kV32 dc32 pm32 an32 cd32 ct32), sl32⟩) (c32 : PySem.W.codeIn K cd32 "law" = true) (k32 : PySem.W.keepIn K (.ref f32) = true)
    (z_ValueError : PySem.W.nsIn K mainGlobals "ValueError" = some none)
    (z_abs : PySem.W.nsIn K mainGlobals "abs" = some none)
    (z_any : PySem.W.nsIn K mainGlobals "any" = some none)
    (z_enumerate : PySem.W.nsIn K mainGlobals "enumerate" = some none)
    (z_int : PySem.W.nsIn K mainGlobals "int" = some none)
    (z_isinstance : PySem.W.nsIn K mainGlobals "isinstance" = some none)
    (z_len : PySem.W.nsIn K mainGlobals "len" = some none)
    (z_list : PySem.W.nsIn K mainGlobals "list" = some none)
    (z_max : PySem.W.nsIn K mainGlobals "max" = some none)
    (z_min : PySem.W.nsIn K mainGlobals "min" = some none)
    (z_range : PySem.W.nsIn K mainGlobals "range" = some none)
    (z_set : PySem.W.nsIn K mainGlobals "set" = some none)
    (z_sorted : PySem.W.nsIn K mainGlobals "sorted" = some none)
    (z_tuple : PySem.W.nsIn K mainGlobals "tuple" = some none)
    (z_type : PySem.W.nsIn K mainGlobals "type" = some none)
    {ti_MOST_ITEMS : Tok} (ai_MOST_ITEMS : PySem.W.nsIn K mainGlobals "MOST_ITEMS" = some (some (.int 5 ti_MOST_ITEMS)))
    (af_comb : PySem.W.nsIn K mainGlobals "comb" = some (some (.builtin "math.comb")))
    {cB : Addr} (aB : PySem.W.nsIn K mainGlobals "BranchError" = some (some (.ref cB))) (kB : PySem.W.keepIn K (.ref cB) = true) (qB : PySem.W.excIn K cB [.type "ValueError", .type "Exception", .type "BaseException", .type "object"] "ValueError.__new__" = true)
    (e1B : PySem.W.findIn K (.ref cB) "__getattribute__" = some (some (.builtin "BaseException.__getattribute__"))) (e2B : PySem.W.findIn K (.ref cB) "__getattr__" = some none) (e3B : PySem.W.subIn K (.ref cB) (.type "BaseException") = some true) (e4B : PySem.W.hasDictIn K cB = true) (e5B : PySem.W.findIn K (.ref cB) "__class__" = some (some (.builtin "object.__class__"))) (e6B : PySem.W.mroIn K cB (.type "object") = some true)
    (sg : PySem.W.specialIn K (.builtin "object.__class__") "__get__" = some (some (.builtin "getset_descriptor.__get__"))) (st : PySem.W.takesIn K (.builtin "object.__class__") = some true)
    {ce0 ie0 Ne0 : Addr} {ne0 qe0 : Str} {be0 : List Value} {se0 : List Str} {ue0 : List Value} {ve0 : Bool} {we0 : Option Bool} {xe0 : Option Addr} {ma0 mb0 mc0 md0 me0 : Option Value}
    {oi0 ai0 : Option Addr} {li0 : Array (Option Value)} {ci0 ki0 di0 pi0 gi0 ti0 : Value}
    (E1_0 : PySem.W.nsIn K mainGlobals "InvalidWidth" = some (some (.ref ce0))) (E2_0 : K.lookup ce0 = some (excClassObj ne0 qe0 ce0 Ne0 be0 [.ref cB, .type "ValueError", .type "Exception", .type "BaseException", .type "object"] true se0 ue0 ve0 we0 xe0 ma0 mb0 mc0 md0 me0 "ValueError.__new__"))
    (E3_0 : PySem.W.findIn K (.ref ce0) "__setattr__" = some (some (.builtin "object.__setattr__"))) (E4_0 : PySem.W.typeIn K (.ref ce0) = some (.type "type")) (E5_0 : PySem.W.keepIn K (.ref ce0) = true) (E6_0 : PySem.W.findIn K (.ref ce0) "value" = some none)
    (E7_0 : PySem.W.findIn K (.ref ce0) "__init__" = some (some (.ref ie0))) (E8_0 : PySem.W.typeIn K (.ref ie0) = some (.type "function")) (E9_0 : K.lookup ie0 = some ⟨ci0, oi0, .func (PySem.W.fnOf "__init__" "InvalidWidth.__init__" (defArgs s_InvalidWidth) (defBody s_InvalidWidth) (defScope s_InvalidWidth) .none ki0 di0 pi0 ai0 gi0 ti0), li0⟩) (Ea_0 : PySem.W.codeIn K gi0 "InvalidWidth.__init__" = true) (Eb_0 : PySem.W.keepIn K (.ref ie0) = true)
    (e1_0 : PySem.W.findIn K (.ref ce0) "__getattribute__" = some (some (.builtin "BaseException.__getattribute__"))) (e2_0 : PySem.W.findIn K (.ref ce0) "__getattr__" = some none) (e3_0 : PySem.W.subIn K (.ref ce0) (.type "BaseException") = some true) (e4_0 : PySem.W.hasDictIn K ce0 = true) (e5_0 : PySem.W.findIn K (.ref ce0) "__class__" = some (some (.builtin "object.__class__"))) (e6_0 : PySem.W.mroIn K ce0 (.type "object") = some true)
    {ce1 ie1 Ne1 : Addr} {ne1 qe1 : Str} {be1 : List Value} {se1 : List Str} {ue1 : List Value} {ve1 : Bool} {we1 : Option Bool} {xe1 : Option Addr} {ma1 mb1 mc1 md1 me1 : Option Value}
    {oi1 ai1 : Option Addr} {li1 : Array (Option Value)} {ci1 ki1 di1 pi1 gi1 ti1 : Value}
    (E1_1 : PySem.W.nsIn K mainGlobals "InvalidWords" = some (some (.ref ce1))) (E2_1 : K.lookup ce1 = some (excClassObj ne1 qe1 ce1 Ne1 be1 [.ref cB, .type "ValueError", .type "Exception", .type "BaseException", .type "object"] true se1 ue1 ve1 we1 xe1 ma1 mb1 mc1 md1 me1 "ValueError.__new__"))
    (E3_1 : PySem.W.findIn K (.ref ce1) "__setattr__" = some (some (.builtin "object.__setattr__"))) (E4_1 : PySem.W.typeIn K (.ref ce1) = some (.type "type")) (E5_1 : PySem.W.keepIn K (.ref ce1) = true) (E6_1 : PySem.W.findIn K (.ref ce1) "value" = some none)
    (E7_1 : PySem.W.findIn K (.ref ce1) "__init__" = some (some (.ref ie1))) (E8_1 : PySem.W.typeIn K (.ref ie1) = some (.type "function")) (E9_1 : K.lookup ie1 = some ⟨ci1, oi1, .func (PySem.W.fnOf "__init__" "InvalidWords.__init__" (defArgs s_InvalidWords) (defBody s_InvalidWords) (defScope s_InvalidWords) .none ki1 di1 pi1 ai1 gi1 ti1), li1⟩) (Ea_1 : PySem.W.codeIn K gi1 "InvalidWords.__init__" = true) (Eb_1 : PySem.W.keepIn K (.ref ie1) = true)
    (e1_1 : PySem.W.findIn K (.ref ce1) "__getattribute__" = some (some (.builtin "BaseException.__getattribute__"))) (e2_1 : PySem.W.findIn K (.ref ce1) "__getattr__" = some none) (e3_1 : PySem.W.subIn K (.ref ce1) (.type "BaseException") = some true) (e4_1 : PySem.W.hasDictIn K ce1 = true) (e5_1 : PySem.W.findIn K (.ref ce1) "__class__" = some (some (.builtin "object.__class__"))) (e6_1 : PySem.W.mroIn K ce1 (.type "object") = some true)
    {ce2 ie2 Ne2 : Addr} {ne2 qe2 : Str} {be2 : List Value} {se2 : List Str} {ue2 : List Value} {ve2 : Bool} {we2 : Option Bool} {xe2 : Option Addr} {ma2 mb2 mc2 md2 me2 : Option Value}
    {oi2 ai2 : Option Addr} {li2 : Array (Option Value)} {ci2 ki2 di2 pi2 gi2 ti2 : Value}
    (E1_2 : PySem.W.nsIn K mainGlobals "InvalidOutcome" = some (some (.ref ce2))) (E2_2 : K.lookup ce2 = some (excClassObj ne2 qe2 ce2 Ne2 be2 [.ref cB, .type "ValueError", .type "Exception", .type "BaseException", .type "object"] true se2 ue2 ve2 we2 xe2 ma2 mb2 mc2 md2 me2 "ValueError.__new__"))
    (E3_2 : PySem.W.findIn K (.ref ce2) "__setattr__" = some (some (.builtin "object.__setattr__"))) (E4_2 : PySem.W.typeIn K (.ref ce2) = some (.type "type")) (E5_2 : PySem.W.keepIn K (.ref ce2) = true) (E6_2 : PySem.W.findIn K (.ref ce2) "value" = some none)
    (E7_2 : PySem.W.findIn K (.ref ce2) "__init__" = some (some (.ref ie2))) (E8_2 : PySem.W.typeIn K (.ref ie2) = some (.type "function")) (E9_2 : K.lookup ie2 = some ⟨ci2, oi2, .func (PySem.W.fnOf "__init__" "InvalidOutcome.__init__" (defArgs s_InvalidOutcome) (defBody s_InvalidOutcome) (defScope s_InvalidOutcome) .none ki2 di2 pi2 ai2 gi2 ti2), li2⟩) (Ea_2 : PySem.W.codeIn K gi2 "InvalidOutcome.__init__" = true) (Eb_2 : PySem.W.keepIn K (.ref ie2) = true)
    (e1_2 : PySem.W.findIn K (.ref ce2) "__getattribute__" = some (some (.builtin "BaseException.__getattribute__"))) (e2_2 : PySem.W.findIn K (.ref ce2) "__getattr__" = some none) (e3_2 : PySem.W.subIn K (.ref ce2) (.type "BaseException") = some true) (e4_2 : PySem.W.hasDictIn K ce2 = true) (e5_2 : PySem.W.findIn K (.ref ce2) "__class__" = some (some (.builtin "object.__class__"))) (e6_2 : PySem.W.mroIn K ce2 (.type "object") = some true)
    {ce3 ie3 Ne3 : Addr} {ne3 qe3 : Str} {be3 : List Value} {se3 : List Str} {ue3 : List Value} {ve3 : Bool} {we3 : Option Bool} {xe3 : Option Addr} {ma3 mb3 mc3 md3 me3 : Option Value}
    {oi3 ai3 : Option Addr} {li3 : Array (Option Value)} {ci3 ki3 di3 pi3 gi3 ti3 : Value}
    (E1_3 : PySem.W.nsIn K mainGlobals "InvalidCondition" = some (some (.ref ce3))) (E2_3 : K.lookup ce3 = some (excClassObj ne3 qe3 ce3 Ne3 be3 [.ref cB, .type "ValueError", .type "Exception", .type "BaseException", .type "object"] true se3 ue3 ve3 we3 xe3 ma3 mb3 mc3 md3 me3 "ValueError.__new__"))
    (E3_3 : PySem.W.findIn K (.ref ce3) "__setattr__" = some (some (.builtin "object.__setattr__"))) (E4_3 : PySem.W.typeIn K (.ref ce3) = some (.type "type")) (E5_3 : PySem.W.keepIn K (.ref ce3) = true) (E6_3 : PySem.W.findIn K (.ref ce3) "value" = some none)
    (E7_3 : PySem.W.findIn K (.ref ce3) "__init__" = some (some (.ref ie3))) (E8_3 : PySem.W.typeIn K (.ref ie3) = some (.type "function")) (E9_3 : K.lookup ie3 = some ⟨ci3, oi3, .func (PySem.W.fnOf "__init__" "InvalidCondition.__init__" (defArgs s_InvalidCondition) (defBody s_InvalidCondition) (defScope s_InvalidCondition) .none ki3 di3 pi3 ai3 gi3 ti3), li3⟩) (Ea_3 : PySem.W.codeIn K gi3 "InvalidCondition.__init__" = true) (Eb_3 : PySem.W.keepIn K (.ref ie3) = true)
    (e1_3 : PySem.W.findIn K (.ref ce3) "__getattribute__" = some (some (.builtin "BaseException.__getattribute__"))) (e2_3 : PySem.W.findIn K (.ref ce3) "__getattr__" = some none) (e3_3 : PySem.W.subIn K (.ref ce3) (.type "BaseException") = some true) (e4_3 : PySem.W.hasDictIn K ce3 = true) (e5_3 : PySem.W.findIn K (.ref ce3) "__class__" = some (some (.builtin "object.__class__"))) (e6_3 : PySem.W.mroIn K ce3 (.type "object") = some true)
    {ce4 ie4 Ne4 : Addr} {ne4 qe4 : Str} {be4 : List Value} {se4 : List Str} {ue4 : List Value} {ve4 : Bool} {we4 : Option Bool} {xe4 : Option Addr} {ma4 mb4 mc4 md4 me4 : Option Value}
    {oi4 ai4 : Option Addr} {li4 : Array (Option Value)} {ci4 ki4 di4 pi4 gi4 ti4 : Value}
    (E1_4 : PySem.W.nsIn K mainGlobals "InvalidRanking" = some (some (.ref ce4))) (E2_4 : K.lookup ce4 = some (excClassObj ne4 qe4 ce4 Ne4 be4 [.ref cB, .type "ValueError", .type "Exception", .type "BaseException", .type "object"] true se4 ue4 ve4 we4 xe4 ma4 mb4 mc4 md4 me4 "ValueError.__new__"))
    (E3_4 : PySem.W.findIn K (.ref ce4) "__setattr__" = some (some (.builtin "object.__setattr__"))) (E4_4 : PySem.W.typeIn K (.ref ce4) = some (.type "type")) (E5_4 : PySem.W.keepIn K (.ref ce4) = true) (E6_4 : PySem.W.findIn K (.ref ce4) "value" = some none)
    (E7_4 : PySem.W.findIn K (.ref ce4) "__init__" = some (some (.ref ie4))) (E8_4 : PySem.W.typeIn K (.ref ie4) = some (.type "function")) (E9_4 : K.lookup ie4 = some ⟨ci4, oi4, .func (PySem.W.fnOf "__init__" "InvalidRanking.__init__" (defArgs s_InvalidRanking) (defBody s_InvalidRanking) (defScope s_InvalidRanking) .none ki4 di4 pi4 ai4 gi4 ti4), li4⟩) (Ea_4 : PySem.W.codeIn K gi4 "InvalidRanking.__init__" = true) (Eb_4 : PySem.W.keepIn K (.ref ie4) = true)
    (e1_4 : PySem.W.findIn K (.ref ce4) "__getattribute__" = some (some (.builtin "BaseException.__getattribute__"))) (e2_4 : PySem.W.findIn K (.ref ce4) "__getattr__" = some none) (e3_4 : PySem.W.subIn K (.ref ce4) (.type "BaseException") = some true) (e4_4 : PySem.W.hasDictIn K ce4 = true) (e5_4 : PySem.W.findIn K (.ref ce4) "__class__" = some (some (.builtin "object.__class__"))) (e6_4 : PySem.W.mroIn K ce4 (.type "object") = some true)
    {ce5 ie5 Ne5 : Addr} {ne5 qe5 : Str} {be5 : List Value} {se5 : List Str} {ue5 : List Value} {ve5 : Bool} {we5 : Option Bool} {xe5 : Option Addr} {ma5 mb5 mc5 md5 me5 : Option Value}
    {oi5 ai5 : Option Addr} {li5 : Array (Option Value)} {ci5 ki5 di5 pi5 gi5 ti5 : Value}
    (E1_5 : PySem.W.nsIn K mainGlobals "InvalidKnowledge" = some (some (.ref ce5))) (E2_5 : K.lookup ce5 = some (excClassObj ne5 qe5 ce5 Ne5 be5 [.ref cB, .type "ValueError", .type "Exception", .type "BaseException", .type "object"] true se5 ue5 ve5 we5 xe5 ma5 mb5 mc5 md5 me5 "ValueError.__new__"))
    (E3_5 : PySem.W.findIn K (.ref ce5) "__setattr__" = some (some (.builtin "object.__setattr__"))) (E4_5 : PySem.W.typeIn K (.ref ce5) = some (.type "type")) (E5_5 : PySem.W.keepIn K (.ref ce5) = true) (E6_5 : PySem.W.findIn K (.ref ce5) "value" = some none)
    (E7_5 : PySem.W.findIn K (.ref ce5) "__init__" = some (some (.ref ie5))) (E8_5 : PySem.W.typeIn K (.ref ie5) = some (.type "function")) (E9_5 : K.lookup ie5 = some ⟨ci5, oi5, .func (PySem.W.fnOf "__init__" "InvalidKnowledge.__init__" (defArgs s_InvalidKnowledge) (defBody s_InvalidKnowledge) (defScope s_InvalidKnowledge) .none ki5 di5 pi5 ai5 gi5 ti5), li5⟩) (Ea_5 : PySem.W.codeIn K gi5 "InvalidKnowledge.__init__" = true) (Eb_5 : PySem.W.keepIn K (.ref ie5) = true)
    (e1_5 : PySem.W.findIn K (.ref ce5) "__getattribute__" = some (some (.builtin "BaseException.__getattribute__"))) (e2_5 : PySem.W.findIn K (.ref ce5) "__getattr__" = some none) (e3_5 : PySem.W.subIn K (.ref ce5) (.type "BaseException") = some true) (e4_5 : PySem.W.hasDictIn K ce5 = true) (e5_5 : PySem.W.findIn K (.ref ce5) "__class__" = some (some (.builtin "object.__class__"))) (e6_5 : PySem.W.mroIn K ce5 (.type "object") = some true)
    {ce6 ie6 Ne6 : Addr} {ne6 qe6 : Str} {be6 : List Value} {se6 : List Str} {ue6 : List Value} {ve6 : Bool} {we6 : Option Bool} {xe6 : Option Addr} {ma6 mb6 mc6 md6 me6 : Option Value}
    {oi6 ai6 : Option Addr} {li6 : Array (Option Value)} {ci6 ki6 di6 pi6 gi6 ti6 : Value}
    (E1_6 : PySem.W.nsIn K mainGlobals "InvalidProgram" = some (some (.ref ce6))) (E2_6 : K.lookup ce6 = some (excClassObj ne6 qe6 ce6 Ne6 be6 [.ref cB, .type "ValueError", .type "Exception", .type "BaseException", .type "object"] true se6 ue6 ve6 we6 xe6 ma6 mb6 mc6 md6 me6 "ValueError.__new__"))
    (E3_6 : PySem.W.findIn K (.ref ce6) "__setattr__" = some (some (.builtin "object.__setattr__"))) (E4_6 : PySem.W.typeIn K (.ref ce6) = some (.type "type")) (E5_6 : PySem.W.keepIn K (.ref ce6) = true) (E6_6 : PySem.W.findIn K (.ref ce6) "value" = some none)
    (E7_6 : PySem.W.findIn K (.ref ce6) "__init__" = some (some (.ref ie6))) (E8_6 : PySem.W.typeIn K (.ref ie6) = some (.type "function")) (E9_6 : K.lookup ie6 = some ⟨ci6, oi6, .func (PySem.W.fnOf "__init__" "InvalidProgram.__init__" (defArgs s_InvalidProgram) (defBody s_InvalidProgram) (defScope s_InvalidProgram) .none ki6 di6 pi6 ai6 gi6 ti6), li6⟩) (Ea_6 : PySem.W.codeIn K gi6 "InvalidProgram.__init__" = true) (Eb_6 : PySem.W.keepIn K (.ref ie6) = true)
    (e1_6 : PySem.W.findIn K (.ref ce6) "__getattribute__" = some (some (.builtin "BaseException.__getattribute__"))) (e2_6 : PySem.W.findIn K (.ref ce6) "__getattr__" = some none) (e3_6 : PySem.W.subIn K (.ref ce6) (.type "BaseException") = some true) (e4_6 : PySem.W.hasDictIn K ce6 = true) (e5_6 : PySem.W.findIn K (.ref ce6) "__class__" = some (some (.builtin "object.__class__"))) (e6_6 : PySem.W.mroIn K ce6 (.type "object") = some true)
    {ce7 ie7 Ne7 : Addr} {ne7 qe7 : Str} {be7 : List Value} {se7 : List Str} {ue7 : List Value} {ve7 : Bool} {we7 : Option Bool} {xe7 : Option Addr} {ma7 mb7 mc7 md7 me7 : Option Value}
    {oi7 ai7 : Option Addr} {li7 : Array (Option Value)} {ci7 ki7 di7 pi7 gi7 ti7 : Value}
    (E1_7 : PySem.W.nsIn K mainGlobals "InvalidRow" = some (some (.ref ce7))) (E2_7 : K.lookup ce7 = some (excClassObj ne7 qe7 ce7 Ne7 be7 [.ref cB, .type "ValueError", .type "Exception", .type "BaseException", .type "object"] true se7 ue7 ve7 we7 xe7 ma7 mb7 mc7 md7 me7 "ValueError.__new__"))
    (E3_7 : PySem.W.findIn K (.ref ce7) "__setattr__" = some (some (.builtin "object.__setattr__"))) (E4_7 : PySem.W.typeIn K (.ref ce7) = some (.type "type")) (E5_7 : PySem.W.keepIn K (.ref ce7) = true) (E6_7 : PySem.W.findIn K (.ref ce7) "value" = some none)
    (E7_7 : PySem.W.findIn K (.ref ce7) "__init__" = some (some (.ref ie7))) (E8_7 : PySem.W.typeIn K (.ref ie7) = some (.type "function")) (E9_7 : K.lookup ie7 = some ⟨ci7, oi7, .func (PySem.W.fnOf "__init__" "InvalidRow.__init__" (defArgs s_InvalidRow) (defBody s_InvalidRow) (defScope s_InvalidRow) .none ki7 di7 pi7 ai7 gi7 ti7), li7⟩) (Ea_7 : PySem.W.codeIn K gi7 "InvalidRow.__init__" = true) (Eb_7 : PySem.W.keepIn K (.ref ie7) = true)
    (e1_7 : PySem.W.findIn K (.ref ce7) "__getattribute__" = some (some (.builtin "BaseException.__getattribute__"))) (e2_7 : PySem.W.findIn K (.ref ce7) "__getattr__" = some none) (e3_7 : PySem.W.subIn K (.ref ce7) (.type "BaseException") = some true) (e4_7 : PySem.W.hasDictIn K ce7 = true) (e5_7 : PySem.W.findIn K (.ref ce7) "__class__" = some (some (.builtin "object.__class__"))) (e6_7 : PySem.W.mroIn K ce7 (.type "object") = some true)
    {ce8 ie8 Ne8 : Addr} {ne8 qe8 : Str} {be8 : List Value} {se8 : List Str} {ue8 : List Value} {ve8 : Bool} {we8 : Option Bool} {xe8 : Option Addr} {ma8 mb8 mc8 md8 me8 : Option Value}
    {oi8 ai8 : Option Addr} {li8 : Array (Option Value)} {ci8 ki8 di8 pi8 gi8 ti8 : Value}
    (E1_8 : PySem.W.nsIn K mainGlobals "InvalidRegister" = some (some (.ref ce8))) (E2_8 : K.lookup ce8 = some (excClassObj ne8 qe8 ce8 Ne8 be8 [.ref cB, .type "ValueError", .type "Exception", .type "BaseException", .type "object"] true se8 ue8 ve8 we8 xe8 ma8 mb8 mc8 md8 me8 "ValueError.__new__"))
    (E3_8 : PySem.W.findIn K (.ref ce8) "__setattr__" = some (some (.builtin "object.__setattr__"))) (E4_8 : PySem.W.typeIn K (.ref ce8) = some (.type "type")) (E5_8 : PySem.W.keepIn K (.ref ce8) = true) (E6_8 : PySem.W.findIn K (.ref ce8) "value" = some none)
    (E7_8 : PySem.W.findIn K (.ref ce8) "__init__" = some (some (.ref ie8))) (E8_8 : PySem.W.typeIn K (.ref ie8) = some (.type "function")) (E9_8 : K.lookup ie8 = some ⟨ci8, oi8, .func (PySem.W.fnOf "__init__" "InvalidRegister.__init__" (defArgs s_InvalidRegister) (defBody s_InvalidRegister) (defScope s_InvalidRegister) .none ki8 di8 pi8 ai8 gi8 ti8), li8⟩) (Ea_8 : PySem.W.codeIn K gi8 "InvalidRegister.__init__" = true) (Eb_8 : PySem.W.keepIn K (.ref ie8) = true)
    (e1_8 : PySem.W.findIn K (.ref ce8) "__getattribute__" = some (some (.builtin "BaseException.__getattribute__"))) (e2_8 : PySem.W.findIn K (.ref ce8) "__getattr__" = some none) (e3_8 : PySem.W.subIn K (.ref ce8) (.type "BaseException") = some true) (e4_8 : PySem.W.hasDictIn K ce8 = true) (e5_8 : PySem.W.findIn K (.ref ce8) "__class__" = some (some (.builtin "object.__class__"))) (e6_8 : PySem.W.mroIn K ce8 (.type "object") = some true)
    {ce9 ie9 Ne9 : Addr} {ne9 qe9 : Str} {be9 : List Value} {se9 : List Str} {ue9 : List Value} {ve9 : Bool} {we9 : Option Bool} {xe9 : Option Addr} {ma9 mb9 mc9 md9 me9 : Option Value}
    {oi9 ai9 : Option Addr} {li9 : Array (Option Value)} {ci9 ki9 di9 pi9 gi9 ti9 : Value}
    (E1_9 : PySem.W.nsIn K mainGlobals "InvalidQuery" = some (some (.ref ce9))) (E2_9 : K.lookup ce9 = some (excClassObj ne9 qe9 ce9 Ne9 be9 [.ref cB, .type "ValueError", .type "Exception", .type "BaseException", .type "object"] true se9 ue9 ve9 we9 xe9 ma9 mb9 mc9 md9 me9 "ValueError.__new__"))
    (E3_9 : PySem.W.findIn K (.ref ce9) "__setattr__" = some (some (.builtin "object.__setattr__"))) (E4_9 : PySem.W.typeIn K (.ref ce9) = some (.type "type")) (E5_9 : PySem.W.keepIn K (.ref ce9) = true) (E6_9 : PySem.W.findIn K (.ref ce9) "value" = some none)
    (E7_9 : PySem.W.findIn K (.ref ce9) "__init__" = some (some (.ref ie9))) (E8_9 : PySem.W.typeIn K (.ref ie9) = some (.type "function")) (E9_9 : K.lookup ie9 = some ⟨ci9, oi9, .func (PySem.W.fnOf "__init__" "InvalidQuery.__init__" (defArgs s_InvalidQuery) (defBody s_InvalidQuery) (defScope s_InvalidQuery) .none ki9 di9 pi9 ai9 gi9 ti9), li9⟩) (Ea_9 : PySem.W.codeIn K gi9 "InvalidQuery.__init__" = true) (Eb_9 : PySem.W.keepIn K (.ref ie9) = true)
    (e1_9 : PySem.W.findIn K (.ref ce9) "__getattribute__" = some (some (.builtin "BaseException.__getattribute__"))) (e2_9 : PySem.W.findIn K (.ref ce9) "__getattr__" = some none) (e3_9 : PySem.W.subIn K (.ref ce9) (.type "BaseException") = some true) (e4_9 : PySem.W.hasDictIn K ce9 = true) (e5_9 : PySem.W.findIn K (.ref ce9) "__class__" = some (some (.builtin "object.__class__"))) (e6_9 : PySem.W.mroIn K ce9 (.type "object") = some true)
    {ce10 ie10 Ne10 : Addr} {ne10 qe10 : Str} {be10 : List Value} {se10 : List Str} {ue10 : List Value} {ve10 : Bool} {we10 : Option Bool} {xe10 : Option Addr} {ma10 mb10 mc10 md10 me10 : Option Value}
    {oi10 ai10 : Option Addr} {li10 : Array (Option Value)} {ci10 ki10 di10 pi10 gi10 ti10 : Value}
    (E1_10 : PySem.W.nsIn K mainGlobals "InvalidTable" = some (some (.ref ce10))) (E2_10 : K.lookup ce10 = some (excClassObj ne10 qe10 ce10 Ne10 be10 [.ref cB, .type "ValueError", .type "Exception", .type "BaseException", .type "object"] true se10 ue10 ve10 we10 xe10 ma10 mb10 mc10 md10 me10 "ValueError.__new__"))
    (E3_10 : PySem.W.findIn K (.ref ce10) "__setattr__" = some (some (.builtin "object.__setattr__"))) (E4_10 : PySem.W.typeIn K (.ref ce10) = some (.type "type")) (E5_10 : PySem.W.keepIn K (.ref ce10) = true) (E6_10 : PySem.W.findIn K (.ref ce10) "value" = some none)
    (E7_10 : PySem.W.findIn K (.ref ce10) "__init__" = some (some (.ref ie10))) (E8_10 : PySem.W.typeIn K (.ref ie10) = some (.type "function")) (E9_10 : K.lookup ie10 = some ⟨ci10, oi10, .func (PySem.W.fnOf "__init__" "InvalidTable.__init__" (defArgs s_InvalidTable) (defBody s_InvalidTable) (defScope s_InvalidTable) .none ki10 di10 pi10 ai10 gi10 ti10), li10⟩) (Ea_10 : PySem.W.codeIn K gi10 "InvalidTable.__init__" = true) (Eb_10 : PySem.W.keepIn K (.ref ie10) = true)
    (e1_10 : PySem.W.findIn K (.ref ce10) "__getattribute__" = some (some (.builtin "BaseException.__getattribute__"))) (e2_10 : PySem.W.findIn K (.ref ce10) "__getattr__" = some none) (e3_10 : PySem.W.subIn K (.ref ce10) (.type "BaseException") = some true) (e4_10 : PySem.W.hasDictIn K ce10 = true) (e5_10 : PySem.W.findIn K (.ref ce10) "__class__" = some (some (.builtin "object.__class__"))) (e6_10 : PySem.W.mroIn K ce10 (.type "object") = some true)
    {ce11 ie11 Ne11 : Addr} {ne11 qe11 : Str} {be11 : List Value} {se11 : List Str} {ue11 : List Value} {ve11 : Bool} {we11 : Option Bool} {xe11 : Option Addr} {ma11 mb11 mc11 md11 me11 : Option Value}
    {oi11 ai11 : Option Addr} {li11 : Array (Option Value)} {ci11 ki11 di11 pi11 gi11 ti11 : Value}
    (E1_11 : PySem.W.nsIn K mainGlobals "InvalidNumber" = some (some (.ref ce11))) (E2_11 : K.lookup ce11 = some (excClassObj ne11 qe11 ce11 Ne11 be11 [.ref cB, .type "ValueError", .type "Exception", .type "BaseException", .type "object"] true se11 ue11 ve11 we11 xe11 ma11 mb11 mc11 md11 me11 "ValueError.__new__"))
    (E3_11 : PySem.W.findIn K (.ref ce11) "__setattr__" = some (some (.builtin "object.__setattr__"))) (E4_11 : PySem.W.typeIn K (.ref ce11) = some (.type "type")) (E5_11 : PySem.W.keepIn K (.ref ce11) = true) (E6_11 : PySem.W.findIn K (.ref ce11) "value" = some none)
    (E7_11 : PySem.W.findIn K (.ref ce11) "__init__" = some (some (.ref ie11))) (E8_11 : PySem.W.typeIn K (.ref ie11) = some (.type "function")) (E9_11 : K.lookup ie11 = some ⟨ci11, oi11, .func (PySem.W.fnOf "__init__" "InvalidNumber.__init__" (defArgs s_InvalidNumber) (defBody s_InvalidNumber) (defScope s_InvalidNumber) .none ki11 di11 pi11 ai11 gi11 ti11), li11⟩) (Ea_11 : PySem.W.codeIn K gi11 "InvalidNumber.__init__" = true) (Eb_11 : PySem.W.keepIn K (.ref ie11) = true)
    (e1_11 : PySem.W.findIn K (.ref ce11) "__getattribute__" = some (some (.builtin "BaseException.__getattribute__"))) (e2_11 : PySem.W.findIn K (.ref ce11) "__getattr__" = some none) (e3_11 : PySem.W.subIn K (.ref ce11) (.type "BaseException") = some true) (e4_11 : PySem.W.hasDictIn K ce11 = true) (e5_11 : PySem.W.findIn K (.ref ce11) "__class__" = some (some (.builtin "object.__class__"))) (e6_11 : PySem.W.mroIn K ce11 (.type "object") = some true)
    {ce12 ie12 Ne12 : Addr} {ne12 qe12 : Str} {be12 : List Value} {se12 : List Str} {ue12 : List Value} {ve12 : Bool} {we12 : Option Bool} {xe12 : Option Addr} {ma12 mb12 mc12 md12 me12 : Option Value}
    {oi12 ai12 : Option Addr} {li12 : Array (Option Value)} {ci12 ki12 di12 pi12 gi12 ti12 : Value}
    (E1_12 : PySem.W.nsIn K mainGlobals "UnlikeInputs" = some (some (.ref ce12))) (E2_12 : K.lookup ce12 = some (excClassObj ne12 qe12 ce12 Ne12 be12 [.ref cB, .type "ValueError", .type "Exception", .type "BaseException", .type "object"] true se12 ue12 ve12 we12 xe12 ma12 mb12 mc12 md12 me12 "ValueError.__new__"))
    (E3_12 : PySem.W.findIn K (.ref ce12) "__setattr__" = some (some (.builtin "object.__setattr__"))) (E4_12 : PySem.W.typeIn K (.ref ce12) = some (.type "type")) (E5_12 : PySem.W.keepIn K (.ref ce12) = true) (E6_12 : PySem.W.findIn K (.ref ce12) "value" = some none)
    (E7_12 : PySem.W.findIn K (.ref ce12) "__init__" = some (some (.ref ie12))) (E8_12 : PySem.W.typeIn K (.ref ie12) = some (.type "function")) (E9_12 : K.lookup ie12 = some ⟨ci12, oi12, .func (PySem.W.fnOf "__init__" "UnlikeInputs.__init__" (defArgs s_UnlikeInputs) (defBody s_UnlikeInputs) (defScope s_UnlikeInputs) .none ki12 di12 pi12 ai12 gi12 ti12), li12⟩) (Ea_12 : PySem.W.codeIn K gi12 "UnlikeInputs.__init__" = true) (Eb_12 : PySem.W.keepIn K (.ref ie12) = true)
    (e1_12 : PySem.W.findIn K (.ref ce12) "__getattribute__" = some (some (.builtin "BaseException.__getattribute__"))) (e2_12 : PySem.W.findIn K (.ref ce12) "__getattr__" = some none) (e3_12 : PySem.W.subIn K (.ref ce12) (.type "BaseException") = some true) (e4_12 : PySem.W.hasDictIn K ce12 = true) (e5_12 : PySem.W.findIn K (.ref ce12) "__class__" = some (some (.builtin "object.__class__"))) (e6_12 : PySem.W.mroIn K ce12 (.type "object") = some true)
    {ce13 ie13 Ne13 : Addr} {ne13 qe13 : Str} {be13 : List Value} {se13 : List Str} {ue13 : List Value} {ve13 : Bool} {we13 : Option Bool} {xe13 : Option Addr} {ma13 mb13 mc13 md13 me13 : Option Value}
    {oi13 ai13 : Option Addr} {li13 : Array (Option Value)} {ci13 ki13 di13 pi13 gi13 ti13 : Value}
    (E1_13 : PySem.W.nsIn K mainGlobals "NothingToUndo" = some (some (.ref ce13))) (E2_13 : K.lookup ce13 = some (excClassObj ne13 qe13 ce13 Ne13 be13 [.ref cB, .type "ValueError", .type "Exception", .type "BaseException", .type "object"] true se13 ue13 ve13 we13 xe13 ma13 mb13 mc13 md13 me13 "ValueError.__new__"))
    (E3_13 : PySem.W.findIn K (.ref ce13) "__setattr__" = some (some (.builtin "object.__setattr__"))) (E4_13 : PySem.W.typeIn K (.ref ce13) = some (.type "type")) (E5_13 : PySem.W.keepIn K (.ref ce13) = true) (E6_13 : PySem.W.findIn K (.ref ce13) "value" = some none)
    (E7_13 : PySem.W.findIn K (.ref ce13) "__init__" = some (some (.ref ie13))) (E8_13 : PySem.W.typeIn K (.ref ie13) = some (.type "function")) (E9_13 : K.lookup ie13 = some ⟨ci13, oi13, .func (PySem.W.fnOf "__init__" "NothingToUndo.__init__" (defArgs s_NothingToUndo) (defBody s_NothingToUndo) (defScope s_NothingToUndo) .none ki13 di13 pi13 ai13 gi13 ti13), li13⟩) (Ea_13 : PySem.W.codeIn K gi13 "NothingToUndo.__init__" = true) (Eb_13 : PySem.W.keepIn K (.ref ie13) = true)
    (e1_13 : PySem.W.findIn K (.ref ce13) "__getattribute__" = some (some (.builtin "BaseException.__getattribute__"))) (e2_13 : PySem.W.findIn K (.ref ce13) "__getattr__" = some none) (e3_13 : PySem.W.subIn K (.ref ce13) (.type "BaseException") = some true) (e4_13 : PySem.W.hasDictIn K ce13 = true) (e5_13 : PySem.W.findIn K (.ref ce13) "__class__" = some (some (.builtin "object.__class__"))) (e6_13 : PySem.W.mroIn K ce13 (.type "object") = some true)
    {ce14 ie14 Ne14 : Addr} {ne14 qe14 : Str} {be14 : List Value} {se14 : List Str} {ue14 : List Value} {ve14 : Bool} {we14 : Option Bool} {xe14 : Option Addr} {ma14 mb14 mc14 md14 me14 : Option Value}
    {oi14 ai14 : Option Addr} {li14 : Array (Option Value)} {ci14 ki14 di14 pi14 gi14 ti14 : Value}
    (E1_14 : PySem.W.nsIn K mainGlobals "Unreadable" = some (some (.ref ce14))) (E2_14 : K.lookup ce14 = some (excClassObj ne14 qe14 ce14 Ne14 be14 [.ref cB, .type "ValueError", .type "Exception", .type "BaseException", .type "object"] true se14 ue14 ve14 we14 xe14 ma14 mb14 mc14 md14 me14 "ValueError.__new__"))
    (E3_14 : PySem.W.findIn K (.ref ce14) "__setattr__" = some (some (.builtin "object.__setattr__"))) (E4_14 : PySem.W.typeIn K (.ref ce14) = some (.type "type")) (E5_14 : PySem.W.keepIn K (.ref ce14) = true) (E6_14 : PySem.W.findIn K (.ref ce14) "value" = some none)
    (E7_14 : PySem.W.findIn K (.ref ce14) "__init__" = some (some (.ref ie14))) (E8_14 : PySem.W.typeIn K (.ref ie14) = some (.type "function")) (E9_14 : K.lookup ie14 = some ⟨ci14, oi14, .func (PySem.W.fnOf "__init__" "Unreadable.__init__" (defArgs s_Unreadable) (defBody s_Unreadable) (defScope s_Unreadable) .none ki14 di14 pi14 ai14 gi14 ti14), li14⟩) (Ea_14 : PySem.W.codeIn K gi14 "Unreadable.__init__" = true) (Eb_14 : PySem.W.keepIn K (.ref ie14) = true)
    (e1_14 : PySem.W.findIn K (.ref ce14) "__getattribute__" = some (some (.builtin "BaseException.__getattribute__"))) (e2_14 : PySem.W.findIn K (.ref ce14) "__getattr__" = some none) (e3_14 : PySem.W.subIn K (.ref ce14) (.type "BaseException") = some true) (e4_14 : PySem.W.hasDictIn K ce14 = true) (e5_14 : PySem.W.findIn K (.ref ce14) "__class__" = some (some (.builtin "object.__class__"))) (e6_14 : PySem.W.mroIn K ce14 (.type "object") = some true)
    (xm_0 : PySem.W.exmOne K (.ref ce0) (.ref cB) = some true)
    (xm_1 : PySem.W.exmOne K (.ref ce1) (.ref cB) = some true)
    (xm_2 : PySem.W.exmOne K (.ref ce2) (.ref cB) = some true)
    (xm_3 : PySem.W.exmOne K (.ref ce3) (.ref cB) = some true)
    (xm_4 : PySem.W.exmOne K (.ref ce4) (.ref cB) = some true)
    (xm_5 : PySem.W.exmOne K (.ref ce5) (.ref cB) = some true)
    (xm_6 : PySem.W.exmOne K (.ref ce6) (.ref cB) = some true)
    (xm_7 : PySem.W.exmOne K (.ref ce7) (.ref cB) = some true)
    (xm_8 : PySem.W.exmOne K (.ref ce8) (.ref cB) = some true)
    (xm_9 : PySem.W.exmOne K (.ref ce9) (.ref cB) = some true)
    (xm_10 : PySem.W.exmOne K (.ref ce10) (.ref cB) = some true)
    (xm_11 : PySem.W.exmOne K (.ref ce11) (.ref cB) = some true)
    (xm_12 : PySem.W.exmOne K (.ref ce12) (.ref cB) = some true)
    (xm_13 : PySem.W.exmOne K (.ref ce13) (.ref cB) = some true)
    (xm_14 : PySem.W.exmOne K (.ref ce14) (.ref cB) = some true)
    (tab : kitTab K [ce0, ce1, ce2, ce3, ce4, ce5, ce6, ce7, ce8, ce9, ce10, ce11, ce12, ce13, ce14] cB = true)
    : ∃ fd : FuncData, (∀ (s : Shared) (v : Value), BindsTo s fd ⟨[v], []⟩ [("script", v)]) ∧ ∀ base : Heap, K.In base → base.Ns mainGlobals mg → FnOk l.prog w K mg base CX0 7 fa fd ["script"] (sp_law K) := by
  have e := hfa.symm.trans (PySem.W.mg_of X G a32)
  cases e
  have T : Txt w K mg ⟨ce0, ce1, ce2, ce3, ce4, ce5, ce6, ce7, ce8, ce9, ce10, ce11, ce12, ce13, ce14, cB, ie0, (PySem.W.fnOf "__init__" "InvalidWidth.__init__" (defArgs s_InvalidWidth) (defBody s_InvalidWidth) (defScope s_InvalidWidth) .none ki0 di0 pi0 ai0 gi0 ti0), ie1, (PySem.W.fnOf "__init__" "InvalidWords.__init__" (defArgs s_InvalidWords) (defBody s_InvalidWords) (defScope s_InvalidWords) .none ki1 di1 pi1 ai1 gi1 ti1), ie2, (PySem.W.fnOf "__init__" "InvalidOutcome.__init__" (defArgs s_InvalidOutcome) (defBody s_InvalidOutcome) (defScope s_InvalidOutcome) .none ki2 di2 pi2 ai2 gi2 ti2), ie3, (PySem.W.fnOf "__init__" "InvalidCondition.__init__" (defArgs s_InvalidCondition) (defBody s_InvalidCondition) (defScope s_InvalidCondition) .none ki3 di3 pi3 ai3 gi3 ti3), ie4, (PySem.W.fnOf "__init__" "InvalidRanking.__init__" (defArgs s_InvalidRanking) (defBody s_InvalidRanking) (defScope s_InvalidRanking) .none ki4 di4 pi4 ai4 gi4 ti4), ie5, (PySem.W.fnOf "__init__" "InvalidKnowledge.__init__" (defArgs s_InvalidKnowledge) (defBody s_InvalidKnowledge) (defScope s_InvalidKnowledge) .none ki5 di5 pi5 ai5 gi5 ti5), ie6, (PySem.W.fnOf "__init__" "InvalidProgram.__init__" (defArgs s_InvalidProgram) (defBody s_InvalidProgram) (defScope s_InvalidProgram) .none ki6 di6 pi6 ai6 gi6 ti6), ie7, (PySem.W.fnOf "__init__" "InvalidRow.__init__" (defArgs s_InvalidRow) (defBody s_InvalidRow) (defScope s_InvalidRow) .none ki7 di7 pi7 ai7 gi7 ti7), ie8, (PySem.W.fnOf "__init__" "InvalidRegister.__init__" (defArgs s_InvalidRegister) (defBody s_InvalidRegister) (defScope s_InvalidRegister) .none ki8 di8 pi8 ai8 gi8 ti8), ie9, (PySem.W.fnOf "__init__" "InvalidQuery.__init__" (defArgs s_InvalidQuery) (defBody s_InvalidQuery) (defScope s_InvalidQuery) .none ki9 di9 pi9 ai9 gi9 ti9), ie10, (PySem.W.fnOf "__init__" "InvalidTable.__init__" (defArgs s_InvalidTable) (defBody s_InvalidTable) (defScope s_InvalidTable) .none ki10 di10 pi10 ai10 gi10 ti10), ie11, (PySem.W.fnOf "__init__" "InvalidNumber.__init__" (defArgs s_InvalidNumber) (defBody s_InvalidNumber) (defScope s_InvalidNumber) .none ki11 di11 pi11 ai11 gi11 ti11), ie12, (PySem.W.fnOf "__init__" "UnlikeInputs.__init__" (defArgs s_UnlikeInputs) (defBody s_UnlikeInputs) (defScope s_UnlikeInputs) .none ki12 di12 pi12 ai12 gi12 ti12), ie13, (PySem.W.fnOf "__init__" "NothingToUndo.__init__" (defArgs s_NothingToUndo) (defBody s_NothingToUndo) (defScope s_NothingToUndo) .none ki13 di13 pi13 ai13 gi13 ti13), ie14, (PySem.W.fnOf "__init__" "Unreadable.__init__" (defArgs s_Unreadable) (defBody s_Unreadable) (defScope s_Unreadable) .none ki14 di14 pi14 ai14 gi14 ti14), f0, (PySem.W.fnOf "check_width" "check_width" (defArgs s_check_width) (defBody s_check_width) (defScope s_check_width) .none kV0 dc0 pm0 an0 cd0 ct0), f1, (PySem.W.fnOf "check_words" "check_words" (defArgs s_check_words) (defBody s_check_words) (defScope s_check_words) .none kV1 dc1 pm1 an1 cd1 ct1), f2, (PySem.W.fnOf "is_word" "is_word" (defArgs s_is_word) (defBody s_is_word) (defScope s_is_word) .none kV2 dc2 pm2 an2 cd2 ct2), f3, (PySem.W.fnOf "sign_bit" "sign_bit" (defArgs s_sign_bit) (defBody s_sign_bit) (defScope s_sign_bit) .none kV3 dc3 pm3 an3 cd3 ct3), f4, (PySem.W.fnOf "outcome_by_cut" "outcome_by_cut" (defArgs s_outcome_by_cut) (defBody s_outcome_by_cut) (defScope s_outcome_by_cut) .none kV4 dc4 pm4 an4 cd4 ct4), f5, (PySem.W.fnOf "check_ranking" "check_ranking" (defArgs s_check_ranking) (defBody s_check_ranking) (defScope s_check_ranking) .none kV5 dc5 pm5 an5 cd5 ct5), f6, (PySem.W.fnOf "check_items" "check_items" (defArgs s_check_items) (defBody s_check_items) (defScope s_check_items) .none kV6 dc6 pm6 an6 cd6 ct6), f7, (PySem.W.fnOf "ranking_of" "ranking_of" (defArgs s_ranking_of) (defBody s_ranking_of) (defScope s_ranking_of) .none kV7 dc7 pm7 an7 cd7 ct7), f8, (PySem.W.fnOf "outcome_in" "outcome_in" (defArgs s_outcome_in) (defBody s_outcome_in) (defScope s_outcome_in) .none kV8 dc8 pm8 an8 cd8 ct8), f9, (PySem.W.fnOf "outcome_between" "outcome_between" (defArgs s_outcome_between) (defBody s_outcome_between) (defScope s_outcome_between) .none kV9 dc9 pm9 an9 cd9 ct9), f10, (PySem.W.fnOf "least_width" "least_width" (defArgs s_least_width) (defBody s_least_width) (defScope s_least_width) .none kV10 dc10 pm10 an10 cd10 ct10), f11, (PySem.W.fnOf "least_words" "least_words" (defArgs s_least_words) (defBody s_least_words) (defScope s_least_words) .none kV11 dc11 pm11 an11 cd11 ct11), f12, (PySem.W.fnOf "count_words" "count_words" (defArgs s_count_words) (defBody s_count_words) (defScope s_count_words) .none kV12 dc12 pm12 an12 cd12 ct12), f13, (PySem.W.fnOf "count_rankings" "count_rankings" (defArgs s_count_rankings) (defBody s_count_rankings) (defScope s_count_rankings) .none kV13 dc13 pm13 an13 cd13 ct13), f14, (PySem.W.fnOf "nth_ranking" "nth_ranking" (defArgs s_nth_ranking) (defBody s_nth_ranking) (defScope s_nth_ranking) .none kV14 dc14 pm14 an14 cd14 ct14), f15, (PySem.W.fnOf "ranking_number" "ranking_number" (defArgs s_ranking_number) (defBody s_ranking_number) (defScope s_ranking_number) .none kV15 dc15 pm15 an15 cd15 ct15), f16, (PySem.W.fnOf "all_rankings" "all_rankings" (defArgs s_all_rankings) (defBody s_all_rankings) (defScope s_all_rankings) .none kV16 dc16 pm16 an16 cd16 ct16), f17, (PySem.W.fnOf "_is_ranking" "_is_ranking" (defArgs s_is_ranking) (defBody s_is_ranking) (defScope s_is_ranking) .none kV17 dc17 pm17 an17 cd17 ct17), f18, (PySem.W.fnOf "_ranks_by_sign" "_ranks_by_sign" (defArgs s_ranks_by_sign) (defBody s_ranks_by_sign) (defScope s_ranks_by_sign) .none kV18 dc18 pm18 an18 cd18 ct18), f19, (PySem.W.fnOf "_fits" "_fits" (defArgs s_fits) (defBody s_fits) (defScope s_fits) .none kV19 dc19 pm19 an19 cd19 ct19), f20, (PySem.W.fnOf "_gaps" "_gaps" (defArgs s_gaps) (defBody s_gaps) (defScope s_gaps) .none kV20 dc20 pm20 an20 cd20 ct20), f21, (PySem.W.fnOf "_law_pool" "_law_pool" (defArgs s_law_pool) (defBody s_law_pool) (defScope s_law_pool) .none kV21 dc21 pm21 an21 cd21 ct21), f22, (PySem.W.fnOf "_law_draw" "_law_draw" (defArgs s_law_draw) (defBody s_law_draw) (defScope s_law_draw) .none kV22 dc22 pm22 an22 cd22 ct22), f23, (PySem.W.fnOf "_law_wide" "_law_wide" (defArgs s_law_wide) (defBody s_law_wide) (defScope s_law_wide) .none kV23 dc23 pm23 an23 cd23 ct23), f24, (PySem.W.fnOf "_law_power" "_law_power" (defArgs s_law_power) (defBody s_law_power) (defScope s_law_power) .none kV24 dc24 pm24 an24 cd24 ct24), f25, (PySem.W.fnOf "_law_all_rankings" "_law_all_rankings" (defArgs s_law_all_rankings) (defBody s_law_all_rankings) (defScope s_law_all_rankings) .none kV25 dc25 pm25 an25 cd25 ct25), f26, (PySem.W.fnOf "_law_kind" "_law_kind" (defArgs s_law_kind) (defBody s_law_kind) (defScope s_law_kind) .none kV26 dc26 pm26 an26 cd26 ct26), f27, (PySem.W.fnOf "_law_told" "_law_told" (defArgs s_law_told) (defBody s_law_told) (defScope s_law_told) .none kV27 dc27 pm27 an27 cd27 ct27), f28, (PySem.W.fnOf "_law_bent" "_law_bent" (defArgs s_law_bent) (defBody s_law_bent) (defScope s_law_bent) .none kV28 dc28 pm28 an28 cd28 ct28), f29, (PySem.W.fnOf "_law_is_ranking" "_law_is_ranking" (defArgs s_law_is_ranking) (defBody s_law_is_ranking) (defScope s_law_is_ranking) .none kV29 dc29 pm29 an29 cd29 ct29), f30, (PySem.W.fnOf "_law_rankings_right" "_law_rankings_right" (defArgs s_law_rankings_right) (defBody s_law_rankings_right) (defScope s_law_rankings_right) .none kV30 dc30 pm30 an30 cd30 ct30), f31, (PySem.W.fnOf "_law_others_right" "_law_others_right" (defArgs s_law_others_right) (defBody s_law_others_right) (defScope s_law_others_right) .none kV31 dc31 pm31 an31 cd31 ct31), fa, (PySem.W.fnOf "law" "law" (defArgs s_law) (defBody s_law) (defScope s_law) .none kV32 dc32 pm32 an32 cd32 ct32)⟩ := {
    g_check_width := PySem.W.mg_of X G a0, F_check_width := fun_mk (st := s_check_width) l0 c0 k0,
    g_check_words := PySem.W.mg_of X G a1, F_check_words := fun_mk (st := s_check_words) l1 c1 k1,
    g_is_word := PySem.W.mg_of X G a2, F_is_word := fun_mk (st := s_is_word) l2 c2 k2,
    g_sign_bit := PySem.W.mg_of X G a3, F_sign_bit := fun_mk (st := s_sign_bit) l3 c3 k3,
    g_outcome_by_cut := PySem.W.mg_of X G a4, F_outcome_by_cut := fun_mk (st := s_outcome_by_cut) l4 c4 k4,
    g_check_ranking := PySem.W.mg_of X G a5, F_check_ranking := fun_mk (st := s_check_ranking) l5 c5 k5,
    g_check_items := PySem.W.mg_of X G a6, F_check_items := fun_mk (st := s_check_items) l6 c6 k6,
    g_ranking_of := PySem.W.mg_of X G a7, F_ranking_of := fun_mk (st := s_ranking_of) l7 c7 k7,
    g_outcome_in := PySem.W.mg_of X G a8, F_outcome_in := fun_mk (st := s_outcome_in) l8 c8 k8,
    g_outcome_between := PySem.W.mg_of X G a9, F_outcome_between := fun_mk (st := s_outcome_between) l9 c9 k9,
    g_least_width := PySem.W.mg_of X G a10, F_least_width := fun_mk (st := s_least_width) l10 c10 k10,
    g_least_words := PySem.W.mg_of X G a11, F_least_words := fun_mk (st := s_least_words) l11 c11 k11,
    g_count_words := PySem.W.mg_of X G a12, F_count_words := fun_mk (st := s_count_words) l12 c12 k12,
    g_count_rankings := PySem.W.mg_of X G a13, F_count_rankings := fun_mk (st := s_count_rankings) l13 c13 k13,
    g_nth_ranking := PySem.W.mg_of X G a14, F_nth_ranking := fun_mk (st := s_nth_ranking) l14 c14 k14,
    g_ranking_number := PySem.W.mg_of X G a15, F_ranking_number := fun_mk (st := s_ranking_number) l15 c15 k15,
    g_all_rankings := PySem.W.mg_of X G a16, F_all_rankings := fun_mk (st := s_all_rankings) l16 c16 k16,
    g_is_ranking := PySem.W.mg_of X G a17, F_is_ranking := fun_mk (st := s_is_ranking) l17 c17 k17,
    g_ranks_by_sign := PySem.W.mg_of X G a18, F_ranks_by_sign := fun_mk (st := s_ranks_by_sign) l18 c18 k18,
    g_fits := PySem.W.mg_of X G a19, F_fits := fun_mk (st := s_fits) l19 c19 k19,
    g_gaps := PySem.W.mg_of X G a20, F_gaps := fun_mk (st := s_gaps) l20 c20 k20,
    g_law_pool := PySem.W.mg_of X G a21, F_law_pool := fun_mk (st := s_law_pool) l21 c21 k21,
    g_law_draw := PySem.W.mg_of X G a22, F_law_draw := fun_mk (st := s_law_draw) l22 c22 k22,
    g_law_wide := PySem.W.mg_of X G a23, F_law_wide := fun_mk (st := s_law_wide) l23 c23 k23,
    g_law_power := PySem.W.mg_of X G a24, F_law_power := fun_mk (st := s_law_power) l24 c24 k24,
    g_law_all_rankings := PySem.W.mg_of X G a25, F_law_all_rankings := fun_mk (st := s_law_all_rankings) l25 c25 k25,
    g_law_kind := PySem.W.mg_of X G a26, F_law_kind := fun_mk (st := s_law_kind) l26 c26 k26,
    g_law_told := PySem.W.mg_of X G a27, F_law_told := fun_mk (st := s_law_told) l27 c27 k27,
    g_law_bent := PySem.W.mg_of X G a28, F_law_bent := fun_mk (st := s_law_bent) l28 c28 k28,
    g_law_is_ranking := PySem.W.mg_of X G a29, F_law_is_ranking := fun_mk (st := s_law_is_ranking) l29 c29 k29,
    g_law_rankings_right := PySem.W.mg_of X G a30, F_law_rankings_right := fun_mk (st := s_law_rankings_right) l30 c30 k30,
    g_law_others_right := PySem.W.mg_of X G a31, F_law_others_right := fun_mk (st := s_law_others_right) l31 c31 k31,
    g_law := PySem.W.mg_of X G a32, F_law := fun_mk (st := s_law) l32 c32 k32,
    gc_InvalidWidth := PySem.W.mg_of X G E1_0, er_InvalidWidth := ⟨⟨⟨_, _, _, _, _, _, _, _, _, _, _, _, _, _, _, E2_0, rfl⟩, E3_0, e3_0, E4_0, E5_0⟩, ⟨e1_0, e2_0, e3_0, e4_0, e5_0, sg, st, e6_0⟩, E6_0, E7_0, E8_0⟩, FI_InvalidWidth := fun_mk (st := s_InvalidWidth) E9_0 Ea_0 Eb_0,
    gc_InvalidWords := PySem.W.mg_of X G E1_1, er_InvalidWords := ⟨⟨⟨_, _, _, _, _, _, _, _, _, _, _, _, _, _, _, E2_1, rfl⟩, E3_1, e3_1, E4_1, E5_1⟩, ⟨e1_1, e2_1, e3_1, e4_1, e5_1, sg, st, e6_1⟩, E6_1, E7_1, E8_1⟩, FI_InvalidWords := fun_mk (st := s_InvalidWords) E9_1 Ea_1 Eb_1,
    gc_InvalidOutcome := PySem.W.mg_of X G E1_2, er_InvalidOutcome := ⟨⟨⟨_, _, _, _, _, _, _, _, _, _, _, _, _, _, _, E2_2, rfl⟩, E3_2, e3_2, E4_2, E5_2⟩, ⟨e1_2, e2_2, e3_2, e4_2, e5_2, sg, st, e6_2⟩, E6_2, E7_2, E8_2⟩, FI_InvalidOutcome := fun_mk (st := s_InvalidOutcome) E9_2 Ea_2 Eb_2,
    gc_InvalidCondition := PySem.W.mg_of X G E1_3, er_InvalidCondition := ⟨⟨⟨_, _, _, _, _, _, _, _, _, _, _, _, _, _, _, E2_3, rfl⟩, E3_3, e3_3, E4_3, E5_3⟩, ⟨e1_3, e2_3, e3_3, e4_3, e5_3, sg, st, e6_3⟩, E6_3, E7_3, E8_3⟩, FI_InvalidCondition := fun_mk (st := s_InvalidCondition) E9_3 Ea_3 Eb_3,
    gc_InvalidRanking := PySem.W.mg_of X G E1_4, er_InvalidRanking := ⟨⟨⟨_, _, _, _, _, _, _, _, _, _, _, _, _, _, _, E2_4, rfl⟩, E3_4, e3_4, E4_4, E5_4⟩, ⟨e1_4, e2_4, e3_4, e4_4, e5_4, sg, st, e6_4⟩, E6_4, E7_4, E8_4⟩, FI_InvalidRanking := fun_mk (st := s_InvalidRanking) E9_4 Ea_4 Eb_4,
    gc_InvalidKnowledge := PySem.W.mg_of X G E1_5, er_InvalidKnowledge := ⟨⟨⟨_, _, _, _, _, _, _, _, _, _, _, _, _, _, _, E2_5, rfl⟩, E3_5, e3_5, E4_5, E5_5⟩, ⟨e1_5, e2_5, e3_5, e4_5, e5_5, sg, st, e6_5⟩, E6_5, E7_5, E8_5⟩, FI_InvalidKnowledge := fun_mk (st := s_InvalidKnowledge) E9_5 Ea_5 Eb_5,
    gc_InvalidProgram := PySem.W.mg_of X G E1_6, er_InvalidProgram := ⟨⟨⟨_, _, _, _, _, _, _, _, _, _, _, _, _, _, _, E2_6, rfl⟩, E3_6, e3_6, E4_6, E5_6⟩, ⟨e1_6, e2_6, e3_6, e4_6, e5_6, sg, st, e6_6⟩, E6_6, E7_6, E8_6⟩, FI_InvalidProgram := fun_mk (st := s_InvalidProgram) E9_6 Ea_6 Eb_6,
    gc_InvalidRow := PySem.W.mg_of X G E1_7, er_InvalidRow := ⟨⟨⟨_, _, _, _, _, _, _, _, _, _, _, _, _, _, _, E2_7, rfl⟩, E3_7, e3_7, E4_7, E5_7⟩, ⟨e1_7, e2_7, e3_7, e4_7, e5_7, sg, st, e6_7⟩, E6_7, E7_7, E8_7⟩, FI_InvalidRow := fun_mk (st := s_InvalidRow) E9_7 Ea_7 Eb_7,
    gc_InvalidRegister := PySem.W.mg_of X G E1_8, er_InvalidRegister := ⟨⟨⟨_, _, _, _, _, _, _, _, _, _, _, _, _, _, _, E2_8, rfl⟩, E3_8, e3_8, E4_8, E5_8⟩, ⟨e1_8, e2_8, e3_8, e4_8, e5_8, sg, st, e6_8⟩, E6_8, E7_8, E8_8⟩, FI_InvalidRegister := fun_mk (st := s_InvalidRegister) E9_8 Ea_8 Eb_8,
    gc_InvalidQuery := PySem.W.mg_of X G E1_9, er_InvalidQuery := ⟨⟨⟨_, _, _, _, _, _, _, _, _, _, _, _, _, _, _, E2_9, rfl⟩, E3_9, e3_9, E4_9, E5_9⟩, ⟨e1_9, e2_9, e3_9, e4_9, e5_9, sg, st, e6_9⟩, E6_9, E7_9, E8_9⟩, FI_InvalidQuery := fun_mk (st := s_InvalidQuery) E9_9 Ea_9 Eb_9,
    gc_InvalidTable := PySem.W.mg_of X G E1_10, er_InvalidTable := ⟨⟨⟨_, _, _, _, _, _, _, _, _, _, _, _, _, _, _, E2_10, rfl⟩, E3_10, e3_10, E4_10, E5_10⟩, ⟨e1_10, e2_10, e3_10, e4_10, e5_10, sg, st, e6_10⟩, E6_10, E7_10, E8_10⟩, FI_InvalidTable := fun_mk (st := s_InvalidTable) E9_10 Ea_10 Eb_10,
    gc_InvalidNumber := PySem.W.mg_of X G E1_11, er_InvalidNumber := ⟨⟨⟨_, _, _, _, _, _, _, _, _, _, _, _, _, _, _, E2_11, rfl⟩, E3_11, e3_11, E4_11, E5_11⟩, ⟨e1_11, e2_11, e3_11, e4_11, e5_11, sg, st, e6_11⟩, E6_11, E7_11, E8_11⟩, FI_InvalidNumber := fun_mk (st := s_InvalidNumber) E9_11 Ea_11 Eb_11,
    gc_UnlikeInputs := PySem.W.mg_of X G E1_12, er_UnlikeInputs := ⟨⟨⟨_, _, _, _, _, _, _, _, _, _, _, _, _, _, _, E2_12, rfl⟩, E3_12, e3_12, E4_12, E5_12⟩, ⟨e1_12, e2_12, e3_12, e4_12, e5_12, sg, st, e6_12⟩, E6_12, E7_12, E8_12⟩, FI_UnlikeInputs := fun_mk (st := s_UnlikeInputs) E9_12 Ea_12 Eb_12,
    gc_NothingToUndo := PySem.W.mg_of X G E1_13, er_NothingToUndo := ⟨⟨⟨_, _, _, _, _, _, _, _, _, _, _, _, _, _, _, E2_13, rfl⟩, E3_13, e3_13, E4_13, E5_13⟩, ⟨e1_13, e2_13, e3_13, e4_13, e5_13, sg, st, e6_13⟩, E6_13, E7_13, E8_13⟩, FI_NothingToUndo := fun_mk (st := s_NothingToUndo) E9_13 Ea_13 Eb_13,
    gc_Unreadable := PySem.W.mg_of X G E1_14, er_Unreadable := ⟨⟨⟨_, _, _, _, _, _, _, _, _, _, _, _, _, _, _, E2_14, rfl⟩, E3_14, e3_14, E4_14, E5_14⟩, ⟨e1_14, e2_14, e3_14, e4_14, e5_14, sg, st, e6_14⟩, E6_14, E7_14, E8_14⟩, FI_Unreadable := fun_mk (st := s_Unreadable) E9_14 Ea_14 Eb_14,
    xm_InvalidWidth := xm_0,
    xm_InvalidWords := xm_1,
    xm_InvalidOutcome := xm_2,
    xm_InvalidCondition := xm_3,
    xm_InvalidRanking := xm_4,
    xm_InvalidKnowledge := xm_5,
    xm_InvalidProgram := xm_6,
    xm_InvalidRow := xm_7,
    xm_InvalidRegister := xm_8,
    xm_InvalidQuery := xm_9,
    xm_InvalidTable := xm_10,
    xm_InvalidNumber := xm_11,
    xm_UnlikeInputs := xm_12,
    xm_NothingToUndo := xm_13,
    xm_Unreadable := xm_14,
    gi_MOST_ITEMS := ⟨_, PySem.W.mg_of X G ai_MOST_ITEMS⟩,
    gf_comb := PySem.W.mg_of X G af_comb,
    gc_BranchError := PySem.W.mg_of X G aB, xb := qB, kb := kB, eb := ⟨e1B, e2B, e3B, e4B, e5B, sg, st, e6B⟩, tab := tab,
    b_ValueError := PySem.W.mg_none_of X G z_ValueError, b_abs := PySem.W.mg_none_of X G z_abs, b_any := PySem.W.mg_none_of X G z_any, b_enumerate := PySem.W.mg_none_of X G z_enumerate, b_int := PySem.W.mg_none_of X G z_int, b_isinstance := PySem.W.mg_none_of X G z_isinstance, b_len := PySem.W.mg_none_of X G z_len, b_list := PySem.W.mg_none_of X G z_list, b_max := PySem.W.mg_none_of X G z_max, b_min := PySem.W.mg_none_of X G z_min, b_range := PySem.W.mg_none_of X G z_range, b_set := PySem.W.mg_none_of X G z_set, b_sorted := PySem.W.mg_none_of X G z_sorted, b_tuple := PySem.W.mg_none_of X G z_tuple, b_type := PySem.W.mg_none_of X G z_type }
  exact ⟨(PySem.W.fnOf "law" "law" (defArgs s_law) (defBody s_law) (defScope s_law) .none kV32 dc32 pm32 an32 cd32 ct32), fun s v => .of_eq rfl, fun base _ _ => ok_law T⟩
theorem walk {l : PySem.W.OpenLaw} {q : Program} {loose : List Str} {XP : (Str → Option Value) → Heap → Prop} {YP : World → Heap → Prop} {d : DefRec} {K : Params → PySem.W.Frag} (hn : l.most = some 63) (hdf : d.params.defaults = [])
    (hY : ∀ (w : World) (h : Heap), YP w h → (K w.params).In h) (F : ∀ (w : World) (mg : Str → Option Value) (fa : Addr) (h : Heap), (K w.params).In h → h.Ns mainGlobals mg → mg d.name = some (.ref fa) →
      ∃ fd : FuncData, (∀ (s : Shared) (u : Value), BindsTo s fd ⟨[u], []⟩ [("script", u)]) ∧ ∀ base : Heap, (K w.params).In base → base.Ns mainGlobals mg → FnOk l.prog w (K w.params) mg base CX0 7 fa fd ["script"] (sp_law (K w.params))) :
    PySem.W.WalkO q loose XP YP l.row.toRowW d [] (fun f vs => PySem.call f vs) :=
  L2.walk_ofK (n := 63) (k := 7) (x := "script") (CX := CX0) (sp := sp_law) hn (by decide) hdf ⟨rfl, by decide, by decide⟩ hY F (fun K H a ns hl _ hS => ⟨a, ns, rfl, hS, hl, fun _ => rfl⟩) fun _ _ _ _ z => z
end BR
open PySem PySem.W PyProof.Rows
set_option maxRecDepth 100000 in
set_option maxHeartbeats 0 in
theorem PySem.Challenge.cw_branchorders_k11_errors_of_rankings_holds : PySem.Challenge.rw_branchorders_k11_errors_of_rankings.Holds := by
  w_on; o_law; k_head; (case hw => w_witness2)
  k_fill
  refine BR.walk (l := PySem.Challenge.rw_branchorders_k11_errors_of_rankings) rfl rfl (fun w h Y => PySem.W.kIn_of Y) ?F
  case F =>
    intro w mg fa h KX G hmg
    refine' BR.all_mk KX G hmg ?a0 ?l0 ?c0 ?k0 ?a1 ?l1 ?c1 ?k1 ?a2 ?l2 ?c2 ?k2 ?a3 ?l3 ?c3 ?k3 ?a4 ?l4 ?c4 ?k4 ?a5 ?l5 ?c5 ?k5 ?a6 ?l6 ?c6 ?k6 ?a7 ?l7 ?c7 ?k7 ?a8 ?l8 ?c8 ?k8 ?a9 ?l9 ?c9 ?k9 ?a10 ?l10 ?c10 ?k10 ?a11 ?l11 ?c11 ?k11 ?a12 ?l12 ?c12 ?k12 ?a13 ?l13 ?c13 ?k13 ?a14 ?l14 ?c14 ?k14 ?a15 ?l15 ?c15 ?k15 ?a16 ?l16 ?c16 ?k16 ?a17 ?l17 ?c17 ?k17 ?a18 ?l18 ?c18 ?k18 ?a19 ?l19 ?c19 ?k19 ?a20 ?l20 ?c20 ?k20 ?a21 ?l21 ?c21 ?k21 ?a22 ?l22 ?c22 ?k22 ?a23 ?l23 ?c23 ?k23 ?a24 ?l24 ?c24 ?k24 ?a25 ?l25 ?c25 ?k25 ?a26 ?l26 ?c26 ?k26 ?a27 ?l27 ?c27 ?k27 ?a28 ?l28 ?c28 ?k28 ?a29 ?l29 ?c29 ?k29 ?a30 ?l30 ?c30 ?k30 ?a31 ?l31 ?c31 ?k31 ?a32 ?l32 ?c32 ?k32 ?z_ValueError ?z_abs ?z_any ?z_enumerate ?z_int ?z_isinstance ?z_len ?z_list ?z_max ?z_min ?z_range ?z_set ?z_sorted ?z_tuple ?z_type ?ai_MOST_ITEMS ?af_comb ?aB ?kB ?qB ?e1B ?e2B ?e3B ?e4B ?e5B ?e6B ?sg ?st ?E1_0 ?E2_0 ?E3_0 ?E4_0 ?E5_0 ?E6_0 ?E7_0 ?E8_0 ?E9_0 ?Ea_0 ?Eb_0 ?e1_0 ?e2_0 ?e3_0 ?e4_0 ?e5_0 ?e6_0 ?E1_1 ?E2_1 ?E3_1 ?E4_1 ?E5_1 ?E6_1 ?E7_1 ?E8_1 ?E9_1 ?Ea_1 ?Eb_1 ?e1_1 ?e2_1 ?e3_1 ?e4_1 ?e5_1 ?e6_1 ?E1_2 ?E2_2 ?E3_2 ?E4_2 ?E5_2 ?E6_2 ?E7_2 ?E8_2 ?E9_2 ?Ea_2 ?Eb_2 ?e1_2 ?e2_2 ?e3_2 ?e4_2 ?e5_2 ?e6_2 ?E1_3 ?E2_3 ?E3_3 ?E4_3 ?E5_3 ?E6_3 ?E7_3 ?E8_3 ?E9_3 ?Ea_3 ?Eb_3 ?e1_3 ?e2_3 ?e3_3 ?e4_3 ?e5_3 ?e6_3 ?E1_4 ?E2_4 ?E3_4 ?E4_4 ?E5_4 ?E6_4 ?E7_4 ?E8_4 ?E9_4 ?Ea_4 ?Eb_4 ?e1_4 ?e2_4 ?e3_4 ?e4_4 ?e5_4 ?e6_4 ?E1_5 ?E2_5 ?E3_5 ?E4_5 ?E5_5 ?E6_5 ?E7_5 ?E8_5 ?E9_5 ?Ea_5 ?Eb_5 ?e1_5 ?e2_5 ?e3_5 ?e4_5 ?e5_5 ?e6_5 ?E1_6 ?E2_6 ?E3_6 ?E4_6 ?E5_6 ?E6_6 ?E7_6 ?E8_6 ?E9_6 ?Ea_6 ?Eb_6 ?e1_6 ?e2_6 ?e3_6 ?e4_6 ?e5_6 ?e6_6 ?E1_7 ?E2_7 ?E3_7 ?E4_7 ?E5_7 ?E6_7 ?E7_7 ?E8_7 ?E9_7 ?Ea_7 ?Eb_7 ?e1_7 ?e2_7 ?e3_7 ?e4_7 ?e5_7 ?e6_7 ?E1_8 ?E2_8 ?E3_8 ?E4_8 ?E5_8 ?E6_8 ?E7_8 ?E8_8 ?E9_8 ?Ea_8 ?Eb_8 ?e1_8 ?e2_8 ?e3_8 ?e4_8 ?e5_8 ?e6_8 ?E1_9 ?E2_9 ?E3_9 ?E4_9 ?E5_9 ?E6_9 ?E7_9 ?E8_9 ?E9_9 ?Ea_9 ?Eb_9 ?e1_9 ?e2_9 ?e3_9 ?e4_9 ?e5_9 ?e6_9 ?E1_10 ?E2_10 ?E3_10 ?E4_10 ?E5_10 ?E6_10 ?E7_10 ?E8_10 ?E9_10 ?Ea_10 ?Eb_10 ?e1_10 ?e2_10 ?e3_10 ?e4_10 ?e5_10 ?e6_10 ?E1_11 ?E2_11 ?E3_11 ?E4_11 ?E5_11 ?E6_11 ?E7_11 ?E8_11 ?E9_11 ?Ea_11 ?Eb_11 ?e1_11 ?e2_11 ?e3_11 ?e4_11 ?e5_11 ?e6_11 ?E1_12 ?E2_12 ?E3_12 ?E4_12 ?E5_12 ?E6_12 ?E7_12 ?E8_12 ?E9_12 ?Ea_12 ?Eb_12 ?e1_12 ?e2_12 ?e3_12 ?e4_12 ?e5_12 ?e6_12 ?E1_13 ?E2_13 ?E3_13 ?E4_13 ?E5_13 ?E6_13 ?E7_13 ?E8_13 ?E9_13 ?Ea_13 ?Eb_13 ?e1_13 ?e2_13 ?e3_13 ?e4_13 ?e5_13 ?e6_13 ?E1_14 ?E2_14 ?E3_14 ?E4_14 ?E5_14 ?E6_14 ?E7_14 ?E8_14 ?E9_14 ?Ea_14 ?Eb_14 ?e1_14 ?e2_14 ?e3_14 ?e4_14 ?e5_14 ?e6_14 ?xm_0 ?xm_1 ?xm_2 ?xm_3 ?xm_4 ?xm_5 ?xm_6 ?xm_7 ?xm_8 ?xm_9 ?xm_10 ?xm_11 ?xm_12 ?xm_13 ?xm_14 ?tab
    (case a0 => k_is)
    (case l0 => k_is)
    (case c0 => k_is)
    (case k0 => k_is)
    (case a1 => k_is)
    (case l1 => k_is)
    (case c1 => k_is)
    (case k1 => k_is)
    (case a2 => k_is)
    (case l2 => k_is)
    (case c2 => k_is)
    (case k2 => k_is)
    (case a3 => k_is)
    (case l3 => k_is)
    (case c3 => k_is)
    (case k3 => k_is)
    (case a4 => k_is)
    (case l4 => k_is)
    (case c4 => k_is)
    (case k4 => k_is)
    (case a5 => k_is)
    (case l5 => k_is)
    (case c5 => k_is)
    (case k5 => k_is)
    (case a6 => k_is)
    (case l6 => k_is)
    (case c6 => k_is)
    (case k6 => k_is)
    (case a7 => k_is)
    (case l7 => k_is)
    (case c7 => k_is)
    (case k7 => k_is)
    (case a8 => k_is)
    (case l8 => k_is)
    (case c8 => k_is)
    (case k8 => k_is)
    (case a9 => k_is)
    (case l9 => k_is)
    (case c9 => k_is)
    (case k9 => k_is)
    (case a10 => k_is)
    (case l10 => k_is)
    (case c10 => k_is)
    (case k10 => k_is)
    (case a11 => k_is)
    (case l11 => k_is)
    (case c11 => k_is)
    (case k11 => k_is)
    (case a12 => k_is)
    (case l12 => k_is)
    (case c12 => k_is)
    (case k12 => k_is)
    (case a13 => k_is)
    (case l13 => k_is)
    (case c13 => k_is)
    (case k13 => k_is)
    (case a14 => k_is)
    (case l14 => k_is)
    (case c14 => k_is)
    (case k14 => k_is)
    (case a15 => k_is)
    (case l15 => k_is)
    (case c15 => k_is)
    (case k15 => k_is)
    (case a16 => k_is)
    (case l16 => k_is)
    (case c16 => k_is)
    (case k16 => k_is)
    (case a17 => k_is)
    (case l17 => k_is)
    (case c17 => k_is)
    (case k17 => k_is)
    (case a18 => k_is)
    (case l18 => k_is)
    (case c18 => k_is)
    (case k18 => k_is)
    (case a19 => k_is)
    (case l19 => k_is)
    (case c19 => k_is)
    (case k19 => k_is)
    (case a20 => k_is)
    (case l20 => k_is)
    (case c20 => k_is)
    (case k20 => k_is)
    (case a21 => k_is)
    (case l21 => k_is)
    (case c21 => k_is)
    (case k21 => k_is)
    (case a22 => k_is)
    (case l22 => k_is)
    (case c22 => k_is)
    (case k22 => k_is)
    (case a23 => k_is)
    (case l23 => k_is)
    (case c23 => k_is)
    (case k23 => k_is)
    (case a24 => k_is)
    (case l24 => k_is)
    (case c24 => k_is)
    (case k24 => k_is)
    (case a25 => k_is)
    (case l25 => k_is)
    (case c25 => k_is)
    (case k25 => k_is)
    (case a26 => k_is)
    (case l26 => k_is)
    (case c26 => k_is)
    (case k26 => k_is)
    (case a27 => k_is)
    (case l27 => k_is)
    (case c27 => k_is)
    (case k27 => k_is)
    (case a28 => k_is)
    (case l28 => k_is)
    (case c28 => k_is)
    (case k28 => k_is)
    (case a29 => k_is)
    (case l29 => k_is)
    (case c29 => k_is)
    (case k29 => k_is)
    (case a30 => k_is)
    (case l30 => k_is)
    (case c30 => k_is)
    (case k30 => k_is)
    (case a31 => k_is)
    (case l31 => k_is)
    (case c31 => k_is)
    (case k31 => k_is)
    (case a32 => k_is)
    (case l32 => k_is)
    (case c32 => k_is)
    (case k32 => k_is)
    (case z_ValueError => k_is)
    (case z_abs => k_is)
    (case z_any => k_is)
    (case z_enumerate => k_is)
    (case z_int => k_is)
    (case z_isinstance => k_is)
    (case z_len => k_is)
    (case z_list => k_is)
    (case z_max => k_is)
    (case z_min => k_is)
    (case z_range => k_is)
    (case z_set => k_is)
    (case z_sorted => k_is)
    (case z_tuple => k_is)
    (case z_type => k_is)
    (case ai_MOST_ITEMS => k_is)
    (case af_comb => k_is)
    (case aB => k_is)
    (case kB => k_is)
    (case qB => k_exc)
    (case e1B => k_is)
    (case e2B => k_is)
    (case e3B => k_is)
    (case e4B => k_is)
    (case e5B => k_is)
    (case e6B => k_is)
    (case sg => k_is)
    (case st => k_is)
    (case E1_0 => k_is)
    (case E2_0 => k_is)
    (case E3_0 => k_is)
    (case E4_0 => k_is)
    (case E5_0 => k_is)
    (case E6_0 => k_is)
    (case E7_0 => k_is)
    (case E8_0 => k_is)
    (case E9_0 => k_is)
    (case Ea_0 => k_is)
    (case Eb_0 => k_is)
    (case e1_0 => k_is)
    (case e2_0 => k_is)
    (case e3_0 => k_is)
    (case e4_0 => k_is)
    (case e5_0 => k_is)
    (case e6_0 => k_is)
    (case E1_1 => k_is)
    (case E2_1 => k_is)
    (case E3_1 => k_is)
    (case E4_1 => k_is)
    (case E5_1 => k_is)
    (case E6_1 => k_is)
    (case E7_1 => k_is)
    (case E8_1 => k_is)
    (case E9_1 => k_is)
    (case Ea_1 => k_is)
    (case Eb_1 => k_is)
    (case e1_1 => k_is)
    (case e2_1 => k_is)
    (case e3_1 => k_is)
    (case e4_1 => k_is)
    (case e5_1 => k_is)
    (case e6_1 => k_is)
    (case E1_2 => k_is)
    (case E2_2 => k_is)
    (case E3_2 => k_is)
    (case E4_2 => k_is)
    (case E5_2 => k_is)
    (case E6_2 => k_is)
    (case E7_2 => k_is)
    (case E8_2 => k_is)
    (case E9_2 => k_is)
    (case Ea_2 => k_is)
    (case Eb_2 => k_is)
    (case e1_2 => k_is)
    (case e2_2 => k_is)
    (case e3_2 => k_is)
    (case e4_2 => k_is)
    (case e5_2 => k_is)
    (case e6_2 => k_is)
    (case E1_3 => k_is)
    (case E2_3 => k_is)
    (case E3_3 => k_is)
    (case E4_3 => k_is)
    (case E5_3 => k_is)
    (case E6_3 => k_is)
    (case E7_3 => k_is)
    (case E8_3 => k_is)
    (case E9_3 => k_is)
    (case Ea_3 => k_is)
    (case Eb_3 => k_is)
    (case e1_3 => k_is)
    (case e2_3 => k_is)
    (case e3_3 => k_is)
    (case e4_3 => k_is)
    (case e5_3 => k_is)
    (case e6_3 => k_is)
    (case E1_4 => k_is)
    (case E2_4 => k_is)
    (case E3_4 => k_is)
    (case E4_4 => k_is)
    (case E5_4 => k_is)
    (case E6_4 => k_is)
    (case E7_4 => k_is)
    (case E8_4 => k_is)
    (case E9_4 => k_is)
    (case Ea_4 => k_is)
    (case Eb_4 => k_is)
    (case e1_4 => k_is)
    (case e2_4 => k_is)
    (case e3_4 => k_is)
    (case e4_4 => k_is)
    (case e5_4 => k_is)
    (case e6_4 => k_is)
    (case E1_5 => k_is)
    (case E2_5 => k_is)
    (case E3_5 => k_is)
    (case E4_5 => k_is)
    (case E5_5 => k_is)
    (case E6_5 => k_is)
    (case E7_5 => k_is)
    (case E8_5 => k_is)
    (case E9_5 => k_is)
    (case Ea_5 => k_is)
    (case Eb_5 => k_is)
    (case e1_5 => k_is)
    (case e2_5 => k_is)
    (case e3_5 => k_is)
    (case e4_5 => k_is)
    (case e5_5 => k_is)
    (case e6_5 => k_is)
    (case E1_6 => k_is)
    (case E2_6 => k_is)
    (case E3_6 => k_is)
    (case E4_6 => k_is)
    (case E5_6 => k_is)
    (case E6_6 => k_is)
    (case E7_6 => k_is)
    (case E8_6 => k_is)
    (case E9_6 => k_is)
    (case Ea_6 => k_is)
    (case Eb_6 => k_is)
    (case e1_6 => k_is)
    (case e2_6 => k_is)
    (case e3_6 => k_is)
    (case e4_6 => k_is)
    (case e5_6 => k_is)
    (case e6_6 => k_is)
    (case E1_7 => k_is)
    (case E2_7 => k_is)
    (case E3_7 => k_is)
    (case E4_7 => k_is)
    (case E5_7 => k_is)
    (case E6_7 => k_is)
    (case E7_7 => k_is)
    (case E8_7 => k_is)
    (case E9_7 => k_is)
    (case Ea_7 => k_is)
    (case Eb_7 => k_is)
    (case e1_7 => k_is)
    (case e2_7 => k_is)
    (case e3_7 => k_is)
    (case e4_7 => k_is)
    (case e5_7 => k_is)
    (case e6_7 => k_is)
    (case E1_8 => k_is)
    (case E2_8 => k_is)
    (case E3_8 => k_is)
    (case E4_8 => k_is)
    (case E5_8 => k_is)
    (case E6_8 => k_is)
    (case E7_8 => k_is)
    (case E8_8 => k_is)
    (case E9_8 => k_is)
    (case Ea_8 => k_is)
    (case Eb_8 => k_is)
    (case e1_8 => k_is)
    (case e2_8 => k_is)
    (case e3_8 => k_is)
    (case e4_8 => k_is)
    (case e5_8 => k_is)
    (case e6_8 => k_is)
    (case E1_9 => k_is)
    (case E2_9 => k_is)
    (case E3_9 => k_is)
    (case E4_9 => k_is)
    (case E5_9 => k_is)
    (case E6_9 => k_is)
    (case E7_9 => k_is)
    (case E8_9 => k_is)
    (case E9_9 => k_is)
    (case Ea_9 => k_is)
    (case Eb_9 => k_is)
    (case e1_9 => k_is)
    (case e2_9 => k_is)
    (case e3_9 => k_is)
    (case e4_9 => k_is)
    (case e5_9 => k_is)
    (case e6_9 => k_is)
    (case E1_10 => k_is)
    (case E2_10 => k_is)
    (case E3_10 => k_is)
    (case E4_10 => k_is)
    (case E5_10 => k_is)
    (case E6_10 => k_is)
    (case E7_10 => k_is)
    (case E8_10 => k_is)
    (case E9_10 => k_is)
    (case Ea_10 => k_is)
    (case Eb_10 => k_is)
    (case e1_10 => k_is)
    (case e2_10 => k_is)
    (case e3_10 => k_is)
    (case e4_10 => k_is)
    (case e5_10 => k_is)
    (case e6_10 => k_is)
    (case E1_11 => k_is)
    (case E2_11 => k_is)
    (case E3_11 => k_is)
    (case E4_11 => k_is)
    (case E5_11 => k_is)
    (case E6_11 => k_is)
    (case E7_11 => k_is)
    (case E8_11 => k_is)
    (case E9_11 => k_is)
    (case Ea_11 => k_is)
    (case Eb_11 => k_is)
    (case e1_11 => k_is)
    (case e2_11 => k_is)
    (case e3_11 => k_is)
    (case e4_11 => k_is)
    (case e5_11 => k_is)
    (case e6_11 => k_is)
    (case E1_12 => k_is)
    (case E2_12 => k_is)
    (case E3_12 => k_is)
    (case E4_12 => k_is)
    (case E5_12 => k_is)
    (case E6_12 => k_is)
    (case E7_12 => k_is)
    (case E8_12 => k_is)
    (case E9_12 => k_is)
    (case Ea_12 => k_is)
    (case Eb_12 => k_is)
    (case e1_12 => k_is)
    (case e2_12 => k_is)
    (case e3_12 => k_is)
    (case e4_12 => k_is)
    (case e5_12 => k_is)
    (case e6_12 => k_is)
    (case E1_13 => k_is)
    (case E2_13 => k_is)
    (case E3_13 => k_is)
    (case E4_13 => k_is)
    (case E5_13 => k_is)
    (case E6_13 => k_is)
    (case E7_13 => k_is)
    (case E8_13 => k_is)
    (case E9_13 => k_is)
    (case Ea_13 => k_is)
    (case Eb_13 => k_is)
    (case e1_13 => k_is)
    (case e2_13 => k_is)
    (case e3_13 => k_is)
    (case e4_13 => k_is)
    (case e5_13 => k_is)
    (case e6_13 => k_is)
    (case E1_14 => k_is)
    (case E2_14 => k_is)
    (case E3_14 => k_is)
    (case E4_14 => k_is)
    (case E5_14 => k_is)
    (case E6_14 => k_is)
    (case E7_14 => k_is)
    (case E8_14 => k_is)
    (case E9_14 => k_is)
    (case Ea_14 => k_is)
    (case Eb_14 => k_is)
    (case e1_14 => k_is)
    (case e2_14 => k_is)
    (case e3_14 => k_is)
    (case e4_14 => k_is)
    (case e5_14 => k_is)
    (case e6_14 => k_is)
    (case xm_0 => first | rfl | kernel_rfl | k_is)
    (case xm_1 => first | rfl | kernel_rfl | k_is)
    (case xm_2 => first | rfl | kernel_rfl | k_is)
    (case xm_3 => first | rfl | kernel_rfl | k_is)
    (case xm_4 => first | rfl | kernel_rfl | k_is)
    (case xm_5 => first | rfl | kernel_rfl | k_is)
    (case xm_6 => first | rfl | kernel_rfl | k_is)
    (case xm_7 => first | rfl | kernel_rfl | k_is)
    (case xm_8 => first | rfl | kernel_rfl | k_is)
    (case xm_9 => first | rfl | kernel_rfl | k_is)
    (case xm_10 => first | rfl | kernel_rfl | k_is)
    (case xm_11 => first | rfl | kernel_rfl | k_is)
    (case xm_12 => first | rfl | kernel_rfl | k_is)
    (case xm_13 => first | rfl | kernel_rfl | k_is)
    (case xm_14 => first | rfl | kernel_rfl | k_is)
    (case tab => first | kernel_rfl | decide +kernel)
#print axioms PySem.Challenge.cw_branchorders_k11_errors_of_rankings_holds
