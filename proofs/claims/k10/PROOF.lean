import PyProof.Rows.All
import Wide.All
import OpenK.AllK
import Wide.FinOn
import PyProof.ReprRoads
import HandS.ForMost
import HandS.Wide
import HandS.Walk
import KE.GoesEnum
import KE.GoesMore
import PyProof.ReprLen
import PyProof.Rows.RegStrFacts
import HandS.IsInst
import HandS.ExcInit
import HandS.ExcValue
import KE.KExcIs
import KE.KIsAll
import HandS.ExcField
import HandS.ExcIs
import HandS.Evl
import KE.DataFind
import HandS.WordsExc
import HandS.Text
import HandS.More
import HandS.Iter
import HandS.HeadHook3
import HandS.Style
import HandS.Small
import HandS.Strs
import HandS.SetFor
import HandS.Star
import HandS.Conv
import HandS.TupLe
import HandS.TupSets
import HandS.Zip
import KE.DataMinMax
import HandS.Gcd
import HandS.Deep
import HandS.TupAny
import KE.KMathGC
import PySem.Challenge.RW_branchorders_k10_whole_rankings_and_word
set_option Elab.async false
set_option linter.all false
set_option maxRecDepth 100000
set_option maxHeartbeats 2000000

namespace BR
open PySem PySem.Spec PyProof.Rows L2
/-! ### own rules: great powers, calls by keywords alone, repr of data where no repr runs, enumerate of a tuple -/
section
variable {X : Cx}
def CPowB (i j : Int) : Prop := 0 ≤ j ∧ (Builtin.Int.intBits i : Int) * j ≤ 2 ^ 27
theorem op_powB : OpR X (binaryOp .Pow) (rI CPowB fun i j => .int (i ^ j.toNat)) :=
  opI fun _ _ _ _ _ _ _ c h => pow_int c.1 c.2 h
theorem powB_of {i j : Int} {a : Nat} (ha : i.natAbs < 2 ^ a) (h0 : 0 < a) (hj : 0 ≤ j) (hz : ((a : Int) + 1) * j ≤ 2 ^ 27) : CPowB i j := by
  refine ⟨hj, Int.le_trans (Int.mul_le_mul_of_nonneg_right ?_ hj) hz⟩
  have e := PySem.Flt.log2_lt_of h0 ha
  have b : Builtin.Int.intBits i ≤ i.natAbs.log2 + 1 := by
    unfold Builtin.Int.intBits
    split
    · exact Nat.zero_le _
    · omega
  omega
end

section
variable {X : Cx} {CX : CXT} {k : Nat} {f : Addr} {fd : FuncData} {ps ks : List Str} {sp : Sp} {E : XK} {x : Str}
/-- f(k = v, ..): keywords alone -/
theorem pe_callK0 {p pos : Pos} {kws : List Keyword} {tk : TA} {g : List Value → List Value → List Value} {gV : List V → List V → List V} (F : FnOk X.prog X.w X.K X.mg X.base CX k f fd ps sp) (room : Room k X.A) (hg : Gl X x)
    (hm : X.mg x = some (.ref f)) (kp : PySem.W.keepIn X.K (.ref f) = true) (b : KBinds X.K fd ps ks g gV) (hx : Passes CX X E) (hkw : PK X kws tk)
    (all1 : (backToKw pos (keywordEach kws X.env)).all (·.1.isSome) = true := by rfl) (nms : (backToKw pos (keywordEach kws X.env)).filterMap (·.1) = ks := by rfl)
    (nodb : (x == ("__debug__" : Str)) = false := by decide) (pl : ((backTo pos (starEach [] X.env)).any (·.1) || (backToKw pos (keywordEach kws X.env)).any (·.1.isNone)) = false := by rfl) :
    PE X (.Call (.Name x p) [] kws pos) (tCallK sp gV E tNil tk) := by
  refine ⟨fun pins s σ H Q I0 hh => ?_⟩
  refine wpAny_Call_Name_kw (ld_glob I0 hg hm ?_ nodb)
  refine PySem.W.callWith_KW0 (h₀ := X.base) I0.ok.mod.kin kp all1 (thn (hkw.run pos pins s σ H _ I0 hh) fun ws s2 ⟨zs, H2, I2, rz, q2⟩ => ?_) pl
  refine ⟨I2.kIn, ?_⟩
  rw [nms]
  exact run_fnk (us := []) (vs := []) F room b hx I2 .nil rz q2
end

/-! ### defs that run where no repr runs -/
structure FnG (P : Program) (w : World) (K : PySem.W.Frag) (mg : Str → Option Value) (base : Heap) (CX : CXT) (k : Nat) (f : Addr) (fd : FuncData) (ps : List Str) (sp : Sp) : Prop where
  ln : ∀ vs H Q E, sp vs H Q E → vs.length = ps.length
  go : ∀ (A : Around) (outer : List Env) (s : Shared) (H : Hp) (args : Args) (us : List Value) (vs : List V) (Q : VK) (E : XK), A.guards = some [] → Room k A → Env0 P w K mg base A outer s H →
    BindsTo s fd args (ps.zip us) → Vals vs us → sp vs H Q E → codeAny (model P w) A (.call (.ref f) args) (CR CX outer P w H s Q E) s
section
variable {P : Program} {w : World} {K : PySem.W.Frag} {mg : Str → Option Value} {base : Heap}
theorem Fun.okG {x qual : Str} {st : Stmt} {f : Addr} {fd : FuncData} {N ps : List Str} {k : Nat} {sp : Sp} (F : Fun K x qual st f fd) (S : FnScope N ps (defScope st)) (ln : ∀ vs H Q E, sp vs H Q E → vs.length = ps.length)
    (body : ∀ (cdv : Value) (A : Around) (outer : List Env) (s : Shared) (H : Hp) (vs : List V) (Q : VK) (E : XK), A.guards = some [] → Room k (A.deeper (envOfC qual (defScope st) s.heap.objs.size f cdv)) → sp vs H Q E →
      ∃ t, PSs (cxOf CX0 P w K mg base N qual (defScope st) f cdv A outer s H E).nox (defBody st) t ∧ t { nx := fun _ H' => Q .non H', rt := Q } (start N vs) H) : FnG P w K mg base CX0 (k + 1) f fd ps sp := by
  obtain ⟨oc, od, kV, doc, pm, an, cdv, ct, osl, rfl, lk, hcd⟩ := F.ex
  refine ⟨ln, fun A outer s H args us vs Q E gg hr e0 hb r hsp => ?_⟩
  have hl := ln _ _ _ _ hsp
  have kin : K.In s.heap := e0.mod.kin.keeps fun b o e => (e0.bs b o e).1
  have nolim : s.heap.NoLimit := e0.mod.nolimit.keeps fun b o e => (e0.bs b o e).1
  have kinds : ∀ y ∈ ps.zip us, (defScope st).names.lookup y.1 = some .local ∨ ((defScope st).names.lookup y.1 = some .cell ∧ ((cellsFrom (s.heap.objs.size + 1) (defScope st).names []).lookup y.1).isSome = true) := by
    rintro ⟨n, v⟩ hy
    rcases S.par n (List.of_mem_zip hy).1 with q | q
    · exact .inl q
    · exact .inr ⟨q, PySem.W.cellsFrom_some _ _ _ (.inl q)⟩
  refine codeAny_call_function hr.depth (kin _ _ lk) rfl S.co S.gen rfl (PySem.W.codeRec_of kin hcd) (hb _ _ _ _ ?_)
  refine wpAny_newFunctionEnv_cells S.kind kinds fun env he s1 xc => ?_
  subst he
  refine ⟨nolim.keeps xc.toInCall.keep, codeAny_func ?_⟩
  obtain ⟨t, ht0, hq⟩ := body cdv A outer s H vs Q E gg (hr.deeper _) hsp
  have ht := ht0.nox
  have I1 := inv_start (CX := CX0) (E := E) S hr.hd e0 hl r xc
  refine wpAny_mono (ht.run [] s1 (start N vs) H _ I1 hq) (fun fl s' hs => ?_) fun e s' hs => hs
  cases fl with
  | ret u =>
    obtain ⟨v, σ', H', J, rv, q⟩ := hs
    exact ⟨v, H', J.os, J.bare, J.base, J.hok, rv, q⟩
  | next =>
    obtain ⟨σ', H', J, q⟩ := hs
    exact ⟨.non, H', J.os, J.bare, J.base, J.hok, rfl, q⟩
  | brk => obtain ⟨_, _, _, q⟩ := hs; exact q.elim
  | cont => obtain ⟨_, _, _, q⟩ := hs; exact q.elim
end
section
variable {X : Cx} {CX : CXT} {k : Nat} {f : Addr} {fd : FuncData} {ps : List Str} {sp : Sp} {E : XK} {x : Str} {ds : List Value} {dvs : List V} {p pos : Pos} {e : Expr} {es : List Expr} {t : TA}
theorem pe_callG (F : FnG X.prog X.w X.K X.mg X.base CX k f fd ps sp) (gg : X.A.guards = some []) (room : Room k X.A) (hg : Gl X x) (hm : X.mg x = some (.ref f)) (kp : PySem.W.keepIn X.K (.ref f) = true)
    (b : Binds X.K fd ps ds) (hd : Vals dvs ds) (hx : Passes CX X E) (args : PA X (e :: es) t) (nodb : (x == ("__debug__" : Str)) = false := by decide)
    (st1 : starEach (e :: es) X.env = (false, eval e X.env) :: starEach es X.env := by rfl) (st2 : (backTo pos (starEach es X.env)).any (·.1) = false := by rfl) :
    PE X (.Call (.Name x p) (e :: es) [] pos) (tCall sp dvs E t) := by
  refine ⟨fun pins s σ H Q I0 hh => ?_⟩
  refine wpAny_Call_Name_kw (ld_glob I0 hg hm ?_ nodb)
  refine PySem.W.callWith_K (h₀ := X.base) I0.ok.mod.kin kp (thn (args.run pos pins s σ H _ I0 hh) ?_) st1 st2
  rintro us s1 ⟨vs, H1, I1, r, q⟩
  refine ⟨I1.kIn, ?_⟩
  have r2 : Vals (vs ++ dvs) (us ++ ds) := r.append hd
  have hl : (us ++ ds).length = ps.length := by rw [← r2.length]; exact F.ln _ _ _ _ q
  refine wpAny_call (codeAny_mono (F.go X.A X.stack s1 H1 ⟨us, []⟩ (us ++ ds) (vs ++ dvs) Q E gg room I1.env0 (b s1 us I1.kIn hl) r2 q) fun res s' hq => ?_)
  cases res with
  | error e => exact hx pins σ H1 s1 e s' I1 hq
  | ok fl =>
    cases fl with
    | ret u => exact I1.after hq
    | next => exact hq.elim
    | brk => exact hq.elim
    | cont => exact hq.elim
/-- repr of a list or tuple of plain data -/
theorem call_reprD (gg : X.A.guards = some []) (hu : X.A.units + 64 < cLine) : CallR X (.builtin "repr") (fun xs H Q => ∃ a d, xs = [.ref a] ∧ Dp X.K H (.ref a) d ∧ d.showable = true ∧ d.hasDict = false ∧ d.depth ≤ 60 ∧ d.shown.length ≤ sizeLine ∧ Q (.str d.shown) H) := by
  rintro pins s σ H xs us Q I r ⟨a, d, rfl, hd, h1, h2, h3, h4, q⟩
  cases r with
  | cons r1 rr =>
    cases rr
    obtain ⟨as, rd⟩ := Dp.reads I d (.ref a) _ hd r1
    cases r1
    refine repr_of_reads' rd h1 (fun z => by rw [h2] at z; cases z) gg (by omega) (fun _ _ z => z) (fun h' u tk hk => ?_) h4
    exact ⟨.str d.shown, H, I.kept (t' := tk) hk, ⟨u, rfl⟩, q⟩
end
end BR

namespace BR
open PySem PySem.Spec PyProof.Rows L2
/-! ### a law's end for such defs -/
theorem law_callG {P : Program} {w : World} {K : PySem.W.Frag} {mg mb : Str → Option Value} {k : Nat} {fa a : Addr} {fd : FuncData} {x : Str} {sp : Sp} {s₁ : Shared} {vs : List Value} {ns : List Int}
    (kin : K.In s₁.heap) (hns : s₁.heap.Ns mainGlobals mg) (hb : s₁.heap.Ns builtinsNs mb) (hbb : ∀ y : Str, y ≠ "__name__" → mb y = bootBuiltins y) (nolim : s₁.heap.NoLimit) (nogen : s₁.gens = #[])
    (ha : s₁.heap.get? a = some { cls := .type "list", data := .seq vs.toArray }) (hi : IntsAre vs ns) (hl : ns.length ≤ sizeLine) (hr : Room k callerA)
    (F : ∀ base : Heap, K.In base → base.Ns mainGlobals mg → FnG P w K mg base CX0 k fa fd [x] sp) (hbind : ∀ (s : Shared) (u : Value), BindsTo s fd ⟨[u], []⟩ [(x, u)])
    (hsp : ∀ H : Hp, Only H → SqL K H a (ns.map V.int) → sp [.ref a] H (fun v _ => v = .bl true) fun _ _ _ => False) :
    codeAny (model P w) callerA (.call (.ref fa) ⟨[.ref a], []⟩) (fun r s' => r = .ok (.ret (.bool true)) ∧ OldK s₁.heap s'.heap ∧ s'.os = s₁.os ∧ AllBare s'.gens) s₁ := by
  have rv := vals_ints hi
  have lenV := hi.length
  have core : ∀ H : Hp, Only H → SqL K H a (ns.map V.int) → HOk P w H s₁.heap → (∀ b, H b ≠ none → b = a) → (H a ≠ none → K.lookup a = none) →
      codeAny (model P w) callerA (.call (.ref fa) ⟨[.ref a], []⟩) (fun r s' => r = .ok (.ret (.bool true)) ∧ OldK s₁.heap s'.heap ∧ s'.os = s₁.os ∧ AllBare s'.gens) s₁ := by
    intro H only sq hok hA hK
    have isA : ∀ {b : Addr} {u : HO}, H b = some u → b = a := fun {b u} q => hA b (by rw [q]; exact fun z => nomatch z)
    have hid : ∀ {b : Addr} {o : Obj}, s₁.heap.get? b = some o → H b = none → (hidT s₁.heap H).get? b = some o := fun e n => hidT_get e n
    have noA : ∀ {b : Addr} {o : Obj} {es : Array DictEntry} {ep : Nat}, s₁.heap.get? b = some o → o.data = .dict es ep → H b = none := by
      intro b o es ep e d
      cases q : H b with
      | none => rfl
      | some u =>
        have eb := isA q
        subst eb
        rw [ha] at e
        cases e
        exact absurd (show Data.seq vs.toArray _ = Data.dict es ep from d) (by intro z; cases z)
    have nsK : ∀ {b : Addr} {m : Str → Option Value}, s₁.heap.Ns b m → (hidT s₁.heap H).Ns b m := by
      rintro b m ⟨o, es, ep, e, d, r⟩
      exact ⟨o, es, ep, hid e (noA e d), d, r⟩
    have kinB : K.In (hidT s₁.heap H) := by
      intro b o e
      refine hid (kin b o e) ?_
      cases q : H b with
      | none => rfl
      | some u =>
        have eb := isA q
        subst eb
        rw [hK (by rw [q]; exact fun z => nomatch z)] at e
        cases e
    obtain ⟨mc, l1, l2⟩ := nolim
    have md : Mod K mg (hidT s₁.heap H) := ⟨kinB, nsK hns, ⟨mb, nsK hb, hbb⟩, ⟨mc, nsK l1, l2⟩⟩
    have e0 : Env0 P w K mg (hidT s₁.heap H) callerA [] s₁ H := ⟨rfl, md, fun b o e => of_hidT e, Nat.le_of_eq (hidT_size _ _), trivial, fun b z => absurd (show b ∈ ([] : List Addr) from z) (by simp), hok, .of_eq nogen⟩
    refine codeAny_mono ((F _ kinB (nsK hns)).go callerA [] s₁ H ⟨[.ref a], []⟩ [.ref a] [.ref a] _ _ rfl hr e0 (hbind s₁ (.ref a)) (.cons rfl .nil) (hsp H only sq)) fun r s' hh => ?_
    cases r with
    | error e => exact False.elim hh
    | ok fl =>
      cases fl with
      | next => exact hh.elim
      | brk => exact hh.elim
      | cont => exact hh.elim
      | ret u =>
        obtain ⟨v, H', os, bare, un, hok', r', q⟩ := hh
        obtain rfl : v = V.bl true := q
        obtain rfl : u = Value.bool true := r'
        refine ⟨rfl, OldK.of_keep fun b o e => ?_, os, bare⟩
        cases q : H b with
        | none => exact un.keep b o e q (fun z => absurd (show b ∈ ([] : List Addr) from z) (by simp)) (by simp)
        | some u =>
          rcases only b with z | ⟨ob, xs, z⟩
          · rw [q] at z; cases z
          · obtain ⟨e1, _⟩ := hok b _ z
            obtain ⟨e2, _⟩ := hok' b _ (un.frzs b ob _ z)
            rw [e] at e1
            cases e1
            exact e2
  cases hk : K.lookup a with
  | some o =>
    have e := kin a o hk
    rw [ha] at e
    cases e
    exact core (fun _ => none) (fun _ => .inl rfl) (.inr ⟨_, vs.toArray, _, hk, rfl, rfl, rfl, by rw [List.size_toArray, lenV]; exact hl, by simpa using rv⟩) (fun b u z => nomatch (show (none : Option HO) = some u from z)) (fun b z => absurd rfl z) fun z => absurd rfl z
  | none =>
    refine core (fun b => if b = a then some (.frz { cls := .type "list", data := .seq vs.toArray } (.lst (ns.map V.int))) else none) (fun b => ?_) (.inl (.inr ⟨_, if_pos rfl⟩)) (fun b u z => ?_) (fun b z => ?_) fun _ => hk
    · by_cases hb : b = a
      · exact .inr ⟨_, _, if_pos hb⟩
      · exact .inl (if_neg hb)
    · have z1 : (if b = a then some (HO.frz { cls := .type "list", data := .seq vs.toArray } (.lst (ns.map V.int))) else none) = some u := z
      by_cases hb : b = a
      · subst hb
        rw [if_pos rfl] at z1
        cases z1
        refine ⟨ha, ?_, vs, _, rv, ha⟩
        rw [List.length_map]
        exact hl
      · rw [if_neg hb] at z1
        cases z1
    · refine Decidable.byContradiction fun hb => z ?_
      exact if_neg hb
theorem walk_ofG {l : PySem.W.OpenLaw} {n k : Nat} {q : Program} {loose : List Str} {XP : (Str → Option Value) → Heap → Prop} {YP : World → Heap → Prop} {d : DefRec} {K : Params → PySem.W.Frag} {sp : PySem.W.Frag → Sp} {x : Str}
    (most : l.most = some n) (small : n ≤ sizeLine) (nodef : d.params.defaults = []) (hr : Room k callerA) (hY : ∀ (w : World) (h : Heap), YP w h → (K w.params).In h)
    (F : ∀ (w : World) (mg : Str → Option Value) (fa : Addr) (h : Heap), (K w.params).In h → h.Ns mainGlobals mg → mg d.name = some (.ref fa) → ∃ fd : FuncData, (∀ (s : Shared) (u : Value), BindsTo s fd ⟨[u], []⟩ [(x, u)]) ∧
      ∀ base : Heap, (K w.params).In base → base.Ns mainGlobals mg → FnG l.prog w (K w.params) mg base CX0 k fa fd [x] (sp (K w.params)))
    (hsp : ∀ (K : PySem.W.Frag) (H : Hp) (a : Addr) (ns : List Int), ns.length ≤ n → Only H → SqL K H a (ns.map V.int) → sp K [.ref a] H (fun v _ => v = .bl true) fun _ _ _ => False) :
    PySem.W.WalkO q loose XP YP l.row.toRowW d [] (fun f vs => PySem.call f vs) := by
  refine Att.attach_call most nodef fun w s₀ s₁ mg mb fa o pm cd doc a vs ns G Y ho hd hcd hmg hobj hints hlen hg => ?_
  have kin := hY w _ Y
  obtain ⟨fd, bnd, ok⟩ := F w mg fa _ kin G.T.g hmg
  exact law_callG kin G.T.g G.T.b G.T.builtins G.T.nolimit hg hobj hints (Nat.le_trans hlen small) hr ok bnd fun H only sq => hsp _ H a ns hlen only sq
/-! ### for i, x in enumerate(t), t a tuple -/
set_option maxHeartbeats 4000000 in
theorem meets_enumT (l : Addr) (items : Array Value) (n : Nat) (dct : Option Addr) (sl : Array (Option Value)) :
    Meets (Builtin.«enumerate.__new__» ⟨[.type "enumerate", .ref l], []⟩) (fun _ R s => s.heap.get? l = some { cls := .type "tuple", dict := dct, data := .seq items n, slots := sl } ∧
      R (.ok (.ret (.ref (s.heap.push { cls := .type "tuple_iterator", data := .fields #[.ref l, .int 0 0] }).objs.size)))
        { s with heap := (s.heap.push { cls := .type "tuple_iterator", data := .fields #[.ref l, .int 0 0] }).push { cls := .type "enumerate", data := .fields #[.none, .bool false, .ref s.heap.objs.size, rawInt 0, .none, .none] } }) :=
  .of_wp fun prog w A R s hh => by
    obtain ⟨hp, g, d, tk, os⟩ := s
    obtain ⟨hl, hh⟩ := hh
    have sub := sub_enumerate
    have isT : Heap.IsTuple (Shared.heap ⟨hp, g, d, tk, os⟩) l items := ⟨_, hl, rfl, n, rfl⟩
    wp_walk using AutoSeq1.wpAny_loadPart' hl
    refine wpAny_stack_any fun st0 => wpAny_pure ?_
    split
    · rename_i c _ _ _ _ _
      cases (c == Value.type "enumerate")
      · wp_walk using AutoSeq1.wpAny_loadPart' hl, wpAny_pyIter_tuple isT
        exact ⟨_, rfl, hh⟩
      · wp_walk using AutoSeq1.wpAny_loadPart' hl, wpAny_pyIter_tuple isT
        exact ⟨_, rfl, hh⟩
    · wp_walk using AutoSeq1.wpAny_loadPart' hl, wpAny_pyIter_tuple isT
      exact ⟨_, rfl, hh⟩
section
variable {prog : Program} {w : World} {A : Around} {E : Value → Shared → Prop} {s : Shared}
theorem call_enumT {l : Addr} {items : Array Value} {Q : Value → Shared → Prop} (isT : s.heap.IsTuple l items)
    (hh : ∀ h', IsEnum h' (s.heap.objs.size + 1) s.heap.objs.size 0 .none → h'.IsTupleIter s.heap.objs.size l 0 → h'.objs.size = s.heap.objs.size + 2 →
      (∀ b o, s.heap.get? b = some o → h'.get? b = some o) → Q (.ref (s.heap.objs.size + 1)) { s with heap := h' }) :
    wpAny (model prog w) A (call (.type "enumerate") [.ref l]) Q E s := by
  obtain ⟨⟨c, dct, dt, sl⟩, hl, hc, n, hd⟩ := isT
  obtain rfl : c = .type "tuple" := hc
  obtain rfl : dt = .seq items n := hd
  refine callType_new F.called_enumerate (by decide) (F.typeCall_enumerate_1 _) (F.newCall_enumerate_1 _) (fun obj => F.args_object_init_2 obj _) F.entry_enumerate_new (meets_enumT l items n dct sl) ⟨hl, ?_⟩
  generalize hI : s.heap.push { cls := .type "tuple_iterator", data := .fields #[.ref l, .int 0 0] } = h1
  have sz : h1.objs.size = s.heap.objs.size + 1 := by rw [← hI]; exact Heap.size_push ..
  show _ ∧ _
  rw [sz]
  have he : IsEnum (h1.push { cls := .type "enumerate", data := .fields #[.none, .bool false, .ref s.heap.objs.size, rawInt 0, .none, .none] }) (s.heap.objs.size + 1) s.heap.objs.size 0 .none := by
    have e := Heap.get?_push_size h1 (o := { cls := .type "enumerate", data := .fields #[.none, .bool false, .ref s.heap.objs.size, rawInt 0, .none, .none] }) rfl
    rw [sz] at e
    exact e
  refine ⟨⟨_, he, rfl⟩, hh _ he ⟨_, Heap.get?_push_of_some _ (by rw [← hI]; exact Heap.get?_push_size _ rfl), rfl, rfl⟩ (by rw [Heap.size_push, sz]) fun b o e => Heap.get?_push_of_some _ ?_⟩
  rw [← hI]
  exact Heap.get?_push_of_some _ e
end
end BR

namespace BR
open PySem PySem.Spec PyProof.Rows L2
def IteT (K : PySem.W.Frag) (a : Addr) (xs : List V) : It :=
  ⟨fun i H => SqT K H a xs ∧ i < xs.length, fun i H v H' => ∃ T x, v = .ref T ∧ H T = none ∧ H' = upd H T (.tup [.int (i : Nat), x]) ∧ xs[i]? = some x, fun i H => SqT K H a xs ∧ xs.length ≤ i⟩
theorem diff_cls {h : Heap} {a b : Addr} {o u : Obj} {c d : String} (h1 : h.get? a = some o) (h2 : h.get? b = some u) (e1 : o.cls = .type c) (e2 : u.cls = .type d) (ne : c ≠ d) : a ≠ b := by
  rintro rfl
  rw [h1] at h2
  cases h2
  rw [e1] at e2
  cases e2
  exact ne rfl
theorem turn_enumT {P : Program} {w : World} {K : PySem.W.Frag} {elts : List Expr} {kk : Nat} {tpos : Pos} (a e it : Addr) (xs : List V) :
    Turn P w K (.Tuple elts kk tpos) (IteT K a xs) [e, it] e (fun i h => (∃ old, IsEnum h e it ((i : Nat) : Int) old) ∧ h.IsTupleIter it a i ∧ e ≠ it ∧ i ≤ xs.length) where
  mem := by simp
  obj := by
    rintro i h ⟨⟨old, he⟩, ⟨o, ho, hc, hd⟩, _⟩ b hb
    rcases List.mem_cons.mp hb with rfl | hb
    · exact ⟨_, he, fun v q => nomatch q⟩
    · obtain rfl := List.mem_singleton.mp hb
      exact ⟨o, ho, fun v q => by rw [hd] at q; cases q⟩
  keep := by
    rintro i h h' ⟨⟨old, he⟩, hi, hne, hz⟩ k
    exact ⟨⟨old, k e (by simp) _ he⟩, hi.at fun o q => k it (by simp) o q, hne, hz⟩
  item := by
    intro X hP hw hK hc i pins s σ H E I hf st hg
    subst hP hw hK
    obtain ⟨⟨old, he⟩, hit, hne, hz⟩ := st
    obtain ⟨hq, hlt⟩ := hg
    obtain ⟨its, rv, isT, _⟩ := I.tuple hq
    have hl := rv.length
    obtain ⟨ot, hot, hct, _⟩ := id isT
    obtain ⟨oi, hoi, hci, _⟩ := id hit
    have nta : it ≠ a := diff_cls hoi hot hci hct (by decide)
    have nea : e ≠ a := diff_cls he hot rfl hct (by decide)
    have hel : e < s.heap.objs.size := Heap.lt_size he
    have hil : it < s.heap.objs.size := Heap.lt_size hoi
    have D := Draws.tuple (prog := X.prog) (w := X.w) (A := X.A.in1) (show X.A.in1.handled = none from I.ok.hd hc) it a (Ne.symm nta) its.toArray
    refine wpAny_pyNext_enum_itemD D he ⟨hit, isT⟩ (by simp; omega) hne (by simp [hne, nea]) fun x h' tk hx ho hit' hT hsz hk => ?_
    obtain ⟨hit1, isT1⟩ := hit'
    refine ⟨_, rfl, wpAny_letOwnedTupleGo_enum (s := { s with heap := h', toks := tk + 1 }) ho fun h2 he2 sb => ?_⟩
    have hT2 : h2.get? s.heap.objs.size = some { cls := .type "tuple", data := .seq #[.int i tk, x] } := (sb.2 _ (Nat.ne_of_gt hel)).trans hT
    have hxi : i < its.length := by omega
    obtain ⟨y, hy, ry⟩ : ∃ y, xs[i]? = some y ∧ RelV y x := by
      have e1 : xs[i]? = some xs[i] := by simp [hlt]
      obtain ⟨u, hu, ru⟩ := rv.get e1
      have e2 : its[i]? = some x := by simpa using hx
      rw [e2] at hu
      cases hu
      exact ⟨_, e1, ru⟩
    have new : ObjOk X.prog X.w (upd H s.heap.objs.size (.tup [.int (i : Nat), y])) h2 s.heap.objs.size (.tup [.int (i : Nat), y]) :=
      ⟨by show 2 ≤ sizeLine; decide, [.int i tk, x], .cons ⟨_, rfl⟩ (.cons ry .nil), ⟨_, hT2, rfl, _, rfl⟩⟩
    have I1 : Inv X pins σ (upd H s.heap.objs.size (.tup [.int (i : Nat), y])) { s with heap := h2, toks := tk + 1 } := by
      refine I.turnedNew (ch := [e, it]) (fun b ob hb q => ?_) hf (Nat.le_refl _) new
      have b1 : b ≠ e := fun z => hb (by simp [z])
      exact (sb.2 b b1).trans (hk b ob b1 (fun z => hb (by simp [z])) q)
    refine ⟨.ref s.heap.objs.size, _, I1, rfl, ⟨_, y, rfl, I.hok.fresh (Nat.le_refl _), rfl, hy⟩, ⟨⟨x, ?_⟩, hit1.at fun o q => (sb.2 it (Ne.symm hne)).trans q, hne, hlt⟩, fun b hb => ?_⟩
    · have e1 : ((i + 1 : Nat) : Int) = (i : Int) + 1 := by omega
      rw [e1]
      exact he2
    · have hb' : b < s.heap.objs.size := by
        rcases List.mem_cons.mp hb with rfl | hb
        · exact hel
        · obtain rfl := List.mem_singleton.mp hb
          exact hil
      rw [upd_ne (Nat.ne_of_lt hb')]
      exact (hf b hb).1
  done := by
    intro X hP hw hK hc i pins s σ H E I hf st hg
    subst hP hw hK
    obtain ⟨⟨old, he⟩, hit, hne, hz⟩ := st
    obtain ⟨hq, hge⟩ := hg
    obtain ⟨its, rv, isT, _⟩ := I.tuple hq
    have hl := rv.length
    obtain rfl : i = its.toArray.size := by simp; omega
    obtain ⟨ot, hot, hct, _⟩ := id isT
    obtain ⟨oi, hoi, hci, _⟩ := id hit
    have nta : it ≠ a := diff_cls hoi hot hci hct (by decide)
    have D := Draws.tuple (prog := X.prog) (w := X.w) (A := X.A.in1) (show X.A.in1.handled = none from I.ok.hd hc) it a (Ne.symm nta) its.toArray
    obtain ⟨f0, f1, f2, f3, f4, f5⟩ := hf it (by simp)
    exact wpAny_pyNext_enum_endD D he ⟨hit, isT⟩ fun h' eb => ⟨rfl, I.turned (t' := s.toks) (fun b o hb q => eb b o hb q) f0 f1 f3 f4 f5⟩
  self := fun A i s Q E st h => let ⟨⟨_, he⟩, _⟩ := st; wpAny_pyIter_enum he h
def iEnumT (K : PySem.W.Frag) (ta : TA) : TI := fun σ H R => ta σ H fun vs H1 => ∃ a xs, vs = [.ref a] ∧ SqT K H1 a xs ∧ R (IteT K a xs) H1
theorem pi_enumT {X : Cx} {e : Expr} {ta : TA} {p pos tpos : Pos} {elts : List Expr} {kk : Nat} (hg : Gl X "enumerate") (hm : X.mg "enumerate" = none) (args : PA X [e] ta) (st1 : starEach [e] X.env = [(false, eval e X.env)] := by rfl) :
    PI X (.Tuple elts kk tpos) (.Call (.Name "enumerate" p) [e] [] pos) (iEnumT X.K ta) := by
  refine ⟨fun pins s σ H R I h => ?_⟩
  refine Call_ (ld_blt I hg hm boot_enumerate (PyProof.Rows.callWith_type1 (thn (args.run pos pins s σ H _ I h) ?_) st1 rfl))
  rintro us s1 ⟨vs, H1, I1, r1, a, xs, rfl, hq, q⟩
  cases r1 with
  | cons r rr =>
    cases rr
    cases r
    obtain ⟨its, rv, isT, hz⟩ := I1.tuple hq
    refine call_enumT isT fun h' he hit hsz hk => wpAny_pyIter_enum he ?_
    have I2 : Inv X pins σ H1 { s1 with heap := h' } := I1.kept (t' := s1.toks) hk
    refine ⟨s1.heap.objs.size + 1, [s1.heap.objs.size + 1, s1.heap.objs.size], _, _, H1, rfl, I2, turn_enumT a (s1.heap.objs.size + 1) s1.heap.objs.size xs, ⟨⟨.none, he⟩, hit, Nat.succ_ne_self _, Nat.zero_le _⟩, fun b hb => ?_, q⟩
    have hle : s1.heap.objs.size ≤ b := by
      rcases List.mem_cons.mp hb with rfl | hb
      · exact Nat.le_add_right _ _
      · obtain rfl := List.mem_singleton.mp hb
        exact Nat.le_refl _
    exact I1.fpOk hle (I1.hok.fresh hle)
theorem walk_enumT {K : PySem.W.Frag} {a : Addr} {xs : List V} : Walk (IteT K a xs) xs.length (fun H => SqT K H a xs) (YPair (fun i => some (.int (i : Nat))) (fun i => xs[i]?)) := by
  refine ⟨fun i _ hi q => ⟨q, hi⟩, fun _ q => ⟨q, Nat.le_refl _⟩, ?_⟩
  rintro i H v H' _ q ⟨T, x, h1, h2, h3, h4⟩
  exact ⟨T, .int (i : Nat), x, h1, h2, h3, rfl, h4⟩
end BR

namespace BR
open PySem PySem.Spec PyProof.Rows L2
/-! ### the draws' pool, heaps, words -/
theorem tT {c : Bool} {A B : Prop} (hc : c = true) (h : A) : if c = true then A else B := by
  rw [if_pos hc]
  exact h
theorem tF {c : Bool} {A B : Prop} (hc : c = false) (h : B) : if c = true then A else B := by
  rw [hc, if_neg Bool.false_ne_true]
  exact h
theorem sameNew {H : Hp} {p : Addr} {o : HO} (h : H p = none) : Same H (upd H p o) := fun b u e => by
  rw [upd_ne (ne_of_none e h)]
  exact e
theorem sameT {K : PySem.W.Frag} {H H' : Hp} {a : Addr} {xs : List V} (e : Same H H') (h : SqT K H a xs) : SqT K H' a xs := by
  rcases h with (h | ⟨o, h⟩) | h
  · exact .inl (.inl (e _ _ h))
  · exact .inl (.inr ⟨o, e _ _ h⟩)
  · exact .inr h
theorem map_at {xs : List Int} {i : Nat} {v : V} (h : (xs.map V.int)[i]? = some v) : ∃ z, xs[i]? = some z ∧ v = V.int z := by
  rw [List.getElem?_map] at h
  cases e : xs[i]? with
  | none => rw [e] at h; cases h
  | some z => rw [e] at h; exact ⟨z, rfl, (Option.some.inj h).symm⟩
/-- all but p as it was -/
def But (p : Addr) (H H' : Hp) : Prop := ∀ b o, b ≠ p → H b = some o → H' b = some o
theorem But.refl {p : Addr} (H : Hp) : But p H H := fun _ _ _ e => e
theorem But.trans {p : Addr} {H H1 H2 : Hp} (a : But p H H1) (b : But p H1 H2) : But p H H2 := fun c o n e => b c o n (a c o n e)
theorem But.of {p : Addr} {H H' : Hp} (s : Same H H') : But p H H' := fun b o _ e => s b o e
theorem But.upd {p : Addr} {H : Hp} {o : HO} : But p H (upd H p o) := fun b u n e => by
  rw [upd_ne n]
  exact e
theorem But.new {p q : Addr} {H : Hp} {o : HO} (h : H q = none) : But p H (L2.upd H q o) := But.of (sameNew h)
/-- the pool at p, not more than n numbers mixed -/
def Pool (H : Hp) (p : Addr) (n : Nat) : Prop := ∃ g b c : Int, H p = some (.lst [.int g, .int b, .int c]) ∧ 0 ≤ g ∧ 0 ≤ b ∧ b < 2 ^ 62 ∧ 0 ≤ c ∧ c ≤ (n : Int)
theorem Pool.same {H H' : Hp} {p : Addr} {n : Nat} (h : Pool H p n) (s : Same H H') : Pool H' p n := by
  obtain ⟨g, b, c, e, r⟩ := h
  exact ⟨g, b, c, s _ _ e, r⟩
theorem Pool.mono {H : Hp} {p : Addr} {n m : Nat} (h : Pool H p n) (l : n ≤ m) : Pool H p m := by
  obtain ⟨g, b, c, e, r1, r2, r3, r4, r5⟩ := h
  exact ⟨g, b, c, e, r1, r2, r3, r4, by omega⟩
theorem Pool.new {H : Hp} {p q : Addr} {o : HO} {n : Nat} (h : Pool H p n) (hq : H q = none) : Pool (L2.upd H q o) p n := h.same (sameNew hq)
theorem Pool.ne {H : Hp} {p q : Addr} {n : Nat} (h : Pool H p n) (hq : H q = none) : q ≠ p := by
  obtain ⟨g, b, c, e, _⟩ := h
  exact (ne_of_none e hq).symm
theorem Pool.put {H : Hp} {p q : Addr} {o : HO} {n : Nat} (h : Pool H p n) (nq : q ≠ p) : Pool (L2.upd H q o) p n := by
  obtain ⟨g, b, c, e, r⟩ := h
  exact ⟨g, b, c, by rw [upd_ne nq.symm]; exact e, r⟩
theorem pow_pos (n : Nat) : (0 : Int) < 2 ^ n := by
  have h : (2 : Int) ^ n = ((2 ^ n : Nat) : Int) := by norm_cast
  rw [h]
  have := Nat.two_pow_pos n
  omega
theorem pow_lt {a b : Nat} (h : a < b) : (2 : Int) ^ a < 2 ^ b := by
  have h1 : (2 : Int) ^ a = ((2 ^ a : Nat) : Int) := by norm_cast
  have h2 : (2 : Int) ^ b = ((2 ^ b : Nat) : Int) := by norm_cast
  have h3 : 2 ^ a < 2 ^ b := Nat.pow_lt_pow_right (by decide) h
  rw [h1, h2]
  omega
theorem log_ok {m : Int} (h0 : 0 < m) (h1 : m < 2 ^ 400) : m.natAbs.log2 < 9000 := by
  have h : m.natAbs < 2 ^ 400 := by
    have e : ((2 : Int) ^ 400) = ((2 ^ 400 : Nat) : Int) := by norm_cast
    rw [e] at h1
    omega
  exact Nat.lt_of_lt_of_le (PySem.Flt.log2_lt_of (by decide) h) (by decide)
/-- signed value, outcome -/
def sv (wd x : Int) : Int := if (2 : Int) ^ (wd - 1).toNat ≤ x then x - 2 ^ wd.toNat else x
def oc (wd x y : Int) : Str := if x = y then "E" else if sv wd x < sv wd y then (if x < y then "LB" else "LA") else (if x < y then "GB" else "GA")
theorem oc_short (wd x y : Int) : (oc wd x y).length ≤ 2 := by
  unfold oc
  split
  · decide +kernel
  · split <;> split <;> decide +kernel
theorem ints_all {K : PySem.W.Frag} {H : Hp} : ∀ xs : List Int, DpAll K H (xs.map V.int) (xs.map PyData.int)
  | [] => .nil
  | x :: r => .cons (.int x) (ints_all r)
theorem ints_lay : ∀ xs : List Int, PyData.canLayAll0 (xs.map PyData.int) = true ∧ PyData.depthAll (xs.map PyData.int) = 0
  | [] => ⟨rfl, rfl⟩
  | x :: r => by
    obtain ⟨h1, h2⟩ := ints_lay r
    refine ⟨?_, ?_⟩
    · show (PyData.canLay0 (.int x) && PyData.canLayAll0 (r.map PyData.int)) = true
      rw [h1]
      rfl
    · show max (PyData.depth (.int x)) (PyData.depthAll (r.map PyData.int)) = 0
      rw [h2]
      rfl
theorem ints_shaped (xs : List Int) : SeqAt.shaped (.list (xs.map PyData.int)) = true := by
  obtain ⟨h1, h2⟩ := ints_lay xs
  unfold SeqAt.shaped
  show (PyData.canLayAll0 (xs.map PyData.int) && decide (PyData.depthAll (xs.map PyData.int) + 1 ≤ 64)) = true
  rw [h1, h2]
  rfl
/-- what is small enough to be shown -/
def Tame (m : Int) : Prop := m.natAbs.log2 < 1920
theorem Tame.of {m : Int} {k : Nat} (k0 : 0 < k) (hk : k ≤ 1900) (h0 : -(2 ^ k) < m) (h1 : m < 2 ^ k) : Tame m := by
  have e : ((2 : Int) ^ k) = ((2 ^ k : Nat) : Int) := by norm_cast
  rw [e] at h0 h1
  have h : m.natAbs < 2 ^ k := by omega
  exact Nat.lt_of_lt_of_le (PySem.Flt.log2_lt_of k0 h) (by omega)
theorem tame_short {m : Int} (h : Tame m) : (PyData.shown (.int m)).length ≤ 1921 := int_text_len_1921 h
theorem tame_weight {m : Int} (h : Tame m) : (PyData.int m).weight ≤ 1920 := by
  show (if m == 0 then 0 else m.natAbs.log2 + 1) ≤ 1920
  have := show m.natAbs.log2 < 1920 from h
  split <;> omega
theorem oc_is (wd x y : Int) : oc wd x y = "E" ∨ oc wd x y = "LB" ∨ oc wd x y = "LA" ∨ oc wd x y = "GB" ∨ oc wd x y = "GA" := by
  unfold oc
  split
  · exact .inl rfl
  · split <;> split <;> simp
theorem sv_tame {wd x : Int} (h1 : 1 ≤ wd) (h2 : wd ≤ 300) (h : 0 ≤ x ∧ x < 2 ^ wd.toNat) : Tame (sv wd x) := by
  have p := pow_pos wd.toNat
  refine Tame.of (k := wd.toNat + 1) (by omega) (by omega) ?_ ?_
  · have q : (2 : Int) ^ (wd.toNat + 1) = 2 ^ wd.toNat * 2 := Int.pow_succ ..
    unfold sv
    split <;> omega
  · have q : (2 : Int) ^ (wd.toNat + 1) = 2 ^ wd.toNat * 2 := Int.pow_succ ..
    unfold sv
    split <;> omega
theorem shown_small {d : PyData} (h : d.leavesShort 1921 = true) (hw : d.weight ≤ 8000) : d.shown.length ≤ sizeLine := by
  have e := PyData.shown_le 1921 (by decide) d h
  have : (1921 + 2) * d.weight ≤ (1921 + 2) * 8000 := Nat.mul_le_mul_left _ hw
  exact Nat.le_trans e (Nat.le_trans (Nat.add_le_add_right this _) (by decide))
theorem shown_ok {wd x y : Int} (h1 : 1 ≤ wd) (h2 : wd ≤ 300) (h3 : 0 ≤ x ∧ x < 2 ^ wd.toNat) (h4 : 0 ≤ y ∧ y < 2 ^ wd.toNat) :
    (PyData.list [.int (sv wd x), .str (oc wd x y)]).showable = true ∧ (PyData.list [.int (sv wd x), .str (oc wd x y)]).hasDict = false ∧ (PyData.list [.int (sv wd x), .str (oc wd x y)]).depth ≤ 60 ∧
      (PyData.list [.int (sv wd x), .str (oc wd x y)]).shown.length ≤ sizeLine := by
  have t := sv_tame h1 h2 h3
  have a1 := tame_short t
  have a2 := tame_weight t
  have b : (PyData.str (oc wd x y)).leavesShort 1921 = true ∧ (PyData.str (oc wd x y)).weight ≤ 2 := by
    rcases oc_is wd x y with e | e | e | e | e <;> rw [e] <;> exact ⟨by decide +kernel, by decide +kernel⟩
  refine ⟨?_, rfl, ?_, shown_small ?_ ?_⟩
  · show (decide ((sv wd x).natAbs.log2 < 1920) && (true && true)) = true
    rw [decide_eq_true (show (sv wd x).natAbs.log2 < 1920 from t)]
    rfl
  · show max 0 (max 0 0) + 1 ≤ 60
    decide
  · show (decide ((PyData.shown (.int (sv wd x))).length ≤ 1921) && ((PyData.str (oc wd x y)).leavesShort 1921 && true)) = true
    rw [decide_eq_true a1, b.1]
    rfl
  · show (PyData.int (sv wd x)).weight + 1 + ((PyData.str (oc wd x y)).weight + 1 + 0) ≤ 8000
    omega
theorem laps_of {n : Nat} {t : Int} (ht : 1 ≤ t) : ∃ m : Nat, (m : Int) ≤ t ∧ (if (if (n : Int) < t then (n : Int) else t) > 1 then (if (n : Int) < t then (n : Int) else t) else 1) = (m : Int) := by
  by_cases h : (n : Int) < t
  · rw [if_pos h]
    by_cases h1 : (n : Int) > 1
    · rw [if_pos h1]; exact ⟨n, by omega, rfl⟩
    · rw [if_neg h1]; exact ⟨1, by omega, rfl⟩
  · rw [if_neg h]
    refine ⟨t.toNat, by omega, ?_⟩
    split <;> omega
end BR

namespace BR
open PySem PySem.Spec PyProof.Rows L2
/-! ### words changed; comprehensions over ints -/
def fl (wd x : Int) : Int := if x < 2 ^ (wd - 1).toNat then x + 2 ^ (wd - 1).toNat else x - 2 ^ (wd - 1).toNat
def iv (wd x : Int) : Int := 2 ^ wd.toNat - 1 - x
def ex (wd wi x : Int) : Int := if (2 : Int) ^ (wd - 1).toNat ≤ x then x + (2 ^ wi.toNat - 2 ^ wd.toNat) else x
theorem two_half {wd : Int} (h : 1 ≤ wd) : (2 : Int) ^ wd.toNat = 2 * 2 ^ (wd - 1).toNat := by
  have e : wd.toNat = (wd - 1).toNat + 1 := by omega
  rw [e, Int.pow_succ, Int.mul_comm]
theorem pow_le {a b : Nat} (h : a ≤ b) : (2 : Int) ^ a ≤ 2 ^ b := by
  have h1 : (2 : Int) ^ a = ((2 ^ a : Nat) : Int) := by norm_cast
  have h2 : (2 : Int) ^ b = ((2 ^ b : Nat) : Int) := by norm_cast
  have h3 : 2 ^ a ≤ 2 ^ b := Nat.pow_le_pow_right (by decide) h
  rw [h1, h2]
  omega
theorem nat_cast_pow (n : Nat) : (2 : Int) ^ n = ((2 ^ n : Nat) : Int) := by norm_cast
theorem fl_word {wd x : Int} (h : 1 ≤ wd) (hx : 0 ≤ x ∧ x < 2 ^ wd.toNat) : 0 ≤ fl wd x ∧ fl wd x < 2 ^ wd.toNat := by
  have e := two_half h
  have p := pow_pos (wd - 1).toNat
  unfold fl
  split <;> omega
theorem fl_fl {wd x : Int} (h : 1 ≤ wd) (hx : 0 ≤ x ∧ x < 2 ^ wd.toNat) : fl wd (fl wd x) = x := by
  have e := two_half h
  have p := pow_pos (wd - 1).toNat
  unfold fl
  split <;> split <;> omega
theorem iv_word {wd x : Int} (hx : 0 ≤ x ∧ x < 2 ^ wd.toNat) : 0 ≤ iv wd x ∧ iv wd x < 2 ^ wd.toNat := by
  unfold iv
  omega
theorem iv_iv (wd x : Int) : iv wd (iv wd x) = x := by
  unfold iv
  omega
theorem ex_word {wd wi x : Int} (h1 : 1 ≤ wd) (h2 : wd ≤ wi) (hx : 0 ≤ x ∧ x < 2 ^ wd.toNat) : 0 ≤ ex wd wi x ∧ ex wd wi x < 2 ^ wi.toNat := by
  have q := pow_le (a := wd.toNat) (b := wi.toNat) (by omega)
  unfold ex
  split <;> omega
theorem sv_ex {wd wi x : Int} (h1 : 1 ≤ wd) (h2 : wd ≤ wi) (hx : 0 ≤ x ∧ x < 2 ^ wd.toNat) : sv wi (ex wd wi x) = sv wd x := by
  have q := pow_le (a := (wd - 1).toNat) (b := (wi - 1).toNat) (by omega)
  have e1 := two_half h1
  have e2 := two_half (show 1 ≤ wi by omega)
  have p := pow_pos (wd - 1).toNat
  unfold sv ex
  split <;> split <;> omega
theorem and_bit {n a : Nat} (h : a < 2 ^ (n + 1)) : a &&& 2 ^ n = if a < 2 ^ n then 0 else 2 ^ n := by
  apply Nat.eq_of_testBit_eq
  intro i
  rw [Nat.testBit_and, Nat.testBit_two_pow]
  by_cases c : a < 2 ^ n
  · rw [if_pos c]
    by_cases e : n = i
    · subst e
      rw [Nat.testBit_lt_two_pow c]
      simp
    · simp [e]
  · rw [if_neg c, Nat.testBit_two_pow]
    by_cases e : n = i
    · subst e
      have hk : 2 ^ (n + 1) = 2 ^ n * 2 := Nat.pow_succ ..
      have z : a / 2 ^ n = 1 := by
        have p : 0 < 2 ^ n := Nat.two_pow_pos n
        have h1 : 1 ≤ a / 2 ^ n := (Nat.le_div_iff_mul_le p).mpr (by omega)
        have h2 : a / 2 ^ n < 2 := (Nat.div_lt_iff_lt_mul p).mpr (by omega)
        omega
      have t : a.testBit n = true := by
        rw [Nat.testBit_eq_decide_div_mod_eq, z]
        rfl
      simp [t]
    · simp [e]
theorem xor_half {wd x : Int} (h : 1 ≤ wd) (hx : 0 ≤ x ∧ x < 2 ^ wd.toNat) : Builtin.bitXor x (2 ^ (wd - 1).toNat) = fl wd x := by
  have e := two_half h
  have p := pow_pos (wd - 1).toNat
  rw [Bits.bitXor_pp hx.1 (by omega)]
  rw [nat_cast_pow] at p e ⊢
  unfold fl
  rw [nat_cast_pow]
  generalize (wd - 1).toNat = n at p e ⊢
  obtain ⟨a, rfl⟩ := Int.eq_ofNat_of_zero_le hx.1
  rw [Int.toNat_natCast, Int.toNat_natCast]
  have k := Bits.nat_xor_add_and a (2 ^ n)
  have b1 : (a : Int) < 2 * 2 ^ n := by rw [← e]; exact hx.2
  have p2 : ((2 ^ n : Nat) : Int) = 2 ^ n := (nat_cast_pow n).symm
  have hk : 2 ^ (n + 1) = 2 ^ n * 2 := Nat.pow_succ ..
  rw [and_bit (n := n) (a := a) (by omega)] at k
  by_cases c : a < 2 ^ n
  · rw [if_pos c] at k
    rw [if_pos (by omega)]
    omega
  · rw [if_neg c] at k
    rw [if_neg (by omega)]
    omega
theorem xor_all {wd x : Int} (hx : 0 ≤ x ∧ x < 2 ^ wd.toNat) : Builtin.bitXor x (2 ^ wd.toNat - 1) = iv wd x := by
  have p := pow_pos wd.toNat
  rw [Bits.bitXor_pp hx.1 (by omega)]
  unfold iv
  have b1 := hx.2
  rw [nat_cast_pow] at p b1 ⊢
  generalize wd.toNat = n at p b1 ⊢
  obtain ⟨a, rfl⟩ := Int.eq_ofNat_of_zero_le hx.1
  have et : (((2 ^ n : Nat) : Int) - 1).toNat = 2 ^ n - 1 := by omega
  rw [Int.toNat_natCast, et]
  have k := Bits.nat_xor_add_and a (2 ^ n - 1)
  rw [Nat.and_two_pow_sub_one_eq_mod, Nat.mod_eq_of_lt (by omega)] at k
  omega
theorem map_take_succ {f : Int → Int} {xs : List Int} {i : Nat} {z : Int} (h : xs[i]? = some z) : ((xs.take (i + 1)).map f).map V.int = ((xs.take i).map f).map V.int ++ [V.int (f z)] := by
  have e : xs.take (i + 1) = xs.take i ++ [z] := by
    rw [List.take_add_one, h]
    rfl
  rw [e, List.map_append, List.map_append]
  rfl
/-- [e for x in t], t a tuple of ints, e an int of x alone -/
theorem lc_ints {K : PySem.W.Frag} {a : Addr} {xs : List Int} {j : Nat} {te : TE} {vs : List Nat} {σ : L2.St} {H1 : Hp} {D : Addr} {Qd : Hp → Prop} (f : Int → Int) (hT : SqT K H1 a (xs.map V.int)) (hz : xs.length ≤ 1000) (hD : H1 D = none)
    (hw : ∀ x : V, wipe ((wipe σ vs).set j (some x)) vs = wipe σ vs)
    (he : ∀ (x : Int) (H2 : Hp) (Q : VK), x ∈ xs → Same H1 H2 → (∀ H3, Same H2 H3 → Q (.int (f x)) H3) → te ((wipe σ vs).set j (some (.int x))) H2 Q)
    (hd : ∀ H, Same H1 H → H D = some (.lst ((xs.map f).map V.int)) → Qd H) :
    ∃ W : Nat → Nat → Hp → Prop, (∃ m, W 0 m (L2.upd H1 D (.lst []))) ∧ ∀ i m H, W i m H →
      ((Itt K a).stop i H ∧ Qd H) ∨ ((Itt K a).go i H ∧ ∃ Nx : Hp → Prop, (∀ H', Nx H' → ∃ m', m' < m ∧ W (i + 1) m' H') ∧ ∀ x H', (Itt K a).yld i H x H' → gName j x (wipe σ vs) H' fun σ2 H2 => wipe σ2 vs = wipe σ vs ∧ tYes σ2 H2 fun b H3 =>
        if b = true then te σ2 H3 fun y H4 => ∃ acc, H4 D = some (.lst acc) ∧ acc.length < sizeLine ∧ Nx (L2.upd H4 D (.lst (acc ++ [y]))) else Nx H3) := by
  refine lc_tup (xs := xs.map V.int) (fun i H => Same H1 H ∧ H D = some (.lst (((xs.take i).map f).map V.int))) ⟨sameNew hD, upd_same⟩ (fun i H _ p => sameT p.1 hT) ?_ ?_
  · rintro i x H hx ⟨s, hH⟩
    obtain ⟨z, hz1, rfl⟩ := map_at hx
    refine ⟨hw _, ?_⟩
    show te ((wipe σ vs).set j (some (V.int z))) H _
    refine he z H _ (List.mem_of_getElem? hz1) s fun H3 s3 => ?_
    refine ⟨_, s3 _ _ hH, small1000 (by rw [List.length_map, List.length_map, List.length_take]; omega), ?_, ?_⟩
    · intro b o e
      rw [upd_ne (ne_of_none e hD)]
      exact s3 _ _ (s _ _ e)
    · rw [upd_same, map_take_succ hz1]
  · rintro H ⟨s, hH⟩
    rw [List.length_map, List.take_length] at hH
    exact hd H s hH
end BR
namespace BR
open PySem PySem.Spec PyProof.Rows L2
/-! ### what tuples of words look like when they are shown -/
theorem ints_show : ∀ {ys : List Int}, (∀ y ∈ ys, 0 ≤ y ∧ y < 2 ^ 300) → PyData.showableAll (ys.map PyData.int) = true ∧ PyData.hasDictAll (ys.map PyData.int) = false ∧ PyData.leavesShortAll 301 (ys.map PyData.int) = true ∧ PyData.weightAll (ys.map PyData.int) ≤ 301 * ys.length
  | [], _ => ⟨rfl, rfl, rfl, Nat.zero_le _⟩
  | y :: r, h => by
    obtain ⟨h1, h2, h3, h4⟩ := ints_show (ys := r) fun z m => h z (List.mem_cons_of_mem _ m)
    have hy := h y List.mem_cons_self
    have n : y.natAbs < 2 ^ 300 := by
      have e := nat_cast_pow 300
      have b := hy.2
      rw [e] at b
      omega
    have l := PySem.Flt.log2_lt_of (k := 300) (by decide) n
    refine ⟨?_, ?_, ?_, ?_⟩
    · show (decide (y.natAbs.log2 < 1920) && PyData.showableAll (r.map PyData.int)) = true
      rw [h1, decide_eq_true (by omega)]
      rfl
    · show (false || PyData.hasDictAll (r.map PyData.int)) = false
      rw [h2]
      rfl
    · show (decide ((PyData.shown (.int y)).length ≤ 301) && PyData.leavesShortAll 301 (r.map PyData.int)) = true
      have e : (PyData.shown (.int y)).length ≤ 301 := by
        show (PySem.Str.ofString (toString y)).length ≤ 301
        rw [PySem.ofString_length]
        exact PySem.int_text_length_le (k := 300) (by decide) l
      rw [h3, decide_eq_true e]
      rfl
    · show (if y == 0 then 0 else y.natAbs.log2 + 1) + 1 + PyData.weightAll (r.map PyData.int) ≤ 301 * (r.length + 1)
      split <;> omega
theorem shown_tup {ys : List Int} (h : ∀ y ∈ ys, 0 ≤ y ∧ y < 2 ^ 300) (hz : ys.length ≤ 41) :
    (PyData.tuple (ys.map PyData.int)).showable = true ∧ (PyData.tuple (ys.map PyData.int)).hasDict = false ∧ (PyData.tuple (ys.map PyData.int)).depth ≤ 60 ∧ (PyData.tuple (ys.map PyData.int)).shown.length ≤ sizeLine := by
  obtain ⟨h1, h2, h3, h4⟩ := ints_show h
  obtain ⟨_, h6⟩ := ints_lay ys
  refine ⟨h1, h2, ?_, ?_⟩
  · show PyData.depthAll (ys.map PyData.int) + 1 ≤ 60
    omega
  · have e := PyData.shown_le 301 (by decide) (.tuple (ys.map PyData.int)) h3
    have w : (PyData.tuple (ys.map PyData.int)).weight ≤ 12341 := by
      show PyData.weightAll (ys.map PyData.int) ≤ 12341
      omega
    have : (301 + 2) * (PyData.tuple (ys.map PyData.int)).weight ≤ (301 + 2) * 12341 := Nat.mul_le_mul_left _ w
    exact Nat.le_trans e (Nat.le_trans (Nat.add_le_add_right this _) (by decide))
theorem shown_two {ys : List Int} (h : ∀ y ∈ ys, 0 ≤ y ∧ y < 2 ^ 300) (hz : ys.length ≤ 41) :
    (PyData.list [.tuple (ys.map PyData.int), .tuple (ys.map PyData.int)]).showable = true ∧ (PyData.list [.tuple (ys.map PyData.int), .tuple (ys.map PyData.int)]).hasDict = false ∧
      (PyData.list [.tuple (ys.map PyData.int), .tuple (ys.map PyData.int)]).depth ≤ 60 ∧ (PyData.list [.tuple (ys.map PyData.int), .tuple (ys.map PyData.int)]).shown.length ≤ sizeLine := by
  obtain ⟨h1, h2, h3, h4⟩ := ints_show h
  obtain ⟨_, h6⟩ := ints_lay ys
  refine ⟨?_, ?_, ?_, ?_⟩
  · show (PyData.showableAll (ys.map PyData.int) && (PyData.showableAll (ys.map PyData.int) && true)) = true
    rw [h1]
    rfl
  · show (PyData.hasDictAll (ys.map PyData.int) || (PyData.hasDictAll (ys.map PyData.int) || false)) = false
    rw [h2]
    rfl
  · show max (PyData.depthAll (ys.map PyData.int) + 1) (max (PyData.depthAll (ys.map PyData.int) + 1) 0) + 1 ≤ 60
    omega
  · have e := PyData.shown_le 301 (by decide) (.list [.tuple (ys.map PyData.int), .tuple (ys.map PyData.int)]) (by
      show (PyData.leavesShortAll 301 (ys.map PyData.int) && (PyData.leavesShortAll 301 (ys.map PyData.int) && true)) = true
      rw [h3]
      rfl)
    have w : (PyData.list [.tuple (ys.map PyData.int), .tuple (ys.map PyData.int)]).weight ≤ 24684 := by
      show PyData.weightAll (ys.map PyData.int) + 1 + (PyData.weightAll (ys.map PyData.int) + 1 + 0) ≤ 24684
      omega
    have : (301 + 2) * (PyData.list [.tuple (ys.map PyData.int), .tuple (ys.map PyData.int)]).weight ≤ (301 + 2) * 24684 := Nat.mul_le_mul_left _ w
    exact Nat.le_trans e (Nat.le_trans (Nat.add_le_add_right this _) (by decide))
theorem tup_shaped (xs : List Int) : SeqAt.shaped (.tuple (xs.map PyData.int)) = true := by
  obtain ⟨h1, h2⟩ := ints_lay xs
  unfold SeqAt.shaped
  show (PyData.canLayAll0 (xs.map PyData.int) && decide (PyData.depthAll (xs.map PyData.int) + 1 ≤ 64)) = true
  rw [h1, h2]
  rfl
theorem eqv_tup (xs : List Int) : PyData.eqv (.tuple (xs.map PyData.int)) (.tuple (xs.map PyData.int)) = true := SeqAt.eqv_refl _ (SeqAt.canLay_of_shaped (tup_shaped xs))
theorem eqv_lst (xs : List Int) : PyData.eqv (.list (xs.map PyData.int)) (.list (xs.map PyData.int)) = true := SeqAt.eqv_refl _ (SeqAt.canLay_of_shaped (ints_shaped xs))
end BR

namespace BR
open PySem PySem.Spec PyProof.Rows L2
/-! ### outcomes told by a cut -/
def ocut (c x y : Int) : Str := if x = y then "E" else if x < y then (if (decide (x < c) != decide (y < c)) = true then "GB" else "LB") else (if (decide (x < c) != decide (y < c)) = true then "LA" else "GA")
theorem mixed_is (a b : Bool) : (!decide (V.bl a = V.bl b)) = (a != b) := by
  cases a <;> cases b <;> rfl
theorem oc_cut {wd x y : Int} (h : 1 ≤ wd) (hx : 0 ≤ x ∧ x < 2 ^ wd.toNat) (hy : 0 ≤ y ∧ y < 2 ^ wd.toNat) : ocut (2 ^ (wd - 1).toNat) x y = oc wd x y := by
  have e := two_half h
  have p := pow_pos (wd - 1).toNat
  unfold ocut oc
  by_cases c : x = y
  · rw [if_pos c, if_pos c]
  rw [if_neg c, if_neg c]
  by_cases cx : x < 2 ^ (wd - 1).toNat
  · have sx : sv wd x = x := by unfold sv; rw [if_neg (by omega)]
    by_cases cy : y < 2 ^ (wd - 1).toNat
    · have sy : sv wd y = y := by unfold sv; rw [if_neg (by omega)]
      rw [sx, sy, decide_eq_true cx, decide_eq_true cy, if_neg (show ¬ ((true != true) = true) by decide), if_neg (show ¬ ((true != true) = true) by decide)]
      by_cases l : x < y
      · rw [if_pos l, if_pos l, if_pos l]
      · rw [if_neg l, if_neg l, if_neg l]
    · have sy : sv wd y = y - 2 ^ wd.toNat := by unfold sv; rw [if_pos (by omega)]
      rw [sx, sy, decide_eq_true cx, decide_eq_false cy, if_pos (show (true != false) = true by decide), if_pos (show (true != false) = true by decide)]
      rw [if_pos (show x < y by omega), if_neg (show ¬ x < y - 2 ^ wd.toNat by omega), if_pos (show x < y by omega)]
  · have sx : sv wd x = x - 2 ^ wd.toNat := by unfold sv; rw [if_pos (by omega)]
    by_cases cy : y < 2 ^ (wd - 1).toNat
    · have sy : sv wd y = y := by unfold sv; rw [if_neg (by omega)]
      rw [sx, sy, decide_eq_false cx, decide_eq_true cy, if_pos (show (false != true) = true by decide), if_pos (show (false != true) = true by decide)]
      rw [if_neg (show ¬ x < y by omega), if_pos (show x - 2 ^ wd.toNat < y by omega), if_neg (show ¬ x < y by omega)]
    · have sy : sv wd y = y - 2 ^ wd.toNat := by unfold sv; rw [if_pos (by omega)]
      rw [sx, sy, decide_eq_false cx, decide_eq_false cy, if_neg (show ¬ ((false != false) = true) by decide), if_neg (show ¬ ((false != false) = true) by decide)]
      by_cases l : x < y
      · rw [if_pos l, if_pos (show x - 2 ^ wd.toNat < y - 2 ^ wd.toNat by omega), if_pos l]
      · rw [if_neg l, if_neg (show ¬ x - 2 ^ wd.toNat < y - 2 ^ wd.toNat by omega), if_neg l]
end BR

/-! ### own errors held as values: made by position and by keyword -/
namespace PySem
namespace BRX
open PySem.W PySem.Calls PyProof.Rows PySem.HandSPX
section
variable {M : Model} {prog : Program} {w : World} {A : Around} {E : Value → Shared → Prop} {R : Result → Shared → Prop} {h : Heap} {g : Array GenState} {d : Drawn} {t : Nat} {os : OsState}
variable {nm q : Str} {C N : Addr} {bs bm bmB : List Value} {hd0 : Bool} {sn : List Str} {sub : List Value} {ab : Bool} {col : Option Bool} {dd : Option Addr} {k0 k1 k2 k3 k5 : Option Value} {B newId initId : String} {kw : List (Str × Value)}
theorem check_newK (F : ExcBaseFacts B newId initId bmB) (hT : ∀ X : String, bm.contains (.type X) = bmB.contains (.type X)) {Q : Unit → Shared → Prop}
    (cl : h.get? C = some (excClassObj nm q C N bs bm hd0 sn sub ab col dd k0 k1 k2 k3 k5 newId)) (go : Q () ⟨h, g, d, t, os⟩) : wpAny M A (checkBuiltinCall newId ⟨[.ref C], kw⟩) Q E ⟨h, g, d, t, os⟩ := by
  have inB : (Value.ref C :: bm).contains (.type B) = true := by rw [List.contains_cons, hT, F.hasB, Bool.or_true]
  have star := F.noStar
  simp only [checkBuiltinCall, F.newKind, F.newSplit, F.newRow]
  repeat (first | refine wpAny_loadPart_at cl ?_ | (refine wpAny_isSubtype_exc cl ?_; rw [inB]) | refine wpAny_staticBase_exc cl ?_ | refine wpAny_madeBy_exc cl ?_ | simp only [bne_self_eq_false, Bool.false_eq_true, if_false] | wp_step)
  exact go
theorem newK (F : ExcBaseFacts B newId initId bmB) (hT : ∀ X : String, bm.contains (.type X) = bmB.contains (.type X))
    (cl : h.get? C = some (excClassObj nm q C N bs bm hd0 sn sub ab col dd k0 k1 k2 k3 k5 newId))
    (go : R (.ok (.ret (.ref (h.objs.size + 1)))) ⟨(h.push { cls := .type "tuple", data := .seq #[] }).push { cls := .ref C, data := .fields #[.ref h.objs.size, .none, .none, .none, .bool false, .none] }, g, d, t, os⟩) :
    codeAny (model prog w) A (.builtin newId ⟨[.ref C], kw⟩) R ⟨h, g, d, t, os⟩ := by
  have ends := F.ends
  have inB : (Value.ref C :: bm).contains (.type B) = true := by rw [List.contains_cons, hT, F.hasB, Bool.or_true]
  have inA : (Value.ref C :: bm).contains (.type "AttributeError") = false := by rw [List.contains_cons, hT, F.noAttr]; rfl
  have inN : (Value.ref C :: bm).contains (.type "NameError") = false := by rw [List.contains_cons, hT, F.noName]; rfl
  refine codeAny_builtinAt F.entry ?_
  unfold Builtin.«BaseException.__new__»
  refine wpAt_bind ?_
  show wpAt _ _ _ (stack >>= _) _ _ _
  refine wpAt_bind (wpAt_stack fun p below => wpAt_of_wpAny ?_)
  wp_walk
  refine wpAt_of_wpAny ?_
  rw [F.owner]
  repeat (first | with_reducible refine wpAny_madeHere_exc F.canon cl ?_ | with_reducible refine wpAny_loadPart_at cl ?_ | (with_reducible refine wpAny_isSubtype_exc cl ?_; first | rw [inB] | rw [inA] | rw [inN]) | wp_step)
  show R _ _
  rw [Heap.size_push]
  exact go
theorem type_callK (F : ExcBaseFacts B newId initId bmB) (hT : ∀ X : String, bm.contains (.type X) = bmB.contains (.type X)) {fI : Addr} {Q : Fin → Shared → Prop}
    (cl : h.get? C = some (excClassObj nm q C N bs bm hd0 sn sub ab col dd k0 k1 k2 k3 k5 newId))
    (li : W.Looks (model prog w) h (typeLookup (.ref C) "__init__") (some (.ref fI))) (lb : ∀ self, W.Looks (model prog w) h (bindSpecial (.ref fI) self) (.ref fI, [self]))
    (go : codeAny (model prog w) A (.call (.ref fI) ⟨[.ref (h.objs.size + 1)], kw⟩) (fun r s' => match r with | .ok (.ret v) => v = .none ∧ Q (.done (.ret (.ref (h.objs.size + 1)))) s' | .ok _ => False | .error e => E e s')
      ⟨(h.push (W.kdv_tup [])).push (excO C h.objs.size), g, d, t, os⟩) : wpAny (model prog w) A (Builtin.«type.__call__» ⟨[.ref C], kw⟩) Q E ⟨h, g, d, t, os⟩ := by
  repeat (first | with_reducible refine wpAny_loadPart_at cl ?_ | with_reducible refine wpAny_madeBy_exc cl ?_ | wp_step)
  refine codeAny_call_builtin_code (Code.quiet_builtin _ F.quiet) (check_newK F hT cl ?_)
  refine newK F hT cl ?_
  show wpAny _ _ _ _ _ _
  have kp : ∀ b o, h.get? b = some o → ((h.push (W.kdv_tup [])).push (excO C h.objs.size)).get? b = some o := fun b o e => Heap.get?_push_of_some _ (Heap.get?_push_of_some _ e)
  have cl1 := kp _ _ cl
  have new : ((h.push (W.kdv_tup [])).push (excO C h.objs.size)).get? (h.objs.size + 1) = some (excO C h.objs.size) := by heap_get
  have inC : (Value.ref C :: bm).contains (.ref C) = true := by simp
  have i1 := li.keeps kp
  have b1 := (lb (.ref (h.objs.size + 1))).keeps kp
  unfold isInstance
  repeat (first | with_reducible refine wpAny_loadPart_at new ?_ | (with_reducible refine wpAny_isSubtype_exc cl1 ?_; rw [inC]) | wp_step)
  show wpAny _ _ (typeLookup (.ref C) _) _ _ _
  refine i1.at ?_
  refine wpAny_holding (wpAny_bind (b1.at ?_))
  refine wpAny_bind (wpAny_call (codeAny_mono go fun r s' z => ?_))
  rcases r with e | (v | _ | _ | _) <;> first | exact z | exact z.elim | skip
  obtain ⟨rfl, z⟩ := z
  first
    | exact wpAny_pure (wpAny_pure z)
    | (wp_walk; exact z)
theorem call_ownK (F : ExcBaseFacts B newId initId bmB) (hT : ∀ X : String, bm.contains (.type X) = bmB.contains (.type X)) {fI : Addr}
    (cl : h.get? C = some (excClassObj nm q C N bs bm hd0 sn sub ab col dd k0 k1 k2 k3 k5 newId))
    (li : W.Looks (model prog w) h (typeLookup (.ref C) "__init__") (some (.ref fI))) (lb : ∀ self, W.Looks (model prog w) h (bindSpecial (.ref fI) self) (.ref fI, [self]))
    (go : codeAny (model prog w) (A.under (.builtin "type.__call__" ⟨[.ref C], kw⟩)) (.call (.ref fI) ⟨[.ref (h.objs.size + 1)], kw⟩) (W.InitBack (h.objs.size + 1) R) ⟨(h.push (W.kdv_tup [])).push (excO C h.objs.size), g, d, t, os⟩) :
    codeAny (model prog w) A (.call (.ref C) ⟨[], kw⟩) R ⟨h, g, d, t, os⟩ := by
  have f1 := tc_lookup
  have f2 := tc_bind (.ref C)
  have isTy : (⟨h, g, d, t, os⟩ : Shared).TypeIs (.ref C) "type" := ⟨_, cl, rfl⟩
  refine codeAny_of_tree ?_
  show wpAny _ _ (callAny (.ref C) _) _ _ _
  repeat (any_goals (first | assumption | with_reducible refine wpAny_loadPart_at cl ?_ | wp_step))
  refine ⟨rfl, ?_⟩
  refine codeAny_call_builtin_at (Code.quiet_builtin _ (by decide +kernel)) entry_typeCall (wpAny_check_type_call_sub cl (type_callK F hT cl li lb ?_))
  refine codeAny_mono go fun r s' z => ?_
  rcases r with e | (v | _ | _ | _) <;> exact z
end
end BRX
end PySem

namespace BR
open PySem PySem.Spec PyProof.Rows L2
/-! ### C(e), C(value = e): a new error, held as a value -/
def tOexV (C : Addr) (sp : Sp) (ta : TA) : TE := fun σ H Q => ta σ H fun vs H1 => vs.length ≤ 1000 ∧ ∀ e, H1 e = none → sp (.ref e :: vs) (L2.upd H1 e (exo e C none)) (fun v H2 => v = .non ∧ Q (.ref e) H2) fun _ _ _ => False
section
variable {X : Cx} {CX : CXT} {k : Nat} {fI C : Addr} {fd : FuncData} {ps : List Str} {sp : Sp} {x : Str} {p pos kpos : Pos} {e : Expr} {es : List Expr} {ta : TA} {te : TE}
theorem pe_oexV (T : OexC X.K C) (iC : PySem.W.findIn X.K (.ref C) "__init__" = some (some (.ref fI))) (tI : PySem.W.typeIn X.K (.ref fI) = some (.type "function"))
    (F1 : FnOk X.prog X.w X.K X.mg X.base CX k fI fd ps sp) (room : Room (k + 1) X.A) (b : Binds X.K fd ps []) (hx : Passes CX X (fun _ _ _ => False)) (hg : Gl X x) (hm : X.mg x = some (.ref C)) (args : PA X (e :: es) ta)
    (nodb : (x == ("__debug__" : Str)) = false := by decide) (st1 : starEach (e :: es) X.env = (false, eval e X.env) :: starEach es X.env := by rfl) (st2 : (backTo pos (starEach es X.env)).any (·.1) = false := by rfl) :
    PE X (.Call (.Name x p) (e :: es) [] pos) (tOexV C sp ta) := by
  refine ⟨fun pins s σ H Q I0 hh => ?_⟩
  obtain ⟨nm, q, N, bs, bm, sn, sub, ab, col, dd, k0, k1, k2, k3, k5, hC, hbm⟩ := T.cls
  refine wpAny_Call_Name_kw (ld_glob I0 hg hm ?_ nodb)
  refine PySem.W.callWith_K (h₀ := X.base) I0.ok.mod.kin T.kC (thn (args.run pos pins s σ H _ I0 hh) ?_) st1 st2
  rintro us s1 ⟨vs, H1, I1, r1, hz, q1⟩
  refine ⟨I1.kIn, ?_⟩
  show wpAny _ _ (call (.ref C) us) _ _ _
  obtain ⟨hp, g, dr, tk, os⟩ := s1
  have le1 : hp.objs.size ≤ hp.objs.size + 1 := Nat.le_succ _
  have free : H1 (hp.objs.size + 1) = none := I1.hok.fresh le1
  have hq := q1 (hp.objs.size + 1) free
  have kp : ∀ b o, hp.get? b = some o → ((hp.push (PySem.W.kdv_tup us)).push (PySem.HandSPX.excO C hp.objs.size)).get? b = some o := fun b o z => Heap.get?_push_of_some _ (Heap.get?_push_of_some _ z)
  have new : ((hp.push (PySem.W.kdv_tup us)).push (PySem.HandSPX.excO C hp.objs.size)).get? (hp.objs.size + 1) = some (PySem.HandSPX.excO C hp.objs.size) := by heap_get
  have I2 := I1.laid (t' := tk) (a := hp.objs.size + 1) (o := exo (hp.objs.size + 1) C none) kp le1 (exo_ok new)
  have r2 : Vals (V.ref (hp.objs.size + 1) :: vs) (Value.ref (hp.objs.size + 1) :: us) := .cons rfl r1
  have hl : (Value.ref (hp.objs.size + 1) :: us).length = ps.length := r2.length.symm.trans (F1.len _ _ _ _ hq)
  have lus : us.length ≤ sizeLine := by
    rw [← Paired.length r1, sizeLine_eq]
    omega
  have bd := b _ (Value.ref (hp.objs.size + 1) :: us) I2.kIn (by rw [List.append_nil]; exact hl)
  rw [List.append_nil] at bd
  refine wpAny_call (PySem.HandSPX.call_own F.excBase_ValueError (fun Y => PySem.HandSPX.refsVE_contains Y bm hbm) (I1.kIn _ _ hC) (PySem.W.looks_findIn I1.kIn iC) (fun self => PySem.W.bind_fn I1.kIn self tI) lus ?_)
  refine codeAny_mono (F1.run _ X.stack _ _ ⟨Value.ref (hp.objs.size + 1) :: us, []⟩ (Value.ref (hp.objs.size + 1) :: us) _ _ (fun _ _ _ => False) (room.make C us []) (I2.env0.make C us []) bd r2 hq) fun r s' hq' => ?_
  cases r with
  | error er => exact hx pins σ _ _ er s' I2 hq'
  | ok flw =>
    cases flw with
    | ret u =>
      obtain ⟨v, H2, I3, rv, ev, q2⟩ := I2.after hq'
      subst ev
      exact ⟨rv, ⟨.ref (hp.objs.size + 1), H2, I3, rfl, q2⟩⟩
    | next => exact hq'.elim
    | brk => exact hq'.elim
    | cont => exact hq'.elim
theorem pe_oexK {nk : Str} (T : OexC X.K C) (iC : PySem.W.findIn X.K (.ref C) "__init__" = some (some (.ref fI))) (tI : PySem.W.typeIn X.K (.ref fI) = some (.type "function"))
    (F1 : FnOk X.prog X.w X.K X.mg X.base CX k fI fd ps sp) (room : Room (k + 1) X.A) (b : ∀ (s : Shared) (u v : Value), BindsTo s fd ⟨[u], [(nk, v)]⟩ (ps.zip [u, v])) (l2 : ps.length = 2) (hx : Passes CX X (fun _ _ _ => False)) (hg : Gl X x) (hm : X.mg x = some (.ref C)) (he : PE X e te)
    (all1 : (backToKw pos (keywordEach [⟨some nk, e, kpos⟩] X.env)).all (·.1.isSome) = true := by rfl) (nms : (backToKw pos (keywordEach [⟨some nk, e, kpos⟩] X.env)).filterMap (·.1) = [nk] := by rfl)
    (nodb : (x == ("__debug__" : Str)) = false := by decide) (pl : ((backTo pos (starEach [] X.env)).any (·.1) || (backToKw pos (keywordEach [⟨some nk, e, kpos⟩] X.env)).any (·.1.isNone)) = false := by rfl) :
    PE X (.Call (.Name x p) [] [⟨some nk, e, kpos⟩] pos) (tOexV C sp (tCons te tNil)) := by
  refine ⟨fun pins s σ H Q I0 hh => ?_⟩
  obtain ⟨nm, q, N, bs, bm, sn, sub, ab, col, dd, k0, k1, k2, k3, k5, hC, hbm⟩ := T.cls
  refine wpAny_Call_Name_kw (ld_glob I0 hg hm ?_ nodb)
  refine PySem.W.callWith_KW0 (h₀ := X.base) I0.ok.mod.kin T.kC all1 (thn ((pk_cons he pk_nil).run pos pins s σ H _ I0 hh) ?_) pl
  rintro us s1 ⟨vs, H1, I1, r1, hz, q1⟩
  refine ⟨I1.kIn, ?_⟩
  rw [nms]
  obtain ⟨hp, g, dr, tk, os⟩ := s1
  have le1 : hp.objs.size ≤ hp.objs.size + 1 := Nat.le_succ _
  have free : H1 (hp.objs.size + 1) = none := I1.hok.fresh le1
  have hq := q1 (hp.objs.size + 1) free
  have hlv : vs.length + 1 = 2 := by
    have z := F1.len _ _ _ _ hq
    rw [l2] at z
    exact z
  obtain ⟨v1, rfl⟩ : ∃ v1, vs = [v1] := by
    match vs, hlv with
    | [v1], _ => exact ⟨v1, rfl⟩
  cases r1 with
  | @cons _ u1 _ _ ru rr =>
  cases rr
  show wpAny _ _ (call (.ref C) [] [(nk, u1)]) _ _ _
  have kp : ∀ b o, hp.get? b = some o → ((hp.push (PySem.W.kdv_tup [])).push (PySem.HandSPX.excO C hp.objs.size)).get? b = some o := fun b o z => Heap.get?_push_of_some _ (Heap.get?_push_of_some _ z)
  have new : ((hp.push (PySem.W.kdv_tup [])).push (PySem.HandSPX.excO C hp.objs.size)).get? (hp.objs.size + 1) = some (PySem.HandSPX.excO C hp.objs.size) := by heap_get
  have I2 := I1.laid (t' := tk) (a := hp.objs.size + 1) (o := exo (hp.objs.size + 1) C none) kp le1 (exo_ok new)
  have r2 : Vals [V.ref (hp.objs.size + 1), v1] [Value.ref (hp.objs.size + 1), u1] := .cons rfl (.cons ru .nil)
  refine wpAny_call (PySem.BRX.call_ownK F.excBase_ValueError (fun Y => PySem.HandSPX.refsVE_contains Y bm hbm) (I1.kIn _ _ hC) (PySem.W.looks_findIn I1.kIn iC) (fun self => PySem.W.bind_fn I1.kIn self tI) ?_)
  refine codeAny_mono (F1.run _ X.stack _ _ ⟨[Value.ref (hp.objs.size + 1)], [(nk, u1)]⟩ [Value.ref (hp.objs.size + 1), u1] _ _ (fun _ _ _ => False) (room.make C [] [(nk, u1)]) (I2.env0.make C [] [(nk, u1)]) (b _ _ _) r2 hq) fun r s' hq' => ?_
  cases r with
  | error er => exact hx pins σ _ _ er s' I2 hq'
  | ok flw =>
    cases flw with
    | ret u =>
      obtain ⟨v, H2, I3, rv, ev, q2⟩ := I2.after hq'
      subst ev
      exact ⟨rv, ⟨.ref (hp.objs.size + 1), H2, I3, rfl, q2⟩⟩
    | next => exact hq'.elim
    | brk => exact hq'.elim
    | cont => exact hq'.elim
end
/-! ### e.value -/
/-- an error of the class at C stands at a; its one field f holds v -/
def ErrAt (H : Hp) (a C : Addr) (f : Str) (v : V) : Prop := ∃ d, H a = some (exo a C (some d)) ∧ H d = some (exd d [(f, v)])
theorem ErrAt.same {H H' : Hp} {a C : Addr} {f : Str} {v : V} (h : ErrAt H a C f v) (s : Same H H') : ErrAt H' a C f v := by
  obtain ⟨d, h1, h2⟩ := h
  exact ⟨d, s _ _ h1, s _ _ h2⟩
def tErrF (K : PySem.W.Frag) (f : Str) (te : TE) : TE := fun σ H Q => te σ H fun x H1 => ∃ a C v, x = .ref a ∧ ErrAt H1 a C f v ∧ XfC K C ∧ PySem.W.findIn K (.ref C) f = some none ∧ Q v H1
theorem err_inst {X : Cx} {pins : List (Addr × Obj)} {σ : L2.St} {H : Hp} {s : Shared} {a C : Addr} {f : Str} {v : V} (I : Inv X pins σ H s) (h : ErrAt H a C f v) :
    ∃ (ox od : Obj) (u : Value), PySem.W.InstAt s.heap a ox C (some od) ∧ RelV v u ∧ PySem.W.lookIn f od = some (some u) := by
  obtain ⟨d, h1, h2⟩ := h
  obtain ⟨t1, e1⟩ := exo_at I.hok h1
  obtain ⟨mA, hns, hr⟩ := exd_at I.hok h2
  obtain ⟨od, ho, hl⟩ := lookIn_ns hns
  have l : List.lookup f [(f, v)] = some v := by simp [List.lookup]
  obtain ⟨u, hu, ru⟩ := RelO.some_of (v := v) (o := mA f) (by rw [← l]; exact hr f)
  exact ⟨_, od, u, ⟨e1, rfl, rfl, ho⟩, ru, by rw [hl, hu]⟩
theorem pe_errF {X : Cx} {e : Expr} {te : TE} {pos : Pos} {n : Str} (he : PE X e te) (hb : attributeBase e n X.env (eval e X.env) = eval e X.env := by rfl) : PE X (.Attribute e n pos) (tErrF X.K n te) := by
  refine ⟨fun pins s σ H Q I h => ?_⟩
  refine attr_of hb (thn (he.run pins s σ H _ I h) fun u s1 hh => ?_)
  obtain ⟨x, H1, I1, rx, a, C, v, rfl, ea, T, no, q⟩ := hh
  obtain rfl : u = Value.ref a := rx
  obtain ⟨ox, od, u, J, ru, hl⟩ := err_inst I1 ea
  exact HandSPX.exc_get I1.kIn J T.ga T.gg T.exC (PySem.W.findObj_own T.hdC no rfl hl) (handed_of ru) ⟨v, H1, I1.tok _, ru, q⟩
/-! ### isinstance(e, c), e such an error -/
def rIsErr (K : PySem.W.Frag) : List V → Hp → VK → Prop := fun xs H Q => ∃ a C f v c u b, xs = [.ref a, c] ∧ ErrAt H a C f v ∧ ExcC K C ∧ ClsV c u ∧ PySem.W.kitOne K (.ref C) u = some b ∧ Q (.bl b) H
theorem call_isErr {X : Cx} : CallR X (.builtin "isinstance") (rIsErr X.K) := by
  rintro pins s σ H xs us Q I r ⟨a, C, f, v, c, u, b, rfl, ea, T, kc, ek, q⟩
  obtain ⟨u1, u2, rfl, r1, r2⟩ := vals2 r
  obtain rfl : u1 = Value.ref a := r1
  have e2 := kc.eq r2
  subst e2
  obtain ⟨ox, od, w, J, _, _⟩ := err_inst I ea
  have hcl : (PySem.W.clsIn X.K C).isSome = true := by
    have := T.hd
    unfold PySem.W.hasDictIn at this
    cases z : PySem.W.clsIn X.K C with
    | none => rw [z] at this; exact absurd this (by decide)
    | some y => rfl
  exact PySem.W.kia_one (PySem.W.kitx_exc hcl T.hg T.hk T.hs T.ha T.hn T.ht T.hm) I.kIn J ek (fun z => nomatch z) fun tk => ⟨.bl b, H, I.kept (t' := tk) fun _ _ z => z, rfl, q⟩
def rIsExO (K : PySem.W.Frag) : List V → Hp → VK → Prop := fun xs H Q => ∃ a C c u b, xs = [.ref a, c] ∧ H a = some (ExO (.ref C) a) ∧ ExcC K C ∧ ClsV c u ∧ PySem.W.kitOne K (.ref C) u = some b ∧ Q (.bl b) H
/-- either kind -/
def rIsX (K : PySem.W.Frag) : List V → Hp → VK → Prop := fun xs H Q => rIsErr K xs H Q ∨ rIsExO K xs H Q
theorem call_isX {X : Cx} : CallR X (.builtin "isinstance") (rIsX X.K) := by
  rintro pins s σ H xs us Q I r (h | ⟨a, C, c, u, b, rfl, ea, T, kc, ek, q⟩)
  · exact call_isErr pins s σ H xs us Q I r h
  obtain ⟨u1, u2, rfl, r1, r2⟩ := vals2 r
  obtain rfl : u1 = Value.ref a := r1
  have e2 := kc.eq r2
  subst e2
  obtain ⟨⟨oe, vs, ho, hz, hd, _⟩, _, _⟩ := I.hok a _ ea
  have J : PySem.W.InstAt s.heap a oe C none := by
    obtain ⟨oc, od, oda, osl⟩ := oe
    obtain ⟨h1, h2⟩ := hz
    dsimp only at h1 h2 hd
    subst h1 h2 hd
    exact ⟨ho, rfl, rfl, trivial⟩
  exact PySem.W.kia_one (PySem.W.handS_kitx_exc T.hg T.hk T.hs T.hd T.ha T.hn T.ht T.hm) I.kIn J ek (fun z => nomatch z) fun tk => ⟨.bl b, H, I.kept (t' := tk) fun _ _ z => z, rfl, q⟩
/-! ### repr of None, a text, an int, or data -/
def rReprA (K : PySem.W.Frag) : List V → Hp → VK → Prop := fun xs H Q => ∃ x d, xs = [x] ∧ Dp K H x d ∧ d.showable = true ∧ d.hasDict = false ∧ d.depth ≤ 60 ∧ d.shown.length ≤ sizeLine ∧ Q (.str d.shown) H
theorem call_reprA {X : Cx} (gg : X.A.guards = some []) (hu : X.A.units + 64 < cLine) : CallR X (.builtin "repr") (rReprA X.K) := by
  rintro pins s σ H xs us Q I r ⟨x, d, rfl, hd, h1, h2, h3, h4, q⟩
  obtain ⟨u, rfl, ru⟩ := vals1 r
  cases hd with
  | non =>
    obtain rfl : u = Value.none := ru
    exact PySem.P.repr_of_none ⟨.str _, H, I.tok _, ⟨_, rfl⟩, q⟩
  | bl b =>
    obtain rfl : u = Value.bool b := ru
    exact PySem.P.repr_of_bool ⟨.str _, H, I.tok _, ⟨_, rfl⟩, q⟩
  | int i =>
    obtain ⟨t, rfl⟩ := ru
    exact PySem.P.repr_of_int (of_decide_eq_true h1) ⟨.str _, H, I.tok _, ⟨_, rfl⟩, q⟩
  | str y =>
    obtain ⟨t, rfl⟩ := ru
    exact PySem.P.repr_of_str ⟨.str _, H, I.tok _, ⟨_, rfl⟩, q⟩ h4
  | lst hs ha => exact call_reprD gg hu pins s σ H _ _ Q I r ⟨_, _, rfl, .lst hs ha, h1, h2, h3, h4, q⟩
  | tup hs ha => exact call_reprD gg hu pins s σ H _ _ Q I r ⟨_, _, rfl, .tup hs ha, h1, h2, h3, h4, q⟩
end BR

namespace BR
open PySem PySem.Spec PyProof.Rows L2
/-- what the top says of an error class whose __init__ stores value -/
structure ErrTxt (K : PySem.W.Frag) (C fI : Addr) : Prop where
  ox : OexC K C
  ec : ExcC K C
  no : PySem.W.findIn K (.ref C) "value" = some none
  ii : PySem.W.findIn K (.ref C) "__init__" = some (some (.ref fI))
  ti : PySem.W.typeIn K (.ref fI) = some (.type "function")
theorem xf_of {K : PySem.W.Frag} {C : Addr} (e : ExcC K C) : XfC K C := ⟨e.hg, e.hk, e.hs, e.hd⟩
def sp_err (C : Addr) : Sp := fun vs H Q _ => ∃ (a : Addr) (v : V), vs = [.ref a, v] ∧ H a = some (exo a C none) ∧ ∀ d, H d = none → d ≠ a → Q .non (L2.upd (L2.upd H d (exd d [("value", v)])) a (exo a C (some d)))
theorem oex_var {C : Addr} {i : Nat} {v : V} {σ : L2.St} {H : Hp} {Q : VK} (hv : σ[i]? = some (some v)) (k : ∀ e H', H e = none → Same H H' → ErrAt H' e C "value" v → Q (.ref e) H') : tOexV C (sp_err C) (tCons (tVar i) tNil) σ H Q := by
  refine ⟨v, hv, (by show 1 ≤ 1000; decide), fun e he => ⟨e, v, rfl, upd_same, fun d hd ne => ⟨rfl, ?_⟩⟩⟩
  rw [upd_ne ne] at hd
  refine k e _ he (fun b o z => ?_) ⟨d, upd_same, ?_⟩
  · rw [upd_ne (ne_of_none z he), upd_ne (ne_of_none z hd), upd_ne (ne_of_none z he)]
    exact z
  · rw [upd_ne ne, upd_same]
/-- two errors of the class at C in a tuple at t -/
def PairAt (H : Hp) (t C : Addr) (v : V) : Prop := ∃ e1 e2, H t = some (.tup [.ref e1, .ref e2]) ∧ ErrAt H e1 C "value" v ∧ ErrAt H e2 C "value" v
theorem PairAt.same {H H' : Hp} {t C : Addr} {v : V} (h : PairAt H t C v) (s : Same H H') : PairAt H' t C v := by
  obtain ⟨e1, e2, h1, h2, h3⟩ := h
  exact ⟨e1, e2, s _ _ h1, h2.same s, h3.same s⟩
theorem ErrAt.but {H H' : Hp} {a C l : Addr} {f : Str} {v : V} {xs : List V} (h : ErrAt H a C f v) (hl : H l = some (.lst xs)) (s : But l H H') : ErrAt H' a C f v := by
  obtain ⟨d, h1, h2⟩ := h
  refine ⟨d, s _ _ (fun z => ?_) h1, s _ _ (fun z => ?_) h2⟩
  · rw [z, hl] at h1
    cases (show HO.lst xs = HO.ext _ from Option.some.inj h1)
  · rw [z, hl] at h2
    cases (show HO.lst xs = HO.ext _ from Option.some.inj h2)
theorem PairAt.but {H H' : Hp} {t C l : Addr} {v : V} {xs : List V} (h : PairAt H t C v) (hl : H l = some (.lst xs)) (s : But l H H') : PairAt H' t C v := by
  obtain ⟨e1, e2, h1, h2, h3⟩ := h
  refine ⟨e1, e2, s _ _ (fun z => ?_) h1, h2.but hl s, h3.but hl s⟩
  rw [z, hl] at h1
  cases h1
theorem rdTup {ta : TA} {σ : L2.St} {H : Hp} {Q : VK} (h : ta σ H fun xs H1 => xs.length ≤ sizeLine ∧ ∀ p, H1 p = none → Q (.ref p) (L2.upd H1 p (.tup xs))) : tTup ta σ H Q := h
theorem rdLst {ta : TA} {σ : L2.St} {H : Hp} {Q : VK} (h : ta σ H fun xs H1 => xs.length ≤ sizeLine ∧ ∀ p, H1 p = none → Q (.ref p) (L2.upd H1 p (.lst xs))) : tLst ta σ H Q := h
theorem rdCons {te : TE} {t : TA} {σ : L2.St} {H : Hp} {Q : List V → Hp → Prop} (h : te σ H fun x H1 => t σ H1 fun xs H2 => Q (x :: xs) H2) : tCons te t σ H Q := h
theorem rdSeq {t u : TS} {D : Ends} {σ : L2.St} {H : Hp} (h : t { D with nx := u D } σ H) : tSeq t u D σ H := h
theorem rdAsg {te : TE} {i : Nat} {D : Ends} {σ : L2.St} {H : Hp} (h : te σ H fun v H1 => D.nx (σ.set i (some v)) H1) : tAsg te (gName i) D σ H := h
theorem rdNil {σ : L2.St} {H : Hp} {Q : List V → Hp → Prop} (h : Q [] H) : tNil σ H Q := h
abbrev tPairE (C : Addr) : TE := tTup (tCons (tOexV C (sp_err C) (tCons (tVar 0) tNil)) (tCons (tOexV C (sp_err C) (tCons (tVar 0) tNil)) tNil))
theorem pair_made {C : Addr} {v : V} {σ : L2.St} {H : Hp} {Q : VK} (hv : σ[0]? = some (some v)) (k : ∀ t H', H t = none → Same H H' → PairAt H' t C v → Q (.ref t) H') : tPairE C σ H Q := by
  refine rdTup (rdCons (oex_var hv fun e1 H1 f1 s1 r1 => rdCons (oex_var hv fun e2 H2 f2 s2 r2 => rdNil ?_)))
  refine ⟨(by show 2 ≤ sizeLine; decide), fun t ht => ?_⟩
  have s3 := sameNew ht (o := .tup [.ref e1, .ref e2])
  exact k t _ ((s1.trans s2).free ht) (s1.trans (s2.trans s3)) ⟨e1, e2, upd_same, r1.same (s2.trans s3), r2.same s3⟩
/-- the list at l: a pair of errors for each class -/
def MadeAt (H : Hp) (l : Addr) (Cs : List Addr) (v : V) : Prop := ∃ ts : List Addr, H l = some (.lst (ts.map V.ref)) ∧ ts.length = Cs.length ∧ ∀ (j : Nat) (t C : Addr), ts[j]? = some t → Cs[j]? = some C → PairAt H t C v
theorem app_pair {K : PySem.W.Frag} {C l : Addr} {Cs : List Addr} {v : V} {σ : L2.St} {H : Hp} {D : Ends} (hv : σ[0]? = some (some v)) (hl : σ[1]? = some (some (.ref l))) (m : MadeAt H l Cs v) (hz : Cs.length ≤ 100)
    (k : ∀ H', But l H H' → MadeAt H' l (Cs ++ [C]) v → D.nx σ H') : tDrop (tBM K "list" rAppend (tVar 1) (tCons (tPairE C) tNil)) D σ H := by
  obtain ⟨ts, h1, h2, h3⟩ := m
  refine ⟨_, hl, .inl ⟨rfl, _, SqL.of h1⟩, ?_⟩
  refine rdCons (pair_made hv fun t H1 ht s1 p => rdNil ?_)
  have h1' := s1 _ _ h1
  refine ⟨l, _, _, rfl, rfl, h1', small1000 (by rw [List.length_map]; omega), ?_⟩
  have b : But l H1 (L2.upd H1 l (.lst (ts.map V.ref ++ [V.ref t]))) := But.upd
  refine k _ ((But.of s1).trans b) ⟨ts ++ [t], ?_, by rw [List.length_append, List.length_append, h2]; rfl, fun j u C' hj hC => ?_⟩
  · rw [upd_same, List.map_append]
    rfl
  · by_cases hjl : j < ts.length
    · rw [List.getElem?_append_left hjl] at hj
      rw [List.getElem?_append_left (by omega)] at hC
      exact ((h3 j u C' hj hC).same s1).but h1' b
    · rw [List.getElem?_append_right (by omega)] at hj hC
      have e : j - ts.length = 0 := by
        have := (List.getElem?_eq_some_iff.mp hj).1
        simp at this
        omega
      rw [e] at hj
      rw [show j - Cs.length = 0 by omega] at hC
      cases hj
      cases hC
      exact p.but h1' b
/-! ### isinstance, class by class -/
def kitTab (K : PySem.W.Frag) (Cs : List Addr) (B : Addr) : Bool :=
  (Cs.zipIdx.all fun p => Cs.zipIdx.all fun q => decide (PySem.W.kitOne K (.ref p.1) (.ref q.1) = some (decide (p.2 = q.2)))) &&
    Cs.all fun c => decide (PySem.W.kitOne K (.ref c) (.ref B) = some true) && decide (PySem.W.kitOne K (.ref c) (.type "ValueError") = some true) && decide (PySem.W.kitOne K (.ref B) (.ref c) = some false)
section
variable {K : PySem.W.Frag} {Cs : List Addr} {B : Addr}
theorem kit_ij (h : kitTab K Cs B = true) {i j : Nat} {c d : Addr} (hi : Cs[i]? = some c) (hj : Cs[j]? = some d) : PySem.W.kitOne K (.ref c) (.ref d) = some (decide (i = j)) := by
  have h1 := (Bool.and_eq_true_iff.mp h).1
  have h2 := List.all_eq_true.mp h1 (c, i) (List.mk_mem_zipIdx_iff_getElem?.mpr hi)
  have h3 := List.all_eq_true.mp h2 (d, j) (List.mk_mem_zipIdx_iff_getElem?.mpr hj)
  exact of_decide_eq_true h3
theorem kit_b (h : kitTab K Cs B = true) {i : Nat} {c : Addr} (hi : Cs[i]? = some c) : PySem.W.kitOne K (.ref c) (.ref B) = some true ∧ PySem.W.kitOne K (.ref c) (.type "ValueError") = some true ∧ PySem.W.kitOne K (.ref B) (.ref c) = some false := by
  have h1 := (Bool.and_eq_true_iff.mp h).2
  have h2 := List.all_eq_true.mp h1 c (List.mem_of_getElem? hi)
  have h3 := Bool.and_eq_true_iff.mp h2
  have h4 := Bool.and_eq_true_iff.mp h3.1
  exact ⟨of_decide_eq_true h4.1, of_decide_eq_true h4.2, of_decide_eq_true h3.2⟩
end
/-! ### lists of bools -/
theorem bls_all {K : PySem.W.Frag} {H : Hp} : ∀ bs : List Bool, DpAll K H (bs.map V.bl) (bs.map PyData.bool)
  | [] => .nil
  | b :: r => .cons (.bl b) (bls_all r)
theorem bls_lay : ∀ bs : List Bool, PyData.canLayAll0 (bs.map PyData.bool) = true ∧ PyData.depthAll (bs.map PyData.bool) = 0
  | [] => ⟨rfl, rfl⟩
  | b :: r => by
    obtain ⟨h1, h2⟩ := bls_lay r
    refine ⟨?_, ?_⟩
    · show (PyData.canLay0 (.bool b) && PyData.canLayAll0 (r.map PyData.bool)) = true
      rw [h1]
      rfl
    · show max (PyData.depth (.bool b)) (PyData.depthAll (r.map PyData.bool)) = 0
      rw [h2]
      rfl
theorem bls_shaped (bs : List Bool) : SeqAt.shaped (.list (bs.map PyData.bool)) = true := by
  obtain ⟨h1, h2⟩ := bls_lay bs
  unfold SeqAt.shaped
  show (PyData.canLayAll0 (bs.map PyData.bool) && decide (PyData.depthAll (bs.map PyData.bool) + 1 ≤ 64)) = true
  rw [h1, h2]
  rfl
theorem eqv_bls (bs : List Bool) : PyData.eqv (.list (bs.map PyData.bool)) (.list (bs.map PyData.bool)) = true := SeqAt.eqv_refl _ (SeqAt.canLay_of_shaped (bls_shaped bs))
theorem seq0 {n : Nat} (h : 0 < n) : seqIndex? 0 n = some 0 := by
  unfold seqIndex?
  simp
  omega
/-- [e for x in range(15)] and its like: bools -/
theorem lc_bools {n : Nat} {j : Nat} {te : TE} {vs : List Nat} {σ : L2.St} {H1 : Hp} {D : Addr} {Qd : Hp → Prop} (f : Nat → Bool) (hz : n ≤ 1000) (hD : H1 D = none)
    (hw : ∀ x : V, wipe ((wipe σ vs).set j (some x)) vs = wipe σ vs)
    (he : ∀ (i : Nat) (H2 : Hp) (Q : VK), Same H1 H2 → (∀ H3, Same H2 H3 → Q (.bl (f i)) H3) → te ((wipe σ vs).set j (some (.int (0 + (i : Nat))))) H2 Q)
    (hd : ∀ H, Same H1 H → H D = some (.lst (((List.range n).map f).map V.bl)) → Qd H) :
    ∃ W : Nat → Nat → Hp → Prop, (∃ m, W 0 m (L2.upd H1 D (.lst []))) ∧ ∀ i m H, W i m H →
      ((Itr 0 n).stop i H ∧ Qd H) ∨ ((Itr 0 n).go i H ∧ ∃ Nx : Hp → Prop, (∀ H', Nx H' → ∃ m', m' < m ∧ W (i + 1) m' H') ∧ ∀ x H', (Itr 0 n).yld i H x H' → gName j x (wipe σ vs) H' fun σ2 H2 => wipe σ2 vs = wipe σ vs ∧ tYes σ2 H2 fun b H3 =>
        if b = true then te σ2 H3 fun y H4 => ∃ acc, H4 D = some (.lst acc) ∧ acc.length < sizeLine ∧ Nx (L2.upd H4 D (.lst (acc ++ [y]))) else Nx H3) := by
  refine lc_range (lo := 0) (n := n) (fun i H => Same H1 H ∧ H D = some (.lst (((List.range i).map f).map V.bl)) ∧ i ≤ n) ⟨sameNew hD, upd_same, Nat.zero_le _⟩ ?_ (fun H p => hd H p.1 p.2.1)
  rintro i H hi ⟨s, hH, _⟩
  refine ⟨hw _, ?_⟩
  show te ((wipe σ vs).set j (some (.int (0 + (i : Nat))))) H _
  refine he i H _ s fun H3 s3 => ?_
  refine ⟨_, s3 _ _ hH, small1000 (by rw [List.length_map, List.length_map, List.length_range]; omega), fun b o e => ?_, ?_, hi⟩
  · rw [upd_ne (ne_of_none e hD)]
    exact s3 _ _ (s _ _ e)
  · rw [upd_same, List.range_succ, List.map_append, List.map_append]
    rfl
/-- what is handed to the errors -/
structure Shows (K : PySem.W.Frag) (H : Hp) (v : V) (d : PyData) : Prop where
  dp : ∀ H', Same H H' → Dp K H' v d
  o1 : d.showable = true
  o2 : d.hasDict = false
  o3 : d.depth ≤ 60
  o4 : d.shown.length ≤ sizeLine
/-! ### the bag -/
abbrev bagK (l : Addr) (left turn blend : Int) : List (Key × V) := [(.inr "great", .ref l), (.inr "left", .int left), (.inr "turn", .int turn), (.inr "blend", .int blend)]
theorem bag_left (l : Addr) (a b c : Int) : valV (bagK l a b c) (.inr "left" : Key) = some (.int a) := rfl
theorem bag_great (l : Addr) (a b c : Int) : valV (bagK l a b c) (.inr "great" : Key) = some (.ref l) := rfl
theorem bag_turn (l : Addr) (a b c : Int) : valV (bagK l a b c) (.inr "turn" : Key) = some (.int b) := rfl
theorem bag_blend (l : Addr) (a b c : Int) : valV (bagK l a b c) (.inr "blend" : Key) = some (.int c) := rfl
theorem bag_put_left (l : Addr) (a b c z : Int) : putK (bagK l a b c) (.inr "left" : Key) (.int z) = bagK l z b c := rfl
theorem bag_put_turn (l : Addr) (a b c z : Int) : putK (bagK l a b c) (.inr "turn" : Key) (.int z) = bagK l a z c := rfl
theorem bag_merge (l : Addr) (a b c : Int) : mergeK [] (bagK l a b c) = bagK l a b c := rfl
end BR

/-! ### try: .. except x as n: suite, where the error is kept behind the suite -/
namespace BR
open PySem PySem.Spec PyProof.Rows L2
/-- an error of the class cls, its dict at d, stands at a -/
def exk (a : Addr) (cls : Value) (d : Option Addr) : HO := .ext fun h => ∃ (oe : Obj) (vs : Array Value), h.get? a = some oe ∧ Zc cls d oe ∧ oe.data = .fields vs
theorem exk_ok {P : Program} {w : World} {H : Hp} {h : Heap} {a : Addr} {cls : Value} {d : Option Addr} {oe : Obj} {vs : Array Value} (e : h.get? a = some oe) (z : Zc cls d oe) (dd : oe.data = .fields vs) : ObjOk P w H h a (exk a cls d) :=
  ⟨⟨oe, vs, e, z, dd⟩, ⟨oe, e⟩, fun h1 h2 q k => by
    obtain ⟨o1, v1, q1, q2, q3⟩ := q
    exact ⟨o1, v1, k _ q1, q2, q3⟩⟩
section
variable {X : Cx} {pins : List (Addr × Obj)} {σ : L2.St} {H : Hp} {s : Shared} {a : Addr} {o : Obj} {ob : HO}
/-- what is pinned becomes a thing of the abstract heap -/
theorem inv_track (I : Inv X ((a, o) :: pins) σ H s) (new : X.s_0.heap.get? a = none) (apart : ∀ p ∈ X.pn ++ pins, p.1 ≠ a) (is : ObjOk X.prog X.w (L2.upd H a ob) s.heap a ob) : Inv X pins σ (L2.upd H a ob) s := by
  obtain ⟨ha, hn, nL, nF, nc⟩ := I.pin (a, o) (List.mem_append_right _ List.mem_cons_self)
  have old : ∀ {b : Addr} {u : Obj}, X.s_0.heap.get? b = some u → b ≠ a := fun {b u} q e => by
    rw [e, new] at q
    cases q
  refine ⟨I.ok, I.os, I.bare, { keep := I.base.keep, slot := I.base.slot, there := I.base.there, free := fun b u q n x => ?_, tups := fun b xs q => ?_, frzs := fun b u v q => ?_, tbls := fun b ps q => ?_ }, I.loc, I.cell, ?_, fun x c q => ?_, fun p hp => ?_, fun b u q => ?_, I.len⟩
  · rw [upd_ne (old q)]
    exact I.base.free b u q n x
  · have z := I.base.tups b xs q
    rw [upd_ne (ne_of_none z hn)]
    exact z
  · have z := I.base.frzs b u v q
    rw [upd_ne (ne_of_none z hn)]
    exact z
  · obtain ⟨m, z⟩ := I.base.tbls b ps q
    exact ⟨m, by rw [upd_ne (ne_of_none z hn)]; exact z⟩
  · rw [upd_ne (Ne.symm nL)]
    exact I.free
  · obtain ⟨v, u, q1, q2⟩ := I.cell x c q
    have ca : c ≠ a := fun e => by
      rw [e] at q1
      rw [ha] at q1
      cases q1
      exact nc v q2
    rw [upd_ne ca]
    exact I.freeC x c q
  · have ne := apart p hp
    have mem : p ∈ X.pn ++ (a, o) :: pins := by
      rcases List.mem_append.mp hp with z | z
      · exact List.mem_append_left _ z
      · exact List.mem_append_right _ (List.mem_cons_of_mem _ z)
    obtain ⟨y1, y2, y3, y4, y5⟩ := I.pin p mem
    exact ⟨y1, by rw [upd_ne ne]; exact y2, y3, y4, y5⟩
  · by_cases e : b = a
    · subst e
      rw [upd_same] at q
      cases q
      exact is
    · rw [upd_ne e] at q
      exact (I.hok b u q).stay (fun c v _ y => y) (fun c y => by rw [upd_ne (ne_of_none y hn)]; exact y) fun c xs y => by rw [upd_ne (ne_of_none y hn)]; exact y
/-- behind the suite: the error is a pin of the frame's own -/
theorem inv_outSuite (I : Inv (X.suite a ((a, o) :: (X.pn ++ pins))) [] σ H s) (ok : X.Ok) : Inv X ((a, o) :: pins) σ H s :=
  ⟨ok, I.os, I.bare, I.base, I.loc, I.cell, I.free, I.freeC, fun p hp => I.pin p (by
    refine List.mem_append_left _ ?_
    rcases List.mem_append.mp hp with z | z
    · exact List.mem_cons_of_mem _ (List.mem_append_left _ z)
    · rcases List.mem_cons.mp z with z | z
      · rw [z]
        exact List.mem_cons_self
      · exact List.mem_cons_of_mem _ (List.mem_append_right _ z)), I.hok, I.len⟩
end
/-- what is wished of an error that the body lets out -/
def wKept (K : PySem.W.Frag) (c : Value) (i : Nat) (ts : Addr → Value → Option Addr → TS) (D : Ends) : WX := fun cls d σ H =>
  PySem.W.exmOne K cls c = some true ∧ ∀ a, H a = none → ts a cls d { nx := fun σ1 H1 => H1 a = none → D.nx (σ1.set i none) (L2.upd H1 a (exk a cls d)), rt := fun _ _ => False } (σ.set i (some (.ref a))) H
section
variable {X : Cx} {x n : Str} {c : Value} {i : Nat} {body suite : List Stmt} {st0 : Stmt} {np pos hpos : Pos} {tb : WX → TS} {ts : Addr → Value → Option Addr → TS}
theorem ps_try_kept (stk : X.stack = X.env :: X.outer) (lf : X.env.frame = some X.env.locals) (ex0 : X.ex = []) (nd : X.N.Nodup) (ix : X.N[i]? = some n) (kl : X.env.kindOf n = some .local) (nc : Names X x c)
    (bodyOk : ∀ (W : WX) (pn : List (Addr × Obj)) (xe : Value → Shared → Prop), Takes (X.tr pn xe) W → PassesOwn (model X.prog X.w) X.A X.env xe → PSs (X.tr pn xe) body (tb W))
    (suiteOk : ∀ (a : Addr) (oe : Obj) (cls : Value) (d : Option Addr) (pn : List (Addr × Obj)), Zc cls d oe → (∃ vs, oe.data = .fields vs) → PSs (X.suite a ((a, oe) :: pn)) (st0 :: suite) (ts a cls d)) :
    PS X (.Try body [.ExceptHandler (some (.Name x np)) (some n) (st0 :: suite) hpos] [] [] pos) (fun D σ H => tb (wKept X.K c i ts D) D σ H) := by
  refine ⟨fun pins s σ H D I0 wish => ?_⟩
  have okX := I0.ok
  have frames : X.A.frames = some (X.env :: X.outer) := okX.frames.trans (by rw [stk])
  refine wpAny_Try_except (wpAny_mono ((bodyOk (wKept X.K c i ts D) (X.pn ++ pins) (fun er s1 => wpAny (model X.prog X.w) X.A (noteFrame er X.env) (fun _ s2 => wpAny (model X.prog X.w) X.A (setFlight er none)
    (fun _ s3 => wpAny (model X.prog X.w) X.A (handleBy er X.env [.ExceptHandler (some (.Name x np)) (some n) (st0 :: suite) hpos]) (SP X pins D) X.xe s3) X.xe s2) X.xe s1) ?caught PassesOwn.looking).run [] s σ H D (I0.toTry _) wish) ?through fun _ _ z => z)
  case through =>
    intro fl s1 sp
    cases fl with
    | next =>
      obtain ⟨σ1, H1, J, q⟩ := sp
      exact wpAny_execs_nil ⟨σ1, H1, J.ofTry okX, q⟩
    | ret v =>
      obtain ⟨v1, σ1, H1, J, r, q⟩ := sp
      exact ⟨v1, σ1, H1, J.ofTry okX, r, q⟩
    | brk =>
      obtain ⟨σ1, H1, J, q⟩ := sp
      exact ⟨σ1, H1, J.ofTry okX, q⟩
    | cont =>
      obtain ⟨σ1, H1, J, q⟩ := sp
      exact ⟨σ1, H1, J.ofTry okX, q⟩
  case caught =>
    rintro u s1 ⟨a, B, sI, pins1, σ1, H1, cls, d, rfl, J0, nb, up, sky, na, os1, bare1, match1, wish1⟩
    have J : Inv X pins σ1 H1 sI := J0.ofTry okX
    have sky1 : Sky B (X.env :: X.outer) a (Zc cls d) X.env.locals s1.heap := by
      rw [← stk]
      exact sky
    have fresh : B.get? a = none := by
      rcases sky1 with ⟨_, z, _⟩ | ⟨_, z, _⟩ | ⟨_, z, _⟩ <;> exact z
    show wpAny (model X.prog X.w) X.A (noteFrame (.ref a) X.env) _ _ _
    refine Sky.land Zc.steady frames lf sky1 fun h2 fly2 up2 => ?_
    obtain ⟨oe2, vs2, at2, z2, d2⟩ := fly2.there
    have noFrame : a ∉ frs (X.env :: X.outer) := fun m => by
      obtain ⟨_, o', e', nf⟩ := fly2.2.2.1.mem m
      rw [at2] at e'
      cases e'
      exact nf _ d2
    have noI : sI.heap.get? a = none := by
      cases z : sI.heap.get? a with
      | none => rfl
      | some o =>
        have y := nb a o z (by rw [stk]; exact noFrame)
        rw [fresh] at y
        cases y
    have new0 : X.s_0.heap.get? a = none := by
      cases z : X.s_0.heap.get? a with
      | none => rfl
      | some o =>
        obtain ⟨o', y⟩ := J.base.there a o z (by rw [ex0]; simp)
        rw [noI] at y
        cases y
    have apart : ∀ p ∈ X.pn ++ pins, p.1 ≠ a := fun p hp e => by
      have y := (J.pin p hp).1
      rw [e, noI] at y
      cases y
    have nL : a ≠ X.env.locals := fun e => noFrame (List.mem_filterMap.mpr ⟨X.env, List.mem_cons_self, by rw [lf, e]⟩)
    have nF : a ∉ X.fs := fun m => by
      obtain ⟨en, hen, q⟩ := List.mem_filterMap.mp m
      exact noFrame (List.mem_filterMap.mpr ⟨en, List.mem_cons_of_mem _ hen, q⟩)
    have J2 : Inv X pins σ1 H1 { s1 with heap := h2 } := J.landed nb fly2.1 (up.trans up2) os1 bare1
    have S2 := J2.suite at2 d2 na nL nF
    refine wpAny_handleBy_cons (codeAny_handlers_test ?_) (by intro q; cases q)
    have ty : PySem.W.Looks (model X.prog X.w) h2 (typeOf (.ref a)) cls := fun A Q E s k q => wpAny_typeOf_ref (k _ _ at2) (by rw [z2.1]; exact q)
    have named : ∀ {Q : Value → Shared → Prop} {E : Value → Shared → Prop}, Q c { s1 with heap := h2 } → wpAny (model X.prog X.w) (X.A.mark (some (.ref a))) (eval (.Name x np) X.env) Q E { s1 with heap := h2 } := fun {Q E} q => by
      obtain ⟨g1, g2, g3⟩ := nc
      rcases g3 with g3 | ⟨g3, g4, g5⟩
      · exact ld_glob (X := X.suite a ((a, oe2) :: (X.pn ++ pins))) S2 g1 g3 q g2
      · exact ld_blt (X := X.suite a ((a, oe2) :: (X.pn ++ pins))) S2 g1 g3 g4 q g5 g2
    refine named ((PySem.W.exm_one (M := model X.prog X.w) J2.kIn ty match1).here (codeAny_handlers_suite_as (HandSPX.lands_againZ fly2 fun h3 fly3 up3 => ?_)))
    obtain ⟨oe3, vs3, at3, z3, d3⟩ := fly3.there
    have J3 : Inv X pins σ1 H1 { s1 with heap := h3 } := J.landed nb fly3.1 ((up.trans up2).trans up3) os1 bare1
    refine store_ok (X := X.suite a ((a, oe3) :: (X.pn ++ pins))) (v := .ref a) (J3.suite at3 d3 na nL nF) nd ix (.inl kl) rfl (fun s4 S4 => ?_) (.inr kl)
    refine wpAny_mono ((suiteOk a oe3 cls d (X.pn ++ pins) z3 ⟨_, d3⟩).run [] s4 _ H1 _ S4 (wish1 a na)) (fun fl s5 sp => ?_) fun _ _ z => False.elim z
    cases fl with
    | next =>
      obtain ⟨σ5, H5, S5, q5⟩ := sp
      refine gone_ok (inv_outSuite S5 okX) nd ix kl fun s6 J6 => ?_
      obtain ⟨at6, n6, _⟩ := J6.pin (a, oe3) (List.mem_append_right _ List.mem_cons_self)
      exact ⟨_, _, inv_track J6 new0 apart (exk_ok at6 z3 d3), q5 n6⟩
    | brk =>
      obtain ⟨_, _, _, z⟩ := sp
      exact z.elim
    | cont =>
      obtain ⟨_, _, _, z⟩ := sp
      exact z.elim
    | ret v =>
      obtain ⟨_, _, _, _, _, z⟩ := sp
      exact z.elim
end
end BR

/-! ### an error that was caught and kept: its field, isinstance -/
namespace BR
open PySem PySem.Spec PyProof.Rows L2
/-- an error of the class at C that was caught stands at a; its one field f holds v -/
def ErrK (H : Hp) (a C : Addr) (f : Str) (v : V) : Prop := ∃ d, H a = some (exk a (.ref C) (some d)) ∧ H d = some (.xd [(f, v)])
theorem ErrK.same {H H' : Hp} {a C : Addr} {f : Str} {v : V} (h : ErrK H a C f v) (s : Same H H') : ErrK H' a C f v := by
  obtain ⟨d, h1, h2⟩ := h
  exact ⟨d, s _ _ h1, s _ _ h2⟩
theorem errK_inst {X : Cx} {pins : List (Addr × Obj)} {σ : L2.St} {H : Hp} {s : Shared} {a C : Addr} {f : Str} {v : V} (I : Inv X pins σ H s) (h : ErrK H a C f v) :
    ∃ (ox od : Obj) (u : Value), PySem.W.InstAt s.heap a ox C (some od) ∧ RelV v u ∧ PySem.W.lookIn f od = some (some u) := by
  obtain ⟨d, h1, h2⟩ := h
  have x : ObjOk X.prog X.w H s.heap a (.ext fun h => ∃ (oe : Obj) (vs : Array Value), h.get? a = some oe ∧ Zc (.ref C) (some d) oe ∧ oe.data = .fields vs) := I.hok a _ h1
  obtain ⟨⟨oe, vs, e1, z, hd⟩, _, _⟩ := x
  have y : ObjOk X.prog X.w H s.heap d (.xd [(f, v)]) := I.hok d _ h2
  obtain ⟨mA, hns, hr⟩ := y
  obtain ⟨od, ho, hl⟩ := lookIn_ns hns
  have l : List.lookup f [(f, v)] = some v := by simp [List.lookup]
  obtain ⟨u, hu, ru⟩ := RelO.some_of (v := v) (o := mA f) (by rw [← l]; exact hr f)
  exact ⟨oe, od, u, ⟨e1, z.1, by unfold PySem.W.notCls; rw [hd] <;> rfl, by rw [z.2]; exact ho⟩, ru, by rw [hl, hu]⟩
def tErrK (K : PySem.W.Frag) (f : Str) (te : TE) : TE := fun σ H Q => te σ H fun x H1 => ∃ a C v, x = .ref a ∧ ErrK H1 a C f v ∧ XfC K C ∧ PySem.W.findIn K (.ref C) f = some none ∧ Q v H1
theorem pe_errK {X : Cx} {e : Expr} {te : TE} {pos : Pos} {n : Str} (he : PE X e te) (hb : attributeBase e n X.env (eval e X.env) = eval e X.env := by rfl) : PE X (.Attribute e n pos) (tErrK X.K n te) := by
  refine ⟨fun pins s σ H Q I h => attr_of hb (thn (he.run pins s σ H _ I h) ?_)⟩
  rintro u s1 ⟨x, H1, I1, rx, a, C, v, rfl, ea, T, no, q⟩
  obtain rfl : u = Value.ref a := rx
  obtain ⟨ox, od, w, J, ru, hl⟩ := errK_inst I1 ea
  exact HandSPX.exc_get I1.kIn J T.ga T.gg T.exC (PySem.W.findObj_own T.hdC no rfl hl) (handed_of ru) ⟨v, H1, I1.tok _, ru, q⟩
theorem cls_of {K : PySem.W.Frag} {C : Addr} (T : ExcC K C) : (PySem.W.clsIn K C).isSome = true := by
  have z := T.hd
  unfold PySem.W.hasDictIn at z
  cases y : PySem.W.clsIn K C with
  | none =>
    rw [y] at z
    exact absurd z (by decide)
  | some c => rfl
/-- isinstance(e, c) -/
def rIsK1 (K : PySem.W.Frag) : List V → Hp → VK → Prop := fun xs H Q => ∃ a C f v c u b, xs = [.ref a, c] ∧ ErrK H a C f v ∧ ExcC K C ∧ ClsV c u ∧ PySem.W.kitOne K (.ref C) u = some b ∧ Q (.bl b) H
/-- isinstance(e, (c, ..)) -/
def rIsKT (K : PySem.W.Frag) : List V → Hp → VK → Prop := fun xs H Q => ∃ a C f v tp cs us b, xs = [.ref a, .ref tp] ∧ ErrK H a C f v ∧ ExcC K C ∧ H tp = some (.tup cs) ∧ Paired ClsV cs us ∧ PySem.W.kitAny K (.ref C) us = some b ∧ Q (.bl b) H
def rIsK (K : PySem.W.Frag) : List V → Hp → VK → Prop := fun xs H Q => rIsK1 K xs H Q ∨ rIsKT K xs H Q
theorem call_isK {X : Cx} : CallR X (.builtin "isinstance") (rIsK X.K) := by
  rintro pins s σ H xs us Q I r (⟨a, C, f, v, c, u, b, rfl, ea, T, kc, ek, q⟩ | ⟨a, C, f, v, tp, cs, ws, b, rfl, ea, T, ht, kc, ek, q⟩)
  · obtain ⟨u1, u2, rfl, r1, r2⟩ := vals2 r
    obtain rfl : u1 = Value.ref a := r1
    have e2 := kc.eq r2
    subst e2
    obtain ⟨ox, od, w, J, _, _⟩ := errK_inst I ea
    exact PySem.W.kia_one (PySem.W.kitx_exc (cls_of T) T.hg T.hk T.hs T.ha T.hn T.ht T.hm) I.kIn J ek (fun z => nomatch z) fun tk => ⟨.bl b, H, I.kept (t' := tk) fun _ _ z => z, rfl, q⟩
  · obtain ⟨u1, u2, rfl, r1, r2⟩ := vals2 r
    obtain rfl : u1 = Value.ref a := r1
    obtain rfl : u2 = Value.ref tp := r2
    obtain ⟨ox, od, w, J, _, _⟩ := errK_inst I ea
    have y : ObjOk X.prog X.w H s.heap tp (.tup cs) := I.hok tp _ ht
    obtain ⟨_, its, rv, o, g1, g2, n, g3⟩ := y
    obtain rfl := ClsV.all kc rv
    obtain ⟨oc, odi, oda, osl⟩ := o
    dsimp only at g2 g3
    subst g2 g3
    exact PySem.W.kia_tup (PySem.W.kitx_exc (cls_of T) T.hg T.hk T.hs T.ha T.hn T.ht T.hm) I.kIn J g1 ek (fun z => nomatch z) fun tk => ⟨.bl b, H, I.kept (t' := tk) fun _ _ z => z, rfl, q⟩
end BR

/-! ### raise C(v): what is left; l.count(x) over data -/
namespace BR
open PySem PySem.Spec PyProof.Rows L2
/-- the end of a reading of «raise C(v)»: its own dict, new, holds v -/
theorem mkO_end {C : Addr} {v : V} {H1 : Hp} {Q : XK} (h : ∀ d, H1 d = none → Q (.ref C) (some d) (L2.upd H1 d (.xd [("value", v)]))) :
    [v].length ≤ 1000 ∧ ∀ a, H1 a = none → sp_err C (.ref a :: ([v] ++ [])) (L2.upd H1 a (exo a C none))
      (fun w H2 => w = .non ∧ ∃ (d : Addr) (fs : List (Str × V)), H2 a = some (exo a C (some d)) ∧ H2 d = some (exd d fs) ∧ H1 d = none ∧ Q (.ref C) (some d) (L2.upd (del H2 a) d (.xd fs))) (fun _ _ _ => False) := by
  refine ⟨(by show 1 ≤ 1000; decide), fun a ha => ⟨a, v, rfl, upd_same, fun d hd ne => ⟨rfl, d, [("value", v)], upd_same, ?_, ?_, ?_⟩⟩⟩
  · rw [upd_ne ne, upd_same]
  · rw [upd_ne ne] at hd
    exact hd
  · have hd1 : H1 d = none := by
      rw [upd_ne ne] at hd
      exact hd
    have e : L2.upd (del (L2.upd (L2.upd (L2.upd H1 a (exo a C none)) d (exd d [("value", v)])) a (exo a C (some d))) a) d (.xd [("value", v)]) = L2.upd H1 d (.xd [("value", v)]) := by
      funext b
      by_cases hb : b = d
      · rw [hb, upd_same, upd_same]
      · rw [upd_ne hb, upd_ne hb]
        by_cases hc : b = a
        · rw [hc, del_same, ha]
        · rw [del_ne hc, upd_ne hc, upd_ne hb, upd_ne hc]
    rw [e]
    exact h d hd1
def rCountD (K : PySem.W.Frag) : V → List V → Hp → VK → Prop := fun x xs H Q => ∃ (a : Addr) (y : V) (d : PyData) (ds : List PyData), x = .ref a ∧ xs = [y] ∧ Dp K H (.ref a) (.list ds) ∧ Dp K H y d ∧
  PyData.plainAll ds = true ∧ d.plain = true ∧ PyData.depthAll ds ≤ 60 ∧ Q (.int ((ds.countP fun z => PyData.eqv z d : Nat) : Int)) H
theorem mt_countD {X : Cx} (hu : X.A.units + 65 < cLine) : MtR X "list.count" (rCountD X.K) := by
  rintro pins s σ H x xs v us Q I rx rxs ⟨a, y, d, ds, rfl, rfl, hl, hy, pl, pd, dep, q⟩
  cases rx
  obtain ⟨u, rfl, ru⟩ := rxs.one
  obtain ⟨bs, r1⟩ := Dp.reads I d y u hy ru
  cases hl with
  | lst hs ha =>
    obtain ⟨its, rv, ⟨⟨cls, dd, data, sl⟩, n, ho, hc, hdn, hdt⟩, hlen⟩ := I.list hs
    simp only at hc hdt
    subst hc hdt
    obtain ⟨as, h4⟩ := Dp.readsAll I ds _ its ha rv
    refine SeqAt.count_list_data (vs := its.toArray) ⟨_, ho, rfl, n, rfl⟩ (by simpa using h4) r1 pl pd (by omega) ?_
    exact ⟨.int _, H, I.tok _, ⟨_, rfl⟩, q⟩
end BR

namespace BR
open PySem PySem.Spec PyProof.Rows L2
/-! ### dicts of the module with text keys: walked by items, asked by get -/
/-- the pairs of a written dict, as the layer's values -/
structure KTab (K : PySem.W.Frag) (P : Program) (w : World) (d : Addr) (kvs : List (Str × V)) : Prop where
  ex : ∃ (es : Array DictEntry) (n : Nat) (us : List (Str × Value)), K.lookup d = some ⟨.type "dict", none, .dict es n, #[]⟩ ∧ PySem.W.KeysLit w.params es.toList ∧ Pairs (strKind P w) es.toList us ∧ (us.map (·.1)).Nodup ∧
    KV kvs us
  low : (d == sysModules) = false
theorem KTab.at {K : PySem.W.Frag} {P : Program} {w : World} {d : Addr} {kvs : List (Str × V)} (T : KTab K P w d kvs) {h : Heap} (X : K.In h) :
    ∃ (us : List (Str × Value)) (n : Nat), h.DictAt (strKind P w) d us n ∧ KV kvs us := by
  obtain ⟨es, n, us, lk, lit, ps, nd, rel⟩ := T.ex
  refine ⟨us, n, ⟨_, es, X _ _ lk, ⟨rfl, rfl, rfl⟩, rfl, fun e he => ?_, ps, nd⟩, rel⟩
  obtain ⟨x, t, e1, e2⟩ := lit.all e (Array.mem_toList_iff.mpr he)
  exact ⟨x, by rw [e1]; exact strKind_is P w x t, e2⟩
/-- a new pair of key and value, turn by turn -/
def ItK (kvs : List (Str × V)) : It :=
  ⟨fun i _ => i < kvs.length, fun i H v H' => ∃ T k x, v = .ref T ∧ H T = none ∧ H' = L2.upd H T (.tup [.str k, x]) ∧ kvs[i]? = some (k, x), fun i _ => kvs.length ≤ i⟩
theorem turn_itemsK {P : Program} {w : World} {K : PySem.W.Frag} {elts : List Expr} {kk : Nat} {tpos : Pos} {d : Addr} {kvs : List (Str × V)} {us : List (Str × Value)} {n : Nat} (it : Addr)
    (hm : ∀ h : Heap, K.In h → h.DictAt (strKind P w) d us n) (rel : KV kvs us) :
    Turn P w K (.Tuple elts kk tpos) (ItK kvs) [it] it (fun i h => ∃ ok ov, IsItemIter h it d i us.length n ok ov) where
  mem := by simp
  obj := by
    rintro i h ⟨ok, ov, e⟩ b hb
    obtain rfl : b = it := by simpa using hb
    exact ⟨_, e, fun v z => nomatch z⟩
  keep := by
    rintro i h h' ⟨ok, ov, e⟩ kp
    exact ⟨ok, ov, kp it (by simp) _ e⟩
  item := by
    intro X hP hw hK hc i pins s σ H E I hf st hg
    subst hP hw hK
    have lz : kvs.length = us.length := Paired.length rel
    have hi : i < kvs.length := hg
    obtain ⟨⟨k, x⟩, hp⟩ : ∃ p, kvs[i]? = some p := ⟨kvs[i], List.getElem?_eq_getElem hi⟩
    obtain ⟨u, hq, ru⟩ := kv_get rel hp
    obtain ⟨ok, ov, he⟩ := st
    have below : it < s.heap.objs.size := Heap.lt_size he
    refine wpAny_pyNext_items_item he (hm _ I.kIn) hq fun key h1 hkey ho hT hz kp => ?_
    obtain ⟨tk, rfl⟩ := Value.isStrOf_shape hkey
    refine ⟨_, rfl, wpAny_letOwnedTupleGo_items (s := { s with heap := h1 }) ho fun h2 he2 sb => ?_⟩
    have hT2 := (sb.2 _ (Nat.ne_of_gt below)).trans hT
    have new : ObjOk X.prog X.w (L2.upd H s.heap.objs.size (.tup [.str k, x])) h2 s.heap.objs.size (.tup [.str k, x]) :=
      ⟨by show 2 ≤ sizeLine; decide, [.str k tk, u], .cons ⟨_, rfl⟩ (.cons ru .nil), ⟨_, hT2, rfl, _, rfl⟩⟩
    have J := I.turnedNew (t' := s.toks) (ch := [it]) (h' := h2) (fun b ob hb z => (sb.2 b (by simpa using hb)).trans (kp b ob (by simpa using hb) z)) hf (Nat.le_refl _) new
    refine ⟨.ref s.heap.objs.size, _, J, rfl, ⟨_, k, x, rfl, I.hok.fresh (Nat.le_refl _), rfl, hp⟩, ⟨_, _, he2⟩, fun b hb => ?_⟩
    obtain rfl : b = it := by simpa using hb
    rw [upd_ne (Nat.ne_of_lt below)]
    exact (hf b hb).1
  done := by
    intro X hP hw hK hc i pins s σ H E I hf st hg
    subst hP hw hK
    have lz : kvs.length = us.length := Paired.length rel
    have hge : kvs.length ≤ i := hg
    obtain ⟨f0, f1, f2, f3, f4, f5⟩ := hf it (by simp)
    obtain ⟨ok, ov, he⟩ := st
    exact wpAny_pyNext_items_end (I.ok.hd hc) he (hm _ I.kIn) (List.getElem?_eq_none (by omega)) fun h' eb => ⟨rfl, I.turned (t' := s.toks) (fun b o hb z => eb b o hb z) f0 f1 f3 f4 f5⟩
  self := fun A i s Q E st h => let ⟨_, _, e⟩ := st; PySem.W.kcp_self e h
def iItemsK (K : PySem.W.Frag) (P : Program) (w : World) (td : TE) : TI := fun σ H R => td σ H fun x H1 => ∃ d kvs, x = .ref d ∧ KTab K P w d kvs ∧ R (ItK kvs) H1
theorem pi_itemsK {X : Cx} {e : Expr} {td : TE} {apos cpos tpos : Pos} {elts : List Expr} {kk : Nat} (he : PE X e td) (hb : attributeBase e "items" X.env (eval e X.env) = eval e X.env := by rfl) (hl : (apos.endLine == cpos.line) = true := by rfl) :
    PI X (.Tuple elts kk tpos) (.Call (.Attribute e "items" apos) [] [] cpos) (iItemsK X.K X.prog X.w td) := by
  refine ⟨fun pins s σ H R I h => ?_⟩
  refine wpAny_Call_method (T := "dict") (id := "dict.items") hb rfl hl F.plainAttrs_dict F.slot_dict_items F.type_dict_items (thn (he.run pins s σ H _ I h) ?_)
  rintro u s1 ⟨x, H1, I1, rx, d, kvs, rfl, T, q⟩
  obtain rfl : u = Value.ref d := rx
  obtain ⟨es, n, us, lk, lit, ps, nd, rel⟩ := T.ex
  have hm : ∀ h : Heap, X.K.In h → h.DictAt (strKind X.prog X.w) d us n := fun h XK => ⟨_, es, XK _ _ lk, ⟨rfl, rfl, rfl⟩, rfl, fun e he => by
    obtain ⟨x, t, e1, e2⟩ := lit.all e (Array.mem_toList_iff.mpr he)
    exact ⟨x, by rw [e1]; exact strKind_is X.prog X.w x t, e2⟩, ps, nd⟩
  have hm1 := hm _ I1.kIn
  refine ⟨hm1.dictOf.typeIs, hm1.dictOf.mapOf.noDict, ?_⟩
  have I2 : Inv X pins σ H1 { s1 with heap := s1.heap.push { cls := .type "dict_items", data := .fields #[.ref d] } } := I1.kept (t' := s1.toks) fun b ob z => Heap.get?_push_of_some _ z
  have fin : wpAny (model X.prog X.w) X.A (pyIter (.ref s1.heap.objs.size)) (PIE X pins σ (.Tuple elts kk tpos) R) X.xe { s1 with heap := s1.heap.push { cls := .type "dict_items", data := .fields #[.ref d] } } := by
    refine wpAny_pyIter_items (d := d) (knd := strKind X.prog X.w) ⟨_, Heap.get?_push_size _ rfl, rfl, rfl⟩ (hm _ I2.kIn) (pi_one (tk := s1.toks) I2 _ (turn_itemsK _ hm rel) ⟨.none, .none, ?_⟩ q)
    exact Heap.get?_push_size _ rfl
  show wpAny _ _ (callWith cpos (.builtin "dict.items") [.ref d] [] []) _ X.xe s1
  exact method_meetsIn F.slot_dict_items F.entry_dict_items rfl (PySem.evalArgs_none ⟨rfl, hm1.dictOf.typeIs, F.args_dict_items_1 _, _, meets_dict_items (strKind X.prog X.w) d T.low, ⟨us, hm1.dictOf⟩, fin⟩)
theorem walk_itemsK {kvs : List (Str × V)} : L2.Walk (ItK kvs) kvs.length (fun _ => True) (YPair (fun i => kvs[i]?.map fun p => .str p.1) (fun i => kvs[i]?.map Prod.snd)) := by
  refine ⟨fun _ _ hi _ => hi, fun _ _ => Nat.le_refl _, ?_⟩
  rintro i H v H' _ _ ⟨T, k, x, h1, h2, h3, h4⟩
  exact ⟨T, .str k, x, h1, h2, h3, by simp [h4], by simp [h4]⟩
/-! in, not in, [], get with a default -/
section
variable {X : Cx}
theorem KTab.map {P : Program} {w : World} {K : PySem.W.Frag} {d : Addr} {kvs : List (Str × V)} (T : KTab K P w d kvs) {h : Heap} (X : K.In h) (z : Str) : ∃ f : Str → Option Value, h.MapOf (strKind P w) d f ∧ RelO (valV kvs z) (f z) := by
  obtain ⟨us, n, hm, rel⟩ := T.at X
  exact ⟨_, hm.dictOf.mapOf, rel.val z⟩
def rInK (K : PySem.W.Frag) (P : Program) (w : World) (neg : Bool) : R2 := fun x y H Q => ∃ z d kvs, x = .str z ∧ y = .ref d ∧ KTab K P w d kvs ∧ Q (.bl (if neg then !(valV kvs z).isSome else (valV kvs z).isSome)) H
theorem op_inT : OpR X (compareOp .In) (rInK X.K X.prog X.w false) := by
  rintro pins s σ H x y v u Q I rx ry ⟨z, d, kvs, rfl, rfl, T, q⟩
  obtain ⟨t, rfl⟩ := rx
  cases ry
  obtain ⟨f, hm, rel⟩ := T.map I.kIn z
  refine wpAny_in_of (strKind_is X.prog X.w z t) T.low hm ?_
  rw [← rel.isSome_eq]
  exact ⟨.bl (valV kvs z).isSome, H, I.tok _, rfl, q⟩
theorem op_notInT : OpR X (compareOp .NotIn) (rInK X.K X.prog X.w true) := by
  rintro pins s σ H x y v u Q I rx ry ⟨z, d, kvs, rfl, rfl, T, q⟩
  obtain ⟨t, rfl⟩ := rx
  cases ry
  obtain ⟨f, hm, rel⟩ := T.map I.kIn z
  refine wpAny_notIn_of (strKind_is X.prog X.w z t) T.low hm ?_
  rw [← rel.isSome_eq]
  exact ⟨.bl (!(valV kvs z).isSome), H, I.tok _, rfl, q⟩
def rIxT2 (K : PySem.W.Frag) (P : Program) (w : World) : R2 := fun x y H Q => ∃ d z v kvs, x = .ref d ∧ y = .str z ∧ KTab K P w d kvs ∧ valV kvs z = some v ∧ Q v H
theorem ix_tab : IxR X (rIxT2 X.K X.prog X.w) := by
  rintro value slice pins s σ H x y v u Q I rx ry ⟨d, z, r, kvs, rfl, rfl, T, ev, q⟩ hs
  obtain rfl : v = Value.ref d := rx
  obtain ⟨t, rfl⟩ := ry
  obtain ⟨f, hm, rel⟩ := T.map I.kIn z
  rw [ev] at rel
  obtain ⟨u0, e, ru⟩ := RelO.some_of rel
  exact tail_any hm.typeIs slot_dict_getitem.lookup (wpAny_getItem_of (strKind_is X.prog X.w z t) hm e ⟨r, H, I.tok _, ru, q⟩) hs
def tGetT (K : PySem.W.Frag) (P : Program) (w : World) (td ty tx : TE) : TE := fun σ H Q => td σ H fun x H1 => ∃ d kvs, x = .ref d ∧ KTab K P w d kvs ∧ ty σ H1 fun y H2 => tx σ H2 fun z H3 => ∃ k, y = .str k ∧ Q ((valV kvs k).getD z) H3
theorem pe_getT {o e f : Expr} {td ty tx : TE} {apos cpos : Pos} (ho : PE X o td) (he : PE X e ty) (hf : PE X f tx) (m : M2 X o "get" apos e f cpos) : PE X (.Call (.Attribute o "get" apos) [e, f] [] cpos) (tGetT X.K X.prog X.w td ty tx) := by
  refine ⟨fun pins s σ H Q I h => ?_⟩
  refine wpAny_Call_method m.base m.few m.line PySem.F.plainAttrs_dict PySem.F.slot_dict_get PySem.F.type_dict_get (thn (ho.run pins s σ H _ I h) ?_)
  rintro u s1 ⟨x, H1, I1, rx, d, kvs, rfl, T, q1⟩
  obtain rfl : u = Value.ref d := rx
  obtain ⟨us, n, dm, _⟩ := T.at I1.kIn
  refine ⟨dm.dictOf.typeIs, dm.dictOf.mapOf.noDict, ?_⟩
  rw [m.trees]
  refine Calls.callWith_builtin rfl (Calls.evalArgs_plain (Calls.spliced_cons (thn (he.run pins s1 σ H1 _ I1 q1) ?_)))
  rintro iv s2 ⟨y, H2, I2, ry, q2⟩
  refine Calls.spliced_cons (thn (hf.run pins s2 σ H2 _ I2 q2) ?_)
  rintro fv s3 ⟨z, H3, I3, rz, k, rfl, q3⟩
  refine Calls.spliced_nil ?_
  obtain ⟨t, rfl⟩ := (show ∃ t, iv = Value.str k t from ry)
  obtain ⟨g, hm, rel⟩ := T.map I3.kIn k
  refine call_meetsIn PySem.F.slot_dict_get hm.typeIs PySem.F.entry_dict_get (PySem.F.args_dict_get_3 _ _ _) (meets_dict_get_default (strKind X.prog X.w) d (strKind_is X.prog X.w k t) T.low fv) ⟨_, hm, ?_⟩
  exact ⟨_, H3, I3.tok _, rel.getD rz, q3⟩
end
end BR

/-! ### a module's dict with text keys, out of what the head answers -/
namespace BR
open PySem PySem.Spec PyProof.Rows L2
theorem pairs_of {P : Program} {w : World} : ∀ {es : List DictEntry} {kus : List (Str × Value)}, es.map He.keyOf = He.keysIn w.params (kus.map (·.1)) → es.map (·.val) = kus.map (·.2) → Pairs (strKind P w) es kus
  | [], [], _, _ => .nil
  | [], _ :: _, h, _ => by cases h
  | _ :: _, [], h, _ => by cases h
  | e :: es, (k, u) :: kus, h, g => by
    have h1 : He.keyOf e :: es.map He.keyOf = some (k, PyData.keyHash w.params k) :: He.keysIn w.params (kus.map (·.1)) := h
    injection h1 with h2 h3
    have g1 : e.val :: es.map (·.val) = u :: kus.map (·.2) := g
    injection g1 with g2 g3
    refine .cons ?_ g2 (pairs_of h3 g3)
    unfold He.keyOf at h2
    split at h2
    · rename_i x t q
      obtain ⟨y1, y2⟩ := Prod.mk.inj (Option.some.inj h2)
      show (strKind P w).is k e.key = true
      rw [q, ← y1]
      exact strKind_is P w x t
    · cases h2
theorem ktab_of {K : PySem.W.Frag} {P : Program} {w : World} {d : Addr} {es : Array DictEntry} {n : Nat} {kus : List (Str × Value)} {kvs : List (Str × V)} (lk : K.lookup d = some ⟨.type "dict", none, .dict es n, #[]⟩)
    (kk : es.toList.map He.keyOf = He.keysIn w.params (kus.map (·.1))) (vv : es.toList.map (·.val) = kus.map (·.2)) (rel : KV kvs kus) (nd : (kus.map (·.1)).Nodup) (low : (d == sysModules) = false) : KTab K P w d kvs :=
  ⟨⟨es, n, kus, lk, He.keysLit_of kk, pairs_of kk vv, nd, rel⟩, low⟩
end BR

/-! ### a module's tuple of texts -/
namespace BR
open PySem PySem.Spec PyProof.Rows L2
def strV (u : Value) : Option Str := match u with
  | .str x _ => some x
  | _ => none
theorem vals_strV : ∀ {us : List Value} {xs : List Str}, us.map strV = xs.map some → Vals (xs.map V.str) us
  | [], [], _ => .nil
  | [], _ :: _, h => by cases h
  | _ :: _, [], h => by cases h
  | u :: us, x :: xs, h => by
    have h1 : strV u :: us.map strV = some x :: xs.map some := h
    injection h1 with h2 h3
    refine .cons ?_ (vals_strV h3)
    unfold strV at h2
    split at h2
    · rename_i y t
      rw [Option.some.inj h2]
      exact ⟨t, rfl⟩
    · cases h2
/-- the texts xs stand in a written tuple at p -/
structure TupK (K : PySem.W.Frag) (p : Addr) (xs : List Str) : Prop where
  ex : ∃ (o : Obj) (its : Array Value) (n : Nat), K.lookup p = some o ∧ o.cls = .type "tuple" ∧ o.data = .seq its n ∧ its.size ≤ sizeLine ∧ Vals (xs.map V.str) its.toList
theorem TupK.sq {K : PySem.W.Frag} {p : Addr} {xs : List Str} (T : TupK K p xs) {H : Hp} : SqT K H p (xs.map V.str) := .inr T.ex
theorem tupK_of {K : PySem.W.Frag} {p : Addr} {o : Obj} {its : Array Value} {n : Nat} {xs : List Str} (l : K.lookup p = some o) (c : o.cls = .type "tuple") (d : o.data = .seq its n) (e : its.toList.map strV = xs.map some) (z : xs.length ≤ 1000 := by decide) : TupK K p xs := by
  refine ⟨o, its, n, l, c, d, ?_, vals_strV e⟩
  have y := congrArg List.length e
  rw [List.length_map, List.length_map, Array.length_toList] at y
  rw [sizeLine_eq]
  omega
end BR

/-! ### tables of the module, asked -/
namespace BR
open PySem PySem.Spec PyProof.Rows L2
theorem inV_str {z : Str} : ∀ {xs : List Str}, inV (.str z) (xs.map V.str) = decide (z ∈ xs)
  | [] => rfl
  | x :: xs => by
    have ih := inV_str (z := z) (xs := xs)
    unfold inV at ih ⊢
    rw [List.map_cons, List.any_cons, ih]
    have e : eqV (.str x) (.str z) = decide (z = x) := by
      show (x == z) = decide (z = x)
      by_cases h : z = x
      · rw [h]; simp
      · have h2 : ¬ x = z := fun e => h e.symm
        simp [h, h2]
    rw [e]
    simp
theorem flat_strs : ∀ {xs : List Str}, (xs.map V.str).all flatV = true
  | [] => rfl
  | _ :: xs => flat_strs (xs := xs)
/-- each key's value is a written tuple of texts -/
def TabRel (K : PySem.W.Frag) : List (Str × V) → List (Str × List Str) → Prop := Paired fun p q => p.1 = q.1 ∧ ∃ a, p.2 = .ref a ∧ TupK K a q.2
theorem look_cons {α : Type} {k z : Str} {v : α} {l : List (Str × α)} : List.lookup z ((k, v) :: l) = if z = k then some v else List.lookup z l := by
  by_cases h : z = k
  · rw [if_pos h, h]
    simp [List.lookup]
  · rw [if_neg h]
    have e : (z == k) = false := by simpa using h
    simp [List.lookup, e]
theorem valV_cons {k z : Str} {v : V} {l : List (Str × V)} : valV ((k, v) :: l) z = if z = k then some v else valV l z := by
  unfold valV
  by_cases h : z = k
  · rw [if_pos h, h]
    simp
  · rw [if_neg h]
    have e : ¬ k = z := fun y => h y.symm
    simp [List.find?, e]
theorem tab_find {K : PySem.W.Frag} {z : Str} : ∀ {kvs : List (Str × V)} {tab : List (Str × List Str)}, TabRel K kvs tab → (tab.lookup z = none ∧ valV kvs z = none) ∨ ∃ os a, tab.lookup z = some os ∧ valV kvs z = some (.ref a) ∧ TupK K a os
  | _, _, .nil => .inl ⟨rfl, rfl⟩
  | (k, v) :: kvs, (k2, os) :: tab, .cons h r => by
    obtain ⟨h1, a, h2, h3⟩ := h
    dsimp only at h1 h2 h3
    subst h1 h2
    rw [look_cons, valV_cons]
    by_cases c : z = k
    · rw [if_pos c, if_pos c]
      exact .inr ⟨os, a, rfl, rfl, h3⟩
    · rw [if_neg c, if_neg c]
      exact tab_find r
theorem txt_find {z : Str} : ∀ {l : List (Str × Str)}, valV (l.map fun p => (p.1, V.str p.2)) z = (l.lookup z).map V.str
  | [] => rfl
  | (k, v) :: l => by
    rw [List.map_cons, valV_cons, look_cons]
    by_cases c : z = k
    · rw [if_pos c, if_pos c]
      rfl
    · rw [if_neg c, if_neg c]
      exact txt_find
end BR

namespace BR
open PySem PySem.Spec PyProof.Rows L2
theorem pick_succ {p : Str → Bool} {xs : List Str} {i : Nat} {z : Str} (h : xs[i]? = some z) : (xs.take (i + 1)).filter p = (xs.take i).filter p ++ (if p z then [z] else []) := by
  have e : xs.take (i + 1) = xs.take i ++ [z] := by
    rw [List.take_add_one, h]
    rfl
  rw [e, List.filter_append]
  congr 1
  cases c : p z <;> simp [List.filter, c]
theorem mapS_at {xs : List Str} {i : Nat} {x : V} (h : (xs.map V.str)[i]? = some x) : ∃ z, xs[i]? = some z ∧ x = .str z := by
  rw [List.getElem?_map] at h
  cases e : xs[i]? with
  | none =>
    rw [e] at h
    cases h
  | some z =>
    rw [e] at h
    cases h
    exact ⟨z, rfl, rfl⟩
/-- [x for x in t if c], t a tuple of texts, c told by x alone -/
theorem lc_pick {K : PySem.W.Frag} {a : Addr} {xs : List Str} {j : Nat} {tt : TT} {te : TE} {vs : List Nat} {σ : L2.St} {H1 : Hp} {D : Addr} {Qd : Hp → Prop} (p : Str → Bool) (hT : SqT K H1 a (xs.map V.str)) (hz : xs.length ≤ 1000) (hD : H1 D = none)
    (hw : ∀ x : V, wipe ((wipe σ vs).set j (some x)) vs = wipe σ vs)
    (ht : ∀ (x : Str) (H2 : Hp) (Q : Bool → Hp → Prop), x ∈ xs → Same H1 H2 → Q (p x) H2 → tt ((wipe σ vs).set j (some (.str x))) H2 Q)
    (he : ∀ (x : Str) (H2 : Hp) (Q : VK), x ∈ xs → Same H1 H2 → Q (.str x) H2 → te ((wipe σ vs).set j (some (.str x))) H2 Q)
    (hd : ∀ H, Same H1 H → H D = some (.lst ((xs.filter p).map V.str)) → Qd H) :
    ∃ W : Nat → Nat → Hp → Prop, (∃ m, W 0 m (L2.upd H1 D (.lst []))) ∧ ∀ i m H, W i m H →
      ((Itt K a).stop i H ∧ Qd H) ∨ ((Itt K a).go i H ∧ ∃ Nx : Hp → Prop, (∀ H', Nx H' → ∃ m', m' < m ∧ W (i + 1) m' H') ∧ ∀ x H', (Itt K a).yld i H x H' → gName j x (wipe σ vs) H' fun σ2 H2 => wipe σ2 vs = wipe σ vs ∧ tt σ2 H2 fun b H3 =>
        if b = true then te σ2 H3 fun y H4 => ∃ acc, H4 D = some (.lst acc) ∧ acc.length < sizeLine ∧ Nx (L2.upd H4 D (.lst (acc ++ [y]))) else Nx H3) := by
  refine lc_tup (xs := xs.map V.str) (fun i H => Same H1 H ∧ H D = some (.lst (((xs.take i).filter p).map V.str))) ⟨sameNew hD, upd_same⟩ (fun i H _ p => sameT p.1 hT) ?_ ?_
  · rintro i x H hx ⟨s, hH⟩
    obtain ⟨z, hz1, rfl⟩ := mapS_at hx
    have mem := List.mem_of_getElem? hz1
    refine ⟨hw _, ?_⟩
    refine ht z H _ mem s ?_
    have step := pick_succ (p := p) hz1
    cases c : p z with
    | false =>
      rw [c] at step
      refine (if_neg (by decide)).mpr ?_
      refine ⟨s, ?_⟩
      rw [step]
      simpa using hH
    | true =>
      rw [c] at step
      refine (if_pos rfl).mpr ?_
      refine he z H _ mem s ?_
      refine ⟨_, hH, small1000 ?_, ?_, ?_⟩
      · have l1 := List.length_filter_le p (xs.take i)
        rw [List.length_take] at l1
        rw [List.length_map]
        omega
      · intro b o e
        rw [upd_ne (ne_of_none e hD)]
        exact s _ _ e
      · rw [upd_same, step, List.map_append]
        rfl
  · rintro H ⟨s, hH⟩
    rw [List.length_map, List.take_length] at hH
    exact hd H s hH
end BR

/-! ### tuples of texts as data -/
namespace BR
open PySem PySem.Spec PyProof.Rows L2
theorem strs_all {K : PySem.W.Frag} {H : Hp} : ∀ xs : List Str, DpAll K H (xs.map V.str) (xs.map PyData.str)
  | [] => .nil
  | x :: r => .cons (.str x) (strs_all r)
theorem strs_lay : ∀ xs : List Str, (∀ x ∈ xs, PyData.strOk x = true) → PyData.canLayAll0 (xs.map PyData.str) = true ∧ PyData.depthAll (xs.map PyData.str) = 0
  | [], _ => ⟨rfl, rfl⟩
  | x :: r, ok => by
    obtain ⟨h1, h2⟩ := strs_lay r fun y m => ok y (List.mem_cons_of_mem _ m)
    refine ⟨?_, ?_⟩
    · show (PyData.canLay0 (.str x) && PyData.canLayAll0 (r.map PyData.str)) = true
      rw [h1, Bool.and_true]
      exact ok x List.mem_cons_self
    · show max (PyData.depth (.str x)) (PyData.depthAll (r.map PyData.str)) = 0
      rw [h2]
      rfl
theorem strs_shapedT {xs : List Str} (ok : ∀ x ∈ xs, PyData.strOk x = true) : SeqAt.shaped (.tuple (xs.map PyData.str)) = true := by
  obtain ⟨h1, h2⟩ := strs_lay xs ok
  unfold SeqAt.shaped
  show (PyData.canLayAll0 (xs.map PyData.str) && decide (PyData.depthAll (xs.map PyData.str) + 1 ≤ 64)) = true
  rw [h1, h2]
  rfl
theorem strs_eqvA : ∀ xs ys : List Str, PyData.eqvAll (xs.map PyData.str) (ys.map PyData.str) = decide (xs = ys)
  | [], [] => rfl
  | [], _ :: _ => rfl
  | _ :: _, [] => rfl
  | x :: xs, y :: ys => by
    show (x == y && PyData.eqvAll (xs.map PyData.str) (ys.map PyData.str)) = decide (x :: xs = y :: ys)
    rw [strs_eqvA xs ys]
    by_cases h : x = y
    · by_cases g : xs = ys <;> simp [h, g]
    · simp [h]
theorem strs_eqv (xs ys : List Str) : PyData.eqv (.tuple (xs.map PyData.str)) (.tuple (ys.map PyData.str)) = decide (xs = ys) := strs_eqvA xs ys
theorem dp_strsT {K : PySem.W.Frag} {H : Hp} {a : Addr} {xs : List Str} (h : SqT K H a (xs.map V.str)) : Dp K H (.ref a) (.tuple (xs.map PyData.str)) := .tup h (strs_all xs)
theorem tab_at {K : PySem.W.Frag} : ∀ {kvs : List (Str × V)} {tab : List (Str × List Str)}, TabRel K kvs tab → ∀ {i : Nat} {k : Str} {x : V}, kvs[i]? = some (k, x) → ∃ os a, tab[i]? = some (k, os) ∧ x = .ref a ∧ TupK K a os
  | _, _, .nil, i, k, x, h => by cases i <;> cases h
  | (k1, v1) :: kvs, (k2, os) :: tab, .cons h r, i, k, x, e => by
    obtain ⟨h1, a, h2, h3⟩ := h
    dsimp only at h1 h2 h3
    subst h1 h2
    cases i with
    | zero =>
      cases e
      exact ⟨os, a, rfl, rfl, h3⟩
    | succ i => exact tab_at r (i := i) e
theorem find_at {α : Type} {p : α → Bool} : ∀ {l : List α} {i : Nat} {x : α}, l[i]? = some x → p x = true → (∀ (j : Nat) (y : α), j < i → l[j]? = some y → p y = false) → l.find? p = some x
  | [], i, x, h, _, _ => by cases i <;> cases h
  | a :: l, 0, x, h, hp, _ => by
    cases h
    simp [List.find?, hp]
  | a :: l, i + 1, x, h, hp, hn => by
    have ha := hn 0 a (Nat.succ_pos i) rfl
    have ih := find_at (l := l) (i := i) (x := x) h hp fun j y hj hy => hn (j + 1) y (Nat.succ_lt_succ hj) hy
    simp [List.find?, ha, ih]
theorem find_no {α : Type} {p : α → Bool} {l : List α} (h : ∀ (j : Nat) (y : α), l[j]? = some y → p y = false) : l.find? p = none := by
  rw [List.find?_eq_none]
  intro x hx
  obtain ⟨j, hj, e⟩ := List.mem_iff_getElem.mp hx
  rw [h j x (by rw [List.getElem?_eq_getElem hj, e])]
  decide
end BR

/-! ### calls without arguments where no repr runs; comprehensions that choose, over lists; heaps -/
namespace BR
open PySem PySem.Spec PyProof.Rows L2
section
variable {X : Cx} {CX : CXT} {k : Nat} {f : Addr} {fd : FuncData} {ps : List Str} {sp : Sp} {E : XK} {x : Str} {ds : List Value} {dvs : List V} {p pos : Pos}
theorem pe_callG0 (F : FnG X.prog X.w X.K X.mg X.base CX k f fd ps sp) (gg : X.A.guards = some []) (room : Room k X.A) (hg : Gl X x) (hm : X.mg x = some (.ref f)) (kp : PySem.W.keepIn X.K (.ref f) = true)
    (b : Binds X.K fd ps ds) (hd : Vals dvs ds) (hx : Passes CX X E) (nodb : (x == ("__debug__" : Str)) = false := by decide) : PE X (.Call (.Name x p) [] [] pos) (tCall sp dvs E tNil) := by
  refine ⟨fun pins s σ H Q I0 hh => ?_⟩
  refine wpAny_Call_Name_kw (ld_glob I0 hg hm ?_ nodb)
  have r2 : Vals ([] ++ dvs) ([] ++ ds) := hd
  have hl : ([] ++ ds).length = ps.length := by rw [← r2.length]; exact F.ln _ _ _ _ hh
  refine PySem.W.callWith_K0 I0.kIn kp ?_
  refine wpAny_call (codeAny_mono (F.go X.A X.stack s H ⟨[], []⟩ ([] ++ ds) ([] ++ dvs) Q E gg room I0.env0 (b s [] I0.kIn hl) r2 hh) fun res s' hq => ?_)
  cases res with
  | error e => exact hx pins σ H s e s' I0 hq
  | ok fl =>
    cases fl with
    | ret u => exact I0.after hq
    | next => exact hq.elim
    | brk => exact hq.elim
    | cont => exact hq.elim
end
section
variable {X : Cx} {T id : String} {name : Str} {r : V → List V → Hp → VK → Prop} {o e : Expr} {es : List Expr} {to : TE} {t : TA} {apos cpos : Pos} {K : PySem.W.Frag}
/-- a method's call where each side condition is written -/
theorem pe_bmX (hK : X.K = K) (pa : PlainAttrs T) (slot : Slot T name id) (hty : typeOf (.builtin id) = pure (.type "method_descriptor")) (hm : MtR X id r) (ho : PE X o to) (ha : PA X (e :: es) t)
    (c1 : attributeBase o name X.env (eval o X.env) = eval o X.env)
    (c2 : ((backTo cpos (starEach (e :: es) X.env)).all (fun x => !x.1) && (backToKw cpos (keywordEach [] X.env)).all (fun x => x.1.isSome) && decide ((e :: es).length + ([] : List Keyword).length + (if ([] : List Keyword).isEmpty then 0 else 1) < 30)) = true)
    (c3 : (apos.endLine == cpos.line) = true) (c4 : starEach (e :: es) X.env = (false, eval e X.env) :: starEach es X.env) (c5 : (backTo cpos (starEach es X.env)).any (·.1) = false) :
    PE X (.Call (.Attribute o name apos) (e :: es) [] cpos) (tBM K T r to t) := by
  subst hK
  exact pe_bm pa slot hty hm ho ha c1 c2 c3 c4 c5
end
theorem sameUp {H H1 : Hp} {p : Addr} {o : HO} (s : Same H H1) (hp : H p = none) : Same H (upd H1 p o) := fun b u e => by
  rw [upd_ne (ne_of_none e hp)]
  exact s b u e
theorem sameL {K : PySem.W.Frag} {H H' : Hp} {a : Addr} {xs : List V} (e : Same H H') (h : H a = some (.lst xs)) : SqL K H' a xs := SqL.of (e _ _ h)
/-- [x for x in l if c], l a list of texts, c told by x alone -/
theorem lc_pickL {K : PySem.W.Frag} {a : Addr} {xs : List Str} {j : Nat} {tt : TT} {te : TE} {vs : List Nat} {σ : L2.St} {H1 : Hp} {D : Addr} {Qd : Hp → Prop} (p : Str → Bool) (hL : H1 a = some (.lst (xs.map V.str))) (hz : xs.length ≤ 1000) (hD : H1 D = none)
    (hw : ∀ x : V, wipe ((wipe σ vs).set j (some x)) vs = wipe σ vs)
    (ht : ∀ (x : Str) (H2 : Hp) (Q : Bool → Hp → Prop), x ∈ xs → Same H1 H2 → (∀ H3, Same H2 H3 → Q (p x) H3) → tt ((wipe σ vs).set j (some (.str x))) H2 Q)
    (he : ∀ (x : Str) (H2 : Hp) (Q : VK), x ∈ xs → Same H1 H2 → Q (.str x) H2 → te ((wipe σ vs).set j (some (.str x))) H2 Q)
    (hd : ∀ H, Same H1 H → H D = some (.lst ((xs.filter p).map V.str)) → Qd H) :
    ∃ W : Nat → Nat → Hp → Prop, (∃ m, W 0 m (L2.upd H1 D (.lst []))) ∧ ∀ i m H, W i m H →
      ((Itl K a).stop i H ∧ Qd H) ∨ ((Itl K a).go i H ∧ ∃ Nx : Hp → Prop, (∀ H', Nx H' → ∃ m', m' < m ∧ W (i + 1) m' H') ∧ ∀ x H', (Itl K a).yld i H x H' → gName j x (wipe σ vs) H' fun σ2 H2 => wipe σ2 vs = wipe σ vs ∧ tt σ2 H2 fun b H3 =>
        if b = true then te σ2 H3 fun y H4 => ∃ acc, H4 D = some (.lst acc) ∧ acc.length < sizeLine ∧ Nx (L2.upd H4 D (.lst (acc ++ [y]))) else Nx H3) := by
  refine lc_list (xs := xs.map V.str) (fun i H => Same H1 H ∧ H D = some (.lst (((xs.take i).filter p).map V.str))) ⟨sameNew hD, upd_same⟩ (fun i H _ q => sameL q.1 hL) ?_ ?_
  · rintro i x H hx ⟨s, hH⟩
    obtain ⟨z, hz1, rfl⟩ := mapS_at hx
    have mem := List.mem_of_getElem? hz1
    refine ⟨hw _, ?_⟩
    refine ht z H _ mem s fun H3 s3 => ?_
    have step := pick_succ (p := p) hz1
    cases c : p z with
    | false =>
      rw [c] at step
      refine (if_neg (by decide)).mpr ?_
      refine ⟨s.trans s3, ?_⟩
      rw [step]
      simpa using s3 _ _ hH
    | true =>
      rw [c] at step
      refine (if_pos rfl).mpr ?_
      refine he z H3 _ mem (s.trans s3) ?_
      refine ⟨_, s3 _ _ hH, small1000 ?_, ?_, ?_⟩
      · have l1 := List.length_filter_le p (xs.take i)
        rw [List.length_take] at l1
        rw [List.length_map]
        omega
      · exact sameUp (s.trans s3) hD
      · rw [upd_same, step, List.map_append]
        rfl
  · rintro H ⟨s, hH⟩
    rw [List.length_map, List.take_length] at hH
    exact hd H s hH
theorem valV_mapS {α : Type} {f : α → V} {z : Str} : ∀ {l : List (Str × α)}, valV (l.map fun q => ((.inr q.1 : Key), f q.2)) (.inr z : Key) = (l.lookup z).map f
  | [] => rfl
  | (k, v) :: l => by
    have ih := valV_mapS (f := f) (z := z) (l := l)
    rw [List.map_cons]
    by_cases c : k = z
    · subst c
      rw [valV_pos rfl]
      simp [List.lookup]
    · rw [valV_neg (fun q => c (Sum.inr.inj q)), ih]
      have e : (z == k) = false := by simpa using fun q : z = k => c q.symm
      simp [List.lookup, e]
theorem putK_le {κ : Type} [DecidableEq κ] (c : List (κ × V)) (k : κ) (x : V) : (putK c k x).length ≤ c.length + 1 := by
  unfold putK
  split <;> simp
theorem dget_of {H : Hp} {a : Addr} {kvs : List (Key × V)} {z : Str} {v : V} (e : H a = some (.dK kvs)) (h : valV kvs (.inr z : Key) = some v) : DGet H a (.str z) (some v) := by
  rw [← h]
  exact DGet.k (k := .inr z) e
theorem yesR {σ : L2.St} {H : Hp} {k : Bool → Hp → Prop} (h : k true H) : tYes σ H k := h
theorem dput_new {H : Hp} {a : Addr} {kvs : List (Key × V)} {z : Str} {v : V} (e : H a = some (.dK kvs)) (hl : kvs.length ≤ 1000) (hn : valV kvs (.inr z : Key) = none) : DPut H a (.str z) v (L2.upd H a (.dK (kvs ++ [(.inr z, v)]))) := by
  have g := DPut.k (k := (.inr z : Key)) (v := v) e (small1000 hl)
  rw [putK_new v hn] at g
  exact g
theorem int_dec (x y : Int) : decide (V.int x = V.int y) = decide (x = y) := decide_eq_decide.mpr ⟨V.int.inj, fun e => congrArg V.int e⟩
theorem bl_dec (x y : Bool) : decide (V.bl x = V.bl y) = decide (x = y) := decide_eq_decide.mpr ⟨V.bl.inj, fun e => congrArg V.bl e⟩
end BR

/-! ### sets of ints out of a tuple, how many there are, max of a tuple of two -/
namespace BR
open PySem PySem.Spec PyProof.Rows L2
def rSetOf (K : PySem.W.Frag) (w : World) : List V → Hp → VK → Prop := fun xs H Q => ∃ (a : Addr) (ns : List Int), xs = [.ref a] ∧ SqT K H a (ns.map V.int) ∧ ns.length ≤ 1000 ∧
  ∀ (p : Addr) (n : Nat) (ks : List Int), H p = none → ks.Nodup → (∀ k, k ∈ ks ↔ k ∈ ns) → ks.length = n → Q (.ref p) (L2.upd H p (SetO w p (fun j => decide (j ∈ ns)) n))
section
variable {X : Cx}
theorem cr_setOf (hc : X.calm = true) : CallR X (.type "set") (rSetOf X.K X.w) := by
  intro pins s σ H xs us Q I r h
  obtain ⟨a, ns, rfl, hq, hz, q⟩ := h
  rw [Vals.ref1 r]
  obtain ⟨its, rv, pt, _⟩ := I.tuple hq
  refine call_set_tupI ns (I.ok.hd hc) (show s.heap.IsTuple a its.toArray from pt) (by simpa using rv.ints) (by unfold scanBound; omega) fun h' tk c R1 hcn k => ?_
  have ⟨o, es, ep, t, ho, hex, hdt, g, nd, hm2, hb, hf, hn, hr, hl2⟩ := R1
  refine ⟨.ref _, _, I.laid (t' := tk) (fun b u e => k b u e) (Nat.le_refl _) (setO_new R1), rfl, q _ c (es.toList.map keyOf) (I.hok.fresh (Nat.le_refl _)) nd (fun j => ?_) ?_⟩
  · rw [← hm2 j, decide_eq_true_eq]
  · rw [List.length_map, Array.length_toList, hn]
theorem call_len_setO : CallR X (.builtin "len") (fun xs H Q => ∃ (a : Addr) (S : Int → Bool) (n : Nat), xs = [.ref a] ∧ H a = some (SetO X.w a S n) ∧ Q (.int n) H) := by
  intro pins s σ H xs us Q I r h
  obtain ⟨a, S, n, rfl, ha, q⟩ := h
  rw [Vals.ref1 r]
  obtain ⟨o, es, ep, t, ho, hex, hdt, g, nd, hm2, hb, hf, hn, hr, hl2⟩ := setO_get I ha
  refine call_len_set ho hex hdt hf (by unfold scanBound at hb; omega) ⟨.int n, H, I.tok _, ⟨_, by rw [hn]⟩, q⟩
theorem met_nodup (val : Nat → Int) : ∀ i, (firstMet val i).Nodup
  | 0 => by rw [firstMet_zero]; exact List.nodup_nil
  | i + 1 => by
    rw [firstMet_succ]
    unfold step_dedup
    split
    · exact met_nodup val i
    · rename_i h
      refine List.nodup_append.mpr ⟨met_nodup val i, by simp, fun a ha b hb => ?_⟩
      rw [List.mem_singleton] at hb
      subst hb
      intro e
      subst e
      exact h (List.any_eq_true.mpr ⟨_, ha, by simp⟩)
theorem met_mem {ns : List Int} {k : Int} : k ∈ firstMet (fun i => ns.getD i 0) ns.length ↔ k ∈ ns := by
  have e := firstMet_any (fun i => ns.getD i 0) ns.length k
  have e2 : (List.range ns.length).map (fun i => ns.getD i 0) = ns := by
    apply List.ext_getElem?
    intro i
    rw [List.getElem?_map]
    by_cases h : i < ns.length
    · rw [List.getElem?_range h]
      simp [List.getD, h]
    · rw [List.getElem?_eq_none (by simpa using Nat.le_of_not_lt h), List.getElem?_eq_none (Nat.le_of_not_lt h)]
      rfl
  rw [e2] at e
  have m : ∀ l : List Int, l.any (· == k) = true ↔ k ∈ l := fun l => by simp
  rw [← m, ← m, e]
/-- len(set(l)), l a list of ints -/
def tLenSetL (K : PySem.W.Frag) (ta : TE) : TE := fun σ H Q => ta σ H fun x H1 => ∃ (l : Addr) (ns : List Int), x = V.ref l ∧ SqL K H1 l (ns.map V.int) ∧ ns.length < 64 ∧ ∀ (ks : List Int), ks.Nodup → (∀ k, k ∈ ks ↔ k ∈ ns) → Q (.int ks.length) H1
theorem pe_lenSetL {a : Expr} {ta : TE} {p p2 q pos : Pos} {K : PySem.W.Frag} (hK : X.K = K) (hc : X.calm = true) (hg : Gl X "len") (hm : X.mg "len" = none) (hg2 : Gl X "set") (hm2 : X.mg "set" = none) (ha : PE X a ta)
    (na : starEach [a] X.env = (false, eval a X.env) :: starEach [] X.env) : PE X (.Call (.Name "len" p) [.Call (.Name "set" p2) [a] [] q] [] pos) (tLenSetL K ta) := by
  subst hK
  refine ⟨fun pins s σ H Q I h => ?_⟩
  refine Call_ (ld_blt I hg hm PySem.boot_len ?_)
  refine callWith_builtin1 (args_cons ?_ rfl) rfl rfl
  refine Call_ (ld_blt I hg2 hm2 boot_set ?_)
  refine callWith_type1 (args_cons (thn (ha.run pins s σ H _ I h) ?_) na) na rfl
  rintro v s1 ⟨x, H1, I1, r1, l, ns, rfl, hq, hz, q1⟩
  refine args_nil ?_
  cases r1
  obtain ⟨its, r, pl, _⟩ := I1.list hq
  have hl : its.toArray.size = ns.length := by rw [List.size_toArray, ← r.length, List.length_map]
  refine call_set_list (I1.ok.hd hc) pl.isList (ns := ns) (by simpa using r.ints) (by unfold scanBound; omega) fun h' tk hS hk => ?_
  rw [hl] at hS
  refine args_nil ?_
  obtain ⟨o, es, ep, t, ho, hex, hd, _, _, _, hf, hn⟩ := hS
  have I2 : Inv X pins σ H1 { s1 with heap := h', toks := tk } := I1.kept fun b u e => hk b u (Heap.lt_size e) e
  have lz := firstMet_length_le (fun i => ns.getD i 0) ns.length
  refine call_len_set ho hex hd hf (by omega) ⟨.int (firstMet (fun i => ns.getD i 0) ns.length).length, H1, I2.tok _, ⟨_, by rw [hn]⟩, q1 _ (met_nodup _ _) fun k => met_mem⟩
/-- max of a tuple of two ints -/
theorem cr_maxT2 (hc : X.calm = true) (hu : X.A.units + 64 < cLine) : CallR X (.builtin "max") (fun xs H Q => ∃ (a : Addr) (i j : Int), xs = [.ref a] ∧ SqT X.K H a [.int i, .int j] ∧ Q (.int (if i < j then j else i)) H) := by
  intro pins s σ H xs us Q I r h
  obtain ⟨a, i, j, rfl, hq, q⟩ := h
  rw [Vals.ref1 r]
  obtain ⟨its, rv, pt, _⟩ := I.tuple hq
  obtain ⟨as, ra⟩ := Dp.readsAll I [.int i, .int j] _ _ (.cons (.int i) (.cons (.int j) .nil)) rv
  refine PySem.W.max_tuple_data (x := .int i) (xs := [.int j]) (I.ok.hd hc) (show s.heap.IsTuple a its.toArray from pt) (by simpa using ra) (⟨fun x hx y hy => by rcases List.mem_cons.mp hx with rfl | hx <;> rcases List.mem_cons.mp hy with rfl | hy <;> (try rcases List.mem_singleton.mp hx with rfl) <;> (try rcases List.mem_singleton.mp hy with rfl) <;> rfl, fun x hx => by rcases List.mem_cons.mp hx with rfl | hx <;> (try rcases List.mem_singleton.mp hx with rfl) <;> exact fun z => nomatch z⟩) (by show X.A.units + 1 + 0 < cLine; omega) fun k v h' tk bs _ hr hk => ?_
  have e : PySem.W.maxD (.int i) [.int j] = .int (if i < j then j else i) := by
    show (if PySem.W.dataLt (.int i) (.int j) then PyData.int j else .int i) = _
    rw [PySem.W.dataLt_int]
    by_cases c : i < j
    · rw [if_pos c, if_pos (decide_eq_true c)]
    · rw [if_neg c, if_neg (fun z => c (of_decide_eq_true z))]
  rw [e] at hr
  cases hr
  exact ⟨.int _, H, I.kept (t' := tk) hk, ⟨_, rfl⟩, q⟩
end
end BR

/-! ### rankings: the mathematics -/
namespace BR
open PySem PySem.Spec PyProof.Rows L2
def ins1 (x : Int) : List Int → List Int
  | [] => [x]
  | y :: l => if x < y then x :: y :: l else if x = y then y :: l else y :: ins1 x l
def srt : List Int → List Int
  | [] => []
  | x :: l => ins1 x (srt l)
theorem ins1_mem {x k : Int} : ∀ {l : List Int}, k ∈ ins1 x l ↔ k = x ∨ k ∈ l
  | [] => by simp [ins1]
  | y :: l => by
    unfold ins1
    split
    · simp
    · split
      · rename_i h
        subst h
        simp
      · rw [List.mem_cons, ins1_mem (l := l), List.mem_cons]
        constructor <;> (intro h; rcases h with h | h | h <;> simp [h])
theorem ins1_up {x : Int} : ∀ {l : List Int}, l.Pairwise (· < ·) → (ins1 x l).Pairwise (· < ·)
  | [], _ => by simp [ins1]
  | y :: l, h => by
    obtain ⟨h1, h2⟩ := List.pairwise_cons.mp h
    unfold ins1
    split
    · rename_i c
      refine List.pairwise_cons.mpr ⟨fun z hz => ?_, h⟩
      rcases List.mem_cons.mp hz with rfl | hz
      · exact c
      · exact Int.lt_trans c (h1 z hz)
    · split
      · exact h
      · rename_i c d
        refine List.pairwise_cons.mpr ⟨fun z hz => ?_, ins1_up h2⟩
        rcases ins1_mem.mp hz with rfl | hz
        · omega
        · exact h1 z hz
theorem srt_mem {k : Int} : ∀ {l : List Int}, k ∈ srt l ↔ k ∈ l
  | [] => Iff.rfl
  | x :: l => by rw [srt, ins1_mem, srt_mem, List.mem_cons]
theorem srt_up : ∀ l : List Int, (srt l).Pairwise (· < ·)
  | [] => .nil
  | x :: l => ins1_up (srt_up l)
theorem up_nodup {l : List Int} (h : l.Pairwise (· < ·)) : l.Nodup := h.imp fun h => Int.ne_of_lt h
/-- one list alone is in order and has these members -/
theorem up_one {a b : List Int} (ha : a.Pairwise (· < ·)) (hb : b.Pairwise (· < ·)) (h : ∀ k, k ∈ a ↔ k ∈ b) : a = b :=
  PySem.W.lks_uniq ((List.perm_ext_iff_of_nodup (up_nodup ha) (up_nodup hb)).mpr h) (ha.imp fun h => Int.le_of_lt h) (hb.imp fun h => Int.le_of_lt h)
theorem card_one {a b : List Int} (ha : a.Nodup) (hb : b.Nodup) (h : ∀ k, k ∈ a ↔ k ∈ b) : a.length = b.length := ((List.perm_ext_iff_of_nodup ha hb).mpr h).length_eq
def rk (l : List Int) (x : Int) : Nat := (l.filter fun y => decide (y < x)).length
theorem rk_le (l : List Int) (x : Int) : rk l x ≤ l.length := List.length_filter_le _ _
theorem rk_cons {y x : Int} {l : List Int} : rk (y :: l) x = (if y < x then 1 else 0) + rk l x := by
  unfold rk
  rw [List.filter_cons]
  by_cases h : y < x
  · rw [if_pos (decide_eq_true h), if_pos h, List.length_cons, Nat.add_comm]
  · rw [if_neg (fun z => h (of_decide_eq_true z)), if_neg h, Nat.zero_add]
theorem rk_mono {x y : Int} (h : x ≤ y) : ∀ l : List Int, rk l x ≤ rk l y
  | [] => Nat.le_refl _
  | z :: l => by
    have := rk_mono h l
    rw [rk_cons, rk_cons]
    split <;> split <;> omega
theorem rk_lt {x y : Int} (h : x < y) : ∀ {l : List Int}, x ∈ l → rk l x < rk l y
  | z :: l, m => by
    have w := rk_mono (Int.le_of_lt h) l
    rw [rk_cons, rk_cons]
    rcases List.mem_cons.mp m with rfl | m
    · rw [if_neg (Int.lt_irrefl _), if_pos h]
      omega
    · have := rk_lt h m
      split <;> split <;> omega
theorem rk_iff {l : List Int} {x y : Int} (hx : x ∈ l) (hy : y ∈ l) : (x < y ↔ rk l x < rk l y) ∧ (x = y ↔ rk l x = rk l y) := by
  rcases Int.lt_trichotomy x y with h | h | h
  · have := rk_lt h hx
    exact ⟨⟨fun _ => this, fun _ => h⟩, ⟨fun e => by omega, fun e => by omega⟩⟩
  · subst h
    exact ⟨⟨fun e => absurd e (Int.lt_irrefl _), fun e => absurd e (Nat.lt_irrefl _)⟩, ⟨fun _ => rfl, fun _ => rfl⟩⟩
  · have := rk_lt h hy
    exact ⟨⟨fun e => by omega, fun e => by omega⟩, ⟨fun e => by omega, fun e => by omega⟩⟩
theorem rk_cut {l : List Int} {x h : Int} (hx : x ∈ l) : x < h ↔ rk l x < rk l h := by
  constructor
  · exact fun e => rk_lt e hx
  · intro e
    refine Decidable.byContradiction fun n => ?_
    have := rk_mono (show h ≤ x by omega) l
    omega
/-- in a list in order the place is the rank -/
theorem rk_at : ∀ {l : List Int}, l.Pairwise (· < ·) → ∀ {j : Nat} {x : Int}, l[j]? = some x → rk l x = j
  | y :: l, h, 0, x, e => by
    cases e
    obtain ⟨h1, h2⟩ := List.pairwise_cons.mp h
    rw [rk_cons, if_neg (Int.lt_irrefl _), Nat.zero_add]
    unfold rk
    rw [List.filter_eq_nil_iff.mpr fun z hz => by have := h1 z hz; rw [decide_eq_true_eq]; omega]
    rfl
  | y :: l, h, j + 1, x, e => by
    obtain ⟨h1, h2⟩ := List.pairwise_cons.mp h
    have m : x ∈ l := List.mem_of_getElem? (show l[j]? = some x from e)
    rw [rk_cons, if_pos (h1 x m), rk_at h2 (show l[j]? = some x from e), Nat.add_comm]
theorem at_rk {l : List Int} (h : l.Pairwise (· < ·)) {x : Int} (m : x ∈ l) : l[rk l x]? = some x := by
  obtain ⟨j, hj, e⟩ := List.mem_iff_getElem.mp m
  have e2 : l[j]? = some x := by rw [List.getElem?_eq_getElem hj, e]
  rw [rk_at h e2]
  exact e2
/-- the ranks of words, the cut -/
def rks (xs : List Int) : List Int := xs.map fun x => ((rk (srt xs) x : Nat) : Int)
def ct (xs : List Int) (h : Int) : Int := ((rk (srt xs) h : Nat) : Int)
def IsRk (rs : List Int) (m : Nat) : Prop := ∀ k, k ∈ rs ↔ 0 ≤ k ∧ k < (m : Int)
theorem rks_is (xs : List Int) : IsRk (rks xs) (srt xs).length := fun k => by
  unfold rks
  rw [List.mem_map]
  constructor
  · rintro ⟨x, hx, rfl⟩
    have m := srt_mem.mpr hx
    have lt : rk (srt xs) x < (srt xs).length := (List.getElem?_eq_some_iff.mp (at_rk (srt_up xs) m)).1
    omega
  · rintro ⟨h0, h1⟩
    obtain ⟨j, rfl⟩ := Int.eq_ofNat_of_zero_le h0
    have hj : j < (srt xs).length := by omega
    have e : (srt xs)[j]? = some (srt xs)[j] := List.getElem?_eq_getElem hj
    exact ⟨_, srt_mem.mp (List.mem_of_getElem? e), by rw [rk_at (srt_up xs) e]⟩
theorem ct_le (xs : List Int) (h : Int) : 0 ≤ ct xs h ∧ ct xs h ≤ ((srt xs).length : Int) := by
  have := rk_le (srt xs) h
  unfold ct
  omega
/-- the ranks from 0 on -/
def rg (m : Nat) : List Int := (List.range m).map fun i => ((i : Nat) : Int)
theorem rg_up (m : Nat) : (rg m).Pairwise (· < ·) := by
  unfold rg
  rw [List.pairwise_map]
  exact List.pairwise_lt_range.imp fun h => by omega
theorem rg_mem {m : Nat} {k : Int} : k ∈ rg m ↔ 0 ≤ k ∧ k < (m : Int) := by
  unfold rg
  rw [List.mem_map]
  constructor
  · rintro ⟨i, hi, rfl⟩
    have := List.mem_range.mp hi
    omega
  · rintro ⟨h0, h1⟩
    obtain ⟨j, rfl⟩ := Int.eq_ofNat_of_zero_le h0
    exact ⟨j, List.mem_range.mpr (by omega), rfl⟩
theorem rg_len (m : Nat) : (rg m).length = m := by unfold rg; rw [List.length_map, List.length_range]
theorem isRk_srt {rs ks : List Int} {m : Nat} (h : IsRk rs m) (up : ks.Pairwise (· < ·)) (mem : ∀ k, k ∈ ks ↔ k ∈ rs) : ks = rg m := up_one up (rg_up m) fun k => by rw [mem, h k, rg_mem]
theorem isRk_card {rs ks : List Int} {m : Nat} (h : IsRk rs m) (nd : ks.Nodup) (mem : ∀ k, k ∈ ks ↔ k ∈ rs) : ks.length = m := by
  rw [card_one nd (up_nodup (rg_up m)) (fun k => by rw [mem, h k, rg_mem]), rg_len]
/-- as many different integers as lie between two -/
theorem few {l : List Int} {a b : Int} (nd : l.Nodup) (h : ∀ k ∈ l, a ≤ k ∧ k < b) : (l.length : Int) ≤ if a ≤ b then b - a else 0 := by
  by_cases c : a ≤ b
  · rw [if_pos c]
    obtain ⟨n, hn⟩ := Int.eq_ofNat_of_zero_le (show 0 ≤ b - a by omega)
    have p : (l.map fun k => k - a).Nodup := by
      rw [List.Nodup, List.pairwise_map]
      exact nd.imp fun h e => h (by omega)
    have s : ∀ k ∈ l.map (fun k => k - a), k ∈ rg n := fun k hk => by
      obtain ⟨z, hz, rfl⟩ := List.mem_map.mp hk
      have := h z hz
      exact rg_mem.mpr ⟨by omega, by omega⟩
    have q := card_one p ((up_nodup (rg_up n)).filter fun k => decide (k ∈ l.map fun k => k - a)) fun k => by
      rw [List.mem_filter, decide_eq_true_eq]
      exact ⟨fun z => ⟨s k z, z⟩, fun z => z.2⟩
    have u := List.length_filter_le (fun k => decide (k ∈ l.map fun k => k - a)) (rg n)
    rw [← q, List.length_map, rg_len] at u
    omega
  · rw [if_neg c]
    cases l with
    | nil => exact Int.le_refl 0
    | cons x l =>
      have := h x List.mem_cons_self
      omega
theorem ct_bounds {xs : List Int} {h : Int} (h0 : 0 ≤ h) (w : ∀ x ∈ xs, 0 ≤ x ∧ x < 2 * h) : ct xs h ≤ h ∧ ((srt xs).length : Int) - ct xs h ≤ h := by
  have nd := up_nodup (srt_up xs)
  have e1 := few (a := 0) (b := h) (l := (srt xs).filter fun y => decide (y < h)) (nd.filter _) fun k hk => by
    obtain ⟨m, c⟩ := List.mem_filter.mp hk
    exact ⟨(w k (srt_mem.mp m)).1, of_decide_eq_true c⟩
  have e2 := few (a := h) (b := 2 * h) (l := (srt xs).filter fun y => !decide (y < h)) (nd.filter _) fun k hk => by
    obtain ⟨m, c⟩ := List.mem_filter.mp hk
    have := (w k (srt_mem.mp m)).2
    have c2 : decide (k < h) = false := by simpa using c
    have := of_decide_eq_false c2
    omega
  have e3 : ((srt xs).filter fun y => decide (y < h)).length + ((srt xs).filter fun y => !decide (y < h)).length = (srt xs).length := by
    have := List.length_eq_countP_add_countP (fun y => decide (y < h)) (l := srt xs)
    rw [List.countP_eq_length_filter, List.countP_eq_length_filter] at this
    have q : (fun a : Int => decide (¬ (decide (a < h)) = true)) = fun y => !decide (y < h) := by
      funext y
      by_cases c : y < h <;> simp [c]
    rw [q] at this
    omega
  unfold ct rk
  rw [if_pos h0] at e1
  rw [if_pos (show h ≤ 2 * h by omega)] at e2
  omega
/-- the first words -/
def lw (h c r : Int) : Int := if r < c then r else h + r - c
theorem lw_up {h c r s : Int} (hc : c ≤ h) (l : r < s) : lw h c r < lw h c s := by
  unfold lw
  split <;> split <;> omega
theorem lw_inj {h c r s : Int} (hc : c ≤ h) (e : lw h c r = lw h c s) : r = s := by
  rcases Int.lt_trichotomy r s with l | l | l
  · have := lw_up hc l
    omega
  · exact l
  · have := lw_up hc l
    omega
theorem lw_word {h c r : Int} {m : Nat} (h0 : 0 ≤ c) (hc : c ≤ h) (hm : (m : Int) - c ≤ h) (r0 : 0 ≤ r) (r1 : r < m) : 0 ≤ lw h c r ∧ lw h c r < 2 * h := by
  unfold lw
  split <;> omega
theorem lw_cut {h c r : Int} (hc : c ≤ h) : lw h c r < h ↔ r < c := by
  unfold lw
  split <;> constructor <;> intro _ <;> omega
theorem srt_lw {rs : List Int} {m : Nat} {h c : Int} (hc : c ≤ h) (is : IsRk rs m) : srt (rs.map (lw h c)) = (rg m).map (lw h c) := by
  refine up_one (srt_up _) ?_ fun k => ?_
  · rw [List.pairwise_map]
    exact (rg_up m).imp fun l => lw_up hc l
  · rw [srt_mem, List.mem_map, List.mem_map]
    constructor
    · rintro ⟨r, hr, e⟩
      exact ⟨r, rg_mem.mpr ((is r).mp hr), e⟩
    · rintro ⟨r, hr, e⟩
      exact ⟨r, (is r).mpr (rg_mem.mp hr), e⟩
theorem rk_map {h c x : Int} (hc : c ≤ h) : ∀ l : List Int, rk (l.map (lw h c)) (lw h c x) = rk l x
  | [] => rfl
  | y :: l => by
    rw [List.map_cons, rk_cons, rk_cons, rk_map hc l]
    congr 1
    by_cases q : y < x
    · rw [if_pos q, if_pos (lw_up hc q)]
    · rw [if_neg q, if_neg (fun z => by
        rcases Int.lt_trichotomy x y with e | e | e
        · have := lw_up hc e
          omega
        · subst e
          omega
        · exact q e)]
theorem rk_mapc {h c : Int} (hc : c ≤ h) : ∀ l : List Int, rk (l.map (lw h c)) h = rk l c
  | [] => rfl
  | y :: l => by
    rw [List.map_cons, rk_cons, rk_cons, rk_mapc hc l]
    congr 1
    by_cases q : y < c
    · rw [if_pos q, if_pos ((lw_cut hc).mpr q)]
    · rw [if_neg q, if_neg (fun z => q ((lw_cut hc).mp z))]
theorem rk_rg {m : Nat} {c : Int} (h0 : 0 ≤ c) (h1 : c ≤ m) : ((rk (rg m) c : Nat) : Int) = c := by
  obtain ⟨n, rfl⟩ := Int.eq_ofNat_of_zero_le h0
  have e : (rg m).filter (fun y => decide (y < ((n : Nat) : Int))) = rg n := up_one ((rg_up m).filter _) (rg_up n) fun k => by
    rw [List.mem_filter, rg_mem, rg_mem, decide_eq_true_eq]
    omega
  unfold rk
  rw [e, rg_len]
/-- the first words have the ranking -/
theorem rks_lw {rs : List Int} {m : Nat} {h c : Int} (hc : c ≤ h) (c0 : 0 ≤ c) (cm : c ≤ m) (is : IsRk rs m) : rks (rs.map (lw h c)) = rs ∧ ct (rs.map (lw h c)) h = c := by
  have e := srt_lw hc is
  refine ⟨?_, ?_⟩
  · unfold rks
    rw [e, List.map_map]
    have : ∀ r ∈ rs, ((fun x => ((rk ((rg m).map (lw h c)) x : Nat) : Int)) ∘ lw h c) r = r := fun r hr => by
      obtain ⟨r0, r1⟩ := (is r).mp hr
      show ((rk ((rg m).map (lw h c)) (lw h c r) : Nat) : Int) = r
      rw [rk_map hc]
      exact rk_rg r0 (by omega)
    rw [List.map_congr_left this, List.map_id']
  · unfold ct
    rw [e, rk_mapc hc]
    exact rk_rg c0 cm
/-- and no word is less than the first one of its rank -/
theorem lw_least {xs : List Int} {h x : Int} (h0 : 0 ≤ h) (w : ∀ x ∈ xs, 0 ≤ x) (hx : x ∈ xs) : lw h (ct xs h) ((rk (srt xs) x : Nat) : Int) ≤ x := by
  have nd := up_nodup (srt_up xs)
  have m := srt_mem.mpr hx
  have cc := rk_cut (h := h) m
  unfold lw ct
  split
  · rename_i c
    have e := few (a := 0) (b := x) (l := (srt xs).filter fun y => decide (y < x)) (nd.filter _) fun k hk => by
      obtain ⟨m, c⟩ := List.mem_filter.mp hk
      exact ⟨w k (srt_mem.mp m), of_decide_eq_true c⟩
    rw [if_pos (w x hx)] at e
    unfold rk
    omega
  · rename_i c
    have xh : h ≤ x := by
      refine Decidable.byContradiction fun n => c ?_
      have := cc.mp (by omega)
      omega
    have e := few (a := h) (b := x) (l := (srt xs).filter fun y => decide (y < x) && !decide (y < h)) (nd.filter _) fun k hk => by
      obtain ⟨m, c⟩ := List.mem_filter.mp hk
      obtain ⟨c1, c2⟩ := Bool.and_eq_true_iff.mp c
      have c3 : decide (k < h) = false := by simpa using c2
      have := of_decide_eq_false c3
      exact ⟨by omega, of_decide_eq_true c1⟩
    rw [if_pos xh] at e
    have split3 : ∀ l : List Int, rk l x = rk l h + (l.filter fun y => decide (y < x) && !decide (y < h)).length := fun l => by
      induction l with
      | nil => rfl
      | cons y l ih =>
        rw [rk_cons, rk_cons, ih, List.filter_cons]
        by_cases q1 : y < h
        · have q2 : y < x := by omega
          simp only [q1, q2, decide_true, Bool.not_true, Bool.and_false, if_true]
          simp
          omega
        · by_cases q2 : y < x
          · simp [q1, q2]
            omega
          · simp [q1, q2]
    have := split3 (srt xs)
    omega
theorem lex_le {e r : Nat → Bool} {z : Bool} (hz : z = true) (hr : ∀ i, r i = true) : ∀ (k i : Nat), Ob.lexAt e r z i k = true
  | 0, _ => hz
  | k + 1, i => by
    rw [Ob.lexAt_succ]
    split
    · exact lex_le hz hr k (i + 1)
    · exact hr i
/-- outcomes by ranks are those of the words -/
theorem ocut_rk {xs : List Int} {h x y : Int} (hx : x ∈ xs) (hy : y ∈ xs) : ocut (ct xs h) ((rk (srt xs) x : Nat) : Int) ((rk (srt xs) y : Nat) : Int) = ocut h x y := by
  have mx := srt_mem.mpr hx
  have my := srt_mem.mpr hy
  obtain ⟨i1, i2⟩ := rk_iff mx my
  have cx := rk_cut (h := h) mx
  have cy := rk_cut (h := h) my
  unfold ocut ct
  have d1 : decide ((rk (srt xs) x : Int) < (rk (srt xs) h : Int)) = decide (x < h) := decide_eq_decide.mpr (by omega)
  have d2 : decide ((rk (srt xs) y : Int) < (rk (srt xs) h : Int)) = decide (y < h) := decide_eq_decide.mpr (by omega)
  rw [d1, d2]
  by_cases c : x = y
  · rw [if_pos c, if_pos (by have := i2.mp c; omega)]
  · rw [if_neg c, if_neg (fun z => c (i2.mpr (by omega)))]
    by_cases l : x < y
    · rw [if_pos l, if_pos (show (rk (srt xs) x : Int) < (rk (srt xs) y : Int) by have := i1.mp l; omega)]
    · rw [if_neg l, if_neg (show ¬ (rk (srt xs) x : Int) < (rk (srt xs) y : Int) from fun z => l (i1.mpr (by omega)))]
end BR
namespace BR
open PySem PySem.Spec PyProof.Rows L2
/-! ### comprehensions that choose ints; a ranking in the heap -/
theorem filt_succ {p : Int → Bool} {xs : List Int} {i : Nat} {z : Int} (h : xs[i]? = some z) : (xs.take (i + 1)).filter p = (xs.take i).filter p ++ (if p z then [z] else []) := by
  have e : xs.take (i + 1) = xs.take i ++ [z] := by
    rw [List.take_add_one, h]
    rfl
  rw [e, List.filter_append]
  congr 1
  cases c : p z <;> simp [List.filter, c]
section
variable {K : PySem.W.Frag} {a : Addr} {xs : List Int} {j : Nat} {tt : TT} {te : TE} {vs : List Nat} {σ : L2.St} {H1 : Hp} {D : Addr} {Qd : Hp → Prop}
theorem lc_filtL (p : Int → Bool) (hL : SqL K H1 a (xs.map V.int)) (hz : xs.length ≤ 1000) (hD : H1 D = none)
    (hw : ∀ x : V, wipe ((wipe σ vs).set j (some x)) vs = wipe σ vs)
    (ht : ∀ (x : Int) (H2 : Hp) (Q : Bool → Hp → Prop), x ∈ xs → Same H1 H2 → (∀ H3, Same H2 H3 → Q (p x) H3) → tt ((wipe σ vs).set j (some (.int x))) H2 Q)
    (he : ∀ (x : Int) (H2 : Hp) (Q : VK), x ∈ xs → Same H1 H2 → Q (.int x) H2 → te ((wipe σ vs).set j (some (.int x))) H2 Q)
    (hd : ∀ H, Same H1 H → H D = some (.lst ((xs.filter p).map V.int)) → Qd H) :
    ∃ W : Nat → Nat → Hp → Prop, (∃ m, W 0 m (L2.upd H1 D (.lst []))) ∧ ∀ i m H, W i m H →
      ((Itl K a).stop i H ∧ Qd H) ∨ ((Itl K a).go i H ∧ ∃ Nx : Hp → Prop, (∀ H', Nx H' → ∃ m', m' < m ∧ W (i + 1) m' H') ∧ ∀ x H', (Itl K a).yld i H x H' → gName j x (wipe σ vs) H' fun σ2 H2 => wipe σ2 vs = wipe σ vs ∧ tt σ2 H2 fun b H3 =>
        if b = true then te σ2 H3 fun y H4 => ∃ acc, H4 D = some (.lst acc) ∧ acc.length < sizeLine ∧ Nx (L2.upd H4 D (.lst (acc ++ [y]))) else Nx H3) := by
  refine lc_list (xs := xs.map V.int) (fun i H => Same H1 H ∧ H D = some (.lst (((xs.take i).filter p).map V.int))) ⟨sameNew hD, upd_same⟩ (fun i H _ q => q.1.seq hL) ?_ ?_
  · rintro i x H hx ⟨s, hH⟩
    obtain ⟨z, hz1, rfl⟩ := map_at hx
    have mem := List.mem_of_getElem? hz1
    refine ⟨hw _, ?_⟩
    refine ht z H _ mem s fun H3 s3 => ?_
    have step := filt_succ (p := p) hz1
    cases c : p z with
    | false =>
      rw [c] at step
      refine tF rfl ⟨s.trans s3, ?_⟩
      rw [step]
      simpa using s3 _ _ hH
    | true =>
      rw [c] at step
      refine tT rfl (he z H3 _ mem (s.trans s3) ⟨_, s3 _ _ hH, small1000 ?_, sameUp (s.trans s3) hD, ?_⟩)
      · have l1 := List.length_filter_le p (xs.take i)
        rw [List.length_take] at l1
        rw [List.length_map]
        omega
      · rw [upd_same, step, List.map_append]
        rfl
  · rintro H ⟨s, hH⟩
    rw [List.length_map, List.take_length] at hH
    exact hd H s hH
theorem lc_filtT (p : Int → Bool) (hL : SqT K H1 a (xs.map V.int)) (hz : xs.length ≤ 1000) (hD : H1 D = none)
    (hw : ∀ x : V, wipe ((wipe σ vs).set j (some x)) vs = wipe σ vs)
    (ht : ∀ (x : Int) (H2 : Hp) (Q : Bool → Hp → Prop), x ∈ xs → Same H1 H2 → (∀ H3, Same H2 H3 → Q (p x) H3) → tt ((wipe σ vs).set j (some (.int x))) H2 Q)
    (he : ∀ (x : Int) (H2 : Hp) (Q : VK), x ∈ xs → Same H1 H2 → Q (.int x) H2 → te ((wipe σ vs).set j (some (.int x))) H2 Q)
    (hd : ∀ H, Same H1 H → H D = some (.lst ((xs.filter p).map V.int)) → Qd H) :
    ∃ W : Nat → Nat → Hp → Prop, (∃ m, W 0 m (L2.upd H1 D (.lst []))) ∧ ∀ i m H, W i m H →
      ((Itt K a).stop i H ∧ Qd H) ∨ ((Itt K a).go i H ∧ ∃ Nx : Hp → Prop, (∀ H', Nx H' → ∃ m', m' < m ∧ W (i + 1) m' H') ∧ ∀ x H', (Itt K a).yld i H x H' → gName j x (wipe σ vs) H' fun σ2 H2 => wipe σ2 vs = wipe σ vs ∧ tt σ2 H2 fun b H3 =>
        if b = true then te σ2 H3 fun y H4 => ∃ acc, H4 D = some (.lst acc) ∧ acc.length < sizeLine ∧ Nx (L2.upd H4 D (.lst (acc ++ [y]))) else Nx H3) := by
  refine lc_tup (xs := xs.map V.int) (fun i H => Same H1 H ∧ H D = some (.lst (((xs.take i).filter p).map V.int))) ⟨sameNew hD, upd_same⟩ (fun i H _ q => sameT q.1 hL) ?_ ?_
  · rintro i x H hx ⟨s, hH⟩
    obtain ⟨z, hz1, rfl⟩ := map_at hx
    have mem := List.mem_of_getElem? hz1
    refine ⟨hw _, ?_⟩
    refine ht z H _ mem s fun H3 s3 => ?_
    have step := filt_succ (p := p) hz1
    cases c : p z with
    | false =>
      rw [c] at step
      refine tF rfl ⟨s.trans s3, ?_⟩
      rw [step]
      simpa using s3 _ _ hH
    | true =>
      rw [c] at step
      refine tT rfl (he z H3 _ mem (s.trans s3) ⟨_, s3 _ _ hH, small1000 ?_, sameUp (s.trans s3) hD, ?_⟩)
      · have l1 := List.length_filter_le p (xs.take i)
        rw [List.length_take] at l1
        rw [List.length_map]
        omega
      · rw [upd_same, step, List.map_append]
        rfl
  · rintro H ⟨s, hH⟩
    rw [List.length_map, List.take_length] at hH
    exact hd H s hH
end
/-- a ranking (ranks, cut) stands at q -/
def RkAt (H : Hp) (q rt : Addr) (rs : List Int) (c : Int) : Prop := H q = some (.tup [.ref rt, .int c]) ∧ H rt = some (.tup (rs.map V.int))
theorem RkAt.same {H H' : Hp} {q rt : Addr} {rs : List Int} {c : Int} (h : RkAt H q rt rs c) (s : Same H H') : RkAt H' q rt rs c := ⟨s _ _ h.1, s _ _ h.2⟩
theorem rgV_rg (m : Nat) : rgV 0 (m : Int) = (rg m).map V.int := by
  unfold rgV rg
  rw [List.map_map]
  have : ((m : Int) - 0).toNat = m := by omega
  rw [this]
  apply List.map_congr_left
  intro i _
  show V.int (0 + (i : Int)) = V.int (i : Int)
  rw [Int.zero_add]
theorem srt_len : ∀ l : List Int, (srt l).length ≤ l.length
  | [] => Nat.le_refl _
  | x :: l => by
    have h : ∀ (x : Int) (l : List Int), (ins1 x l).length ≤ l.length + 1 := by
      intro x l
      induction l with
      | nil => exact Nat.le_refl _
      | cons y l ih =>
        unfold ins1
        split
        · exact Nat.le_refl _
        · split
          · exact Nat.le_succ _
          · exact Nat.succ_le_succ ih
    exact Nat.le_trans (h x (srt l)) (Nat.succ_le_succ (srt_len l))
/-- a ranking as data -/
def rkD (rs : List Int) (c : Int) : PyData := .tuple [.tuple (rs.map PyData.int), .int c]
theorem RkAt.dp {K : PySem.W.Frag} {H : Hp} {q rt : Addr} {rs : List Int} {c : Int} (h : RkAt H q rt rs c) : Dp K H (.ref q) (rkD rs c) := .tup (SqT.of h.1) (.cons (.tup (SqT.of h.2) (ints_all rs)) (.cons (.int c) .nil))
theorem rkD_ok {rs : List Int} {c : Int} (hr : ∀ r ∈ rs, 0 ≤ r ∧ r < 2 ^ 300) (hc : 0 ≤ c ∧ c < 2 ^ 300) (hz : rs.length ≤ 10) :
    SeqAt.shaped (rkD rs c) = true ∧ (PyData.list [rkD rs c, rkD rs c]).showable = true ∧ (PyData.list [rkD rs c, rkD rs c]).hasDict = false ∧ (PyData.list [rkD rs c, rkD rs c]).depth ≤ 60 ∧ (PyData.list [rkD rs c, rkD rs c]).shown.length ≤ sizeLine := by
  obtain ⟨h1, h2, h3, h4⟩ := ints_show hr
  obtain ⟨g1, g2, g3, g4⟩ := ints_show (ys := [c]) fun y hy => by
    obtain rfl := List.mem_singleton.mp hy
    exact hc
  obtain ⟨l1, l2⟩ := ints_lay rs
  have ic1 : (PyData.int c).showable = true := by simpa [PyData.showableAll] using g1
  have ic3 : (PyData.int c).leavesShort 301 = true := by simpa [PyData.leavesShortAll] using g3
  have ic4 : (PyData.int c).weight + 1 + 0 ≤ 301 * 1 := g4
  refine ⟨?_, ?_, ?_, ?_, ?_⟩
  · unfold SeqAt.shaped
    show ((PyData.canLayAll0 (rs.map PyData.int) && (true && true)) && decide (max (PyData.depthAll (rs.map PyData.int) + 1) (max 0 0) + 1 ≤ 64)) = true
    rw [l1, l2]
    rfl
  · show ((PyData.showableAll (rs.map PyData.int) && ((PyData.int c).showable && true)) && ((PyData.showableAll (rs.map PyData.int) && ((PyData.int c).showable && true)) && true)) = true
    rw [h1, ic1]
    rfl
  · show ((PyData.hasDictAll (rs.map PyData.int) || (false || false)) || ((PyData.hasDictAll (rs.map PyData.int) || (false || false)) || false)) = false
    rw [h2]
    rfl
  · show max (max (PyData.depthAll (rs.map PyData.int) + 1) (max 0 0) + 1) (max (max (PyData.depthAll (rs.map PyData.int) + 1) (max 0 0) + 1) 0) + 1 ≤ 60
    rw [l2]
    decide
  · have e := PyData.shown_le 301 (by decide) (.list [rkD rs c, rkD rs c]) (by
      show ((PyData.leavesShortAll 301 (rs.map PyData.int) && ((PyData.int c).leavesShort 301 && true)) && ((PyData.leavesShortAll 301 (rs.map PyData.int) && ((PyData.int c).leavesShort 301 && true)) && true)) = true
      rw [h3, ic3]
      rfl)
    have w : (PyData.list [rkD rs c, rkD rs c]).weight ≤ 8000 := by
      show (PyData.weightAll (rs.map PyData.int) + 1 + ((PyData.int c).weight + 1 + 0)) + 1 + ((PyData.weightAll (rs.map PyData.int) + 1 + ((PyData.int c).weight + 1 + 0)) + 1 + 0) ≤ 8000
      omega
    have : (301 + 2) * (PyData.list [rkD rs c, rkD rs c]).weight ≤ (301 + 2) * 8000 := Nat.mul_le_mul_left _ w
    exact Nat.le_trans e (Nat.le_trans (Nat.add_le_add_right this _) (by decide))
end BR

/-! ### walks whatever the turn does; max of a tuple; comb -/
namespace BR
open PySem PySem.Spec PyProof.Rows L2
section
variable {K : PySem.W.Frag} {H0 : Hp} {Qd : Hp → Prop} {B : V → Hp → (Hp → Prop) → Prop}
theorem itl_by {a : Addr} {xs : List V} (Pv : Nat → Hp → Prop) (h0 : Pv 0 H0) (hl : ∀ i H, i ≤ xs.length → Pv i H → SqL K H a xs) (hs : ∀ i x H, xs[i]? = some x → Pv i H → B x H (Pv (i + 1))) (hd : ∀ H, Pv xs.length H → Qd H) :
    ∃ W : Nat → Nat → Hp → Prop, (∃ m, W 0 m H0) ∧ ∀ i m H, W i m H → ((Itl K a).stop i H ∧ Qd H) ∨ ((Itl K a).go i H ∧ ∃ Nx : Hp → Prop, (∀ H', Nx H' → ∃ m', m' < m ∧ W (i + 1) m' H') ∧ ∀ x H', (Itl K a).yld i H x H' → B x H' Nx) := by
  refine ⟨fun i m H => m = xs.length - i ∧ i ≤ xs.length ∧ Pv i H, ⟨xs.length, by simp, Nat.zero_le _, h0⟩, fun i m H => ?_⟩
  rintro ⟨rfl, hi, p⟩
  have q := hl i H hi p
  rcases Nat.lt_or_eq_of_le hi with c | c
  · refine .inr ⟨⟨xs, xs[i], q, by simp [c]⟩, Pv (i + 1), fun H' p' => ⟨xs.length - (i + 1), by omega, rfl, c, p'⟩, fun x H' y => ?_⟩
    obtain ⟨e, y⟩ := y
    subst e
    exact hs i x _ (y xs q) p
  · subst c
    exact .inl ⟨⟨xs, q, Nat.le_refl _⟩, hd H p⟩
theorem itt_by {a : Addr} {xs : List V} (Pv : Nat → Hp → Prop) (h0 : Pv 0 H0) (hl : ∀ i H, i ≤ xs.length → Pv i H → SqT K H a xs) (hs : ∀ i x H, xs[i]? = some x → Pv i H → B x H (Pv (i + 1))) (hd : ∀ H, Pv xs.length H → Qd H) :
    ∃ W : Nat → Nat → Hp → Prop, (∃ m, W 0 m H0) ∧ ∀ i m H, W i m H → ((Itt K a).stop i H ∧ Qd H) ∨ ((Itt K a).go i H ∧ ∃ Nx : Hp → Prop, (∀ H', Nx H' → ∃ m', m' < m ∧ W (i + 1) m' H') ∧ ∀ x H', (Itt K a).yld i H x H' → B x H' Nx) := by
  refine ⟨fun i m H => m = xs.length - i ∧ i ≤ xs.length ∧ Pv i H, ⟨xs.length, by simp, Nat.zero_le _, h0⟩, fun i m H => ?_⟩
  rintro ⟨rfl, hi, p⟩
  have q := hl i H hi p
  rcases Nat.lt_or_eq_of_le hi with c | c
  · refine .inr ⟨⟨xs, xs[i], q, by simp [c]⟩, Pv (i + 1), fun H' p' => ⟨xs.length - (i + 1), by omega, rfl, c, p'⟩, fun x H' y => ?_⟩
    obtain ⟨e, y⟩ := y
    subst e
    exact hs i x _ (y xs q) p
  · subst c
    exact .inl ⟨⟨xs, q, Nat.le_refl _⟩, hd H p⟩
theorem itr_by {lo : Int} {n : Nat} (Pv : Nat → Hp → Prop) (h0 : Pv 0 H0) (hs : ∀ i H, i < n → Pv i H → B (.int (lo + i)) H (Pv (i + 1))) (hd : ∀ H, Pv n H → Qd H) :
    ∃ W : Nat → Nat → Hp → Prop, (∃ m, W 0 m H0) ∧ ∀ i m H, W i m H → ((Itr lo n).stop i H ∧ Qd H) ∨ ((Itr lo n).go i H ∧ ∃ Nx : Hp → Prop, (∀ H', Nx H' → ∃ m', m' < m ∧ W (i + 1) m' H') ∧ ∀ x H', (Itr lo n).yld i H x H' → B x H' Nx) := by
  refine ⟨fun i m H => m = n - i ∧ i ≤ n ∧ Pv i H, ⟨n, by simp, Nat.zero_le _, h0⟩, fun i m H => ?_⟩
  rintro ⟨rfl, hi, p⟩
  rcases Nat.lt_or_eq_of_le hi with c | c
  · refine .inr ⟨c, Pv (i + 1), fun H' p' => ⟨n - (i + 1), by omega, rfl, c, p'⟩, fun x H' y => ?_⟩
    obtain ⟨e, y⟩ := y
    subst e y
    exact hs i _ c p
  · subst c
    exact .inl ⟨Nat.le_refl _, hd H p⟩
end
theorem small9000 {n : Nat} (h : n ≤ 9000) : n < sizeLine := by rw [sizeLine_eq]; omega
/-- the greatest of ints -/
def mx : List Int → Int
  | [] => 0
  | x :: xs => xs.foldl (fun a y => if a < y then y else a) x
theorem mx_fold : ∀ (xs : List Int) (x : Int), (x :: xs).foldl (fun a y => if a < y then y else a) x = xs.foldl (fun a y => if a < y then y else a) x := fun xs x => by
  rw [List.foldl_cons, if_neg (Int.lt_irrefl _)]
section
variable {X : Cx}
def rMaxT (K : PySem.W.Frag) : List V → Hp → VK → Prop := fun xs H Q => ∃ (a : Addr) (ns : List Int), xs = [.ref a] ∧ SqT K H a (ns.map V.int) ∧ ns ≠ [] ∧ Q (.int (mx ns)) H
theorem cr_maxT (hc : X.calm = true) (hu : X.A.units + 64 < cLine) : CallR X (.builtin "max") (rMaxT X.K) := by
  intro pins s σ H xs us Q I r h
  obtain ⟨a, ns, rfl, hq, hne, q⟩ := h
  rw [Vals.ref1 r]
  obtain ⟨its, rv, pt, _⟩ := I.tuple hq
  cases ns with
  | nil => exact absurd rfl hne
  | cons x xs =>
    obtain ⟨as, ra⟩ := Dp.readsAll I ((x :: xs).map PyData.int) _ _ (ints_all (x :: xs)) rv
    have al : ∀ d ∈ (x :: xs).map PyData.int, ∃ i, d = .int i := fun d hd => by
      obtain ⟨i, _, e⟩ := List.mem_map.mp hd
      exact ⟨i, e.symm⟩
    refine PySem.W.max_tuple_data (x := .int x) (xs := xs.map .int) (I.ok.hd hc) (show s.heap.IsTuple a its.toArray from pt) (by simpa using ra) ⟨fun d hd e he => ?_, fun d hd => ?_⟩ (by show X.A.units + 1 + PyData.depthAll ((x :: xs).map PyData.int) < cLine; rw [(ints_lay (x :: xs)).2]; omega) fun k v h' tk bs _ hr hk => ?_
    · obtain ⟨i, rfl⟩ := al d hd
      obtain ⟨j, rfl⟩ := al e he
      rfl
    · obtain ⟨i, rfl⟩ := al d hd
      exact fun z => nomatch z
    · have e : ∀ (ys : List Int) (z : Int), PySem.W.maxD (.int z) (ys.map PyData.int) = .int (ys.foldl (fun a y => if a < y then y else a) z) := by
        intro ys
        induction ys with
        | nil => exact fun z => rfl
        | cons y ys ih =>
          intro z
          have st : PySem.W.maxD (.int z) ((y :: ys).map PyData.int) = PySem.W.maxD (if PySem.W.dataLt (.int z) (.int y) then .int y else .int z) (ys.map PyData.int) := rfl
          rw [st, PySem.W.dataLt_int, List.foldl_cons]
          by_cases c : z < y
          · rw [if_pos (decide_eq_true c), if_pos c, ih]
          · rw [if_neg (fun q => c (of_decide_eq_true q)), if_neg c, ih]
      rw [e] at hr
      cases hr
      exact ⟨.int _, H, I.kept (t' := tk) hk, ⟨_, rfl⟩, q⟩
def rLenSq (K : PySem.W.Frag) : List V → Hp → VK → Prop := fun xs H Q => ∃ p ys, xs = [.ref p] ∧ (SqL K H p ys ∨ SqT K H p ys) ∧ Q (.int ys.length) H
theorem cr_lenSq : CallR X (.builtin "len") (rLenSq X.K) := call_len_seq
def rTupOf (K : PySem.W.Frag) : List V → Hp → VK → Prop := fun xs H Q => ∃ p ys, xs = [.ref p] ∧ ((SqL K H p ys ∧ ∀ l, H l = none → Q (.ref l) (L2.upd H l (.tup ys))) ∨ (SqT K H p ys ∧ Q (.ref p) H))
theorem cr_tupOf : CallR X (.type "tuple") (rTupOf X.K) := call_tuple_of
/-- comb(n, k), n below 2^300, k at most 5 -/
def cmb (n : Int) (k : Int) : Int := if n < k then 0 else Builtin.Math.fallingProduct n (min k (n - k)).toNat / Builtin.Math.fallingProduct (min k (n - k)) (min k (n - k)).toNat
theorem cr_comb : CallR X (.builtin "math.comb") (fun xs H Q => ∃ n k : Int, xs = [.int n, .int k] ∧ 0 ≤ n ∧ 0 ≤ k ∧ k ≤ 9000 ∧ (n < k ∨ (Builtin.Math.fallingProduct n (min k (n - k)).toNat / Builtin.Math.fallingProduct (min k (n - k)) (min k (n - k)).toNat).natAbs.log2 < bitsLine) ∧ Q (.int (cmb n k)) H) := by
  intro pins s σ H xs us Q I r h
  obtain ⟨n, k, rfl, n0, k0, k9, sz, q⟩ := h
  obtain ⟨t, u, rfl⟩ := Vals.int2 r
  unfold cmb at q
  by_cases c : n < k
  · rw [if_pos c] at q
    exact call_function_meets PySem.W.MGF.kind_comb PySem.W.MGF.plain_comb PySem.W.MGF.entry_comb (PySem.W.MGF.args_comb _ _) (PySem.W.mc_run_comb0 n t k u (by omega) (by omega) c).meets ⟨.int 0, H, I.tok _, ⟨_, rfl⟩, q⟩
  · rw [if_neg c] at q
    have z := sz.resolve_left c
    refine call_function_meets PySem.W.MGF.kind_comb PySem.W.MGF.plain_comb PySem.W.MGF.entry_comb (PySem.W.MGF.args_comb _ _) (PySem.W.mc_run_comb n t k u (by omega) (by omega) (by omega) ?_ ?_ (by omega) z).meets ⟨.int _, H, I.tok _, ⟨_, rfl⟩, q⟩
    · have : (9000 : Int) < Builtin.Math.maxSsize := by decide +kernel
      omega
    · have : (9000 : Int) ≤ Builtin.Math.manyFactors := by decide +kernel
      omega
end
end BR

/-! ### all rankings -/
namespace BR
open PySem PySem.Spec PyProof.Rows L2
def gapsI (r : List Int) : Int := mx r + 1 - ((srt r).length : Int)
def addR (n : Nat) (r : List Int) : List (List Int) := (List.range n).map fun x => r ++ [((x : Nat) : Int)]
def keepR (n : Nat) (r : List Int) : Bool := decide (gapsI r ≤ (n : Int) - (r.length : Int))
def rowsR (n : Nat) : Nat → List (List Int)
  | 0 => [[]]
  | k + 1 => ((rowsR n k).flatMap (addR n)).filter (keepR n)
def cutsR (r : List Int) : List (List Int × Int) := (List.range (mx r + 2).toNat).map fun c => (r, ((c : Nat) : Int))
def allRk (n : Nat) : List (List Int × Int) := (rowsR n n).flatMap cutsR
def okRk (n : Nat) (p : List Int × Int) : Bool := decide (p.1.length = n) && decide (srt p.1 = rg (srt p.1).length) && decide (0 ≤ p.2) && decide (p.2 ≤ ((srt p.1).length : Int))
theorem rows_small : ∀ n ∈ ([1, 2, 3, 4, 5] : List Nat), ∀ k ∈ List.range n, (rowsR n k).length ≤ 700 ∧ ∀ r ∈ rowsR n k, r.length = k := by decide +kernel
theorem rows_last : ∀ n ∈ ([1, 2, 3, 4, 5] : List Nat), (rowsR n n).length ≤ 700 ∧ (∀ r ∈ rowsR n n, r.length = n ∧ 0 ≤ mx r ∧ mx r ≤ 4) := by decide +kernel
theorem all_len : [1, 2, 3, 4, 5].map (fun n => (allRk n).length) = [2, 8, 44, 308, 2612] := by decide +kernel
theorem all_ok : ∀ n ∈ ([1, 2, 3, 4, 5] : List Nat), (allRk n).all (okRk n) = true := by decide +kernel
theorem five {n : Nat} (h1 : 1 ≤ n) (h2 : n ≤ 5) : n ∈ ([1, 2, 3, 4, 5] : List Nat) := by
  have : n = 1 ∨ n = 2 ∨ n = 3 ∨ n = 4 ∨ n = 5 := by omega
  simpa using this
theorem flat_len {α β : Type} {f : α → List β} {m : Nat} : ∀ {l : List α}, (∀ x ∈ l, (f x).length ≤ m) → (l.flatMap f).length ≤ l.length * m
  | [], _ => Nat.zero_le _
  | x :: l, h => by
    rw [List.flatMap_cons, List.length_append, List.length_cons, Nat.succ_mul]
    have a := h x List.mem_cons_self
    have b := flat_len (f := f) (m := m) (l := l) fun y hy => h y (List.mem_cons_of_mem _ hy)
    omega
/-- refs to tuples of ints -/
def TL (H : Hp) (as : List Addr) (rows : List (List Int)) : Prop := Paired (fun a row => H a = some (.tup (row.map V.int))) as rows
theorem pr_mono {α β : Type} {R S : α → β → Prop} : ∀ {as : List α} {bs : List β}, Paired R as bs → (∀ a b, R a b → S a b) → Paired S as bs
  | _, _, .nil, _ => .nil
  | _, _, .cons h t, m => .cons (m _ _ h) (pr_mono t m)
theorem pr_snoc {α β : Type} {R : α → β → Prop} {a : α} {b : β} : ∀ {as : List α} {bs : List β}, Paired R as bs → R a b → Paired R (as ++ [a]) (bs ++ [b])
  | _, _, .nil, r => .cons r .nil
  | _, _, .cons h t, r => .cons h (pr_snoc t r)
theorem pr_len {α β : Type} {R : α → β → Prop} : ∀ {as : List α} {bs : List β}, Paired R as bs → as.length = bs.length
  | _, _, .nil => rfl
  | _, _, .cons _ t => congrArg Nat.succ (pr_len t)
theorem pr_at {α β : Type} {R : α → β → Prop} : ∀ {as : List α} {bs : List β}, Paired R as bs → ∀ {i : Nat} {a : α}, as[i]? = some a → ∃ b, bs[i]? = some b ∧ R a b
  | _, _, .cons h t, 0, a, e => by
    cases e
    exact ⟨_, rfl, h⟩
  | _, _, .cons h t, i + 1, a, e => pr_at t (i := i) e
theorem pr_at2 {α β : Type} {R : α → β → Prop} : ∀ {as : List α} {bs : List β}, Paired R as bs → ∀ {i : Nat} {b : β}, bs[i]? = some b → ∃ a, as[i]? = some a ∧ R a b
  | _, _, .cons h t, 0, a, e => by
    cases e
    exact ⟨_, rfl, h⟩
  | _, _, .cons h t, i + 1, a, e => pr_at2 t (i := i) e
theorem TL.same {H H' : Hp} {as : List Addr} {rows : List (List Int)} (h : TL H as rows) (s : Same H H') : TL H' as rows := pr_mono h fun a r e => s _ _ e
theorem TL.put {H : Hp} {as : List Addr} {rows : List (List Int)} {D : Addr} {xs : List V} {o : HO} (h : TL H as rows) (e : H D = some (.lst xs)) : TL (L2.upd H D o) as rows := pr_mono h fun a r q => by
  rw [upd_ne (fun z => by rw [z, e] at q; cases q)]
  exact q
/-- refs to rankings -/
def RL (H : Hp) (qs : List Addr) (ps : List (List Int × Int)) : Prop := Paired (fun q p => ∃ rt, RkAt H q rt p.1 p.2) qs ps
theorem RL.same {H H' : Hp} {qs : List Addr} {ps : List (List Int × Int)} (h : RL H qs ps) (s : Same H H') : RL H' qs ps := pr_mono h fun q p e => let ⟨rt, r⟩ := e; ⟨rt, r.same s⟩
theorem RL.put {H : Hp} {qs : List Addr} {ps : List (List Int × Int)} {D : Addr} {xs : List V} {o : HO} (h : RL H qs ps) (e : H D = some (.lst xs)) : RL (L2.upd H D o) qs ps := pr_mono h fun q p r => by
  obtain ⟨rt, r1, r2⟩ := r
  exact ⟨rt, by rw [upd_ne (fun z => by rw [z, e] at r1; cases r1)]; exact r1, by rw [upd_ne (fun z => by rw [z, e] at r2; cases r2)]; exact r2⟩
theorem mapR_at {as : List Addr} {i : Nat} {x : V} (h : (as.map V.ref)[i]? = some x) : ∃ a, as[i]? = some a ∧ x = .ref a := by
  rw [List.getElem?_map] at h
  cases e : as[i]? with
  | none =>
    rw [e] at h
    cases h
  | some a =>
    rw [e] at h
    cases h
    exact ⟨a, rfl, rfl⟩
theorem flat_take {α β : Type} {f : α → List β} {l : List α} {i : Nat} {x : α} (h : l[i]? = some x) : (l.take (i + 1)).flatMap f = (l.take i).flatMap f ++ f x := by
  rw [List.take_add_one, h, List.flatMap_append]
  simp
theorem addR_take {n j : Nat} {r : List Int} (h : j < n) : (addR n r).take (j + 1) = (addR n r).take j ++ [r ++ [((j : Nat) : Int)]] := by
  have e : (addR n r)[j]? = some (r ++ [((j : Nat) : Int)]) := by
    unfold addR
    rw [List.getElem?_map, List.getElem?_range h]
    rfl
  rw [List.take_add_one, e]
  rfl
theorem cutsR_take {j : Nat} {r : List Int} (h : j < (mx r + 2).toNat) : (cutsR r).take (j + 1) = (cutsR r).take j ++ [(r, ((j : Nat) : Int))] := by
  have e : (cutsR r)[j]? = some (r, ((j : Nat) : Int)) := by
    unfold cutsR
    rw [List.getElem?_map, List.getElem?_range h]
    rfl
  rw [List.take_add_one, e]
  rfl
end BR

/-! ### words counted; words turned; outcomes tell rankings -/
namespace BR
open PySem PySem.Spec PyProof.Rows L2
theorem cmb_small : ∀ n ∈ List.range 8, ∀ k ∈ List.range 5, (k = 0 → cmb (n : Int) k = 1) ∧ (k = 1 → cmb (n : Int) k = n) ∧ (k = 2 → 2 * cmb (n : Int) k = (n : Int) * ((n : Int) - 1)) ∧ (k = 3 → 6 * cmb (n : Int) k = (n : Int) * ((n : Int) - 1) * ((n : Int) - 2)) ∧ (k = 4 → 24 * cmb (n : Int) k = (n : Int) * ((n : Int) - 1) * ((n : Int) - 2) * ((n : Int) - 3)) := by decide +kernel
theorem fall_nn {n : Int} (k : Nat) (h : (k : Int) ≤ n) : 0 ≤ Builtin.Math.fallingProduct n k := by
  induction k with
  | zero => exact (by decide : (0 : Int) ≤ 1)
  | succ k ih =>
    unfold Builtin.Math.fallingProduct at ih ⊢
    rw [List.range_succ, List.foldl_append]
    exact Int.mul_nonneg (ih (by omega)) (by omega)
theorem cmb_polys {n : Int} (h : 0 ≤ n) : cmb n 0 = 1 ∧ cmb n 1 = n ∧ 2 * cmb n 2 = n * (n - 1) ∧ 6 * cmb n 3 = n * (n - 1) * (n - 2) ∧ 24 * cmb n 4 = n * (n - 1) * (n - 2) * (n - 3) := by
  by_cases c : n < 8
  · obtain ⟨a, rfl⟩ := Int.eq_ofNat_of_zero_le h
    have s := cmb_small a (List.mem_range.mpr (by omega))
    exact ⟨(s 0 (by decide)).1 rfl, (s 1 (by decide)).2.1 rfl, (s 2 (by decide)).2.2.1 rfl, (s 3 (by decide)).2.2.2.1 rfl, (s 4 (by decide)).2.2.2.2 rfl⟩
  · have e : ∀ k : Nat, k ≤ 4 → cmb n (k : Int) = Builtin.Math.fallingProduct n k / Builtin.Math.fallingProduct (k : Int) k := fun k hk => by
      unfold cmb
      rw [if_neg (by omega)]
      have m : min (k : Int) (n - k) = (k : Int) := by omega
      rw [m]
      rfl
    have f0 : cmb n 0 = 1 := by rw [show (0 : Int) = ((0 : Nat) : Int) from rfl, e 0 (by decide)]; rfl
    have f1 : cmb n 1 = n := by
      rw [show (1 : Int) = ((1 : Nat) : Int) from rfl, e 1 (by decide)]
      show (1 * (n - 0)) / 1 = n
      omega
    have f2 : cmb n 2 = (1 * (n - 0) * (n - 1)) / 2 := by rw [show (2 : Int) = ((2 : Nat) : Int) from rfl, e 2 (by decide)]; rfl
    have f3 : cmb n 3 = (1 * (n - 0) * (n - 1) * (n - 2)) / 6 := by rw [show (3 : Int) = ((3 : Nat) : Int) from rfl, e 3 (by decide)]; rfl
    have f4 : cmb n 4 = (1 * (n - 0) * (n - 1) * (n - 2) * (n - 3)) / 24 := by rw [show (4 : Int) = ((4 : Nat) : Int) from rfl, e 4 (by decide)]; rfl
    have d2 : (n * (n - 1)) % 2 = 0 := by
      have : n % 2 = 0 ∨ n % 2 = 1 := by omega
      rcases this with h | h <;> simp [Int.mul_emod, Int.sub_emod, h]
    have d3 : (n * (n - 1) * (n - 2)) % 6 = 0 := by
      have : n % 6 = 0 ∨ n % 6 = 1 ∨ n % 6 = 2 ∨ n % 6 = 3 ∨ n % 6 = 4 ∨ n % 6 = 5 := by omega
      rcases this with h | h | h | h | h | h <;> simp [Int.mul_emod, Int.sub_emod, h]
    have d4 : (n * (n - 1) * (n - 2) * (n - 3)) % 24 = 0 := by
      have : n % 24 = 0 ∨ n % 24 = 1 ∨ n % 24 = 2 ∨ n % 24 = 3 ∨ n % 24 = 4 ∨ n % 24 = 5 ∨ n % 24 = 6 ∨ n % 24 = 7 ∨ n % 24 = 8 ∨ n % 24 = 9 ∨ n % 24 = 10 ∨ n % 24 = 11 ∨ n % 24 = 12 ∨ n % 24 = 13 ∨ n % 24 = 14 ∨ n % 24 = 15 ∨ n % 24 = 16 ∨ n % 24 = 17 ∨ n % 24 = 18 ∨ n % 24 = 19 ∨ n % 24 = 20 ∨ n % 24 = 21 ∨ n % 24 = 22 ∨ n % 24 = 23 := by omega
      rcases this with h | h | h | h | h | h | h | h | h | h | h | h | h | h | h | h | h | h | h | h | h | h | h | h <;> simp [Int.mul_emod, Int.sub_emod, h]
    rw [Int.one_mul, Int.sub_zero] at f2 f3 f4
    refine ⟨f0, f1, ?_, ?_, ?_⟩
    · rw [f2]
      generalize n * (n - 1) = z at d2
      omega
    · rw [f3]
      generalize n * (n - 1) * (n - 2) = z at d3
      omega
    · rw [f4]
      generalize n * (n - 1) * (n - 2) * (n - 3) = z at d4
      omega
/-- how many words a ranking has -/
def wordsOf (h : Int) (p : List Int × Int) : Int := cmb h p.2 * cmb h (((srt p.1).length : Int) - p.2)
def shape (p : List Int × Int) : Nat × Nat := (p.2.toNat, (((srt p.1).length : Int) - p.2).toNat)
def cnt {α : Type} [DecidableEq α] (l : List α) (x : α) : Nat := l.count x
theorem sum_count {α : Type} [DecidableEq α] (f : α → Int) : ∀ (l s : List α), s.Nodup → (∀ x ∈ l, x ∈ s) → (l.map f).sum = (s.map fun x => ((cnt l x : Nat) : Int) * f x).sum
  | [], s, _, _ => by
    have : (s.map fun x => ((cnt ([] : List α) x : Nat) : Int) * f x) = s.map fun _ => (0 : Int) := List.map_congr_left fun x _ => by simp [cnt]
    rw [this]
    have z : ∀ s : List α, (s.map fun _ => (0 : Int)).sum = 0 := fun s => by
      induction s with
      | nil => rfl
      | cons x s ih => rw [List.map_cons, List.sum_cons, ih]; rfl
    rw [z]
    rfl
  | y :: l, s, nd, h => by
    have ih := sum_count f l s nd fun x hx => h x (List.mem_cons_of_mem _ hx)
    have my := h y List.mem_cons_self
    rw [List.map_cons, List.sum_cons, ih]
    have g : ∀ (t : List α), t.Nodup → (t.map fun x => ((cnt (y :: l) x : Nat) : Int) * f x).sum = (if y ∈ t then f y else 0) + (t.map fun x => ((cnt l x : Nat) : Int) * f x).sum := by
      unfold cnt
      intro t
      induction t with
      | nil => intro _; rfl
      | cons x t iht =>
        intro ndt
        obtain ⟨nx, nt⟩ := List.nodup_cons.mp ndt
        rw [List.map_cons, List.sum_cons, List.map_cons, List.sum_cons, iht nt]
        by_cases e : y = x
        · subst e
          rw [if_neg nx, if_pos List.mem_cons_self, List.count_cons_self]
          have : (((l.count y + 1 : Nat) : Int)) * f y = f y + ((l.count y : Nat) : Int) * f y := by
            rw [Int.natCast_add, Int.add_mul]
            omega
          rw [this]
          omega
        · rw [List.count_cons_of_ne e]
          have m : (y ∈ x :: t) ↔ y ∈ t := by simp [e]
          by_cases q : y ∈ t
          · rw [if_pos q, if_pos (m.mpr q)]
            omega
          · rw [if_neg q, if_neg (fun z => q (m.mp z))]
            omega
    rw [g s nd, if_pos my]
theorem words_shape (h : Int) (p : List Int × Int) (c0 : 0 ≤ p.2) (cm : p.2 ≤ ((srt p.1).length : Int)) : wordsOf h p = cmb h ((shape p).1 : Int) * cmb h ((shape p).2 : Int) := by
  unfold wordsOf shape
  rw [Int.toNat_of_nonneg c0, Int.toNat_of_nonneg (by omega)]
def keys (n : Nat) : List (Nat × Nat) := (List.range (n + 1)).flatMap fun i => (List.range (n + 1 - i)).map fun j => (i, j)
theorem shape_in : ∀ n ∈ ([1, 2, 3, 4] : List Nat), (keys n).Nodup ∧ ∀ x ∈ (allRk n).map shape, x ∈ keys n := by decide +kernel
theorem ok_at {n : Nat} (h1 : 1 ≤ n) (h2 : n ≤ 5) {p : List Int × Int} (m : p ∈ allRk n) : p.1.length = n ∧ IsRk p.1 (srt p.1).length ∧ 0 ≤ p.2 ∧ p.2 ≤ ((srt p.1).length : Int) := by
  have o := List.all_eq_true.mp (all_ok n (five h1 h2)) p m
  unfold okRk at o
  simp only [Bool.and_eq_true, decide_eq_true_eq] at o
  obtain ⟨⟨⟨a, b⟩, c⟩, d⟩ := o
  refine ⟨a, fun k => ?_, c, d⟩
  rw [← srt_mem (l := p.1), b, rg_len, rg_mem]
theorem sum_all {h : Int} (h0 : 0 ≤ h) {n : Nat} (h1 : 1 ≤ n) (h4 : n ≤ 4) : ((allRk n).map (wordsOf h)).sum = (2 * h) ^ n := by
  have e : (allRk n).map (wordsOf h) = ((allRk n).map shape).map fun s => cmb h (s.1 : Int) * cmb h (s.2 : Int) := by
    rw [List.map_map]
    refine List.map_congr_left fun p m => ?_
    obtain ⟨_, _, c0, cm⟩ := ok_at h1 (by omega) m
    exact words_shape h p c0 cm
  obtain ⟨b0, b1, b2, b3, b4⟩ := cmb_polys h0
  have m4 : n ∈ ([1, 2, 3, 4] : List Nat) := by
    have : n = 1 ∨ n = 2 ∨ n = 3 ∨ n = 4 := by omega
    simpa using this
  obtain ⟨k1, k2⟩ := shape_in n m4
  rw [e, sum_count _ _ _ k1 k2]
  have : n = 1 ∨ n = 2 ∨ n = 3 ∨ n = 4 := by omega
  rcases this with rfl | rfl | rfl | rfl
  · have q : ((keys 1).map fun x => (x, cnt ((allRk 1).map shape) x)) = [((0, 0), 0), ((0, 1), 1), ((1, 0), 1)] := by decide +kernel
    have q2 := congrArg (List.map fun y : (Nat × Nat) × Nat => ((y.2 : Nat) : Int) * (cmb h (y.1.1 : Int) * cmb h (y.1.2 : Int))) q
    rw [List.map_map] at q2
    rw [show (keys 1).map (fun x => ((cnt ((allRk 1).map shape) x : Nat) : Int) * (cmb h (x.1 : Int) * cmb h (x.2 : Int))) = _ from q2]
    show 0 * (cmb h 0 * cmb h 0) + (1 * (cmb h 0 * cmb h 1) + (1 * (cmb h 1 * cmb h 0) + 0)) = (2 * h) ^ 1
    rw [b0, b1]
    grind
  · have q : ((keys 2).map fun x => (x, cnt ((allRk 2).map shape) x)) = [((0, 0), 0), ((0, 1), 1), ((0, 2), 2), ((1, 0), 1), ((1, 1), 2), ((2, 0), 2)] := by decide +kernel
    have q2 := congrArg (List.map fun y : (Nat × Nat) × Nat => ((y.2 : Nat) : Int) * (cmb h (y.1.1 : Int) * cmb h (y.1.2 : Int))) q
    rw [List.map_map] at q2
    rw [show (keys 2).map (fun x => ((cnt ((allRk 2).map shape) x : Nat) : Int) * (cmb h (x.1 : Int) * cmb h (x.2 : Int))) = _ from q2]
    show 0 * (cmb h 0 * cmb h 0) + (1 * (cmb h 0 * cmb h 1) + (2 * (cmb h 0 * cmb h 2) + (1 * (cmb h 1 * cmb h 0) + (2 * (cmb h 1 * cmb h 1) + (2 * (cmb h 2 * cmb h 0) + 0))))) = (2 * h) ^ 2
    rw [b0, b1]
    grind
  · have q : ((keys 3).map fun x => (x, cnt ((allRk 3).map shape) x)) = [((0, 0), 0), ((0, 1), 1), ((0, 2), 6), ((0, 3), 6), ((1, 0), 1), ((1, 1), 6), ((1, 2), 6), ((2, 0), 6), ((2, 1), 6), ((3, 0), 6)] := by decide +kernel
    have q2 := congrArg (List.map fun y : (Nat × Nat) × Nat => ((y.2 : Nat) : Int) * (cmb h (y.1.1 : Int) * cmb h (y.1.2 : Int))) q
    rw [List.map_map] at q2
    rw [show (keys 3).map (fun x => ((cnt ((allRk 3).map shape) x : Nat) : Int) * (cmb h (x.1 : Int) * cmb h (x.2 : Int))) = _ from q2]
    show 0 * (cmb h 0 * cmb h 0) + (1 * (cmb h 0 * cmb h 1) + (6 * (cmb h 0 * cmb h 2) + (6 * (cmb h 0 * cmb h 3) + (1 * (cmb h 1 * cmb h 0) + (6 * (cmb h 1 * cmb h 1) + (6 * (cmb h 1 * cmb h 2) + (6 * (cmb h 2 * cmb h 0) + (6 * (cmb h 2 * cmb h 1) + (6 * (cmb h 3 * cmb h 0) + 0))))))))) = (2 * h) ^ 3
    rw [b0, b1]
    grind
  · have q : ((keys 4).map fun x => (x, cnt ((allRk 4).map shape) x)) = [((0, 0), 0), ((0, 1), 1), ((0, 2), 14), ((0, 3), 36), ((0, 4), 24), ((1, 0), 1), ((1, 1), 14), ((1, 2), 36), ((1, 3), 24), ((2, 0), 14), ((2, 1), 36), ((2, 2), 24), ((3, 0), 36), ((3, 1), 24), ((4, 0), 24)] := by decide +kernel
    have q2 := congrArg (List.map fun y : (Nat × Nat) × Nat => ((y.2 : Nat) : Int) * (cmb h (y.1.1 : Int) * cmb h (y.1.2 : Int))) q
    rw [List.map_map] at q2
    rw [show (keys 4).map (fun x => ((cnt ((allRk 4).map shape) x : Nat) : Int) * (cmb h (x.1 : Int) * cmb h (x.2 : Int))) = _ from q2]
    show 0 * (cmb h 0 * cmb h 0) + (1 * (cmb h 0 * cmb h 1) + (14 * (cmb h 0 * cmb h 2) + (36 * (cmb h 0 * cmb h 3) + (24 * (cmb h 0 * cmb h 4) + (1 * (cmb h 1 * cmb h 0) + (14 * (cmb h 1 * cmb h 1) + (36 * (cmb h 1 * cmb h 2) + (24 * (cmb h 1 * cmb h 3) + (14 * (cmb h 2 * cmb h 0) + (36 * (cmb h 2 * cmb h 1) + (24 * (cmb h 2 * cmb h 2) + (36 * (cmb h 3 * cmb h 0) + (24 * (cmb h 3 * cmb h 1) + (24 * (cmb h 4 * cmb h 0) + 0)))))))))))))) = (2 * h) ^ 4
    rw [b0, b1]
    grind
end BR

/-! ### ranks of turned words; outcomes tell rankings -/
namespace BR
open PySem PySem.Spec PyProof.Rows L2
/-- ranks of f's values: how many different words have less -/
theorem rk_image {f : Int → Int} {xs : List Int} (inj : ∀ x ∈ xs, ∀ y ∈ xs, f x = f y → x = y) (z : Int) : rk (srt (xs.map f)) z = ((srt xs).filter fun y => decide (f y < z)).length := by
  have nd : (((srt xs).filter fun y => decide (f y < z)).map f).Nodup := by
    rw [List.Nodup, List.pairwise_map]
    have n0 : ((srt xs).filter fun y => decide (f y < z)).Nodup := (up_nodup (srt_up xs)).filter _
    have : ((srt xs).filter fun y => decide (f y < z)).Pairwise fun a b => a ∈ xs ∧ b ∈ xs ∧ a ≠ b := by
      refine List.Pairwise.imp_of_mem ?_ n0
      intro a b ha hb ne
      exact ⟨srt_mem.mp (List.mem_filter.mp ha).1, srt_mem.mp (List.mem_filter.mp hb).1, ne⟩
    exact this.imp fun h e => h.2.2 (inj _ h.1 _ h.2.1 e)
  have e := card_one nd ((up_nodup (srt_up (xs.map f))).filter fun y => decide (y < z)) fun k => by
    rw [List.mem_map, List.mem_filter, srt_mem, List.mem_map, decide_eq_true_eq]
    constructor
    · rintro ⟨x, hx, rfl⟩
      obtain ⟨h1, h2⟩ := List.mem_filter.mp hx
      exact ⟨⟨x, srt_mem.mp h1, rfl⟩, of_decide_eq_true h2⟩
    · rintro ⟨⟨x, hx, rfl⟩, h2⟩
      exact ⟨x, List.mem_filter.mpr ⟨srt_mem.mpr hx, decide_eq_true h2⟩, rfl⟩
  rw [List.length_map] at e
  unfold rk
  rw [← e]
theorem filt_congr {l : List Int} {p q : Int → Bool} (h : ∀ y ∈ l, p y = q y) : (l.filter p).length = (l.filter q).length := by
  rw [List.filter_congr h]
theorem filt_not (l : List Int) (p : Int → Bool) : (l.filter p).length + (l.filter fun y => !p y).length = l.length := by
  induction l with
  | nil => rfl
  | cons y l ih =>
    rw [List.filter_cons, List.filter_cons]
    cases p y <;> simp <;> omega
/-- between two bounds -/
theorem filt_between {l : List Int} {a b : Int} (h : a ≤ b) : (l.filter fun y => decide (a ≤ y) && decide (y < b)).length + rk l a = rk l b := by
  induction l with
  | nil => rfl
  | cons y l ih =>
    rw [rk_cons, rk_cons, List.filter_cons]
    by_cases c : a ≤ y <;> by_cases d : y < b <;> simp [c, d] <;> split <;> omega
theorem filt_above (l : List Int) (a : Int) : (l.filter fun y => decide (a ≤ y)).length + rk l a = l.length := by
  have := filt_not l fun y => decide (y < a)
  have e := filt_congr (l := l) (p := fun y => !decide (y < a)) (q := fun y => decide (a ≤ y)) fun y _ => by
    by_cases c : a ≤ y
    · simp [c]
    · simp [c]
      omega
  unfold rk
  omega
theorem filt_above2 {l : List Int} (nd : l.Nodup) {x : Int} (hx : x ∈ l) : (l.filter fun y => decide (x < y)).length + rk l x + 1 = l.length := by
  have h1 := filt_above l x
  have e : ∀ l : List Int, l.Nodup → (l.filter fun y => decide (x ≤ y)).length = (l.filter fun y => decide (x < y)).length + if x ∈ l then 1 else 0 := by
    intro l
    induction l with
    | nil => intro _; rfl
    | cons y l ih =>
      intro nd
      obtain ⟨ny, nl⟩ := List.nodup_cons.mp nd
      have i := ih nl
      rw [List.filter_cons, List.filter_cons]
      by_cases c : y = x
      · subst c
        rw [if_neg ny] at i
        simp [i]
      · have m : (x ∈ y :: l) ↔ x ∈ l := by rw [List.mem_cons]; exact ⟨fun z => z.resolve_left (fun e => c e.symm), .inr⟩
        by_cases d : x ≤ y
        · have d2 : x < y := by omega
          by_cases q : x ∈ l
          · rw [if_pos q] at i
            rw [if_pos (m.mpr q)]
            simp [d, d2]
            omega
          · rw [if_neg q] at i
            rw [if_neg (fun z => q (m.mp z))]
            simp [d, d2]
            omega
        · have d2 : ¬ x < y := by omega
          by_cases q : x ∈ l
          · rw [if_pos q] at i
            rw [if_pos (m.mpr q)]
            simp [d, d2]
            omega
          · rw [if_neg q] at i
            rw [if_neg (fun z => q (m.mp z))]
            simp [d, d2]
            omega
  have := e l nd
  rw [if_pos hx] at this
  omega
/-- what stands after a turn -/
def turnR (c m r : Int) : Int := if c ≤ r then r - c else r + m - c
theorem rks_flip {wd : Int} {xs : List Int} (h1 : 1 ≤ wd) (w : ∀ x ∈ xs, 0 ≤ x ∧ x < 2 ^ wd.toNat) :
    rks (xs.map (fl wd)) = (rks xs).map (turnR (ct xs (2 ^ (wd - 1).toNat)) ((srt xs).length : Int)) ∧ ct (xs.map (fl wd)) (2 ^ (wd - 1).toNat) = ((srt xs).length : Int) - ct xs (2 ^ (wd - 1).toNat) := by
  have e2 := two_half h1
  have inj : ∀ x ∈ xs, ∀ y ∈ xs, fl wd x = fl wd y → x = y := fun x hx y hy e => by
    rw [← fl_fl h1 (w x hx), ← fl_fl h1 (w y hy), e]
  refine ⟨?_, ?_⟩
  · unfold rks
    rw [List.map_map, List.map_map]
    refine List.map_congr_left fun x hx => ?_
    show ((rk (srt (xs.map (fl wd))) (fl wd x) : Nat) : Int) = turnR _ _ ((rk (srt xs) x : Nat) : Int)
    rw [rk_image inj]
    have mx := srt_mem.mpr hx
    have cc := rk_cut (h := (2 : Int) ^ (wd - 1).toNat) mx
    have wx := w x hx
    unfold turnR ct
    by_cases c : x < 2 ^ (wd - 1).toNat
    · have lt := cc.mp c
      rw [if_neg (by omega)]
      have q := filt_congr (l := srt xs) (p := fun y => decide (fl wd y < fl wd x)) (q := fun y => !(decide (x ≤ y) && decide (y < 2 ^ (wd - 1).toNat))) fun y hy => by
        have wy := w y (srt_mem.mp hy)
        have : (fl wd y < fl wd x) ↔ ¬ (x ≤ y ∧ y < 2 ^ (wd - 1).toNat) := by
          unfold fl
          rw [if_pos c]
          split <;> omega
        rw [← Bool.decide_and, ← decide_not]
        exact decide_eq_decide.mpr this
      have n := filt_not (srt xs) fun y => (decide (x ≤ y) && decide (y < 2 ^ (wd - 1).toNat))
      have b := filt_between (l := srt xs) (show x ≤ 2 ^ (wd - 1).toNat by omega)
      rw [q]
      omega
    · have ge : ¬ rk (srt xs) x < rk (srt xs) (2 ^ (wd - 1).toNat) := fun z => c (cc.mpr z)
      rw [if_pos (by omega)]
      have q := filt_congr (l := srt xs) (p := fun y => decide (fl wd y < fl wd x)) (q := fun y => (decide (2 ^ (wd - 1).toNat ≤ y) && decide (y < x))) fun y hy => by
        have wy := w y (srt_mem.mp hy)
        have : (fl wd y < fl wd x) ↔ (2 ^ (wd - 1).toNat ≤ y ∧ y < x) := by
          unfold fl
          rw [if_neg c]
          split <;> omega
        rw [← Bool.decide_and]
        exact decide_eq_decide.mpr this
      have b := filt_between (l := srt xs) (show (2 : Int) ^ (wd - 1).toNat ≤ x by omega)
      rw [q]
      omega
  · unfold ct
    rw [rk_image inj]
    have q := filt_congr (l := srt xs) (p := fun y => decide (fl wd y < 2 ^ (wd - 1).toNat)) (q := fun y => decide (2 ^ (wd - 1).toNat ≤ y)) fun y hy => by
      have wy := w y (srt_mem.mp hy)
      refine decide_eq_decide.mpr ?_
      unfold fl
      split <;> omega
    have a := filt_above (srt xs) (2 ^ (wd - 1).toNat)
    rw [q]
    omega
theorem rks_inv {wd : Int} {xs : List Int} (h1 : 1 ≤ wd) (w : ∀ x ∈ xs, 0 ≤ x ∧ x < 2 ^ wd.toNat) :
    rks (xs.map (iv wd)) = (rks xs).map (fun r => ((srt xs).length : Int) - 1 - r) ∧ ct (xs.map (iv wd)) (2 ^ (wd - 1).toNat) = ((srt xs).length : Int) - ct xs (2 ^ (wd - 1).toNat) := by
  have e2 := two_half h1
  have inj : ∀ x ∈ xs, ∀ y ∈ xs, iv wd x = iv wd y → x = y := fun x hx y hy e => by
    rw [← iv_iv wd x, ← iv_iv wd y, e]
  refine ⟨?_, ?_⟩
  · unfold rks
    rw [List.map_map, List.map_map]
    refine List.map_congr_left fun x hx => ?_
    show ((rk (srt (xs.map (iv wd))) (iv wd x) : Nat) : Int) = ((srt xs).length : Int) - 1 - ((rk (srt xs) x : Nat) : Int)
    rw [rk_image inj]
    have q := filt_congr (l := srt xs) (p := fun y => decide (iv wd y < iv wd x)) (q := fun y => decide (x < y)) fun y hy => by
      refine decide_eq_decide.mpr ?_
      unfold iv
      omega
    have a := filt_above2 (up_nodup (srt_up xs)) (srt_mem.mpr hx)
    rw [q]
    omega
  · unfold ct
    rw [rk_image inj]
    have q := filt_congr (l := srt xs) (p := fun y => decide (iv wd y < 2 ^ (wd - 1).toNat)) (q := fun y => decide (2 ^ (wd - 1).toNat ≤ y)) fun y hy => by
      refine decide_eq_decide.mpr ?_
      unfold iv
      omega
    have a := filt_above (srt xs) (2 ^ (wd - 1).toNat)
    rw [q]
    omega
theorem rks_ext {wd wi : Int} {xs : List Int} (h1 : 1 ≤ wd) (h2 : wd ≤ wi) (w : ∀ x ∈ xs, 0 ≤ x ∧ x < 2 ^ wd.toNat) :
    rks (xs.map (ex wd wi)) = rks xs ∧ ct (xs.map (ex wd wi)) (2 ^ (wi - 1).toNat) = ct xs (2 ^ (wd - 1).toNat) := by
  have e2 := two_half h1
  have e3 := two_half (show 1 ≤ wi by omega)
  have le := pow_le (a := (wd - 1).toNat) (b := (wi - 1).toNat) (by omega)
  have mono : ∀ x ∈ xs, ∀ y ∈ xs, (ex wd wi x < ex wd wi y ↔ x < y) := fun x hx y hy => by
    have wx := w x hx
    have wy := w y hy
    unfold ex
    split <;> split <;> constructor <;> intro _ <;> omega
  have inj : ∀ x ∈ xs, ∀ y ∈ xs, ex wd wi x = ex wd wi y → x = y := fun x hx y hy e => by
    have a := mono x hx y hy
    have b := mono y hy x hx
    omega
  refine ⟨?_, ?_⟩
  · unfold rks
    rw [List.map_map]
    refine List.map_congr_left fun x hx => ?_
    show ((rk (srt (xs.map (ex wd wi))) (ex wd wi x) : Nat) : Int) = ((rk (srt xs) x : Nat) : Int)
    rw [rk_image inj]
    unfold rk
    rw [filt_congr (l := srt xs) (p := fun y => decide (ex wd wi y < ex wd wi x)) (q := fun y => decide (y < x)) fun y hy => decide_eq_decide.mpr (mono y (srt_mem.mp hy) x hx)]
  · unfold ct
    rw [rk_image inj]
    unfold rk
    rw [filt_congr (l := srt xs) (p := fun y => decide (ex wd wi y < 2 ^ (wi - 1).toNat)) (q := fun y => decide (y < 2 ^ (wd - 1).toNat)) fun y hy => by
      have wy := w y (srt_mem.mp hy)
      refine decide_eq_decide.mpr ?_
      unfold ex
      split <;> constructor <;> intro _ <;> omega]
theorem ct_all {xs : List Int} {h : Int} (w : ∀ x ∈ xs, x < h) : ct xs h = ((srt xs).length : Int) := by
  unfold ct rk
  rw [List.filter_eq_self.mpr fun y hy => decide_eq_true (w y (srt_mem.mp hy))]
theorem mx_is {rs : List Int} {m : Nat} (hm : 0 < m) (is : IsRk rs m) : mx rs = (m : Int) - 1 := by
  have g : ∀ (l : List Int) (z : Int), (l.foldl (fun a y => if a < y then y else a) z ∈ z :: l) ∧ ∀ y ∈ z :: l, y ≤ l.foldl (fun a y => if a < y then y else a) z := by
    intro l
    induction l with
    | nil => exact fun z => ⟨List.mem_cons_self, fun y hy => by rw [List.mem_singleton.mp hy]; exact Int.le_refl _⟩
    | cons y l ih =>
      intro z
      rw [List.foldl_cons]
      obtain ⟨a, b⟩ := ih (if z < y then y else z)
      refine ⟨?_, fun k hk => ?_⟩
      · rcases List.mem_cons.mp a with e | e
        · rw [e]
          split
          · exact List.mem_cons_of_mem _ List.mem_cons_self
          · exact List.mem_cons_self
        · exact List.mem_cons_of_mem _ (List.mem_cons_of_mem _ e)
      · have hz := b _ List.mem_cons_self
        rcases List.mem_cons.mp hk with rfl | hk
        · exact Int.le_trans (show k ≤ if k < y then y else k by split <;> omega) hz
        · rcases List.mem_cons.mp hk with rfl | hk
          · exact Int.le_trans (show k ≤ if z < k then k else z by split <;> omega) hz
          · exact b k (List.mem_cons_of_mem _ hk)
  cases rs with
  | nil => exact absurd ((is 0).mpr ⟨by omega, by omega⟩) (by simp)
  | cons x l =>
    obtain ⟨a, b⟩ := g l x
    have h1 := (is _).mp a
    have h2 := b ((m : Int) - 1) ((is _).mpr ⟨by omega, by omega⟩)
    show l.foldl (fun a y => if a < y then y else a) x = (m : Int) - 1
    omega
theorem srt_pos {xs : List Int} (h : xs ≠ []) : 0 < (srt xs).length := by
  cases xs with
  | nil => exact absurd rfl h
  | cons x l =>
    refine List.length_pos_of_mem (a := x) (srt_mem.mpr List.mem_cons_self)
/-! outcomes of all pairs -/
def shownR (rs : List Int) (c : Int) : List Str := rs.flatMap fun a => rs.map fun b => ocut c a b
def single (rs : List Int) (c : Int) : Bool := decide (c = 0) || decide (c = mx rs + 1)
theorem oc_facts {c a b : Int} : (ocut c a b = "E" ↔ a = b) ∧ ((ocut c a b = "LB" ∨ ocut c a b = "GB") ↔ a < b) ∧ ((ocut c a b = "LA" ∨ ocut c a b = "GB") ↔ a ≠ b ∧ ((a < c) ↔ ¬ (b < c))) := by
  unfold ocut
  by_cases e : a = b
  · subst e
    rw [if_pos rfl]
    refine ⟨by simp, ⟨fun z => absurd z (by decide +kernel), fun z => absurd z (Int.lt_irrefl _)⟩, ?_⟩
    constructor
    · intro z
      exact absurd z (by decide +kernel)
    · intro z
      exact absurd rfl z.1
  · rw [if_neg e]
    by_cases l : a < b
    · rw [if_pos l]
      by_cases x : a < c <;> by_cases y : b < c <;> simp [x, y, l, e] <;> decide +kernel
    · rw [if_neg l]
      by_cases x : a < c <;> by_cases y : b < c <;> simp [x, y, l, e] <;> decide +kernel
theorem rks_same {xs ys : List Int} (hl : xs.length = ys.length) (h : ∀ (i j : Nat) (a b c d : Int), xs[i]? = some a → xs[j]? = some b → ys[i]? = some c → ys[j]? = some d → (a < b ↔ c < d)) : rks xs = rks ys := by
  let f : Int → Int := fun x => ys.getD (xs.idxOf x) 0
  have at_f : ∀ (i : Nat) (a c : Int), xs[i]? = some a → ys[i]? = some c → f a = c := fun i a c ha hc => by
    have m := List.mem_of_getElem? ha
    have hi : xs.idxOf a < xs.length := List.idxOf_lt_length_of_mem m
    have ea : xs[xs.idxOf a]? = some a := by
      rw [List.getElem?_eq_getElem hi]
      exact congrArg some (List.getElem_idxOf hi)
    have ec : ys[xs.idxOf a]? = some (ys[xs.idxOf a]'(by omega)) := List.getElem?_eq_getElem (by omega)
    have h1 := h _ _ _ _ _ _ ea ha ec hc
    have h2 := h _ _ _ _ _ _ ha ea hc ec
    have e : f a = ys[xs.idxOf a]'(by omega) := by
      show ys.getD (xs.idxOf a) 0 = _
      rw [List.getD_eq_getElem?_getD, ec]
      rfl
    rw [e]
    omega
  have both : ∀ x ∈ xs, ∃ (i : Nat) (c : Int), xs[i]? = some x ∧ ys[i]? = some c ∧ f x = c := fun x hx => by
    obtain ⟨i, hi, e⟩ := List.mem_iff_getElem.mp hx
    have ex : xs[i]? = some x := by rw [List.getElem?_eq_getElem hi, e]
    have ec : ys[i]? = some (ys[i]'(by omega)) := List.getElem?_eq_getElem (by omega)
    exact ⟨i, _, ex, ec, at_f i x _ ex ec⟩
  have mono : ∀ x ∈ xs, ∀ y ∈ xs, (f x < f y ↔ x < y) := fun x hx y hy => by
    obtain ⟨i, c, h1, h2, rfl⟩ := both x hx
    obtain ⟨j, d, h3, h4, rfl⟩ := both y hy
    exact (h i j _ _ _ _ h1 h3 h2 h4).symm
  have e : ys = xs.map f := by
    apply List.ext_getElem?
    intro i
    rw [List.getElem?_map]
    by_cases hi : i < xs.length
    · have ex : xs[i]? = some xs[i] := List.getElem?_eq_getElem hi
      have ec : ys[i]? = some (ys[i]'(by omega)) := List.getElem?_eq_getElem (by omega)
      rw [ex, ec, Option.map_some, at_f i _ _ ex ec]
    · rw [List.getElem?_eq_none (by omega), List.getElem?_eq_none (by omega)]
      rfl
  rw [e]
  unfold rks
  rw [List.map_map]
  refine List.map_congr_left fun x hx => ?_
  show _ = ((rk (srt (xs.map f)) (f x) : Nat) : Int)
  rw [rk_image fun a ha b hb q => by
    have h1 := mono a ha b hb
    have h2 := mono b hb a ha
    omega]
  unfold rk
  rw [filt_congr (l := srt xs) (p := fun y => decide (f y < f x)) (q := fun y => decide (y < x)) fun y hy => decide_eq_decide.mpr (mono y (srt_mem.mp hy) x hx)]
theorem srt_isRk {rs : List Int} {m : Nat} (is : IsRk rs m) : srt rs = rg m := isRk_srt is (srt_up rs) fun k => srt_mem
theorem rks_id {rs : List Int} {m : Nat} (is : IsRk rs m) : rks rs = rs := by
  unfold rks
  rw [srt_isRk is]
  have : ∀ r ∈ rs, ((rk (rg m) r : Nat) : Int) = r := fun r hr => by
    obtain ⟨a, b⟩ := (is r).mp hr
    exact rk_rg a (by omega)
  rw [List.map_congr_left this, List.map_id']
theorem flat_inj {α β : Type} {f g : α → List β} {n : Nat} : ∀ {as bs : List α}, as.length = bs.length → (∀ a ∈ as, (f a).length = n) → (∀ b ∈ bs, (g b).length = n) → as.flatMap f = bs.flatMap g → ∀ (i : Nat) (a b : α), as[i]? = some a → bs[i]? = some b → f a = g b
  | [], _, _, _, _, _, i, a, b, e, _ => by cases i <;> cases e
  | _ :: _, [], h, _, _, _, _, _, _, _, _ => by cases h
  | x :: as, y :: bs, h, hf, hg, e, i, a, b, ea, eb => by
    rw [List.flatMap_cons, List.flatMap_cons] at e
    obtain ⟨e1, e2⟩ := List.append_inj e (by rw [hf x List.mem_cons_self, hg y List.mem_cons_self])
    cases i with
    | zero =>
      cases ea
      cases eb
      exact e1
    | succ i => exact flat_inj (Nat.succ.inj h) (fun a m => hf a (List.mem_cons_of_mem _ m)) (fun b m => hg b (List.mem_cons_of_mem _ m)) e2 i a b ea eb
theorem shown_tell {rs rt : List Int} {c d : Int} {m k : Nat} (hl : rs.length = rt.length) (i1 : IsRk rs m) (i2 : IsRk rt k) (c0 : 0 ≤ c) (cm : c ≤ (m : Int)) (d0 : 0 ≤ d) (dk : d ≤ (k : Int)) (hm : 0 < m) (hk : 0 < k) :
    decide (shownR rs c = shownR rt d) = (decide (rs = rt ∧ c = d) || (decide (rs = rt) && (single rs c && single rt d))) := by
  have s1 : single rs c = (decide (c = 0) || decide (c = (m : Int))) := by unfold single; rw [mx_is hm i1, show (m : Int) - 1 + 1 = m by omega]
  have s2 : single rt d = (decide (d = 0) || decide (d = (k : Int))) := by unfold single; rw [mx_is hk i2, show (k : Int) - 1 + 1 = k by omega]
  rw [s1, s2, ← Bool.decide_or, ← Bool.decide_or, ← Bool.decide_and, ← Bool.decide_and, ← Bool.decide_or]
  refine decide_eq_decide.mpr ⟨fun e => ?_, fun h => ?_⟩
  · have pt : ∀ (i j : Nat) (a b x y : Int), rs[i]? = some a → rs[j]? = some b → rt[i]? = some x → rt[j]? = some y → ocut c a b = ocut d x y := fun i j a b x y ha hb hx hy => by
      have g := flat_inj (n := rs.length) hl (fun a _ => List.length_map ..) (fun b _ => by rw [List.length_map, hl]) e i a x ha hx
      have q := congrArg (fun l : List Str => l[j]?) g
      rw [List.getElem?_map, List.getElem?_map, hb, hy] at q
      exact Option.some.inj q
    have er : rs = rt := by
      rw [← rks_id i1, ← rks_id i2]
      refine rks_same hl fun i j a b x y ha hb hx hy => ?_
      have p := pt i j a b x y ha hb hx hy
      have f1 := (oc_facts (c := c) (a := a) (b := b)).2.1
      have f2 := (oc_facts (c := d) (a := x) (b := y)).2.1
      rw [← f1, ← f2, p]
    subst er
    have mk : m = k := by
      have := congrArg List.length ((srt_isRk i1).symm.trans (srt_isRk i2))
      rwa [rg_len, rg_len] at this
    subst mk
    by_cases cd : c = d
    · exact .inl ⟨rfl, cd⟩
    · refine .inr ⟨rfl, ?_⟩
      have mixed : ∀ u v : Int, u ∈ rs → v ∈ rs → (u ≠ v ∧ ((u < c) ↔ ¬ (v < c)) ↔ u ≠ v ∧ ((u < d) ↔ ¬ (v < d))) := fun u v hu hv => by
        obtain ⟨i, hi, e1⟩ := List.mem_iff_getElem.mp hu
        obtain ⟨j, hj, e2⟩ := List.mem_iff_getElem.mp hv
        have a1 : rs[i]? = some u := by rw [List.getElem?_eq_getElem hi, e1]
        have a2 : rs[j]? = some v := by rw [List.getElem?_eq_getElem hj, e2]
        have p := pt i j u v u v a1 a2 a1 a2
        rw [← (oc_facts (c := c) (a := u) (b := v)).2.2, ← (oc_facts (c := d) (a := u) (b := v)).2.2, p]
      refine ⟨?_, ?_⟩
      · refine Decidable.byContradiction fun n => ?_
        have := mixed (c - 1) c ((i1 _).mpr ⟨by omega, by omega⟩) ((i1 _).mpr ⟨by omega, by omega⟩)
        omega
      · refine Decidable.byContradiction fun n => ?_
        have := mixed (d - 1) d ((i1 _).mpr ⟨by omega, by omega⟩) ((i1 _).mpr ⟨by omega, by omega⟩)
        omega
  · rcases h with ⟨rfl, rfl⟩ | ⟨rfl, h1, h2⟩
    · rfl
    · have mk : m = k := by
        have := congrArg List.length ((srt_isRk i1).symm.trans (srt_isRk i2))
        rwa [rg_len, rg_len] at this
      subst mk
      have same : ∀ u ∈ rs, ∀ v ∈ rs, ocut c u v = ocut d u v := fun u hu v hv => by
        obtain ⟨u0, u1⟩ := (i1 u).mp hu
        obtain ⟨v0, v1⟩ := (i1 v).mp hv
        have mc : (decide (u < c) != decide (v < c)) = false := by
          rcases h1 with h | h
          · rw [decide_eq_false (show ¬ u < c by omega), decide_eq_false (show ¬ v < c by omega)]
            rfl
          · rw [decide_eq_true (show u < c by omega), decide_eq_true (show v < c by omega)]
            rfl
        have md : (decide (u < d) != decide (v < d)) = false := by
          rcases h2 with h | h
          · rw [decide_eq_false (show ¬ u < d by omega), decide_eq_false (show ¬ v < d by omega)]
            rfl
          · rw [decide_eq_true (show u < d by omega), decide_eq_true (show v < d by omega)]
            rfl
        unfold ocut
        rw [mc, md]
      unfold shownR
      have fm : ∀ l : List Int, (∀ u ∈ l, u ∈ rs) → l.flatMap (fun a => rs.map fun b => ocut c a b) = l.flatMap fun a => rs.map fun b => ocut d a b := by
        intro l
        induction l with
        | nil => exact fun _ => rfl
        | cons u l ih =>
          intro hs
          rw [List.flatMap_cons, List.flatMap_cons, ih fun u m => hs u (List.mem_cons_of_mem _ m)]
          rw [List.map_congr_left fun v hv => same u (hs u List.mem_cons_self) v hv]
      exact fm rs fun u m => m
end BR
namespace BR
open PySem PySem.Spec PyProof.Rows L2
theorem fall_le {n : Int} {a : Nat} (h0 : 0 ≤ n) (h1 : n ≤ 2 ^ a) (k : Nat) (hk : (k : Int) ≤ n) : Builtin.Math.fallingProduct n k ≤ 2 ^ (a * k) := by
  induction k with
  | zero => exact (by decide : (1 : Int) ≤ 1)
  | succ k ih =>
    have i := ih (by omega)
    have nn := fall_nn (n := n) k (by omega)
    have e : Builtin.Math.fallingProduct n (k + 1) = Builtin.Math.fallingProduct n k * (n - (k : Int)) := by
      unfold Builtin.Math.fallingProduct
      rw [List.range_succ, List.foldl_append]
      rfl
    rw [e, Nat.mul_succ, Int.pow_add]
    exact Int.mul_le_mul i (by omega) (by omega) (Int.le_of_lt (pow_pos _))
theorem cmb_log {n k : Int} (h0 : 0 ≤ n) (h1 : n ≤ 2 ^ 1000) (k0 : 0 ≤ k) (k8 : k ≤ 8) : (n < k ∨ (Builtin.Math.fallingProduct n (min k (n - k)).toNat / Builtin.Math.fallingProduct (min k (n - k)) (min k (n - k)).toNat).natAbs.log2 < bitsLine) ∧ (cmb n k).natAbs.log2 < 10000 := by
  by_cases c : n < k
  · refine ⟨.inl c, ?_⟩
    unfold cmb
    rw [if_pos c]
    decide
  · have key : (Builtin.Math.fallingProduct n (min k (n - k)).toNat / Builtin.Math.fallingProduct (min k (n - k)) (min k (n - k)).toNat).natAbs.log2 < 10000 := by
      have a := fall_nn (n := n) (min k (n - k)).toNat (by omega)
      have b := fall_le h0 h1 (min k (n - k)).toNat (by omega)
      have d := fall_nn (n := min k (n - k)) (min k (n - k)).toNat (by omega)
      have q0 : 0 ≤ Builtin.Math.fallingProduct n (min k (n - k)).toNat / Builtin.Math.fallingProduct (min k (n - k)) (min k (n - k)).toNat := Int.ediv_nonneg a d
      have q1 := Int.ediv_le_self (Builtin.Math.fallingProduct (min k (n - k)) (min k (n - k)).toNat) a
      have b2 : (2 : Int) ^ (1000 * (min k (n - k)).toNat) ≤ 2 ^ 9000 := pow_le (by omega)
      have b3 : (2 : Int) ^ 9000 < 2 ^ 9001 := pow_lt (by decide)
      have e : ((2 : Int) ^ 9001) = ((2 ^ 9001 : Nat) : Int) := nat_cast_pow 9001
      rw [e] at b3
      refine Nat.lt_of_lt_of_le (PySem.Flt.log2_lt_of (k := 9001) (by decide) ?_) (by decide)
      omega
    refine ⟨.inr (Nat.lt_trans key (by decide)), ?_⟩
    unfold cmb
    rw [if_neg c]
    exact key
end BR

/-! ### rankings as a law lists them -/
namespace BR
open PySem PySem.Spec PyProof.Rows L2
def lawRows (n : Nat) : Nat → List (List Int)
  | 0 => [[]]
  | k + 1 => (lawRows n k).flatMap (addR n)
def lawCuts (r : List Int) : List (List Int × Int) := if ((srt r).length : Int) = mx r + 1 then cutsR r else []
theorem law_all : ∀ n ∈ ([1, 2, 3, 4] : List Nat), (lawRows n n).flatMap lawCuts = allRk n := by decide +kernel
theorem law_rows : ∀ n ∈ ([1, 2, 3, 4] : List Nat), ∀ k ∈ List.range (n + 1), (lawRows n k).length ≤ 256 ∧ ∀ r ∈ lawRows n k, r.length = k ∧ 0 ≤ mx r ∧ mx r ≤ 3 := by decide +kernel
theorem four {n : Nat} (h1 : 1 ≤ n) (h2 : n ≤ 4) : n ∈ ([1, 2, 3, 4] : List Nat) := by
  have : n = 1 ∨ n = 2 ∨ n = 3 ∨ n = 4 := by omega
  simpa using this
theorem all_len4 {n : Nat} (h1 : 1 ≤ n) (h2 : n ≤ 4) : 0 < (allRk n).length ∧ (allRk n).length ≤ 308 := by
  have := all_len
  have e : ∀ n ∈ ([1, 2, 3, 4] : List Nat), 0 < (allRk n).length ∧ (allRk n).length ≤ 308 := by decide +kernel
  exact e n (four h1 h2)
/-- refs to lists of ints -/
def LL (H : Hp) (as : List Addr) (rows : List (List Int)) : Prop := Paired (fun a row => H a = some (.lst (row.map V.int))) as rows
theorem LL.but {H H' : Hp} {D : Addr} : ∀ {as : List Addr} {rows : List (List Int)}, LL H as rows → But D H H' → (∀ a ∈ as, a ≠ D) → LL H' as rows
  | _, _, .nil, _, _ => .nil
  | _, _, .cons h t, b, n => .cons (b _ _ (n _ List.mem_cons_self) h) (LL.but t b fun a m => n a (List.mem_cons_of_mem _ m))
theorem LL.same {H H' : Hp} {as : List Addr} {rows : List (List Int)} (h : LL H as rows) (s : Same H H') : LL H' as rows := pr_mono h fun a r e => s _ _ e
theorem pr_app {α β : Type} {R : α → β → Prop} : ∀ {as : List α} {bs : List β} {cs : List α} {ds : List β}, Paired R as bs → Paired R cs ds → Paired R (as ++ cs) (bs ++ ds)
  | _, _, _, _, .nil, r => r
  | _, _, _, _, .cons h t, r => .cons h (pr_app t r)
theorem mx_one {ns : List Int} {m : Int} (hm : m ∈ ns) (h : ∀ y ∈ ns, y ≤ m) : m = mx ns := by
  have g : ∀ (l : List Int) (z : Int), (l.foldl (fun a y => if a < y then y else a) z ∈ z :: l) ∧ ∀ y ∈ z :: l, y ≤ l.foldl (fun a y => if a < y then y else a) z := by
    intro l
    induction l with
    | nil => exact fun z => ⟨List.mem_cons_self, fun y hy => by rw [List.mem_singleton.mp hy]; exact Int.le_refl _⟩
    | cons y l ih =>
      intro z
      rw [List.foldl_cons]
      obtain ⟨a, b⟩ := ih (if z < y then y else z)
      refine ⟨?_, fun k hk => ?_⟩
      · rcases List.mem_cons.mp a with e | e
        · rw [e]
          split
          · exact List.mem_cons_of_mem _ List.mem_cons_self
          · exact List.mem_cons_self
        · exact List.mem_cons_of_mem _ (List.mem_cons_of_mem _ e)
      · have hz := b _ List.mem_cons_self
        rcases List.mem_cons.mp hk with rfl | hk
        · exact Int.le_trans (show k ≤ if k < y then y else k by split <;> omega) hz
        · rcases List.mem_cons.mp hk with rfl | hk
          · exact Int.le_trans (show k ≤ if z < k then k else z by split <;> omega) hz
          · exact b k (List.mem_cons_of_mem _ hk)
  cases ns with
  | nil => exact absurd hm (by simp)
  | cons x l =>
    obtain ⟨a, b⟩ := g l x
    have h1 := h _ a
    have h2 := b m hm
    show m = l.foldl (fun a y => if a < y then y else a) x
    omega
theorem addR_len (n : Nat) (r : List Int) : (addR n r).length = n := by unfold addR; rw [List.length_map, List.length_range]
end BR
namespace BR
open PySem PySem.Spec PyProof.Rows L2
theorem CMulW_small {i j : Int} (hi : i.natAbs < 2 ^ 20) (hj : j.natAbs < 2 ^ 20) : CMulW i j := by
  have a := PySem.Flt.log2_lt_of (k := 20) (by decide) hi
  have b := PySem.Flt.log2_lt_of (k := 20) (by decide) hj
  show _ + _ < 1000000
  omega
end BR

/-! ### data compared: outcomes, rankings, bools -/
namespace BR
open PySem PySem.Spec PyProof.Rows L2
theorem strs_shapedL {xs : List Str} (ok : ∀ x ∈ xs, PyData.strOk x = true) : SeqAt.shaped (.list (xs.map PyData.str)) = true := by
  obtain ⟨h1, h2⟩ := strs_lay xs ok
  unfold SeqAt.shaped
  show (PyData.canLayAll0 (xs.map PyData.str) && decide (PyData.depthAll (xs.map PyData.str) + 1 ≤ 64)) = true
  rw [h1, h2]
  rfl
theorem strs_eqvL (xs ys : List Str) : PyData.eqv (.list (xs.map PyData.str)) (.list (ys.map PyData.str)) = decide (xs = ys) := strs_eqvA xs ys
theorem dp_strsL {K : PySem.W.Frag} {H : Hp} {a : Addr} {xs : List Str} (h : H a = some (.lst (xs.map V.str))) : Dp K H (.ref a) (.list (xs.map PyData.str)) := .lst (SqL.of h) (strs_all xs)
theorem ints_eqvA : ∀ xs ys : List Int, PyData.eqvAll (xs.map PyData.int) (ys.map PyData.int) = decide (xs = ys)
  | [], [] => rfl
  | [], _ :: _ => rfl
  | _ :: _, [] => rfl
  | x :: xs, y :: ys => by
    show (x == y && PyData.eqvAll (xs.map PyData.int) (ys.map PyData.int)) = decide (x :: xs = y :: ys)
    rw [ints_eqvA xs ys]
    by_cases h : x = y
    · by_cases g : xs = ys <;> simp [h, g]
    · simp [h]
theorem ints_eqvT (xs ys : List Int) : PyData.eqv (.tuple (xs.map PyData.int)) (.tuple (ys.map PyData.int)) = decide (xs = ys) := ints_eqvA xs ys
theorem rkD_eqv (rs rt : List Int) (c d : Int) : PyData.eqv (rkD rs c) (rkD rt d) = decide (rs = rt ∧ c = d) := by
  show (PyData.eqvAll (rs.map PyData.int) (rt.map PyData.int) && ((c == d) && true)) = _
  rw [ints_eqvA]
  by_cases h : rs = rt <;> by_cases g : c = d <;> simp [h, g]
theorem rkD_sh {rs : List Int} {c : Int} : SeqAt.shaped (rkD rs c) = true := by
  obtain ⟨l1, l2⟩ := ints_lay rs
  unfold SeqAt.shaped
  show ((PyData.canLayAll0 (rs.map PyData.int) && (true && true)) && decide (max (PyData.depthAll (rs.map PyData.int) + 1) (max 0 0) + 1 ≤ 64)) = true
  rw [l1, l2]
  rfl
theorem ocut_ok (c a b : Int) : PyData.strOk (ocut c a b) = true := by
  unfold ocut
  split
  · decide +kernel
  · split <;> split <;> decide +kernel
theorem shown_okS (rs : List Int) (c : Int) : ∀ x ∈ shownR rs c, PyData.strOk x = true := fun x m => by
  obtain ⟨a, _, h⟩ := List.mem_flatMap.mp m
  obtain ⟨b, _, rfl⟩ := List.mem_map.mp h
  exact ocut_ok c a b
theorem two_bools (a b : Bool) : PyData.eqv (.list [.bool a, .bool b]) (.list [.bool true, .bool true]) = (a && b) := by
  cases a <;> cases b <;> decide +kernel
theorem single_in (rs : List Int) (c : Int) : inV (.int c) [.int 0, .int (mx rs + 1)] = single rs c := by
  unfold inV single
  show ((0 == c) || ((mx rs + 1 == c) || false)) = _
  have e1 : ((0 : Int) == c) = decide (c = 0) := by
    by_cases h : c = 0
    · subst h
      rfl
    · rw [decide_eq_false h]
      exact beq_eq_false_iff_ne.mpr fun z => h z.symm
  have e2 : (mx rs + 1 == c) = decide (c = mx rs + 1) := by
    by_cases h : c = mx rs + 1
    · rw [decide_eq_true h, h]
      exact beq_self_eq_true _
    · rw [decide_eq_false h]
      exact beq_eq_false_iff_ne.mpr fun z => h z.symm
  rw [e1, e2, Bool.or_false]
theorem turn_in {c m r : Int} (c0 : 0 ≤ c) (cm : c ≤ m) (r0 : 0 ≤ r) (r1 : r < m) : 0 ≤ turnR c m r ∧ turnR c m r < m := by
  unfold turnR
  split <;> omega
/-- the first words of the next width -/
theorem lw_grown {h c r : Int} (h0 : 0 ≤ h) (hc : c ≤ h) (r0 : 0 ≤ r) : lw (2 * h) c r = if h ≤ lw h c r then lw h c r + h else lw h c r := by
  unfold lw
  by_cases q : r < c
  · rw [if_pos q, if_pos q, if_neg (by omega)]
  · rw [if_neg q, if_neg q, if_pos (by omega)]
    omega
theorem map_take_one {α β : Type} {f : α → β} {l : List α} {i : Nat} {x : α} (h : l[i]? = some x) : (l.take (i + 1)).map f = (l.take i).map f ++ [f x] := by
  rw [List.take_add_one, h, List.map_append]
  rfl
end BR

namespace BR
open PySem PySem.Spec PyProof.Rows L2
/-! ### the text by places -/
def top (i : Nat) : Stmt := PySem.Challenge.pw_branchorders_k10_whole_rankings_and_word.main.body.getD i (.Pass ⟨0, 0, 0, 0⟩)
abbrev s_check_width : Stmt := top 8
abbrev s_check_words : Stmt := top 9
abbrev s_is_word : Stmt := top 10
abbrev s_sign_bit : Stmt := top 11
abbrev s_outcome_by_cut : Stmt := top 12
abbrev s_outcome : Stmt := top 13
abbrev s_flipped : Stmt := top 14
abbrev s_inverted : Stmt := top 15
abbrev s_extended : Stmt := top 16
abbrev s_changed : Stmt := top 17
abbrev s_check_ranking : Stmt := top 20
abbrev s_check_items : Stmt := top 21
abbrev s_ranking_of : Stmt := top 22
abbrev s_outcome_in : Stmt := top 23
abbrev s_outcome_between : Stmt := top 24
abbrev s_least_words : Stmt := top 25
abbrev s_count_words : Stmt := top 26
abbrev s_count_rankings : Stmt := top 27
abbrev s_nth_ranking : Stmt := top 28
abbrev s_all_rankings : Stmt := top 29
abbrev s_is_ranking : Stmt := top 30
abbrev s_ranks_by_sign : Stmt := top 31
abbrev s_fits : Stmt := top 32
abbrev s_gaps : Stmt := top 33
abbrev s_law_pool : Stmt := top 35
abbrev s_law_draw : Stmt := top 36
abbrev s_law_wide : Stmt := top 37
abbrev s_law_power : Stmt := top 38
abbrev s_law_word : Stmt := top 39
abbrev s_law_some : Stmt := top 40
abbrev s_law_all_rankings : Stmt := top 41
abbrev s_law_sum_right : Stmt := top 42
abbrev s_law_turned_right : Stmt := top 43
abbrev s_law_shown : Stmt := top 44
abbrev s_law_pair_right : Stmt := top 45
abbrev s_law : Stmt := top 46
structure Ad where
  a_check_width : Addr
  d_check_width : FuncData
  a_check_words : Addr
  d_check_words : FuncData
  a_is_word : Addr
  d_is_word : FuncData
  a_sign_bit : Addr
  d_sign_bit : FuncData
  a_outcome_by_cut : Addr
  d_outcome_by_cut : FuncData
  a_outcome : Addr
  d_outcome : FuncData
  a_flipped : Addr
  d_flipped : FuncData
  a_inverted : Addr
  d_inverted : FuncData
  a_extended : Addr
  d_extended : FuncData
  a_changed : Addr
  d_changed : FuncData
  a_check_ranking : Addr
  d_check_ranking : FuncData
  a_check_items : Addr
  d_check_items : FuncData
  a_ranking_of : Addr
  d_ranking_of : FuncData
  a_outcome_in : Addr
  d_outcome_in : FuncData
  a_outcome_between : Addr
  d_outcome_between : FuncData
  a_least_words : Addr
  d_least_words : FuncData
  a_count_words : Addr
  d_count_words : FuncData
  a_count_rankings : Addr
  d_count_rankings : FuncData
  a_nth_ranking : Addr
  d_nth_ranking : FuncData
  a_all_rankings : Addr
  d_all_rankings : FuncData
  a_is_ranking : Addr
  d_is_ranking : FuncData
  a_ranks_by_sign : Addr
  d_ranks_by_sign : FuncData
  a_fits : Addr
  d_fits : FuncData
  a_gaps : Addr
  d_gaps : FuncData
  a_law_pool : Addr
  d_law_pool : FuncData
  a_law_draw : Addr
  d_law_draw : FuncData
  a_law_wide : Addr
  d_law_wide : FuncData
  a_law_power : Addr
  d_law_power : FuncData
  a_law_word : Addr
  d_law_word : FuncData
  a_law_some : Addr
  d_law_some : FuncData
  a_law_all_rankings : Addr
  d_law_all_rankings : FuncData
  a_law_sum_right : Addr
  d_law_sum_right : FuncData
  a_law_turned_right : Addr
  d_law_turned_right : FuncData
  a_law_shown : Addr
  d_law_shown : FuncData
  a_law_pair_right : Addr
  d_law_pair_right : FuncData
  a_law : Addr
  d_law : FuncData
structure Txt (w : World) (K : PySem.W.Frag) (mg : Str → Option Value) (A0 : Ad) : Prop where
  g_check_width : mg "check_width" = some (.ref A0.a_check_width)
  F_check_width : Fun K "check_width" "check_width" s_check_width A0.a_check_width A0.d_check_width
  g_check_words : mg "check_words" = some (.ref A0.a_check_words)
  F_check_words : Fun K "check_words" "check_words" s_check_words A0.a_check_words A0.d_check_words
  g_is_word : mg "is_word" = some (.ref A0.a_is_word)
  F_is_word : Fun K "is_word" "is_word" s_is_word A0.a_is_word A0.d_is_word
  g_sign_bit : mg "sign_bit" = some (.ref A0.a_sign_bit)
  F_sign_bit : Fun K "sign_bit" "sign_bit" s_sign_bit A0.a_sign_bit A0.d_sign_bit
  g_outcome_by_cut : mg "outcome_by_cut" = some (.ref A0.a_outcome_by_cut)
  F_outcome_by_cut : Fun K "outcome_by_cut" "outcome_by_cut" s_outcome_by_cut A0.a_outcome_by_cut A0.d_outcome_by_cut
  g_outcome : mg "outcome" = some (.ref A0.a_outcome)
  F_outcome : Fun K "outcome" "outcome" s_outcome A0.a_outcome A0.d_outcome
  g_flipped : mg "flipped" = some (.ref A0.a_flipped)
  F_flipped : Fun K "flipped" "flipped" s_flipped A0.a_flipped A0.d_flipped
  g_inverted : mg "inverted" = some (.ref A0.a_inverted)
  F_inverted : Fun K "inverted" "inverted" s_inverted A0.a_inverted A0.d_inverted
  g_extended : mg "extended" = some (.ref A0.a_extended)
  F_extended : Fun K "extended" "extended" s_extended A0.a_extended A0.d_extended
  g_changed : mg "_changed" = some (.ref A0.a_changed)
  F_changed : Fun K "_changed" "_changed" s_changed A0.a_changed A0.d_changed
  g_check_ranking : mg "check_ranking" = some (.ref A0.a_check_ranking)
  F_check_ranking : Fun K "check_ranking" "check_ranking" s_check_ranking A0.a_check_ranking A0.d_check_ranking
  g_check_items : mg "check_items" = some (.ref A0.a_check_items)
  F_check_items : Fun K "check_items" "check_items" s_check_items A0.a_check_items A0.d_check_items
  g_ranking_of : mg "ranking_of" = some (.ref A0.a_ranking_of)
  F_ranking_of : Fun K "ranking_of" "ranking_of" s_ranking_of A0.a_ranking_of A0.d_ranking_of
  g_outcome_in : mg "outcome_in" = some (.ref A0.a_outcome_in)
  F_outcome_in : Fun K "outcome_in" "outcome_in" s_outcome_in A0.a_outcome_in A0.d_outcome_in
  g_outcome_between : mg "outcome_between" = some (.ref A0.a_outcome_between)
  F_outcome_between : Fun K "outcome_between" "outcome_between" s_outcome_between A0.a_outcome_between A0.d_outcome_between
  g_least_words : mg "least_words" = some (.ref A0.a_least_words)
  F_least_words : Fun K "least_words" "least_words" s_least_words A0.a_least_words A0.d_least_words
  g_count_words : mg "count_words" = some (.ref A0.a_count_words)
  F_count_words : Fun K "count_words" "count_words" s_count_words A0.a_count_words A0.d_count_words
  g_count_rankings : mg "count_rankings" = some (.ref A0.a_count_rankings)
  F_count_rankings : Fun K "count_rankings" "count_rankings" s_count_rankings A0.a_count_rankings A0.d_count_rankings
  g_nth_ranking : mg "nth_ranking" = some (.ref A0.a_nth_ranking)
  F_nth_ranking : Fun K "nth_ranking" "nth_ranking" s_nth_ranking A0.a_nth_ranking A0.d_nth_ranking
  g_all_rankings : mg "all_rankings" = some (.ref A0.a_all_rankings)
  F_all_rankings : Fun K "all_rankings" "all_rankings" s_all_rankings A0.a_all_rankings A0.d_all_rankings
  g_is_ranking : mg "_is_ranking" = some (.ref A0.a_is_ranking)
  F_is_ranking : Fun K "_is_ranking" "_is_ranking" s_is_ranking A0.a_is_ranking A0.d_is_ranking
  g_ranks_by_sign : mg "_ranks_by_sign" = some (.ref A0.a_ranks_by_sign)
  F_ranks_by_sign : Fun K "_ranks_by_sign" "_ranks_by_sign" s_ranks_by_sign A0.a_ranks_by_sign A0.d_ranks_by_sign
  g_fits : mg "_fits" = some (.ref A0.a_fits)
  F_fits : Fun K "_fits" "_fits" s_fits A0.a_fits A0.d_fits
  g_gaps : mg "_gaps" = some (.ref A0.a_gaps)
  F_gaps : Fun K "_gaps" "_gaps" s_gaps A0.a_gaps A0.d_gaps
  g_law_pool : mg "_law_pool" = some (.ref A0.a_law_pool)
  F_law_pool : Fun K "_law_pool" "_law_pool" s_law_pool A0.a_law_pool A0.d_law_pool
  g_law_draw : mg "_law_draw" = some (.ref A0.a_law_draw)
  F_law_draw : Fun K "_law_draw" "_law_draw" s_law_draw A0.a_law_draw A0.d_law_draw
  g_law_wide : mg "_law_wide" = some (.ref A0.a_law_wide)
  F_law_wide : Fun K "_law_wide" "_law_wide" s_law_wide A0.a_law_wide A0.d_law_wide
  g_law_power : mg "_law_power" = some (.ref A0.a_law_power)
  F_law_power : Fun K "_law_power" "_law_power" s_law_power A0.a_law_power A0.d_law_power
  g_law_word : mg "_law_word" = some (.ref A0.a_law_word)
  F_law_word : Fun K "_law_word" "_law_word" s_law_word A0.a_law_word A0.d_law_word
  g_law_some : mg "_law_some" = some (.ref A0.a_law_some)
  F_law_some : Fun K "_law_some" "_law_some" s_law_some A0.a_law_some A0.d_law_some
  g_law_all_rankings : mg "_law_all_rankings" = some (.ref A0.a_law_all_rankings)
  F_law_all_rankings : Fun K "_law_all_rankings" "_law_all_rankings" s_law_all_rankings A0.a_law_all_rankings A0.d_law_all_rankings
  g_law_sum_right : mg "_law_sum_right" = some (.ref A0.a_law_sum_right)
  F_law_sum_right : Fun K "_law_sum_right" "_law_sum_right" s_law_sum_right A0.a_law_sum_right A0.d_law_sum_right
  g_law_turned_right : mg "_law_turned_right" = some (.ref A0.a_law_turned_right)
  F_law_turned_right : Fun K "_law_turned_right" "_law_turned_right" s_law_turned_right A0.a_law_turned_right A0.d_law_turned_right
  g_law_shown : mg "_law_shown" = some (.ref A0.a_law_shown)
  F_law_shown : Fun K "_law_shown" "_law_shown" s_law_shown A0.a_law_shown A0.d_law_shown
  g_law_pair_right : mg "_law_pair_right" = some (.ref A0.a_law_pair_right)
  F_law_pair_right : Fun K "_law_pair_right" "_law_pair_right" s_law_pair_right A0.a_law_pair_right A0.d_law_pair_right
  g_law : mg "law" = some (.ref A0.a_law)
  F_law : Fun K "law" "law" s_law A0.a_law A0.d_law
  b_abs : mg "abs" = none
  b_any : mg "any" = none
  b_enumerate : mg "enumerate" = none
  b_int : mg "int" = none
  b_len : mg "len" = none
  b_list : mg "list" = none
  b_max : mg "max" = none
  b_min : mg "min" = none
  b_range : mg "range" = none
  b_set : mg "set" = none
  b_sorted : mg "sorted" = none
  b_tuple : mg "tuple" = none
  b_type : mg "type" = none
  gi_MOST_ITEMS : ∃ t, mg "MOST_ITEMS" = some (.int 5 t)
  gf_comb : mg "comb" = some (.builtin "math.comb")


section
variable {P : Program} {w : World} {K : PySem.W.Frag} {mg : Str → Option Value} {base : Heap} {A0 : Ad}
/-! check_width -/
def sp_check_width (K : PySem.W.Frag) : Sp := fun vs H Q E => ∃ wd : Int, vs = [.int wd] ∧ 1 ≤ wd ∧ Q .non H
theorem sc_check_width : FnScope ["width"] ["width"] (defScope s_check_width) := ⟨rfl, rfl, rfl, by decide +kernel, rfl, by decide +kernel, by decide +kernel⟩
theorem bd_check_width (T : Txt w K mg A0) : Binds K A0.d_check_width ["width"] [] := T.F_check_width.binds fun _ _ _ _ _ _ us hl => match us, hl with | [_], _ => rfl
theorem ok_check_width (T : Txt w K mg A0) : FnOk P w K mg base CX0 1 A0.a_check_width A0.d_check_width ["width"] (sp_check_width K) := by
  refine T.F_check_width.ok sc_check_width (fun vs H Q E h => ?_) (fun cdv A outer s H vs Q E hr h => ?_)
  · obtain ⟨wd, rfl, _⟩ := h
    rfl
  · obtain ⟨wd, rfl, h⟩ := h
    refine ⟨_, (pss_one (ps_if (pt_cmpR op_lt (pv 0) pe_int (nomark _)) (pss_one ps_never) pss_nil)), ?_⟩
    obtain ⟨h1, k⟩ := h
    refine ⟨_, rfl, _, _, rfl, rfl, _, rfl, ?_⟩
    refine tF (decide_eq_false (by omega)) ?_
    exact k
/-! is_word -/
def sp_is_word (K : PySem.W.Frag) : Sp := fun vs H Q E => ∃ wd x : Int, vs = [.int wd, .int x] ∧ 1 ≤ wd ∧ wd ≤ 1000 ∧ Q (.bl (decide (0 ≤ x) && decide (x < 2 ^ wd.toNat))) H
theorem sc_is_word : FnScope ["width", "word"] ["width", "word"] (defScope s_is_word) := ⟨rfl, rfl, rfl, by decide +kernel, rfl, by decide +kernel, by decide +kernel⟩
theorem bd_is_word (T : Txt w K mg A0) : Binds K A0.d_is_word ["width", "word"] [] := T.F_is_word.binds fun _ _ _ _ _ _ us hl => match us, hl with | [_, _], _ => rfl
theorem ok_is_word (T : Txt w K mg A0) : FnOk P w K mg base CX0 1 A0.a_is_word A0.d_is_word ["width", "word"] (sp_is_word K) := by
  refine T.F_is_word.ok sc_is_word (fun vs H Q E h => ?_) (fun cdv A outer s H vs Q E hr h => ?_)
  · obtain ⟨wd, x, rfl, _⟩ := h
    rfl
  · obtain ⟨wd, x, rfl, h⟩ := h
    refine ⟨_, (pss_one (ps_ret (pe_chain op_le op_lt pe_int (pv 1) (pe_op op_shl pe_int (pv 0))))), ?_⟩
    obtain ⟨h1, h2, k⟩ := h
    refine ⟨_, rfl, _, _, rfl, rfl, _, rfl, ?_⟩
    by_cases c : 0 ≤ x
    · rw [decide_eq_true c, Bool.true_and] at k
      refine tT (decide_eq_true c) ?_
      refine ⟨_, rfl, _, _, rfl, rfl, ⟨by omega, by omega, by decide⟩, _, _, rfl, rfl, ?_⟩
      show Q (.bl (decide (x < 1 * 2 ^ wd.toNat))) H
      rw [Int.one_mul]
      exact k
    · rw [decide_eq_false c, Bool.false_and] at k
      refine tF (decide_eq_false c) ?_
      exact k
/-! sign_bit -/
def sp_sign_bit (K : PySem.W.Frag) : Sp := fun vs H Q E => ∃ wd : Int, vs = [.int wd] ∧ 1 ≤ wd ∧ wd ≤ 1000 ∧ Q (.int (2 ^ (wd - 1).toNat)) H
theorem sc_sign_bit : FnScope ["width"] ["width"] (defScope s_sign_bit) := ⟨rfl, rfl, rfl, by decide +kernel, rfl, by decide +kernel, by decide +kernel⟩
theorem bd_sign_bit (T : Txt w K mg A0) : Binds K A0.d_sign_bit ["width"] [] := T.F_sign_bit.binds fun _ _ _ _ _ _ us hl => match us, hl with | [_], _ => rfl
theorem ok_sign_bit (T : Txt w K mg A0) : FnOk P w K mg base CX0 1 A0.a_sign_bit A0.d_sign_bit ["width"] (sp_sign_bit K) := by
  refine T.F_sign_bit.ok sc_sign_bit (fun vs H Q E h => ?_) (fun cdv A outer s H vs Q E hr h => ?_)
  · obtain ⟨wd, rfl, _⟩ := h
    rfl
  · obtain ⟨wd, rfl, h⟩ := h
    refine ⟨_, (pss_one (ps_ret (pe_op op_shl pe_int (pe_op op_sub (pv 0) pe_int)))), ?_⟩
    obtain ⟨h1, h2, k⟩ := h
    refine ⟨_, rfl, _, _, rfl, rfl, _, _, rfl, rfl, ⟨by omega, by omega, by decide⟩, ?_⟩
    show Q (.int (1 * 2 ^ (wd - 1).toNat)) H
    rw [Int.one_mul]
    exact k
/-! outcome_by_cut -/
def sp_outcome_by_cut (K : PySem.W.Frag) : Sp := fun vs H Q E => ∃ c x y : Int, vs = [.int c, .int x, .int y] ∧ Q (.str (ocut c x y)) H
theorem sc_outcome_by_cut : FnScope ["cut", "first", "second", "mixed"] ["cut", "first", "second"] (defScope s_outcome_by_cut) := ⟨rfl, rfl, rfl, by decide +kernel, rfl, by decide +kernel, by decide +kernel⟩
theorem bd_outcome_by_cut (T : Txt w K mg A0) : Binds K A0.d_outcome_by_cut ["cut", "first", "second"] [] := T.F_outcome_by_cut.binds fun _ _ _ _ _ _ us hl => match us, hl with | [_, _, _], _ => rfl
theorem ok_outcome_by_cut (T : Txt w K mg A0) : FnOk P w K mg base CX0 1 A0.a_outcome_by_cut A0.d_outcome_by_cut ["cut", "first", "second"] (sp_outcome_by_cut K) := by
  refine T.F_outcome_by_cut.ok sc_outcome_by_cut (fun vs H Q E h => ?_) (fun cdv A outer s H vs Q E hr h => ?_)
  · obtain ⟨c, x, y, rfl, _⟩ := h
    rfl
  · obtain ⟨c, x, y, rfl, h⟩ := h
    refine ⟨_, (pss_cons (ps_if (pt_cmpR op_eq (pv 1) (pv 2) (nomark _)) (pss_one (ps_ret pe_str)) pss_nil)
        (pss_cons (ps_set (i := 3) sc_outcome_by_cut.nd rfl (Or.inl rfl) (pe_cmpR op_ne (pe_cmpR op_lt (pv 1) (pv 0) (nomark _)) (pe_cmpR op_lt (pv 2) (pv 0) (nomark _)) (nomark _)))
        (pss_cons (ps_if (pt_cmpR op_lt (pv 1) (pv 2) (nomark _)) (pss_one (ps_ret (pe_ifExp (pt_val (pv 3)) pe_str pe_str))) pss_nil)
        (pss_one (ps_ret (pe_ifExp (pt_val (pv 3)) pe_str pe_str)))))), ?_⟩
    unfold ocut at h
    refine ⟨_, rfl, _, rfl, rfl, _, rfl, ?_⟩
    by_cases e : x = y
    · rw [if_pos e] at h
      exact tT (decide_eq_true (congrArg V.int e)) h
    rw [if_neg e] at h
    refine tF (decide_eq_false (fun z => e (V.int.inj z))) ?_
    refine ⟨_, rfl, _, rfl, _, _, rfl, rfl, _, rfl, _, rfl, _, _, rfl, rfl, rfl, ?_⟩
    rw [mixed_is]
    refine ⟨_, rfl, _, rfl, _, _, rfl, rfl, _, rfl, ?_⟩
    generalize (decide (x < c) != decide (y < c)) = m at h
    by_cases l : x < y
    · rw [if_pos l] at h
      refine tT (decide_eq_true l) ?_
      refine ⟨_, rfl, m, rfl, ?_⟩
      cases m
      · exact tF rfl h
      · exact tT rfl h
    · rw [if_neg l] at h
      refine tF (decide_eq_false l) ?_
      refine ⟨_, rfl, m, rfl, ?_⟩
      cases m
      · exact tF rfl h
      · exact tT rfl h
/-! _changed -/
def sp_changed (K : PySem.W.Frag) : Sp := fun vs H Q E => ∃ (t : Addr) (xs : List Int) (b : Int), vs = [.ref t, .int b] ∧ SqT K H t (xs.map V.int) ∧ xs.length ≤ 1000 ∧ ∀ p H', H p = none → Same H H' → H' p = some (.tup ((xs.map fun x => Builtin.bitXor x b).map V.int)) → Q (.ref p) H'
theorem sc_changed : FnScope ["words", "bits", "word"] ["words", "bits"] (defScope s_changed) := ⟨rfl, rfl, rfl, by decide +kernel, rfl, by decide +kernel, by decide +kernel⟩
theorem bd_changed (T : Txt w K mg A0) : Binds K A0.d_changed ["words", "bits"] [] := T.F_changed.binds fun _ _ _ _ _ _ us hl => match us, hl with | [_, _], _ => rfl
theorem ok_changed (T : Txt w K mg A0) : FnOk P w K mg base CX0 1 A0.a_changed A0.d_changed ["words", "bits"] (sp_changed K) := by
  refine T.F_changed.ok sc_changed (fun vs H Q E h => ?_) (fun cdv A outer s H vs Q E hr h => ?_)
  · obtain ⟨t, xs, b, rfl, _⟩ := h
    rfl
  · obtain ⟨t, xs, b, rfl, h⟩ := h
    refine ⟨_, (pss_one (ps_ret (pe_callTy call_tuple_of (by rfl) T.b_tuple (by decide +kernel) (pa_cons (pe_lc (own := [("word", 2)]) (g := gName 2) rfl sc_changed.nd (pi_tup (pv 0)) (blkOk_by (own := [("word", 2)]) (N := ["words", "bits", "word"]) (sc := defScope s_changed) (by decide +kernel)) (fun _ _ _ _ _ => pg_name (i := 2) sc_changed.nd rfl (Or.inl rfl)) (fun _ _ _ _ _ => pts_nil) (fun _ _ _ _ _ => (pe_op op_xor (pv 2) (pv 1)))) pa_nil)))), ?_⟩
    obtain ⟨ht, hz, k⟩ := h
    refine ⟨_, rfl, t, rfl, ⟨_, ht⟩, fun D hD => lc_ints (fun x => Builtin.bitXor x b) ht hz hD (fun _ => rfl) (fun x H2 Q2 _ _ q => ?_) (fun H2 s e => ?_)⟩
    · exact ⟨_, rfl, _, rfl, _, _, rfl, rfl, q H2 (Same.refl H2)⟩
    · refine ⟨D, _, rfl, .inl ⟨SqL.of e, fun p hp => ?_⟩⟩
      exact k p _ (s.free hp) (s.trans (sameNew hp)) upd_same
/-! check_items -/
def sp_check_items (K : PySem.W.Frag) : Sp := fun vs H Q E => ∃ n : Nat, vs = [.int (n : Int)] ∧ 1 ≤ n ∧ n ≤ 5 ∧ Q .non H
theorem sc_check_items : FnScope ["items"] ["items"] (defScope s_check_items) := ⟨rfl, rfl, rfl, by decide +kernel, rfl, by decide +kernel, by decide +kernel⟩
theorem bd_check_items (T : Txt w K mg A0) : Binds K A0.d_check_items ["items"] [] := T.F_check_items.binds fun _ _ _ _ _ _ us hl => match us, hl with | [_], _ => rfl
theorem ok_check_items (T : Txt w K mg A0) : FnOk P w K mg base CX0 1 A0.a_check_items A0.d_check_items ["items"] (sp_check_items K) := by
  refine T.F_check_items.ok sc_check_items (fun vs H Q E h => ?_) (fun cdv A outer s H vs Q E hr h => ?_)
  · obtain ⟨n, rfl, _⟩ := h
    rfl
  · obtain ⟨n, rfl, h⟩ := h
    refine ⟨_, (pss_one (ps_if (PW.pt (pw_or (pt_cmpR op_lt (pv 0) pe_int (nomark _)) (pw_or1 (pt_cmpR op_gt (pv 0) (pe_glob (v := .int 5) rfl (T.gi_MOST_ITEMS).choose_spec ⟨_, rfl⟩) (nomark _))))) (pss_one ps_never) pss_nil)), ?_⟩
    obtain ⟨n1, n5, k⟩ := h
    refine ⟨_, rfl, _, _, rfl, rfl, _, rfl, ?_⟩
    refine tF (decide_eq_false (by omega)) ?_
    refine ⟨_, rfl, _, _, rfl, rfl, _, rfl, ?_⟩
    refine tF (decide_eq_false (by omega)) ?_
    exact k
/-! _is_ranking -/
def sp_is_ranking (K : PySem.W.Frag) : Sp := fun vs H Q E => ∃ (q rt : Addr) (rs : List Int) (c : Int) (m : Nat), vs = [.ref q] ∧ RkAt H q rt rs c ∧ IsRk rs m ∧ 0 ≤ c ∧ c ≤ (m : Int) ∧ rs.length ≤ 60 ∧ ∀ H', Same H H' → Q (.bl true) H'
theorem sc_is_ranking : FnScope ["ranking", "ranks", "cut", "number", "many"] ["ranking"] (defScope s_is_ranking) := ⟨rfl, rfl, rfl, by decide +kernel, rfl, by decide +kernel, by decide +kernel⟩
theorem bd_is_ranking (T : Txt w K mg A0) : Binds K A0.d_is_ranking ["ranking"] [] := T.F_is_ranking.binds fun _ _ _ _ _ _ us hl => match us, hl with | [_], _ => rfl
set_option maxHeartbeats 0 in
theorem ok_is_ranking (T : Txt w K mg A0) : FnOk P w K mg base CX0 1 A0.a_is_ranking A0.d_is_ranking ["ranking"] (sp_is_ranking K) := by
  refine T.F_is_ranking.ok sc_is_ranking (fun vs H Q E h => ?_) (fun cdv A outer s H vs Q E hr h => ?_)
  · obtain ⟨q, rt, rs, c, m, rfl, _⟩ := h
    rfl
  · obtain ⟨q, rt, rs, c, m, rfl, h⟩ := h
    refine ⟨_, (pss_cons (ps_if (PW.pt (pw_or (pt_cmpR op_ne (pe_callB call_len_seq (by rfl) T.b_len (by decide +kernel) (pa_cons (pv 0) pa_nil)) pe_int (nomark _)) (pw_or1 (pt_cmpR op_isNotTy (pe_callTy RZ.call_type4 (by rfl) T.b_type (by decide +kernel) (pa_cons (pe_ix ix_tup (pv 0) pe_int (fun _ _ => rfl)) pa_nil)) (pe_bltn (v := .ty "tuple") (by rfl) T.b_tuple (by decide +kernel) rfl) (nomark _))))) (pss_one (ps_ret pe_bl)) pss_nil)
        (pss_cons (ps_asg (pv 0) (pg_tup rfl (pgs_cons (pg_name (i := 1) sc_is_ranking.nd rfl (Or.inl rfl)) (pgs_cons (pg_name (i := 2) sc_is_ranking.nd rfl (Or.inl rfl)) pgs_nil))))
        (pss_cons (ps_if (pt_val (pe_callB (cr_any rfl) (by rfl) T.b_any (by decide +kernel) (pa_cons (pe_lc (own := [("number", 3)]) (g := gName 3) rfl sc_is_ranking.nd (pi_tup (pe_tup (StX.pa_star (pv 1) (pa_cons (pv 2) pa_nil)))) (blkOk_by (own := [("number", 3)]) (N := ["ranking", "ranks", "cut", "number", "many"]) (sc := defScope s_is_ranking) (by decide +kernel)) (fun _ _ _ _ _ => pg_name (i := 3) sc_is_ranking.nd rfl (Or.inl rfl)) (fun _ _ _ _ _ => pts_nil) (fun _ _ _ _ _ => (pe_cmpR op_isNotTy (pe_callTy RZ.call_type4 (by rfl) T.b_type (by decide +kernel) (pa_cons (pv 3) pa_nil)) (pe_bltn (v := .ty "int") (by rfl) T.b_int (by decide +kernel) rfl) (nomark _)))) pa_nil))) (pss_one (ps_ret pe_bl)) pss_nil)
        (pss_cons (ps_set (i := 4) sc_is_ranking.nd rfl (Or.inl rfl) (pe_callB call_len_setO (by rfl) T.b_len (by decide +kernel) (pa_cons (pe_callTy (cr_setOf rfl) (by rfl) T.b_set (by decide +kernel) (pa_cons (pv 1) pa_nil)) pa_nil)))
        (pss_one (ps_ret (pe_and (pe_cmpR (op_eqD hr.units) (pe_callB (cr_sortedSet rfl) (by rfl) T.b_sorted (by decide +kernel) (pa_cons (pe_callTy (cr_setOf rfl) (by rfl) T.b_set (by decide +kernel) (pa_cons (pv 1) pa_nil)) pa_nil)) (pe_listRg rfl (by rfl) T.b_list (prg_1 (by rfl) T.b_range (pv 4))) (nomark _)) (pe_one (pe_chain op_le op_le pe_int (pv 2) (pv 4)))))))))), ?_⟩
    obtain ⟨hr, is, c0, cm, hz, k⟩ := h
    refine ⟨_, rfl, q, _, rfl, .inr (SqT.of hr.1), rfl, _, rfl, ?_⟩
    refine tF rfl ?_
    refine ⟨_, rfl, q, _, 0, .ref rt, rfl, rfl, SqT.of hr.1, rfl, .ref rt, "tuple", rfl, .tup hr.2, _, _, rfl, rfl, _, rfl, ?_⟩
    refine tF rfl ?_
    refine ⟨_, rfl, q, _, rfl, SqT.of hr.1, rfl, _, _, rfl, _, _, rfl, rfl, ?_⟩
    refine ⟨_, rfl, rt, _, rfl, .inl (SqT.of hr.2), _, rfl, (by rw [List.length_append, List.length_map]; exact Nat.le_of_lt (small1000 (show rs.length + 1 ≤ 1000 by omega))), fun tt htt => ?_⟩
    have et : (upd H tt (.tup (rs.map V.int ++ [.int c]))) tt = some (.tup ((rs ++ [c]).map V.int)) := by
      rw [upd_same, List.map_append]
      rfl
    refine ⟨tt, rfl, ⟨_, SqT.of et⟩, fun D hD => lc_tup (xs := (rs ++ [c]).map V.int) (fun i H' => Same (upd H tt (.tup (rs.map V.int ++ [.int c]))) H' ∧ i ≤ 61 ∧ H' D = some (.lst ((List.replicate i false).map V.bl))) ⟨sameNew hD, by omega, upd_same⟩ (fun i H' _ hp => SqT.of (hp.1 _ _ et)) ?_ ?_⟩
    · rintro i x H1 hi ⟨s1, i1, e1⟩
      obtain ⟨z, hz1, rfl⟩ := map_at hi
      have lt := (List.getElem?_eq_some_iff.mp hz1).1
      rw [List.length_append] at lt
      have lt2 : i < rs.length + 1 := lt
      refine ⟨rfl, ?_⟩
      refine yesR ?_
      refine tT rfl ?_
      refine ⟨_, rfl, .int z, "int", rfl, .int z, _, _, rfl, rfl, _, e1, small1000 (by rw [List.length_map, List.length_replicate]; omega), sameUp s1 hD, by omega, ?_⟩
      rw [upd_same, List.replicate_succ', List.map_append]
      rfl
    rintro H1 ⟨s1, _, e1⟩
    refine ⟨D, _, rfl, SqL.of e1, _, rfl, ?_⟩
    refine tF (by simp) ?_
    have s01 : Same H H1 := (sameNew htt).trans s1
    have hr1 := hr.same s01
    refine ⟨_, rfl, rt, rs, rfl, SqT.of hr1.2, by omega, fun p n ks hp nd mem ln => ⟨p, _, n, rfl, upd_same, ?_⟩⟩
    obtain rfl : n = m := by rw [← ln, isRk_card is nd mem]
    have s2 : Same H1 (upd H1 p (SetO w p (fun j => decide (j ∈ rs)) n)) := sameNew hp
    have hr2 := hr1.same s2
    refine ⟨_, rfl, rt, rs, rfl, SqT.of hr2.2, by omega, fun p2 n2 ks2 hp2 nd2 mem2 l2 => ?_⟩
    have n2m : n2 = n := by rw [← l2, isRk_card is nd2 mem2]
    have nz : n ≤ 60 := by
      have e1 := card_one nd (up_nodup (srt_up rs)) (fun k => by rw [mem k, srt_mem])
      have e2 := srt_len rs
      omega
    refine ⟨p2, _, n2, rfl, upd_same, by omega, fun ns p3 up mem3 l3 hp3 => ?_⟩
    obtain rfl : ns = rg n := isRk_srt is up fun k => by rw [mem3 k, decide_eq_true_eq]
    have s4 := s2.trans ((sameNew hp2 (o := SetO w p2 (fun j => decide (j ∈ rs)) n2)).trans (sameNew hp3 (o := .lst ((rg n).map V.int))))
    refine ⟨_, rfl, (n : Int), rfl, RgOk.of_le (by omega) (by omega) (by omega) (by omega), fun p4 hp4 => ?_⟩
    rw [rgV_rg]
    refine ⟨.list ((rg n).map PyData.int), .list ((rg n).map PyData.int), .lst (SqL.of ((sameNew hp4) _ _ upd_same)) (ints_all _), .lst (SqL.of upd_same) (ints_all _), ints_shaped _, ints_shaped _, _, rfl, ?_⟩
    refine tT (eqv_lst _) ?_
    refine ⟨_, rfl, _, _, rfl, rfl, _, rfl, ?_⟩
    refine tT (decide_eq_true c0) ?_
    refine ⟨_, rfl, _, _, rfl, rfl, ?_⟩
    show Q (.bl (decide (c ≤ (n : Int)))) _
    rw [decide_eq_true cm]
    exact k _ (s01.trans (s4.trans (sameNew hp4)))
/-! _ranks_by_sign -/
def sp_ranks_by_sign (K : PySem.W.Frag) : Sp := fun vs H Q E => ∃ (q rt : Addr) (rs : List Int) (c : Int) (m : Nat), vs = [.ref q] ∧ RkAt H q rt rs c ∧ IsRk rs m ∧ rs.length ≤ 60 ∧ ∀ p H', Same H H' → H' p = some (.tup [.int c, .int ((m : Int) - c)]) → Q (.ref p) H'
theorem sc_ranks_by_sign : FnScope ["ranking", "ranks", "cut"] ["ranking"] (defScope s_ranks_by_sign) := ⟨rfl, rfl, rfl, by decide +kernel, rfl, by decide +kernel, by decide +kernel⟩
theorem bd_ranks_by_sign (T : Txt w K mg A0) : Binds K A0.d_ranks_by_sign ["ranking"] [] := T.F_ranks_by_sign.binds fun _ _ _ _ _ _ us hl => match us, hl with | [_], _ => rfl
theorem ok_ranks_by_sign (T : Txt w K mg A0) : FnOk P w K mg base CX0 1 A0.a_ranks_by_sign A0.d_ranks_by_sign ["ranking"] (sp_ranks_by_sign K) := by
  refine T.F_ranks_by_sign.ok sc_ranks_by_sign (fun vs H Q E h => ?_) (fun cdv A outer s H vs Q E hr h => ?_)
  · obtain ⟨q, rt, rs, c, m, rfl, _⟩ := h
    rfl
  · obtain ⟨q, rt, rs, c, m, rfl, h⟩ := h
    refine ⟨_, (pss_cons (ps_asg (pv 0) (pg_tup rfl (pgs_cons (pg_name (i := 1) sc_ranks_by_sign.nd rfl (Or.inl rfl)) (pgs_cons (pg_name (i := 2) sc_ranks_by_sign.nd rfl (Or.inl rfl)) pgs_nil))))
        (pss_one (ps_ret (pe_tup (pa_cons (pv 2) (pa_cons (pe_op op_sub (pe_callB call_len_setO (by rfl) T.b_len (by decide +kernel) (pa_cons (pe_callTy (cr_setOf rfl) (by rfl) T.b_set (by decide +kernel) (pa_cons (pv 1) pa_nil)) pa_nil)) (pv 2)) pa_nil)))))), ?_⟩
    obtain ⟨hr, is, hz, k⟩ := h
    refine ⟨_, rfl, q, _, rfl, SqT.of hr.1, rfl, _, _, rfl, _, _, rfl, rfl, ?_⟩
    refine ⟨_, rfl, _, rfl, rt, rs, rfl, SqT.of hr.2, by omega, fun p n ks hp nd mem ln => ⟨p, _, n, rfl, upd_same, ?_⟩⟩
    obtain rfl : n = m := by rw [← ln, isRk_card is nd mem]
    refine ⟨_, rfl, _, _, rfl, rfl, (by show 2 ≤ sizeLine; decide), fun r hr9 => ?_⟩
    exact k r _ ((sameNew hp).trans (sameNew hr9)) upd_same
/-! _gaps -/
def sp_gaps (K : PySem.W.Frag) : Sp := fun vs H Q E => ∃ (a : Addr) (r : List Int), vs = [.ref a] ∧ SqT K H a (r.map V.int) ∧ r ≠ [] ∧ r.length ≤ 60 ∧ ∀ H', Same H H' → Q (.int (gapsI r)) H'
theorem sc_gaps : FnScope ["ranks"] ["ranks"] (defScope s_gaps) := ⟨rfl, rfl, rfl, by decide +kernel, rfl, by decide +kernel, by decide +kernel⟩
theorem bd_gaps (T : Txt w K mg A0) : Binds K A0.d_gaps ["ranks"] [] := T.F_gaps.binds fun _ _ _ _ _ _ us hl => match us, hl with | [_], _ => rfl
theorem ok_gaps (T : Txt w K mg A0) : FnOk P w K mg base CX0 1 A0.a_gaps A0.d_gaps ["ranks"] (sp_gaps K) := by
  refine T.F_gaps.ok sc_gaps (fun vs H Q E h => ?_) (fun cdv A outer s H vs Q E hr h => ?_)
  · obtain ⟨a, r, rfl, _⟩ := h
    rfl
  · obtain ⟨a, r, rfl, h⟩ := h
    refine ⟨_, (pss_one (ps_ret (pe_op op_sub (pe_op op_add (pe_callB (cr_maxT rfl hr.units) (by rfl) T.b_max (by decide +kernel) (pa_cons (pv 0) pa_nil)) pe_int) (pe_callB call_len_setO (by rfl) T.b_len (by decide +kernel) (pa_cons (pe_callTy (cr_setOf rfl) (by rfl) T.b_set (by decide +kernel) (pa_cons (pv 0) pa_nil)) pa_nil))))), ?_⟩
    obtain ⟨ha, hne, hz, k⟩ := h
    refine ⟨_, rfl, a, r, rfl, ha, hne, _, _, rfl, rfl, _, rfl, a, r, rfl, ha, by omega, fun p n ks hp nd mem ln => ⟨p, _, n, rfl, upd_same, _, _, rfl, rfl, ?_⟩⟩
    have e : n = (srt r).length := by rw [← ln]; exact card_one nd (up_nodup (srt_up r)) fun k => by rw [mem k, srt_mem]
    rw [e]
    exact k _ (sameNew hp)
/-! _law_pool -/
def sp_law_pool (K : PySem.W.Frag) : Sp := fun vs H Q E => ∃ (a : Addr) (ns : List Int) (i : Int), vs = [.ref a, .int i] ∧ SqL K H a (ns.map V.int) ∧ 0 ≤ i ∧ i ≤ 1000 ∧ ns.length ≤ 63 ∧ ∀ p H', H p = none → Same H H' → Pool H' p 0 → Q (.ref p) H'
theorem sc_law_pool : FnScope ["script", "at", "cell"] ["script", "at"] (defScope s_law_pool) := ⟨rfl, rfl, rfl, by decide +kernel, rfl, by decide +kernel, by decide +kernel⟩
theorem bd_law_pool (T : Txt w K mg A0) : Binds K A0.d_law_pool ["script", "at"] [] := T.F_law_pool.binds fun _ _ _ _ _ _ us hl => match us, hl with | [_, _], _ => rfl
theorem ok_law_pool (T : Txt w K mg A0) : FnOk P w K mg base CX0 1 A0.a_law_pool A0.d_law_pool ["script", "at"] (sp_law_pool K) := by
  refine T.F_law_pool.ok sc_law_pool (fun vs H Q E h => ?_) (fun cdv A outer s H vs Q E hr h => ?_)
  · obtain ⟨a, ns, i, rfl, _⟩ := h
    rfl
  · obtain ⟨a, ns, i, rfl, h⟩ := h
    refine ⟨_, (pss_cons (ps_set (i := 2) sc_law_pool.nd rfl (Or.inl rfl) pe_int)
        (pss_cons (ps_if (pt_cmpR op_lt (pv 1) (pe_callB call_len_seq (by rfl) T.b_len (by decide +kernel) (pa_cons (pv 0) pa_nil)) (nomark _)) (pss_one (ps_set (i := 2) sc_law_pool.nd rfl (Or.inl rfl) (pe_ix ix_list (pv 0) (pv 1) (fun _ _ => rfl)))) pss_nil)
        (pss_one (ps_ret (pe_lst (pa_cons (pe_callB (call_max2 rfl) (by rfl) T.b_max (by decide +kernel) (pa_cons pe_int (pa_cons (pe_op op_sub (pe_callB call_abs (by rfl) T.b_abs (by decide +kernel) (pa_cons (pv 2) pa_nil)) (pe_op op_pow pe_int pe_int)) pa_nil))) (pa_cons (pe_op op_add (pe_op op_mod (pv 2) pe_int) (pe_op op_mul pe_int (pe_op op_add (pv 1) pe_int))) (pa_cons pe_int pa_nil)))))))), ?_⟩
    obtain ⟨hS, h0, h1, hl, k⟩ := h
    have fin : ∀ c : Int, ∀ p, H p = none → Q (.ref p) (upd H p (.lst [.int (if (if c < 0 then -c else c) - 10 ^ (18 : Int).toNat > 0 then (if c < 0 then -c else c) - 10 ^ (18 : Int).toNat else 0), .int (c % 2305843009213693951 + 3276509057 * (i + 1)), .int 0])) := fun c p hp => by
      refine k p _ hp (sameNew hp) ⟨_, _, _, upd_same, ?_, ?_, ?_, by decide, by decide⟩
      · generalize (if c < 0 then -c else c) - 10 ^ (18 : Int).toNat = z
        split <;> omega
      · have := Int.emod_nonneg c (show (2305843009213693951 : Int) ≠ 0 by decide)
        omega
      · have := Int.emod_lt_of_pos c (show (0 : Int) < 2305843009213693951 by decide)
        omega
    refine ⟨_, rfl, _, rfl, a, _, rfl, .inl hS, _, _, rfl, rfl, _, rfl, ?_⟩
    rw [List.length_map]
    by_cases c : i < (ns.length : Int)
    · obtain ⟨z, hz⟩ : ∃ z, ns[i.toNat]? = some z := ⟨ns[i.toNat]'(by omega), List.getElem?_eq_getElem (by omega)⟩
      refine tT (decide_eq_true c) ?_
      refine ⟨_, rfl, _, rfl, a, _, i, .int z, rfl, rfl, hS, ?_, ?_⟩
      · refine at_of (j := i.toNat) (by omega) ?_
        rw [List.getElem?_map, hz]
        rfl
      refine ⟨_, rfl, _, rfl, _, _, rfl, rfl, ⟨by decide, by decide, by decide⟩, _, _, rfl, rfl, _, _, rfl, ?_⟩
      refine ⟨_, rfl, _, _, rfl, rfl, (by show (0 : Int) < 2305843009213693951; decide), _, rfl, _, _, rfl, rfl, _, _, rfl, rfl, .inl ⟨by decide, by decide⟩, _, _, rfl, rfl, ?_⟩
      exact ⟨(by show 3 ≤ sizeLine; decide), fin z⟩
    · refine tF (decide_eq_false c) ?_
      refine ⟨_, rfl, _, rfl, _, _, rfl, rfl, ⟨by decide, by decide, by decide⟩, _, _, rfl, rfl, _, _, rfl, ?_⟩
      refine ⟨_, rfl, _, _, rfl, rfl, (by show (0 : Int) < 2305843009213693951; decide), _, rfl, _, _, rfl, rfl, _, _, rfl, rfl, .inl ⟨by decide, by decide⟩, _, _, rfl, rfl, ?_⟩
      exact ⟨(by show 3 ≤ sizeLine; decide), fin 0⟩
/-! _law_draw -/
def sp_law_draw (K : PySem.W.Frag) : Sp := fun vs H Q E => ∃ (p : Addr) (m : Int) (n : Nat), vs = [.ref p, .int m] ∧ Pool H p n ∧ n ≤ 100000 ∧ 0 < m ∧ m < 2 ^ 400 ∧ ∀ d H', 0 ≤ d → d < m → Pool H' p (n + 1) → But p H H' → Q (.int d) H'
theorem sc_law_draw : FnScope ["pool", "many", "drawn", "mixed"] ["pool", "many"] (defScope s_law_draw) := ⟨rfl, rfl, rfl, by decide +kernel, rfl, by decide +kernel, by decide +kernel⟩
theorem bd_law_draw (T : Txt w K mg A0) : Binds K A0.d_law_draw ["pool", "many"] [] := T.F_law_draw.binds fun _ _ _ _ _ _ us hl => match us, hl with | [_, _], _ => rfl
theorem ok_law_draw (T : Txt w K mg A0) : FnOk P w K mg base CX0 1 A0.a_law_draw A0.d_law_draw ["pool", "many"] (sp_law_draw K) := by
  refine T.F_law_draw.ok sc_law_draw (fun vs H Q E h => ?_) (fun cdv A outer s H vs Q E hr h => ?_)
  · obtain ⟨p, m, n, rfl, _⟩ := h
    rfl
  · obtain ⟨p, m, n, rfl, h⟩ := h
    refine ⟨_, (pss_cons (ps_if (pt_cmpR op_gt (pe_ix ix_list (pv 0) pe_int (fun _ _ => rfl)) pe_int (nomark _)) (pss_cons (ps_set (i := 2) sc_law_draw.nd rfl (Or.inl rfl) (pe_op op_mod (pe_ix ix_list (pv 0) pe_int (fun _ _ => rfl)) (pv 1)))
        (pss_cons (ps_asg (pe_op op_fdivW (pe_ix ix_list (pv 0) pe_int (fun _ _ => rfl)) (pv 1)) (pg_sub (pv 0) pe_int set_list))
        (pss_one (ps_ret (pv 2))))) pss_nil)
        (pss_cons (ps_asg (pe_op op_add (pe_ix ix_list (pv 0) pe_int (fun _ _ => rfl)) pe_int) (pg_sub (pv 0) pe_int set_list))
        (pss_cons (ps_set (i := 3) sc_law_draw.nd rfl (Or.inl rfl) (pe_op op_mod (pe_op op_powB (pe_op op_add (pe_ix ix_list (pv 0) pe_int (fun _ _ => rfl)) (pe_op op_mul pe_int (pe_ix ix_list (pv 0) pe_int (fun _ _ => rfl)))) pe_int) pe_int))
        (pss_cons (ps_set (i := 3) sc_law_draw.nd rfl (Or.inl rfl) (pe_op op_mod (pe_op op_powB (pe_op op_add (pv 3) (pe_op op_mul pe_int (pe_ix ix_list (pv 0) pe_int (fun _ _ => rfl)))) pe_int) pe_int))
        (pss_one (ps_ret (pe_op op_mod (pe_op op_fdivW (pv 3) pe_int) (pv 1)))))))), ?_⟩
    obtain ⟨pl, hn, h0, h1, k⟩ := h
    obtain ⟨g, b, c, hp, g0, b0, b1, c0, c1⟩ := pl
    have lm := log_ok h0 h1
    refine ⟨_, rfl, p, _, 0, .int g, rfl, rfl, SqL.of hp, rfl, _, _, rfl, rfl, _, rfl, ?_⟩
    by_cases z : 0 < g
    · refine tT (decide_eq_true z) ?_
      refine ⟨_, rfl, p, _, 0, .int g, rfl, rfl, SqL.of hp, rfl, _, rfl, _, _, rfl, rfl, h0, ?_⟩
      refine ⟨_, rfl, p, _, 0, .int g, rfl, rfl, SqL.of hp, rfl, _, rfl, _, _, rfl, rfl, ⟨h0, lm⟩, ?_⟩
      refine ⟨_, rfl, p, _, 0, 0, rfl, rfl, hp, rfl, ?_⟩
      refine ⟨_, rfl, ?_⟩
      exact k _ _ (Int.emod_nonneg g (by omega)) (Int.emod_lt_of_pos g h0) ⟨g / m, b, c, upd_same, Int.ediv_nonneg g0 (by omega), b0, b1, c0, by omega⟩ But.upd
    · refine tF (decide_eq_false z) ?_
      have e1 : ∀ o, (upd H p o) p = some o := fun o => upd_same
      refine ⟨_, rfl, p, _, 2, .int c, rfl, rfl, SqL.of hp, rfl, _, _, rfl, rfl, _, rfl, p, _, 2, 2, rfl, rfl, hp, rfl, ?_⟩
      have hp1 : (upd H p (.lst (List.set [V.int g, V.int b, V.int c] 2 (.int (c + 1))))) p = some (.lst [.int g, .int b, .int (c + 1)]) := upd_same
      refine ⟨_, rfl, p, _, 1, .int b, rfl, rfl, SqL.of hp1, rfl, _, rfl, p, _, 2, .int (c + 1), rfl, rfl, SqL.of hp1, rfl, _, _, rfl, rfl, .inl ⟨by decide, by decide⟩, _, _, rfl, rfl, _, _, rfl, rfl, powB_of (a := 64) (by omega) (by decide) (by decide) (by decide), _, _, rfl, rfl, (by show (0 : Int) < 162259276829213363391578010288127; decide), ?_⟩
      generalize hX : (b + 15487469 * (c + 1)) ^ (3 : Int).toNat % 162259276829213363391578010288127 = X
      have x0 : 0 ≤ X := by rw [← hX]; exact Int.emod_nonneg _ (by decide)
      have x1 : X < 162259276829213363391578010288127 := by rw [← hX]; exact Int.emod_lt_of_pos _ (by decide)
      refine ⟨_, rfl, _, rfl, p, _, 2, .int (c + 1), rfl, rfl, SqL.of hp1, rfl, _, _, rfl, rfl, .inl ⟨by decide, by decide⟩, _, _, rfl, rfl, _, _, rfl, rfl, powB_of (a := 120) (by omega) (by decide) (by decide) (by decide), _, _, rfl, rfl, (by show (0 : Int) < 170141183460469231731687303715884105727; decide), ?_⟩
      refine ⟨_, rfl, _, _, rfl, rfl, ⟨by decide, by decide⟩, _, rfl, _, _, rfl, rfl, h0, ?_⟩
      exact k _ _ (Int.emod_nonneg _ (by omega)) (Int.emod_lt_of_pos _ h0) ⟨g, b, c + 1, hp1, g0, b0, b1, by omega, by omega⟩ But.upd
/-! _law_power -/
def sp_law_power (K : PySem.W.Frag) : Sp := fun vs H Q E => ∃ m : Int, vs = [.int m] ∧ 0 ≤ m ∧ m ≤ 2000 ∧ Q (.int (2 ^ m.toNat)) H
theorem sc_law_power : FnScope ["many", "found", "turn"] ["many"] (defScope s_law_power) := ⟨rfl, rfl, rfl, by decide +kernel, rfl, by decide +kernel, by decide +kernel⟩
theorem bd_law_power (T : Txt w K mg A0) : Binds K A0.d_law_power ["many"] [] := T.F_law_power.binds fun _ _ _ _ _ _ us hl => match us, hl with | [_], _ => rfl
theorem ok_law_power (T : Txt w K mg A0) : FnOk P w K mg base CX0 1 A0.a_law_power A0.d_law_power ["many"] (sp_law_power K) := by
  refine T.F_law_power.ok sc_law_power (fun vs H Q E h => ?_) (fun cdv A outer s H vs Q E hr h => ?_)
  · obtain ⟨m, rfl, _⟩ := h
    rfl
  · obtain ⟨m, rfl, h⟩ := h
    refine ⟨_, (pss_cons (ps_set (i := 1) sc_law_power.nd rfl (Or.inl rfl) pe_int)
        (pss_cons (ps_for PassesOwn.never rfl (pi_range1 rfl T.b_range (pa_cons (pv 0) pa_nil)) (pg_name (i := 2) sc_law_power.nd rfl (Or.inl rfl)) (pss_one (ps_set (i := 1) sc_law_power.nd rfl (Or.inl rfl) (pe_op op_mul (pv 1) pe_int))))
        (pss_one (ps_ret (pv 1))))), ?_⟩
    obtain ⟨h0, h1, k⟩ := h
    refine ⟨_, rfl, m, rfl, by omega, by omega, for_range (n := m.toNat) (fun i σ H' => ∃ v, σ = [some (.int m), some (.int (2 ^ i)), v] ∧ H' = H) ⟨none, rfl, rfl⟩ ?_ ?_⟩
    · rintro i σ H' hi ⟨v, rfl, rfl⟩
      refine ⟨_, rfl, _, _, rfl, rfl, .inr ⟨by decide, by decide⟩, ?_⟩
      exact ⟨_, rfl, rfl⟩
    · rintro σ H' ⟨v, rfl, rfl⟩
      exact ⟨_, rfl, k⟩
/-! _law_all_rankings -/
def sp_law_all_rankings (K : PySem.W.Frag) : Sp := fun vs H Q E => ∃ n : Nat, vs = [.int (n : Int)] ∧ 1 ≤ n ∧ n ≤ 4 ∧ ∀ l qs H', H l = none → Same H H' → H' l = some (.lst (qs.map V.ref)) → RL H' qs (allRk n) → Q (.ref l) H'
theorem sc_law_all_rankings : FnScope ["many", "rows", "turn", "longer", "row", "rank", "found", "top", "cut"] ["many"] (defScope s_law_all_rankings) := ⟨rfl, rfl, rfl, by decide +kernel, rfl, by decide +kernel, by decide +kernel⟩
theorem bd_law_all_rankings (T : Txt w K mg A0) : Binds K A0.d_law_all_rankings ["many"] [] := T.F_law_all_rankings.binds fun _ _ _ _ _ _ us hl => match us, hl with | [_], _ => rfl
set_option maxHeartbeats 0 in
theorem ok_law_all_rankings (T : Txt w K mg A0) : FnOk P w K mg base CX0 1 A0.a_law_all_rankings A0.d_law_all_rankings ["many"] (sp_law_all_rankings K) := by
  refine T.F_law_all_rankings.ok sc_law_all_rankings (fun vs H Q E h => ?_) (fun cdv A outer s H vs Q E hr h => ?_)
  · obtain ⟨n, rfl, _⟩ := h
    rfl
  · obtain ⟨n, rfl, h⟩ := h
    refine ⟨_, (pss_cons (ps_set (i := 1) sc_law_all_rankings.nd rfl (Or.inl rfl) (pe_lst (pa_cons (pe_lst pa_nil) pa_nil)))
        (pss_cons (ps_for PassesOwn.never rfl (pi_range1 rfl T.b_range (pa_cons (pv 0) pa_nil)) (pg_name (i := 2) sc_law_all_rankings.nd rfl (Or.inl rfl)) (pss_cons (ps_set (i := 3) sc_law_all_rankings.nd rfl (Or.inl rfl) (pe_lst pa_nil))
        (pss_cons (ps_for PassesOwn.never rfl (pi_list (pv 1)) (pg_name (i := 4) sc_law_all_rankings.nd rfl (Or.inr rfl)) (pss_one (ps_expr (pe_bmX (K := K) rfl PySem.F.plainAttrs_list PySem.F.slot_list_extend PySem.F.type_list_extend mt_extend (pv 3) (pa_cons (pe_lc (own := [("rank", 5)]) (g := gName 5) rfl sc_law_all_rankings.nd (pi_range1 rfl T.b_range (pa_cons (pv 0) pa_nil)) (blkOk_by (own := [("rank", 5)]) (N := ["many", "rows", "turn", "longer", "row", "rank", "found", "top", "cut"]) (sc := defScope s_law_all_rankings) (by decide +kernel)) (fun _ _ _ _ _ => pg_name (i := 5) sc_law_all_rankings.nd rfl (Or.inl rfl)) (fun _ _ _ _ _ => pts_nil) (fun _ _ _ _ _ => (pe_op op_cat (pv 4) (pe_lst (pa_cons (pv 5) pa_nil))))) pa_nil) rfl rfl rfl rfl rfl))))
        (pss_one (ps_set (i := 1) sc_law_all_rankings.nd rfl (Or.inl rfl) (pv 3))))))
        (pss_cons (ps_set (i := 6) sc_law_all_rankings.nd rfl (Or.inl rfl) (pe_lst pa_nil))
        (pss_cons (ps_for PassesOwn.never rfl (pi_list (pv 1)) (pg_name (i := 4) sc_law_all_rankings.nd rfl (Or.inr rfl)) (pss_cons (ps_set (i := 7) sc_law_all_rankings.nd rfl (Or.inl rfl) (pe_op op_add (pe_callB (cr_max rfl) (by rfl) T.b_max (by decide +kernel) (pa_cons (pv 4) pa_nil)) pe_int))
        (pss_one (ps_if (pt_cmpR op_eq (pe_lenSetL (K := K) rfl rfl (by rfl) T.b_len (by rfl) T.b_set (pv 4) rfl) (pv 7) (nomark _)) (pss_one (ps_expr (pe_bmX (K := K) rfl PySem.F.plainAttrs_list PySem.F.slot_list_extend PySem.F.type_list_extend mt_extend (pv 6) (pa_cons (pe_lc (own := [("cut", 8)]) (g := gName 8) rfl sc_law_all_rankings.nd (pi_range1 rfl T.b_range (pa_cons (pe_op op_add (pv 7) pe_int) pa_nil)) (blkOk_by (own := [("cut", 8)]) (N := ["many", "rows", "turn", "longer", "row", "rank", "found", "top", "cut"]) (sc := defScope s_law_all_rankings) (by decide +kernel)) (fun _ _ _ _ _ => pg_name (i := 8) sc_law_all_rankings.nd rfl (Or.inl rfl)) (fun _ _ _ _ _ => pts_nil) (fun _ _ _ _ _ => (pe_tup (pa_cons (pe_callTy (show CallR _ _ (rTupOf K) from cr_tupOf) (by rfl) T.b_tuple (by decide +kernel) (pa_cons (pv 4) pa_nil)) (pa_cons (pv 8) pa_nil))))) pa_nil) rfl rfl rfl rfl rfl))) pss_nil))))
        (pss_one (ps_ret (pv 6))))))), ?_⟩
    obtain ⟨n1, n4, k⟩ := h
    have m4 := four n1 n4
    refine ⟨(by show 0 ≤ sizeLine; decide), fun t0 ht0 => ⟨(by show 1 ≤ sizeLine; decide), fun l0 hl0 => ?_⟩⟩
    have s0 : Same H (upd (upd H t0 (.lst [])) l0 (.lst [.ref t0])) := (sameNew ht0).trans (sameNew hl0)
    refine ⟨_, rfl, (n : Int), rfl, by omega, by omega, for_range (n := n) (fun i σ H' => ∃ (l : Addr) (as : List Addr) (u2 u3 u4 u5 u6 u7 u8 : Option V), σ = [some (.int (n : Int)), some (.ref l), u2, u3, u4, u5, u6, u7, u8] ∧ Same H H' ∧ H' l = some (.lst (as.map V.ref)) ∧ LL H' as (lawRows n i)) ⟨l0, [t0], _, _, _, _, _, _, _, rfl, s0, upd_same, .cons ((sameNew hl0) _ _ upd_same) .nil⟩ ?_ ?_⟩
    · rintro i σ H1 hi ⟨l, as, u2, u3, u4, u5, u6, u7, u8, rfl, s1, el, tl⟩
      obtain ⟨rs1, rs2⟩ := law_rows n m4 i (List.mem_range.mpr (by omega))
      have las := pr_len tl
      refine ⟨(by show 0 ≤ sizeLine; decide), fun D hD => ?_⟩
      have nel : ∀ {a : Addr} {o : HO}, H1 a = some o → a ≠ D := fun e => ne_of_none e hD
      have eD : (upd H1 D (.lst [])) D = some (.lst (([] : List Addr).map V.ref)) := upd_same
      have b0 : But D H1 (upd H1 D (.lst [])) := But.upd
      have asD : ∀ a ∈ as, a ≠ D := fun a ha => by
        obtain ⟨j, hj, e⟩ := List.mem_iff_getElem.mp ha
        obtain ⟨r, _, er⟩ := pr_at tl (show as[j]? = some a by rw [List.getElem?_eq_getElem hj, e])
        exact nel er
      refine ⟨_, rfl, l, rfl, ⟨_, SqL.of (b0 _ _ (nel el) el)⟩, for_list (K := K) (a := l) (xs := as.map V.ref) (fun i2 σ H' => ∃ (bs : List Addr) (u4 u5 u6 u7 u8 : Option V), σ = [some (.int (n : Int)), some (.ref l), some (.int (0 + (i : Nat))), some (.ref D), u4, u5, u6, u7, u8] ∧ But D H1 H' ∧ H' D = some (.lst (bs.map V.ref)) ∧ LL H' bs (((lawRows n i).take i2).flatMap (addR n)) ∧ ∀ b ∈ bs, b ≠ D) ⟨[], _, _, _, _, _, rfl, b0, eD, .nil, fun b m => absurd m (by simp)⟩ (fun i2 σ H' _ hp => ?_) ?_ ?_⟩
      · obtain ⟨_, _, _, _, _, _, _, b, _⟩ := hp
        exact SqL.of (b _ _ (nel el) el)
      · rintro i2 x σ H2 hx ⟨bs, u4, u5, u6, u7, u8, rfl, b2, eB, tb, nb⟩
        obtain ⟨a, ha, rfl⟩ := mapR_at hx
        obtain ⟨r, hr9, ea⟩ := pr_at tl ha
        have mr := List.mem_of_getElem? hr9
        obtain ⟨lr, _, _⟩ := rs2 r mr
        have ea2 := b2 _ _ (nel ea) ea
        have lb := pr_len tb
        have lb2 : bs.length ≤ 1024 := by
          rw [lb]
          have := flat_len (f := addR n) (m := 4) (l := (lawRows n i).take i2) fun x _ => by rw [addR_len]; exact n4
          have l3 : ((lawRows n i).take i2).length ≤ 256 := by rw [List.length_take]; omega
          omega
        refine ⟨_, rfl, .inl ⟨rfl, _, SqL.of eB⟩, ?_⟩
        refine ⟨_, rfl, (n : Int), rfl, by omega, by omega, fun D2 hD2 => lc_range (lo := 0) (n := n) (fun j H' => Same H2 H' ∧ ∃ cs : List Addr, H' D2 = some (.lst (cs.map V.ref)) ∧ LL H' cs ((addR n r).take j) ∧ ∀ c ∈ cs, H2 c = none ∧ c ≠ D2) ⟨sameNew hD2, [], upd_same, .nil, fun c m => absurd m (by simp)⟩ ?_ ?_⟩
        · rintro j H3 hj ⟨s3, cs, eC, tc, nc⟩
          refine ⟨rfl, ?_⟩
          refine yesR ?_
          refine tT rfl ?_
          have lc5 : cs.length ≤ 5 := by rw [pr_len tc, List.length_take, addR_len]; omega
          refine ⟨_, rfl, _, rfl, (by show 1 ≤ sizeLine; decide), fun t ht => ?_⟩
          have sT := sameNew ht (o := .lst [.int (0 + (j : Int))])
          refine ⟨a, t, _, _, rfl, rfl, sT _ _ (s3 _ _ ea2), upd_same, Nat.le_of_lt (small9000 (by rw [List.length_map]; show r.length + 1 ≤ 9000; omega)), fun p hp => ?_⟩
          have sP := sT.trans (sameNew hp (o := .lst (r.map V.int ++ [.int (0 + (j : Int))])))
          have eC4 := sP _ _ eC
          have pD : p ≠ D2 := (ne_of_none (sT _ _ eC) hp).symm
          refine ⟨_, eC4, small9000 (by rw [List.length_map]; omega), sameUp (s3.trans sP) hD2, cs ++ [p], by rw [upd_same, List.map_append]; rfl, ?_, ?_⟩
          · rw [addR_take hj]
            refine LL.but (D := D2) (pr_snoc (LL.same tc sP) (by rw [upd_same, List.map_append, Int.zero_add]; rfl)) But.upd fun c m => ?_
            rcases List.mem_append.mp m with m | m
            · exact (nc c m).2
            · rw [List.mem_singleton.mp m]
              exact pD
          · intro c m
            rcases List.mem_append.mp m with m | m
            · exact nc c m
            · rw [List.mem_singleton.mp m]
              exact ⟨(s3.trans sT).free hp, pD⟩
        · rintro H3 ⟨s3, cs, eC, tc, nc⟩
          rw [List.take_of_length_le (by rw [addR_len]; exact Nat.le_refl _)] at tc
          have eB3 := s3 _ _ eB
          have lc5 : cs.length ≤ 5 := by rw [pr_len tc, addR_len]; omega
          refine ⟨D, D2, _, _, rfl, rfl, eB3, eC, Nat.le_of_lt (small9000 (by rw [List.length_map, List.length_map]; omega)), ?_⟩
          have csD : ∀ c ∈ cs, c ≠ D := fun c m => (ne_of_none eB (nc c m).1).symm
          have all : ∀ c ∈ bs ++ cs, c ≠ D := fun c m => by
            rcases List.mem_append.mp m with m | m
            · exact nb c m
            · exact csD c m
          refine ⟨bs ++ cs, _, _, _, _, _, rfl, b2.trans ((But.of s3).trans But.upd), by rw [upd_same, List.map_append], ?_, all⟩
          rw [flat_take hr9]
          exact LL.but (pr_app (LL.same tb s3) tc) But.upd all
      · rintro σ H2 ⟨bs, u4, u5, u6, u7, u8, rfl, b2, eB, tb, nb⟩
        rw [List.length_map, las, List.take_length] at tb
        refine ⟨_, rfl, D, bs, _, _, _, _, _, _, _, rfl, ?_, eB, tb⟩
        intro b o e
        exact b2 b o (nel (s1 b o e)) (s1 b o e)
    · rintro σ H1 ⟨l, as, u2, u3, u4, u5, u6, u7, u8, rfl, s1, el, tl⟩
      obtain ⟨rs1, rs2⟩ := law_rows n m4 n (List.mem_range.mpr (by omega))
      have las := pr_len tl
      refine ⟨(by show 0 ≤ sizeLine; decide), fun F hF => ?_⟩
      have nel : ∀ {a : Addr} {o : HO}, H1 a = some o → a ≠ F := fun e => ne_of_none e hF
      have b0 : But F H1 (upd H1 F (.lst [])) := But.upd
      refine ⟨_, rfl, l, rfl, ⟨_, SqL.of (b0 _ _ (nel el) el)⟩, for_list (K := K) (a := l) (xs := as.map V.ref) (fun i2 σ H' => ∃ (qs : List Addr) (u3 u4 u5 u7 u8 : Option V), σ = [some (.int (n : Int)), some (.ref l), u2, u3, u4, u5, some (.ref F), u7, u8] ∧ But F H1 H' ∧ H' F = some (.lst (qs.map V.ref)) ∧ RL H' qs (((lawRows n n).take i2).flatMap lawCuts)) ⟨[], _, _, _, _, _, rfl, b0, upd_same, .nil⟩ (fun i2 σ H' _ hp => ?_) ?_ ?_⟩
      · obtain ⟨_, _, _, _, _, _, _, b, _⟩ := hp
        exact SqL.of (b _ _ (nel el) el)
      · rintro i2 x σ H2 hx ⟨qs, u3, u4, u5, u7, u8, rfl, b2, eB, tb⟩
        obtain ⟨a, ha, rfl⟩ := mapR_at hx
        obtain ⟨r, hr9, ea⟩ := pr_at tl ha
        have mr := List.mem_of_getElem? hr9
        obtain ⟨lr, m0, m3⟩ := rs2 r mr
        have ea2 := b2 _ _ (nel ea) ea
        have cl : (cutsR r).length ≤ 5 := by
          unfold cutsR
          rw [List.length_map, List.length_range]
          omega
        have lb2 : qs.length ≤ 1280 := by
          rw [pr_len tb]
          have := flat_len (f := lawCuts) (m := 5) (l := (lawRows n n).take i2) fun x hx => by
            obtain ⟨_, y0, y3⟩ := rs2 x (List.mem_of_mem_take hx)
            unfold lawCuts
            split
            · unfold cutsR
              rw [List.length_map, List.length_range]
              omega
            · exact Nat.zero_le _
          have l3 : ((lawRows n n).take i2).length ≤ 256 := by rw [List.length_take]; omega
          omega
        refine ⟨_, rfl, a, r, rfl, SqL.of ea2, by omega, fun mm hm hmax => ?_⟩
        have em : mm = mx r := mx_one hm hmax
        refine ⟨_, _, rfl, rfl, ?_⟩
        refine ⟨_, rfl, a, r, rfl, SqL.of ea2, by omega, fun ks nd mem => ⟨_, rfl, rfl, _, rfl, ?_⟩⟩
        have ek : ks.length = (srt r).length := card_one nd (up_nodup (srt_up r)) fun k => by rw [mem k, srt_mem]
        by_cases c : ((srt r).length : Int) = mx r + 1
        · refine tT (decide_eq_true (by rw [em, ek, c])) ?_
          have lcr : lawCuts r = cutsR r := if_pos c
          refine ⟨_, rfl, .inl ⟨rfl, _, SqL.of eB⟩, ?_⟩
          have e2 : (mm + 1 + 1).toNat = (mx r + 2).toNat := by rw [em]; omega
          refine ⟨_, rfl, _, _, rfl, rfl, mm + 1 + 1, rfl, by omega, by omega, fun D2 hD2 => lc_range (lo := 0) (n := (mm + 1 + 1).toNat) (fun j H' => Same H2 H' ∧ ∃ cs : List Addr, H' D2 = some (.lst (cs.map V.ref)) ∧ RL H' cs ((cutsR r).take j)) ⟨sameNew hD2, [], upd_same, .nil⟩ ?_ ?_⟩
          · rintro j H3 hj ⟨s3, cs, eC, tc⟩
            refine ⟨rfl, ?_⟩
            refine yesR ?_
            refine tT rfl ?_
            have lc5 : cs.length ≤ 5 := by rw [pr_len tc, List.length_take]; omega
            refine ⟨_, rfl, a, _, rfl, .inl ⟨SqL.of (s3 _ _ ea2), fun t ht => ?_⟩⟩
            have sT := sameNew ht (o := .tup (r.map V.int))
            refine ⟨_, rfl, (by show 2 ≤ sizeLine; decide), fun p hp => ?_⟩
            have sP := sT.trans (sameNew hp (o := .tup [.ref t, .int (0 + (j : Int))]))
            have eC4 := sP _ _ eC
            refine ⟨_, eC4, small9000 (by rw [List.length_map]; omega), sameUp (s3.trans sP) hD2, cs ++ [p], by rw [upd_same, List.map_append]; rfl, ?_⟩
            rw [cutsR_take (by omega)]
            exact RL.put (pr_snoc (RL.same tc sP) ⟨t, by rw [upd_same, Int.zero_add], (sameNew hp) _ _ upd_same⟩) eC4
          · rintro H3 ⟨s3, cs, eC, tc⟩
            have lcu : (cutsR r).length = (mx r + 2).toNat := by unfold cutsR; rw [List.length_map, List.length_range]
            rw [List.take_of_length_le (by omega)] at tc
            have lc5 : cs.length ≤ 5 := by rw [pr_len tc]; exact cl
            have eB3 := s3 _ _ eB
            refine ⟨F, D2, _, _, rfl, rfl, eB3, eC, Nat.le_of_lt (small9000 (by rw [List.length_map, List.length_map]; omega)), ?_⟩
            refine ⟨qs ++ cs, _, _, _, _, _, rfl, b2.trans ((But.of s3).trans But.upd), by rw [upd_same, List.map_append], ?_⟩
            rw [flat_take hr9, lcr]
            exact RL.put (pr_app (RL.same tb s3) tc) eB3
        · refine tF (decide_eq_false (fun z => c (by have := V.int.inj z; omega))) ?_
          have lcr : lawCuts r = [] := if_neg c
          refine ⟨qs, _, _, _, _, _, rfl, b2, eB, ?_⟩
          rw [flat_take hr9, lcr, List.append_nil]
          exact tb
      · rintro σ H2 ⟨qs, u3, u4, u5, u7, u8, rfl, b2, eB, tb⟩
        rw [List.length_map, las, List.take_length, law_all n m4] at tb
        refine ⟨_, rfl, k F qs H2 (s1.free hF) (fun b o e => b2 b o (nel (s1 b o e)) (s1 b o e)) eB tb⟩
/-! check_words -/
def sp_check_words (K : PySem.W.Frag) : Sp := fun vs H Q E => ∃ (wd : Int) (t : Addr) (xs : List Int), vs = [.int wd, .ref t] ∧ 1 ≤ wd ∧ wd ≤ 1000 ∧ SqT K H t (xs.map V.int) ∧ (∀ x ∈ xs, 0 ≤ x ∧ x < 2 ^ wd.toNat) ∧ ∀ H', Same H H' → Q .non H'
theorem sc_check_words : FnScope ["width", "words", "index", "word"] ["width", "words"] (defScope s_check_words) := ⟨rfl, rfl, rfl, by decide +kernel, rfl, by decide +kernel, by decide +kernel⟩
theorem bd_check_words (T : Txt w K mg A0) : Binds K A0.d_check_words ["width", "words"] [] := T.F_check_words.binds fun _ _ _ _ _ _ us hl => match us, hl with | [_, _], _ => rfl
theorem ok_check_words (T : Txt w K mg A0) : FnOk P w K mg base CX0 2 A0.a_check_words A0.d_check_words ["width", "words"] (sp_check_words K) := by
  refine T.F_check_words.ok sc_check_words (fun vs H Q E h => ?_) (fun cdv A outer s H vs Q E hr h => ?_)
  · obtain ⟨wd, t, xs, rfl, _⟩ := h
    rfl
  · obtain ⟨wd, t, xs, rfl, h⟩ := h
    refine ⟨_, (pss_one (ps_for PassesOwn.never rfl (pi_enumT rfl T.b_enumerate (pa_cons (pv 1) pa_nil)) (pg_tup rfl (pgs_cons (pg_name (i := 2) sc_check_words.nd rfl (Or.inl rfl)) (pgs_cons (pg_name (i := 3) sc_check_words.nd rfl (Or.inl rfl)) pgs_nil))) (pss_one (ps_if (pt_not (pt_val (pe_call (ok_is_word T) (hr.mono (by decide)) rfl T.g_is_word T.F_is_word.kp (bd_is_word T) .nil pass0 (pa_cons (pv 0) (pa_cons (pv 3) pa_nil))))) (pss_one ps_never) pss_nil)))), ?_⟩
    obtain ⟨h1, h2, ht, hx, k⟩ := h
    refine ⟨_, rfl, t, _, rfl, ht, for_it walk_enumT (fun i σ H' => ∃ u v, σ = [some (.int wd), some (.ref t), u, v] ∧ Same H H') ⟨none, none, rfl, Same.refl H⟩ (fun i σ H' _ hp => ?_) ?_ ?_⟩
    · obtain ⟨_, _, _, s⟩ := hp
      exact sameT s ht
    · rintro i x σ H1 H2 hi ⟨u, v, rfl, s⟩ ⟨T, x1, y, rfl, fr, rfl, e1, e2⟩
      cases e1
      obtain ⟨z, hz, rfl⟩ := map_at e2
      have hb := hx z (List.mem_of_getElem? hz)
      have s2 : Same H (upd H1 T (.tup [.int (i : Nat), .int z])) := s.trans (sameNew fr)
      refine ⟨T, _, rfl, SqT.of upd_same, rfl, _, _, rfl, _, _, rfl, rfl, ?_⟩
      refine ⟨_, rfl, _, rfl, wd, z, rfl, h1, h2, _, rfl, ?_⟩
      refine tF (by rw [decide_eq_true hb.1, decide_eq_true hb.2]; rfl) ?_
      exact ⟨_, _, rfl, s2⟩
    · rintro σ H' ⟨u, v, rfl, s⟩
      exact k H' s
/-! check_ranking -/
def sp_check_ranking (K : PySem.W.Frag) : Sp := fun vs H Q E => ∃ (q rt : Addr) (rs : List Int) (c : Int) (m : Nat), vs = [.ref q] ∧ RkAt H q rt rs c ∧ IsRk rs m ∧ 0 ≤ c ∧ c ≤ (m : Int) ∧ rs.length ≤ 60 ∧ ∀ H', Same H H' → Q .non H'
theorem sc_check_ranking : FnScope ["ranking"] ["ranking"] (defScope s_check_ranking) := ⟨rfl, rfl, rfl, by decide +kernel, rfl, by decide +kernel, by decide +kernel⟩
theorem bd_check_ranking (T : Txt w K mg A0) : Binds K A0.d_check_ranking ["ranking"] [] := T.F_check_ranking.binds fun _ _ _ _ _ _ us hl => match us, hl with | [_], _ => rfl
theorem ok_check_ranking (T : Txt w K mg A0) : FnOk P w K mg base CX0 2 A0.a_check_ranking A0.d_check_ranking ["ranking"] (sp_check_ranking K) := by
  refine T.F_check_ranking.ok sc_check_ranking (fun vs H Q E h => ?_) (fun cdv A outer s H vs Q E hr h => ?_)
  · obtain ⟨q, rt, rs, c, m, rfl, _⟩ := h
    rfl
  · obtain ⟨q, rt, rs, c, m, rfl, h⟩ := h
    refine ⟨_, (pss_one (ps_if (pt_not (pt_val (pe_call (ok_is_ranking T) (hr.mono (by decide)) rfl T.g_is_ranking T.F_is_ranking.kp (bd_is_ranking T) .nil pass0 (pa_cons (pv 0) pa_nil)))) (pss_one ps_never) pss_nil)), ?_⟩
    obtain ⟨hr, is, c0, cm, hz, k⟩ := h
    refine ⟨_, rfl, q, rt, rs, c, m, rfl, hr, is, c0, cm, hz, fun H1 s1 => ⟨true, rfl, ?_⟩⟩
    refine tF rfl ?_
    exact k H1 s1
/-! outcome_between -/
def sp_outcome_between (K : PySem.W.Frag) : Sp := fun vs H Q E => ∃ (q rt : Addr) (rs : List Int) (c : Int) (i j : Nat) (a b : Int), vs = [.ref q, .int (i : Int), .int (j : Int)] ∧ RkAt H q rt rs c ∧ rs[i]? = some a ∧ rs[j]? = some b ∧ Q (.str (ocut c a b)) H
theorem sc_outcome_between : FnScope ["ranking", "first", "second", "ranks", "cut"] ["ranking", "first", "second"] (defScope s_outcome_between) := ⟨rfl, rfl, rfl, by decide +kernel, rfl, by decide +kernel, by decide +kernel⟩
theorem bd_outcome_between (T : Txt w K mg A0) : Binds K A0.d_outcome_between ["ranking", "first", "second"] [] := T.F_outcome_between.binds fun _ _ _ _ _ _ us hl => match us, hl with | [_, _, _], _ => rfl
theorem ok_outcome_between (T : Txt w K mg A0) : FnOk P w K mg base CX0 2 A0.a_outcome_between A0.d_outcome_between ["ranking", "first", "second"] (sp_outcome_between K) := by
  refine T.F_outcome_between.ok sc_outcome_between (fun vs H Q E h => ?_) (fun cdv A outer s H vs Q E hr h => ?_)
  · obtain ⟨q, rt, rs, c, i, j, a, b, rfl, _⟩ := h
    rfl
  · obtain ⟨q, rt, rs, c, i, j, a, b, rfl, h⟩ := h
    refine ⟨_, (pss_cons (ps_asg (pv 0) (pg_tup rfl (pgs_cons (pg_name (i := 3) sc_outcome_between.nd rfl (Or.inl rfl)) (pgs_cons (pg_name (i := 4) sc_outcome_between.nd rfl (Or.inl rfl)) pgs_nil))))
        (pss_one (ps_ret (pe_call (ok_outcome_by_cut T) (hr.mono (by decide)) rfl T.g_outcome_by_cut T.F_outcome_by_cut.kp (bd_outcome_by_cut T) .nil pass0 (pa_cons (pv 4) (pa_cons (pe_ix ix_tup (pv 3) (pv 1) (fun _ _ => rfl)) (pa_cons (pe_ix ix_tup (pv 3) (pv 2) (fun _ _ => rfl)) pa_nil))))))), ?_⟩
    obtain ⟨hr, ha, hb, k⟩ := h
    have la := (List.getElem?_eq_some_iff.mp ha).1
    have lb := (List.getElem?_eq_some_iff.mp hb).1
    refine ⟨_, rfl, q, _, rfl, SqT.of hr.1, rfl, _, _, rfl, _, _, rfl, rfl, ?_⟩
    refine ⟨_, rfl, _, rfl, _, rfl, rt, _, (i : Int), .int a, rfl, rfl, SqT.of hr.2, at_of (j := i) rfl (by rw [List.getElem?_map, ha]; rfl), _, rfl, _, rfl, rt, _, (j : Int), .int b, rfl, rfl, SqT.of hr.2, at_of (j := j) rfl (by rw [List.getElem?_map, hb]; rfl), c, a, b, rfl, k⟩
/-! all_rankings -/
def sp_all_rankings (K : PySem.W.Frag) : Sp := fun vs H Q E => ∃ n : Nat, vs = [.int (n : Int)] ∧ 1 ≤ n ∧ n ≤ 5 ∧ ∀ l qs H', H l = none → Same H H' → H' l = some (.lst (qs.map V.ref)) → RL H' qs (allRk n) → Q (.ref l) H'
theorem sc_all_rankings : FnScope ["items", "found", "_", "longer", "ranks", "rank", "cut"] ["items"] (defScope s_all_rankings) := ⟨rfl, rfl, rfl, by decide +kernel, rfl, by decide +kernel, by decide +kernel⟩
theorem bd_all_rankings (T : Txt w K mg A0) : Binds K A0.d_all_rankings ["items"] [] := T.F_all_rankings.binds fun _ _ _ _ _ _ us hl => match us, hl with | [_], _ => rfl
set_option maxHeartbeats 0 in
theorem ok_all_rankings (T : Txt w K mg A0) : FnOk P w K mg base CX0 2 A0.a_all_rankings A0.d_all_rankings ["items"] (sp_all_rankings K) := by
  refine T.F_all_rankings.ok sc_all_rankings (fun vs H Q E h => ?_) (fun cdv A outer s H vs Q E hr h => ?_)
  · obtain ⟨n, rfl, _⟩ := h
    rfl
  · obtain ⟨n, rfl, h⟩ := h
    refine ⟨_, (pss_cons (ps_set (i := 1) sc_all_rankings.nd rfl (Or.inl rfl) (pe_lst (pa_cons (pe_tup pa_nil) pa_nil)))
        (pss_cons (ps_for PassesOwn.never rfl (pi_range1 rfl T.b_range (pa_cons (pv 0) pa_nil)) (pg_name (i := 2) sc_all_rankings.nd rfl (Or.inl rfl)) (pss_cons (ps_setLc2 (i := 3) (own := [("ranks", 4), ("rank", 5)]) (vs1 := [5]) (g := gName 4) (g1 := gName 5) rfl sc_all_rankings.nd rfl rfl (sw_true rfl rfl rfl (by decide +kernel)) (pi_list (pv 1)) (blkOk_by (own := [("ranks", 4), ("rank", 5)]) (N := ["items", "found", "_", "longer", "ranks", "rank", "cut"]) (sc := defScope s_all_rankings) (by decide +kernel)) (by decide) (fun _ _ _ _ _ => pg_name (i := 4) sc_all_rankings.nd rfl (Or.inl rfl)) (fun _ _ _ _ _ => pts_nil) (fun _ _ _ _ _ => (pi_range1 rfl T.b_range (pa_cons (pv 0) pa_nil))) (fun _ _ _ _ _ => pg_name (i := 5) sc_all_rankings.nd rfl (Or.inl rfl)) (fun _ _ _ _ _ => pts_nil) (fun _ _ _ _ _ => (pe_op (show OpR _ _ (rCatA K) from op_catA) (pv 4) (pe_tup (pa_cons (pv 5) pa_nil)))))
        (pss_one (ps_setLc (i := 1) (own := [("ranks", 4)]) (g := gName 4) rfl sc_all_rankings.nd rfl rfl (sw_true rfl rfl rfl (by decide +kernel)) (pi_list (pv 3)) (blkOk_by (own := [("ranks", 4)]) (N := ["items", "found", "_", "longer", "ranks", "rank", "cut"]) (sc := defScope s_all_rankings) (by decide +kernel)) (fun _ _ _ _ _ => pg_name (i := 4) sc_all_rankings.nd rfl (Or.inl rfl)) (fun _ _ _ _ _ => pts_one (pt_cmpR op_le (pe_call (ok_gaps T) (hr.mono (by decide)) rfl T.g_gaps T.F_gaps.kp (bd_gaps T) .nil pass0 (pa_cons (pv 4) pa_nil)) (pe_op op_sub (pv 0) (pe_callB (show CallR _ _ (rLenSq K) from cr_lenSq) (by rfl) T.b_len (by decide +kernel) (pa_cons (pv 4) pa_nil))) (nomark _))) (fun _ _ _ _ _ => (pv 4))))))
        (pss_one (ps_ret (pe_lc2 (own := [("ranks", 4), ("cut", 6)]) (vs1 := [6]) (g := gName 4) (g1 := gName 6) rfl sc_all_rankings.nd (pi_list (pv 1)) (blkOk_by (own := [("ranks", 4), ("cut", 6)]) (N := ["items", "found", "_", "longer", "ranks", "rank", "cut"]) (sc := defScope s_all_rankings) (by decide +kernel)) (by decide) (fun _ _ _ _ _ => pg_name (i := 4) sc_all_rankings.nd rfl (Or.inl rfl)) (fun _ _ _ _ _ => pts_nil) (fun _ _ _ _ _ => (pi_range1 rfl T.b_range (pa_cons (pe_op op_add (pe_callB (show CallR _ _ (rMaxT K) from cr_maxT rfl hr.units) (by rfl) T.b_max (by decide +kernel) (pa_cons (pv 4) pa_nil)) pe_int) pa_nil))) (fun _ _ _ _ _ => pg_name (i := 6) sc_all_rankings.nd rfl (Or.inl rfl)) (fun _ _ _ _ _ => pts_nil) (fun _ _ _ _ _ => (pe_tup (pa_cons (pv 4) (pa_cons (pv 6) pa_nil))))))))), ?_⟩
    obtain ⟨n1, n5, k⟩ := h
    have m5 := five n1 n5
    refine ⟨(by show 0 ≤ sizeLine; decide), fun t0 ht0 => ⟨(by show 1 ≤ sizeLine; decide), fun l0 hl0 => ?_⟩⟩
    have s0 : Same H (upd (upd H t0 (.tup [])) l0 (.lst [.ref t0])) := (sameNew ht0).trans (sameNew hl0)
    refine ⟨_, rfl, (n : Int), rfl, by omega, by omega, for_range (n := n) (fun i σ H' => ∃ (l : Addr) (as : List Addr) (u v w2 y x2 : Option V), σ = [some (.int (n : Int)), some (.ref l), u, v, w2, y, x2] ∧ Same H H' ∧ H' l = some (.lst (as.map V.ref)) ∧ TL H' as (rowsR n i)) ⟨l0, [t0], _, _, _, _, _, rfl, s0, upd_same, .cons ((sameNew hl0) _ _ upd_same) .nil⟩ ?_ ?_⟩
    · rintro i σ H1 hi ⟨l, as, u, v, w2, y, x2, rfl, s1, el, tl⟩
      obtain ⟨rs1, rs2⟩ := rows_small n m5 i (List.mem_range.mpr hi)
      have las := pr_len tl
      refine ⟨_, rfl, l, rfl, ⟨_, SqL.of el⟩, fun D hD => itl_by (xs := as.map V.ref) (fun i2 H' => Same H1 H' ∧ ∃ bs : List Addr, H' D = some (.lst (bs.map V.ref)) ∧ TL H' bs (((rowsR n i).take i2).flatMap (addR n))) ⟨sameNew hD, [], upd_same, .nil⟩ (fun i2 H' _ hp => SqL.of (hp.1 _ _ el)) ?_ ?_⟩
      · rintro i2 x H2 hx ⟨s2, bs, eD, tb⟩
        obtain ⟨a, ha, rfl⟩ := mapR_at hx
        obtain ⟨r, hr9, ea⟩ := pr_at tl ha
        have mr := List.mem_of_getElem? hr9
        have lr := rs2 r mr
        have lt2 := (List.getElem?_eq_some_iff.mp hr9).1
        have fl : (((rowsR n i).take i2).flatMap (addR n)).length ≤ 3500 := by
          have := flat_len (f := addR n) (m := 5) (l := (rowsR n i).take i2) fun x _ => by
            unfold addR
            rw [List.length_map, List.length_range]
            exact n5
          have l3 : ((rowsR n i).take i2).length ≤ 700 := by rw [List.length_take]; omega
          omega
        refine ⟨rfl, ?_⟩
        refine yesR ?_
        refine tT rfl ?_
        refine ⟨_, rfl, (n : Int), rfl, by omega, by omega, itr_by (lo := 0) (n := n) (fun j H' => Same H1 H' ∧ ∃ bs : List Addr, H' D = some (.lst (bs.map V.ref)) ∧ TL H' bs (((rowsR n i).take i2).flatMap (addR n) ++ (addR n r).take j)) ⟨s2, bs, eD, by simpa using tb⟩ ?_ ?_⟩
        · rintro j H3 hj ⟨s3, bs3, eD3, tb3⟩
          refine ⟨rfl, ?_⟩
          refine yesR ?_
          refine tT rfl ?_
          have lb3 : bs3.length ≤ 8000 := by
            rw [pr_len tb3, List.length_append]
            have : ((addR n r).take j).length ≤ 5 := by
              rw [List.length_take]
              unfold addR
              rw [List.length_map, List.length_range]
              omega
            omega
          refine ⟨_, rfl, _, rfl, (by show 1 ≤ sizeLine; decide), fun t ht => ?_⟩
          have sT := sameNew ht (o := .tup [.int (0 + (j : Int))])
          have st := addR_take (r := r) hj
          have fin : ∀ (p : Addr) (H4 : Hp), Same (upd H3 t (.tup [.int (0 + (j : Int))])) H4 → H4 p = some (.tup ((r ++ [((j : Nat) : Int)]).map V.int)) → ∃ acc, H4 D = some (.lst acc) ∧ acc.length < sizeLine ∧ Same H1 (upd H4 D (.lst (acc ++ [V.ref p]))) ∧ ∃ bs : List Addr, (upd H4 D (.lst (acc ++ [V.ref p]))) D = some (.lst (bs.map V.ref)) ∧ TL (upd H4 D (.lst (acc ++ [V.ref p]))) bs (((rowsR n i).take i2).flatMap (addR n) ++ (addR n r).take (j + 1)) := fun p H4 s4 ep => by
            have s34 := sT.trans s4
            have eD4 := s34 _ _ eD3
            refine ⟨_, eD4, small9000 (by rw [List.length_map]; omega), sameUp (s3.trans s34) hD, bs3 ++ [p], by rw [upd_same, List.map_append]; rfl, ?_⟩
            rw [st, ← List.append_assoc]
            exact TL.put (pr_snoc (TL.same tb3 s34) ep) eD4
          refine ⟨a, t, r.map V.int, [.int (0 + (j : Int))], rfl, rfl, SqT.of (sT _ _ (s3 _ _ ea)), SqT.of upd_same, Nat.le_of_lt (small9000 (by rw [List.length_map]; show r.length + 1 ≤ 9000; omega)), fun e => ?_, fun _ e => absurd e (by simp), fun _ _ p hp => ?_⟩
          · have r0 : r = [] := List.map_eq_nil_iff.mp e
            exact fin t _ (Same.refl _) (by rw [r0, upd_same, Int.zero_add]; rfl)
          · refine fin p _ (sameNew hp) ?_
            rw [upd_same, List.map_append, Int.zero_add]
            rfl
        · rintro H3 ⟨s3, bs3, eD3, tb3⟩
          refine ⟨s3, bs3, eD3, ?_⟩
          rw [flat_take hr9]
          have : (addR n r).take n = addR n r := List.take_of_length_le (by unfold addR; rw [List.length_map, List.length_range]; exact Nat.le_refl _)
          rw [this] at tb3
          exact tb3
      · rintro H2 ⟨s2, bs, eD, tb⟩
        rw [List.length_map, las, List.take_length] at tb
        have lb := pr_len tb
        have fl : ((rowsR n i).flatMap (addR n)).length ≤ 3500 := by
          have := flat_len (f := addR n) (m := 5) (l := rowsR n i) fun x _ => by
            unfold addR
            rw [List.length_map, List.length_range]
            exact n5
          omega
        have lrow : ∀ r ∈ (rowsR n i).flatMap (addR n), r.length = i + 1 ∧ r ≠ [] := fun r m => by
          obtain ⟨r0, m0, m1⟩ := List.mem_flatMap.mp m
          obtain ⟨x, _, rfl⟩ := List.mem_map.mp m1
          exact ⟨by rw [List.length_append, rs2 r0 m0]; rfl, by simp⟩
        refine ⟨_, rfl, D, rfl, ⟨_, SqL.of eD⟩, fun D2 hD2 => lc_list (xs := bs.map V.ref) (fun i3 H' => Same H2 H' ∧ ∃ cs : List Addr, H' D2 = some (.lst (cs.map V.ref)) ∧ TL H' cs ((((rowsR n i).flatMap (addR n)).take i3).filter (keepR n))) ⟨sameNew hD2, [], upd_same, .nil⟩ (fun i3 H' _ hp => SqL.of (hp.1 _ _ eD)) ?_ ?_⟩
        · rintro i3 x H3 hx ⟨s3, cs, eC, tc⟩
          obtain ⟨a, ha, rfl⟩ := mapR_at hx
          obtain ⟨r, hr9, ea⟩ := pr_at tb ha
          obtain ⟨lr, rne⟩ := lrow r (List.mem_of_getElem? hr9)
          have lc3 := pr_len tc
          have lc4 : cs.length ≤ 3500 := by
            rw [lc3]
            have h1 := List.length_filter_le (keepR n) (((rowsR n i).flatMap (addR n)).take i3)
            rw [List.length_take] at h1
            omega
          have step : (((rowsR n i).flatMap (addR n)).take (i3 + 1)).filter (keepR n) = (((rowsR n i).flatMap (addR n)).take i3).filter (keepR n) ++ (if keepR n r then [r] else []) := by
            rw [List.take_add_one, hr9, List.filter_append]
            congr 1
            cases c : keepR n r <;> simp [List.filter, c]
          refine ⟨rfl, ?_⟩
          refine ⟨_, rfl, a, r, rfl, SqT.of (s3 _ _ ea), rne, by omega, fun H4 s4 => ?_⟩
          refine ⟨_, rfl, _, rfl, a, _, rfl, .inr (SqT.of (s4 _ _ (s3 _ _ ea))), _, _, rfl, rfl, _, _, rfl, rfl, _, rfl, ?_⟩
          rw [List.length_map]
          have kd : decide (gapsI r ≤ (n : Int) - ((r.length : Nat) : Int)) = keepR n r := rfl
          cases c : keepR n r with
          | false =>
            rw [c] at kd step
            refine tF kd ⟨s3.trans s4, cs, s4 _ _ eC, ?_⟩
            rw [step]
            simpa using TL.same tc s4
          | true =>
            rw [c] at kd step
            refine tT kd ?_
            refine ⟨_, rfl, _, s4 _ _ eC, small9000 (by rw [List.length_map]; omega), sameUp (s3.trans s4) hD2, cs ++ [a], by rw [upd_same, List.map_append]; rfl, ?_⟩
            rw [step]
            exact TL.put (pr_snoc (TL.same tc s4) (s4 _ _ (s3 _ _ ea))) (s4 _ _ eC)
        · rintro H3 ⟨s3, cs, eC, tc⟩
          rw [List.length_map, lb, List.take_length] at tc
          exact ⟨D2, cs, _, _, _, _, _, rfl, s1.trans (s2.trans s3), eC, tc⟩
    · rintro σ H1 ⟨l, as, u, v, w2, y, x2, rfl, s1, el, tl⟩
      obtain ⟨ra1, ra2⟩ := rows_last n m5
      have las := pr_len tl
      refine ⟨_, rfl, l, rfl, ⟨_, SqL.of el⟩, fun D hD => itl_by (xs := as.map V.ref) (fun i2 H' => Same H1 H' ∧ ∃ qs : List Addr, H' D = some (.lst (qs.map V.ref)) ∧ RL H' qs (((rowsR n n).take i2).flatMap cutsR)) ⟨sameNew hD, [], upd_same, .nil⟩ (fun i2 H' _ hp => SqL.of (hp.1 _ _ el)) ?_ ?_⟩
      · rintro i2 x H2 hx ⟨s2, qs, eD, tq⟩
        obtain ⟨a, ha, rfl⟩ := mapR_at hx
        obtain ⟨r, hr9, ea⟩ := pr_at tl ha
        obtain ⟨lr, m0, m4⟩ := ra2 r (List.mem_of_getElem? hr9)
        have cl : ∀ x : List Int, 0 ≤ mx x → mx x ≤ 4 → (cutsR x).length ≤ 6 := fun x _ h => by
          unfold cutsR
          rw [List.length_map, List.length_range]
          omega
        have fl : (((rowsR n n).take i2).flatMap cutsR).length ≤ 4200 := by
          have := flat_len (f := cutsR) (m := 6) (l := (rowsR n n).take i2) fun x hx => by
            obtain ⟨_, a1, a2⟩ := ra2 x (List.mem_of_mem_take hx)
            exact cl x a1 a2
          have l3 : ((rowsR n n).take i2).length ≤ 700 := by rw [List.length_take]; omega
          omega
        have rne : r ≠ [] := fun e => by rw [e] at lr; exact absurd lr.symm (by show n ≠ 0; omega)
        refine ⟨rfl, ?_⟩
        refine yesR ?_
        refine tT rfl ?_
        refine ⟨_, rfl, a, r, rfl, SqT.of (s2 _ _ ea), rne, _, _, rfl, rfl, mx r + 2, rfl, by omega, by omega, itr_by (lo := 0) (n := (mx r + 2).toNat) (fun j H' => Same H1 H' ∧ ∃ qs : List Addr, H' D = some (.lst (qs.map V.ref)) ∧ RL H' qs (((rowsR n n).take i2).flatMap cutsR ++ (cutsR r).take j)) ⟨s2, qs, eD, by simpa using tq⟩ ?_ ?_⟩
        · rintro j H3 hj ⟨s3, qs3, eD3, tq3⟩
          refine ⟨rfl, ?_⟩
          refine yesR ?_
          refine tT rfl ?_
          have lb3 : qs3.length ≤ 8000 := by
            rw [pr_len tq3, List.length_append]
            have c6 := cl r m0 m4
            have : ((cutsR r).take j).length ≤ 6 := by rw [List.length_take]; omega
            omega
          refine ⟨_, rfl, _, rfl, (by show 2 ≤ sizeLine; decide), fun t ht => ?_⟩
          have sT := sameNew ht (o := .tup [.ref a, .int (0 + (j : Int))])
          have eD4 := sT _ _ eD3
          refine ⟨_, eD4, small9000 (by rw [List.length_map]; omega), sameUp (s3.trans sT) hD, qs3 ++ [t], by rw [upd_same, List.map_append]; rfl, ?_⟩
          rw [cutsR_take hj, ← List.append_assoc]
          exact RL.put (pr_snoc (RL.same tq3 sT) ⟨a, by rw [upd_same, Int.zero_add], sT _ _ (s3 _ _ ea)⟩) eD4
        · rintro H3 ⟨s3, qs3, eD3, tq3⟩
          refine ⟨s3, qs3, eD3, ?_⟩
          rw [flat_take hr9]
          have : (cutsR r).take (mx r + 2).toNat = cutsR r := List.take_of_length_le (by unfold cutsR; rw [List.length_map, List.length_range]; exact Nat.le_refl _)
          rw [this] at tq3
          exact tq3
      · rintro H2 ⟨s2, qs, eD, tq⟩
        rw [List.length_map, las, List.take_length] at tq
        exact k D qs H2 (s1.free hD) (s1.trans s2) eD tq
/-! _fits -/
def sp_fits (K : PySem.W.Frag) : Sp := fun vs H Q E => ∃ (q rt : Addr) (rs : List Int) (c : Int) (m : Nat) (wd : Int), vs = [.ref q, .int wd] ∧ RkAt H q rt rs c ∧ IsRk rs m ∧ rs.length ≤ 60 ∧ 1 ≤ wd ∧ wd ≤ 1000 ∧ ∀ H', Same H H' → Q (.bl (decide (c ≤ 2 ^ (wd - 1).toNat) && decide ((m : Int) - c ≤ 2 ^ (wd - 1).toNat))) H'
theorem sc_fits : FnScope ["ranking", "width"] ["ranking", "width"] (defScope s_fits) := ⟨rfl, rfl, rfl, by decide +kernel, rfl, by decide +kernel, by decide +kernel⟩
theorem bd_fits (T : Txt w K mg A0) : Binds K A0.d_fits ["ranking", "width"] [] := T.F_fits.binds fun _ _ _ _ _ _ us hl => match us, hl with | [_, _], _ => rfl
theorem ok_fits (T : Txt w K mg A0) : FnOk P w K mg base CX0 2 A0.a_fits A0.d_fits ["ranking", "width"] (sp_fits K) := by
  refine T.F_fits.ok sc_fits (fun vs H Q E h => ?_) (fun cdv A outer s H vs Q E hr h => ?_)
  · obtain ⟨q, rt, rs, c, m, wd, rfl, _⟩ := h
    rfl
  · obtain ⟨q, rt, rs, c, m, wd, rfl, h⟩ := h
    refine ⟨_, (pss_one (ps_ret (pe_cmpR op_le (pe_callB (cr_maxT2 rfl hr.units) (by rfl) T.b_max (by decide +kernel) (pa_cons (pe_call (ok_ranks_by_sign T) (hr.mono (by decide)) rfl T.g_ranks_by_sign T.F_ranks_by_sign.kp (bd_ranks_by_sign T) .nil pass0 (pa_cons (pv 0) pa_nil)) pa_nil)) (pe_call (ok_sign_bit T) (hr.mono (by decide)) rfl T.g_sign_bit T.F_sign_bit.kp (bd_sign_bit T) .nil pass0 (pa_cons (pv 1) pa_nil)) (nomark _)))), ?_⟩
    obtain ⟨hr, is, hz, h1, h2, k⟩ := h
    refine ⟨_, rfl, q, rt, rs, c, m, rfl, hr, is, hz, fun p H2 s2 e2 => ?_⟩
    refine ⟨p, c, (m : Int) - c, rfl, SqT.of e2, ?_⟩
    refine ⟨_, rfl, wd, rfl, h1, h2, _, _, rfl, rfl, ?_⟩
    have kk := k _ s2
    have e : (decide ((if c < (m : Int) - c then (m : Int) - c else c) ≤ 2 ^ (wd - 1).toNat)) = (decide (c ≤ 2 ^ (wd - 1).toNat) && decide ((m : Int) - c ≤ 2 ^ (wd - 1).toNat)) := by
      rw [← Bool.decide_and]
      refine decide_eq_decide.mpr ?_
      split <;> omega
    rw [← e] at kk
    exact kk
/-! _law_wide -/
def sp_law_wide (K : PySem.W.Frag) : Sp := fun vs H Q E => ∃ (p : Addr) (n : Nat), vs = [.ref p] ∧ Pool H p n ∧ n ≤ 90000 ∧ ∀ wd H', 1 ≤ wd → wd ≤ 300 → Pool H' p (n + 4) → But p H H' → Q (.int wd) H'
theorem sc_law_wide : FnScope ["pool", "some"] ["pool"] (defScope s_law_wide) := ⟨rfl, rfl, rfl, by decide +kernel, rfl, by decide +kernel, by decide +kernel⟩
theorem bd_law_wide (T : Txt w K mg A0) : Binds K A0.d_law_wide ["pool"] [] := T.F_law_wide.binds fun _ _ _ _ _ _ us hl => match us, hl with | [_], _ => rfl
theorem ok_law_wide (T : Txt w K mg A0) : FnOk P w K mg base CX0 2 A0.a_law_wide A0.d_law_wide ["pool"] (sp_law_wide K) := by
  refine T.F_law_wide.ok sc_law_wide (fun vs H Q E h => ?_) (fun cdv A outer s H vs Q E hr h => ?_)
  · obtain ⟨p, n, rfl, _⟩ := h
    rfl
  · obtain ⟨p, n, rfl, h⟩ := h
    refine ⟨_, (pss_cons (ps_set (i := 1) sc_law_wide.nd rfl (Or.inl rfl) (pe_lst (pa_cons (pe_op op_add pe_int (pe_call (ok_law_draw T) (hr.mono (by decide)) rfl T.g_law_draw T.F_law_draw.kp (bd_law_draw T) .nil pass0 (pa_cons (pv 0) (pa_cons pe_int pa_nil)))) (pa_cons (pe_ix ix_list (pe_lst (pa_cons pe_int (pa_cons pe_int (pa_cons pe_int (pa_cons pe_int (pa_cons pe_int pa_nil)))))) (pe_call (ok_law_draw T) (hr.mono (by decide)) rfl T.g_law_draw T.F_law_draw.kp (bd_law_draw T) .nil pass0 (pa_cons (pv 0) (pa_cons pe_int pa_nil))) (fun _ _ => rfl)) (pa_cons (pe_op op_add pe_int (pe_call (ok_law_draw T) (hr.mono (by decide)) rfl T.g_law_draw T.F_law_draw.kp (bd_law_draw T) .nil pass0 (pa_cons (pv 0) (pa_cons pe_int pa_nil)))) pa_nil)))))
        (pss_one (ps_ret (pe_ix ix_list (pv 1) (pe_call (ok_law_draw T) (hr.mono (by decide)) rfl T.g_law_draw T.F_law_draw.kp (bd_law_draw T) .nil pass0 (pa_cons (pv 0) (pa_cons pe_int pa_nil))) (fun _ _ => rfl))))), ?_⟩
    obtain ⟨pl, hn, k⟩ := h
    refine ⟨_, rfl, p, 4, n, rfl, pl, by omega, by decide, by decide, fun d1 H1 l1 u1 pl1 b1 => ?_⟩
    refine ⟨_, _, rfl, rfl, ?_⟩
    refine ⟨(by show 5 ≤ sizeLine; decide), fun q hq => ?_⟩
    refine ⟨_, rfl, p, 5, n + 1, rfl, pl1.new hq, by omega, by decide, by decide, fun d2 H2 l2 u2 pl2 b2 => ?_⟩
    have nqp : q ≠ p := pl1.ne hq
    obtain ⟨w5, e5, i5, j5⟩ : ∃ w5 : Int, atI [V.int 8, V.int 16, V.int 32, V.int 64, V.int 300] d2 = some (.int w5) ∧ 1 ≤ w5 ∧ w5 ≤ 300 := by
      have : d2 = 0 ∨ d2 = 1 ∨ d2 = 2 ∨ d2 = 3 ∨ d2 = 4 := by omega
      rcases this with rfl | rfl | rfl | rfl | rfl <;> exact ⟨_, rfl, by decide, by decide⟩
    refine ⟨q, _, d2, .int w5, rfl, rfl, SqL.of (b2 q _ nqp upd_same), e5, ?_⟩
    refine ⟨_, rfl, p, 300, n + 2, rfl, pl2, by omega, by decide, by decide, fun d3 H3 l3 u3 pl3 b3 => ?_⟩
    refine ⟨_, _, rfl, rfl, ?_⟩
    refine ⟨(by show 3 ≤ sizeLine; decide), fun r hr' => ?_⟩
    have nrp : r ≠ p := pl3.ne hr'
    refine ⟨_, rfl, _, rfl, p, 3, n + 3, rfl, pl3.new hr', by omega, by decide, by decide, fun d4 H4 l4 u4 pl4 b4 => ?_⟩
    obtain ⟨w3, e3, i3, j3⟩ : ∃ w3 : Int, atI [V.int (1 + d1), V.int w5, V.int (1 + d3)] d4 = some (.int w3) ∧ 1 ≤ w3 ∧ w3 ≤ 300 := by
      have : d4 = 0 ∨ d4 = 1 ∨ d4 = 2 := by omega
      rcases this with rfl | rfl | rfl
      · exact ⟨_, rfl, by omega, by omega⟩
      · exact ⟨_, rfl, i5, j5⟩
      · exact ⟨_, rfl, by omega, by omega⟩
    refine ⟨r, _, d4, .int w3, rfl, rfl, SqL.of (b4 r _ nrp upd_same), e3, ?_⟩
    exact k w3 H4 i3 j3 pl4 (b1.trans ((But.new hq).trans (b2.trans (b3.trans ((But.new hr').trans b4)))))
/-! _law_word -/
def sp_law_word (K : PySem.W.Frag) : Sp := fun vs H Q E => ∃ (p : Addr) (wd : Int) (n : Nat), vs = [.ref p, .int wd] ∧ Pool H p n ∧ n ≤ 90000 ∧ 1 ≤ wd ∧ wd ≤ 300 ∧ ∀ v H', 0 ≤ v → v < 2 ^ wd.toNat → Pool H' p (n + 3) → But p H H' → Q (.int v) H'
theorem sc_law_word : FnScope ["pool", "wide", "top", "half", "some"] ["pool", "wide"] (defScope s_law_word) := ⟨rfl, rfl, rfl, by decide +kernel, rfl, by decide +kernel, by decide +kernel⟩
theorem bd_law_word (T : Txt w K mg A0) : Binds K A0.d_law_word ["pool", "wide"] [] := T.F_law_word.binds fun _ _ _ _ _ _ us hl => match us, hl with | [_, _], _ => rfl
theorem ok_law_word (T : Txt w K mg A0) : FnOk P w K mg base CX0 2 A0.a_law_word A0.d_law_word ["pool", "wide"] (sp_law_word K) := by
  refine T.F_law_word.ok sc_law_word (fun vs H Q E h => ?_) (fun cdv A outer s H vs Q E hr h => ?_)
  · obtain ⟨p, wd, n, rfl, _⟩ := h
    rfl
  · obtain ⟨p, wd, n, rfl, h⟩ := h
    refine ⟨_, (pss_cons (ps_par (i := 2) (j := 3) rfl sc_law_word.nd rfl rfl (by decide) rfl rfl (pa_cons (pe_call (ok_law_power T) (hr.mono (by decide)) rfl T.g_law_power T.F_law_power.kp (bd_law_power T) .nil pass0 (pa_cons (pv 1) pa_nil)) (pa_cons (pe_call (ok_law_power T) (hr.mono (by decide)) rfl T.g_law_power T.F_law_power.kp (bd_law_power T) .nil pass0 (pa_cons (pe_op op_sub (pv 1) pe_int) pa_nil)) pa_nil)) rfl)
        (pss_cons (ps_set (i := 4) sc_law_word.nd rfl (Or.inl rfl) (pe_lst (pa_cons pe_int (pa_cons pe_int (pa_cons (pe_op op_sub (pv 3) pe_int) (pa_cons (pv 3) (pa_cons (pe_op op_add (pv 3) pe_int) (pa_cons (pe_op op_sub (pv 2) pe_int) (pa_cons (pe_call (ok_law_draw T) (hr.mono (by decide)) rfl T.g_law_draw T.F_law_draw.kp (bd_law_draw T) .nil pass0 (pa_cons (pv 0) (pa_cons (pv 2) pa_nil))) (pa_cons (pe_call (ok_law_draw T) (hr.mono (by decide)) rfl T.g_law_draw T.F_law_draw.kp (bd_law_draw T) .nil pass0 (pa_cons (pv 0) (pa_cons (pv 2) pa_nil))) pa_nil))))))))))
        (pss_one (ps_ret (pe_op op_mod (pe_ix ix_list (pv 4) (pe_call (ok_law_draw T) (hr.mono (by decide)) rfl T.g_law_draw T.F_law_draw.kp (bd_law_draw T) .nil pass0 (pa_cons (pv 0) (pa_cons pe_int pa_nil))) (fun _ _ => rfl)) (pv 2)))))), ?_⟩
    obtain ⟨pl, hn, h1, h2, k⟩ := h
    have top0 : (0 : Int) < 2 ^ wd.toNat := pow_pos _
    have top1 : (2 : Int) ^ wd.toNat < 2 ^ 400 := pow_lt (by omega)
    refine ⟨_, rfl, wd, rfl, by omega, by omega, _, rfl, _, _, rfl, rfl, wd - 1, rfl, by omega, by omega, _, _, rfl, ?_⟩
    refine ⟨_, rfl, _, _, rfl, rfl, _, rfl, _, rfl, _, _, rfl, rfl, _, rfl, _, _, rfl, rfl, ?_⟩
    refine ⟨_, rfl, _, rfl, p, _, n, rfl, pl, by omega, top0, top1, fun d1 H1 l1 u1 pl1 b1 => ?_⟩
    refine ⟨_, rfl, _, rfl, p, _, n + 1, rfl, pl1, by omega, top0, top1, fun d2 H2 l2 u2 pl2 b2 => ?_⟩
    refine ⟨(by show 8 ≤ sizeLine; decide), fun r hr' => ?_⟩
    have nrp : r ≠ p := pl2.ne hr'
    refine ⟨_, rfl, _, rfl, p, 8, n + 2, rfl, pl2.new hr', by omega, by decide, by decide, fun d4 H4 l4 u4 pl4 b4 => ?_⟩
    obtain ⟨w3, e3⟩ : ∃ w3 : Int, atI [V.int 0, V.int 1, V.int (2 ^ (wd - 1).toNat - 1), V.int (2 ^ (wd - 1).toNat), V.int (2 ^ (wd - 1).toNat + 1), V.int (2 ^ wd.toNat - 1), V.int d1, V.int d2] d4 = some (.int w3) := by
      have : d4 = 0 ∨ d4 = 1 ∨ d4 = 2 ∨ d4 = 3 ∨ d4 = 4 ∨ d4 = 5 ∨ d4 = 6 ∨ d4 = 7 := by omega
      rcases this with rfl | rfl | rfl | rfl | rfl | rfl | rfl | rfl <;> exact ⟨_, rfl⟩
    refine ⟨r, _, d4, .int w3, rfl, rfl, SqL.of (b4 r _ nrp upd_same), e3, _, rfl, _, _, rfl, rfl, top0, ?_⟩
    exact k _ H4 (Int.emod_nonneg _ (by omega)) (Int.emod_lt_of_pos _ top0) pl4 (b1.trans (b2.trans ((But.new hr').trans b4)))
/-! outcome -/
def sp_outcome (K : PySem.W.Frag) : Sp := fun vs H Q E => ∃ wd x y : Int, vs = [.int wd, .int x, .int y] ∧ 1 ≤ wd ∧ wd ≤ 1000 ∧ (0 ≤ x ∧ x < 2 ^ wd.toNat) ∧ (0 ≤ y ∧ y < 2 ^ wd.toNat) ∧ ∀ H', Same H H' → Q (.str (oc wd x y)) H'
theorem sc_outcome : FnScope ["width", "first", "second"] ["width", "first", "second"] (defScope s_outcome) := ⟨rfl, rfl, rfl, by decide +kernel, rfl, by decide +kernel, by decide +kernel⟩
theorem bd_outcome (T : Txt w K mg A0) : Binds K A0.d_outcome ["width", "first", "second"] [] := T.F_outcome.binds fun _ _ _ _ _ _ us hl => match us, hl with | [_, _, _], _ => rfl
theorem ok_outcome (T : Txt w K mg A0) : FnOk P w K mg base CX0 3 A0.a_outcome A0.d_outcome ["width", "first", "second"] (sp_outcome K) := by
  refine T.F_outcome.ok sc_outcome (fun vs H Q E h => ?_) (fun cdv A outer s H vs Q E hr h => ?_)
  · obtain ⟨wd, x, y, rfl, _⟩ := h
    rfl
  · obtain ⟨wd, x, y, rfl, h⟩ := h
    refine ⟨_, (pss_cons (ps_expr (pe_call (ok_check_width T) (hr.mono (by decide)) rfl T.g_check_width T.F_check_width.kp (bd_check_width T) .nil pass0 (pa_cons (pv 0) pa_nil)))
        (pss_cons (ps_expr (pe_call (ok_check_words T) (hr.mono (by decide)) rfl T.g_check_words T.F_check_words.kp (bd_check_words T) .nil pass0 (pa_cons (pv 0) (pa_cons (pe_tup (pa_cons (pv 1) (pa_cons (pv 2) pa_nil))) pa_nil))))
        (pss_one (ps_ret (pe_call (ok_outcome_by_cut T) (hr.mono (by decide)) rfl T.g_outcome_by_cut T.F_outcome_by_cut.kp (bd_outcome_by_cut T) .nil pass0 (pa_cons (pe_call (ok_sign_bit T) (hr.mono (by decide)) rfl T.g_sign_bit T.F_sign_bit.kp (bd_sign_bit T) .nil pass0 (pa_cons (pv 0) pa_nil)) (pa_cons (pv 1) (pa_cons (pv 2) pa_nil)))))))), ?_⟩
    obtain ⟨h1, h2, h3, h4, k⟩ := h
    refine ⟨_, rfl, wd, rfl, h1, ?_⟩
    refine ⟨_, rfl, _, rfl, _, rfl, (by show 2 ≤ sizeLine; decide), fun t ht => ?_⟩
    refine ⟨wd, t, [x, y], rfl, h1, h2, SqT.of upd_same, fun z hz => ?_, fun H1 s => ?_⟩
    · rcases List.mem_cons.mp hz with rfl | hz
      · exact h3
      · obtain rfl := List.mem_singleton.mp hz
        exact h4
    refine ⟨_, rfl, wd, rfl, h1, h2, _, rfl, _, rfl, _, x, y, rfl, ?_⟩
    rw [oc_cut h1 h3 h4]
    exact k H1 ((sameNew ht).trans s)
/-! flipped -/
def sp_flipped (K : PySem.W.Frag) : Sp := fun vs H Q E => ∃ (wd : Int) (t : Addr) (xs : List Int), vs = [.int wd, .ref t] ∧ 1 ≤ wd ∧ wd ≤ 1000 ∧ SqT K H t (xs.map V.int) ∧ (∀ x ∈ xs, 0 ≤ x ∧ x < 2 ^ wd.toNat) ∧ xs.length ≤ 1000 ∧ ∀ p H', H p = none → Same H H' → H' p = some (.tup ((xs.map (fl wd)).map V.int)) → Q (.ref p) H'
theorem sc_flipped : FnScope ["width", "words"] ["width", "words"] (defScope s_flipped) := ⟨rfl, rfl, rfl, by decide +kernel, rfl, by decide +kernel, by decide +kernel⟩
theorem bd_flipped (T : Txt w K mg A0) : Binds K A0.d_flipped ["width", "words"] [] := T.F_flipped.binds fun _ _ _ _ _ _ us hl => match us, hl with | [_, _], _ => rfl
theorem ok_flipped (T : Txt w K mg A0) : FnOk P w K mg base CX0 3 A0.a_flipped A0.d_flipped ["width", "words"] (sp_flipped K) := by
  refine T.F_flipped.ok sc_flipped (fun vs H Q E h => ?_) (fun cdv A outer s H vs Q E hr h => ?_)
  · obtain ⟨wd, t, xs, rfl, _⟩ := h
    rfl
  · obtain ⟨wd, t, xs, rfl, h⟩ := h
    refine ⟨_, (pss_cons (ps_expr (pe_call (ok_check_width T) (hr.mono (by decide)) rfl T.g_check_width T.F_check_width.kp (bd_check_width T) .nil pass0 (pa_cons (pv 0) pa_nil)))
        (pss_cons (ps_expr (pe_call (ok_check_words T) (hr.mono (by decide)) rfl T.g_check_words T.F_check_words.kp (bd_check_words T) .nil pass0 (pa_cons (pv 0) (pa_cons (pv 1) pa_nil))))
        (pss_one (ps_ret (pe_call (ok_changed T) (hr.mono (by decide)) rfl T.g_changed T.F_changed.kp (bd_changed T) .nil pass0 (pa_cons (pv 1) (pa_cons (pe_call (ok_sign_bit T) (hr.mono (by decide)) rfl T.g_sign_bit T.F_sign_bit.kp (bd_sign_bit T) .nil pass0 (pa_cons (pv 0) pa_nil)) pa_nil))))))), ?_⟩
    obtain ⟨h1, h2, ht, hx, hz, k⟩ := h
    refine ⟨_, rfl, wd, rfl, h1, ?_⟩
    refine ⟨_, rfl, _, rfl, wd, t, xs, rfl, h1, h2, ht, hx, fun H1 s1 => ?_⟩
    refine ⟨_, rfl, _, rfl, wd, rfl, h1, h2, t, xs, _, rfl, sameT s1 ht, hz, fun p H2 hp s2 e => ?_⟩
    refine k p H2 (s1.free hp) (s1.trans s2) ?_
    rw [e, List.map_congr_left fun x m => xor_half h1 (hx x m)]
/-! inverted -/
def sp_inverted (K : PySem.W.Frag) : Sp := fun vs H Q E => ∃ (wd : Int) (t : Addr) (xs : List Int), vs = [.int wd, .ref t] ∧ 1 ≤ wd ∧ wd ≤ 1000 ∧ SqT K H t (xs.map V.int) ∧ (∀ x ∈ xs, 0 ≤ x ∧ x < 2 ^ wd.toNat) ∧ xs.length ≤ 1000 ∧ ∀ p H', H p = none → Same H H' → H' p = some (.tup ((xs.map (iv wd)).map V.int)) → Q (.ref p) H'
theorem sc_inverted : FnScope ["width", "words"] ["width", "words"] (defScope s_inverted) := ⟨rfl, rfl, rfl, by decide +kernel, rfl, by decide +kernel, by decide +kernel⟩
theorem bd_inverted (T : Txt w K mg A0) : Binds K A0.d_inverted ["width", "words"] [] := T.F_inverted.binds fun _ _ _ _ _ _ us hl => match us, hl with | [_, _], _ => rfl
theorem ok_inverted (T : Txt w K mg A0) : FnOk P w K mg base CX0 3 A0.a_inverted A0.d_inverted ["width", "words"] (sp_inverted K) := by
  refine T.F_inverted.ok sc_inverted (fun vs H Q E h => ?_) (fun cdv A outer s H vs Q E hr h => ?_)
  · obtain ⟨wd, t, xs, rfl, _⟩ := h
    rfl
  · obtain ⟨wd, t, xs, rfl, h⟩ := h
    refine ⟨_, (pss_cons (ps_expr (pe_call (ok_check_width T) (hr.mono (by decide)) rfl T.g_check_width T.F_check_width.kp (bd_check_width T) .nil pass0 (pa_cons (pv 0) pa_nil)))
        (pss_cons (ps_expr (pe_call (ok_check_words T) (hr.mono (by decide)) rfl T.g_check_words T.F_check_words.kp (bd_check_words T) .nil pass0 (pa_cons (pv 0) (pa_cons (pv 1) pa_nil))))
        (pss_one (ps_ret (pe_call (ok_changed T) (hr.mono (by decide)) rfl T.g_changed T.F_changed.kp (bd_changed T) .nil pass0 (pa_cons (pv 1) (pa_cons (pe_op op_sub (pe_op op_shl pe_int (pv 0)) pe_int) pa_nil))))))), ?_⟩
    obtain ⟨h1, h2, ht, hx, hz, k⟩ := h
    refine ⟨_, rfl, wd, rfl, h1, ?_⟩
    refine ⟨_, rfl, _, rfl, wd, t, xs, rfl, h1, h2, ht, hx, fun H1 s1 => ?_⟩
    refine ⟨_, rfl, _, rfl, _, _, rfl, rfl, ⟨by omega, by omega, by decide⟩, _, _, rfl, rfl, t, xs, _, rfl, sameT s1 ht, hz, fun p H2 hp s2 e => ?_⟩
    refine k p H2 (s1.free hp) (s1.trans s2) ?_
    rw [e, Int.one_mul, List.map_congr_left fun x m => xor_all (hx x m)]
/-! extended -/
def sp_extended (K : PySem.W.Frag) : Sp := fun vs H Q E => ∃ (wd : Int) (t : Addr) (xs : List Int) (wi : Int) (ks : Bool), vs = [.int wd, .ref t, .int wi, .bl ks] ∧ 1 ≤ wd ∧ wd ≤ wi ∧ wi ≤ 1000 ∧ SqT K H t (xs.map V.int) ∧ (∀ x ∈ xs, 0 ≤ x ∧ x < 2 ^ wd.toNat) ∧ xs.length ≤ 1000 ∧ (ks = false → ∀ H', Same H H' → Q (.ref t) H') ∧ (ks = true → ∀ p H', H p = none → Same H H' → H' p = some (.tup ((xs.map (ex wd wi)).map V.int)) → Q (.ref p) H')
theorem sc_extended : FnScope ["width", "words", "wider", "keep_sign", "added_bits", "word"] ["width", "words", "wider", "keep_sign"] (defScope s_extended) := ⟨rfl, rfl, rfl, by decide +kernel, rfl, by decide +kernel, by decide +kernel⟩
theorem bd_extended (T : Txt w K mg A0) : Binds K A0.d_extended ["width", "words", "wider", "keep_sign"] [] := T.F_extended.binds fun _ _ _ _ _ _ us hl => match us, hl with | [_, _, _, _], _ => rfl
theorem ok_extended (T : Txt w K mg A0) : FnOk P w K mg base CX0 3 A0.a_extended A0.d_extended ["width", "words", "wider", "keep_sign"] (sp_extended K) := by
  refine T.F_extended.ok sc_extended (fun vs H Q E h => ?_) (fun cdv A outer s H vs Q E hr h => ?_)
  · obtain ⟨wd, t, xs, wi, ks, rfl, _⟩ := h
    rfl
  · obtain ⟨wd, t, xs, wi, ks, rfl, h⟩ := h
    refine ⟨_, (pss_cons (ps_expr (pe_call (ok_check_width T) (hr.mono (by decide)) rfl T.g_check_width T.F_check_width.kp (bd_check_width T) .nil pass0 (pa_cons (pv 0) pa_nil)))
        (pss_cons (ps_expr (pe_call (ok_check_words T) (hr.mono (by decide)) rfl T.g_check_words T.F_check_words.kp (bd_check_words T) .nil pass0 (pa_cons (pv 0) (pa_cons (pv 1) pa_nil))))
        (pss_cons (ps_if (pt_cmpR op_lt (pv 2) (pv 0) (nomark _)) (pss_one ps_never) pss_nil)
        (pss_cons (ps_if (pt_not (pt_val (pv 3))) (pss_one (ps_ret (pe_callTy call_tuple_of (by rfl) T.b_tuple (by decide +kernel) (pa_cons (pv 1) pa_nil)))) pss_nil)
        (pss_cons (ps_set (i := 4) sc_extended.nd rfl (Or.inr rfl) (pe_op op_sub (pe_op op_shl pe_int (pv 2)) (pe_op op_shl pe_int (pv 0))))
        (pss_one (ps_ret (pe_callTy call_tuple_of (by rfl) T.b_tuple (by decide +kernel) (pa_cons (pe_lc (own := [("word", 5)]) (g := gName 5) rfl sc_extended.nd (pi_tup (pv 1)) (blkOk_by (own := [("word", 5)]) (N := ["width", "words", "wider", "keep_sign", "added_bits", "word"]) (sc := defScope s_extended) (by decide +kernel)) (fun _ _ _ _ _ => pg_name (i := 5) sc_extended.nd rfl (Or.inl rfl)) (fun _ _ _ _ _ => pts_nil) (fun _ _ _ _ _ => (pe_ifExp (pt_cmpR op_ge (pv 5) (pe_call (ok_sign_bit T) (hr.mono (by decide)) rfl T.g_sign_bit T.F_sign_bit.kp (bd_sign_bit T) .nil pass0 (pa_cons (pv 0) pa_nil)) (nomark _)) (pe_op op_add (pv 5) (pv 4)) (pv 5)))) pa_nil))))))))), ?_⟩
    obtain ⟨h1, h2, h3, ht, hx, hz, kF, kT⟩ := h
    refine ⟨_, rfl, wd, rfl, h1, ?_⟩
    refine ⟨_, rfl, _, rfl, wd, t, xs, rfl, h1, by omega, ht, hx, fun H1 s1 => ?_⟩
    refine ⟨_, rfl, _, rfl, _, _, rfl, rfl, _, rfl, ?_⟩
    refine tF (decide_eq_false (by omega)) ?_
    refine ⟨_, rfl, _, rfl, ?_⟩
    cases ks with
    | false =>
      refine tT rfl ?_
      exact ⟨_, rfl, t, _, rfl, .inr ⟨sameT s1 ht, kF rfl H1 s1⟩⟩
    | true =>
      refine tF rfl ?_
      refine ⟨_, rfl, _, _, rfl, rfl, ⟨by omega, by omega, by decide⟩, _, rfl, _, _, rfl, rfl, ⟨by omega, by omega, by decide⟩, _, _, rfl, rfl, ?_⟩
      refine ⟨_, rfl, t, rfl, ⟨_, sameT s1 ht⟩, fun D hD => lc_ints (ex wd wi) (sameT s1 ht) hz hD (fun _ => rfl) (fun x H2 Q2 _ _ q => ?_) (fun H2 s e => ?_)⟩
      · have q1 := q H2 (Same.refl H2)
        unfold ex at q1
        refine ⟨_, rfl, _, rfl, wd, rfl, h1, by omega, _, _, rfl, rfl, _, rfl, ?_⟩
        by_cases c : (2 : Int) ^ (wd - 1).toNat ≤ x
        · rw [if_pos c] at q1
          refine tT (decide_eq_true c) ?_
          refine ⟨_, rfl, _, rfl, _, _, rfl, rfl, ?_⟩
          show Q2 (.int (x + (1 * 2 ^ wi.toNat - 1 * 2 ^ wd.toNat))) H2
          rw [Int.one_mul, Int.one_mul]
          exact q1
        · rw [if_neg c] at q1
          refine tF (decide_eq_false c) ?_
          exact ⟨_, rfl, q1⟩
      · refine ⟨D, _, rfl, .inl ⟨SqL.of e, fun p hp => ?_⟩⟩
        exact kT rfl p _ (s1.free (s.free hp)) (s1.trans (s.trans (sameNew hp))) upd_same
/-! ranking_of -/
def sp_ranking_of (K : PySem.W.Frag) : Sp := fun vs H Q E => ∃ (wd : Int) (t : Addr) (xs : List Int), vs = [.int wd, .ref t] ∧ 1 ≤ wd ∧ wd ≤ 1000 ∧ SqT K H t (xs.map V.int) ∧ (∀ x ∈ xs, 0 ≤ x ∧ x < 2 ^ wd.toNat) ∧ xs.length ≤ 60 ∧ ∀ q rt H', Same H H' → RkAt H' q rt (rks xs) (ct xs (2 ^ (wd - 1).toNat)) → Q (.ref q) H'
theorem sc_ranking_of : FnScope ["width", "words", "different", "not_negative", "word"] ["width", "words"] (defScope s_ranking_of) := ⟨rfl, rfl, rfl, by decide +kernel, rfl, by decide +kernel, by decide +kernel⟩
theorem bd_ranking_of (T : Txt w K mg A0) : Binds K A0.d_ranking_of ["width", "words"] [] := T.F_ranking_of.binds fun _ _ _ _ _ _ us hl => match us, hl with | [_, _], _ => rfl
set_option maxHeartbeats 0 in
theorem ok_ranking_of (T : Txt w K mg A0) : FnOk P w K mg base CX0 3 A0.a_ranking_of A0.d_ranking_of ["width", "words"] (sp_ranking_of K) := by
  refine T.F_ranking_of.ok sc_ranking_of (fun vs H Q E h => ?_) (fun cdv A outer s H vs Q E hr h => ?_)
  · obtain ⟨wd, t, xs, rfl, _⟩ := h
    rfl
  · obtain ⟨wd, t, xs, rfl, h⟩ := h
    refine ⟨_, (pss_cons (ps_expr (pe_call (ok_check_width T) (hr.mono (by decide)) rfl T.g_check_width T.F_check_width.kp (bd_check_width T) .nil pass0 (pa_cons (pv 0) pa_nil)))
        (pss_cons (ps_expr (pe_call (ok_check_words T) (hr.mono (by decide)) rfl T.g_check_words T.F_check_words.kp (bd_check_words T) .nil pass0 (pa_cons (pv 0) (pa_cons (pv 1) pa_nil))))
        (pss_cons (ps_set (i := 2) sc_ranking_of.nd rfl (Or.inr rfl) (pe_callB (cr_sortedSet rfl) (by rfl) T.b_sorted (by decide +kernel) (pa_cons (pe_callTy (cr_setOf rfl) (by rfl) T.b_set (by decide +kernel) (pa_cons (pv 1) pa_nil)) pa_nil)))
        (pss_cons (ps_setLc (i := 3) (own := [("word", 4)]) (g := gName 4) rfl sc_ranking_of.nd rfl rfl (sw_true rfl rfl rfl (by decide +kernel)) (pi_list (pv 2)) (blkOk_by (own := [("word", 4)]) (N := ["width", "words", "different", "not_negative", "word"]) (sc := defScope s_ranking_of) (by decide +kernel)) (fun _ _ _ _ _ => pg_name (i := 4) sc_ranking_of.nd rfl (Or.inl rfl)) (fun _ _ _ _ _ => pts_one (pt_cmpR op_lt (pv 4) (pe_call (ok_sign_bit T) (hr.mono (by decide)) rfl T.g_sign_bit T.F_sign_bit.kp (bd_sign_bit T) .nil pass0 (pa_cons (pv 0) pa_nil)) (nomark _))) (fun _ _ _ _ _ => (pv 4)))
        (pss_one (ps_ret (pe_tup (pa_cons (pe_callTy call_tuple_of (by rfl) T.b_tuple (by decide +kernel) (pa_cons (pe_lc (own := [("word", 4)]) (g := gName 4) rfl sc_ranking_of.nd (pi_tup (pv 1)) (blkOk_by (own := [("word", 4)]) (N := ["width", "words", "different", "not_negative", "word"]) (sc := defScope s_ranking_of) (by decide +kernel)) (fun _ _ _ _ _ => pg_name (i := 4) sc_ranking_of.nd rfl (Or.inl rfl)) (fun _ _ _ _ _ => pts_nil) (fun _ _ _ _ _ => (pe_bmX (K := K) rfl PySem.F.plainAttrs_list PySem.F.slot_list_index PySem.F.type_list_index (show MtR _ _ (rIndex K) from mt_index) (pv 2) (pa_cons (pv 4) pa_nil) rfl rfl rfl rfl rfl))) pa_nil)) (pa_cons (pe_callB call_len_seq (by rfl) T.b_len (by decide +kernel) (pa_cons (pv 3) pa_nil)) pa_nil))))))))), ?_⟩
    obtain ⟨h1, h2, ht, hx, hz, k⟩ := h
    refine ⟨_, rfl, wd, rfl, h1, ?_⟩
    refine ⟨_, rfl, _, rfl, wd, t, xs, rfl, h1, h2, ht, hx, fun H1 s1 => ?_⟩
    refine ⟨_, rfl, t, xs, rfl, sameT s1 ht, by omega, fun p n ks hp nd mem ln => ?_⟩
    have ln2 : n ≤ xs.length := by
      have e1 := card_one nd (up_nodup (srt_up xs)) (fun k => by rw [mem k, srt_mem])
      have e2 := srt_len xs
      omega
    refine ⟨p, _, n, rfl, upd_same, by omega, fun ns p2 up mem2 _ hp2 => ?_⟩
    obtain rfl : ns = srt xs := up_one up (srt_up xs) fun k => by rw [mem2 k, decide_eq_true_eq, srt_mem]
    have ls := srt_len xs
    have s2 := s1.trans ((sameNew hp (o := SetO w p (fun j => decide (j ∈ xs)) n)).trans (sameNew hp2 (o := .lst ((srt xs).map V.int))))
    have e2 : (upd (upd H1 p (SetO w p (fun j => decide (j ∈ xs)) n)) p2 (.lst ((srt xs).map V.int))) p2 = some (.lst ((srt xs).map V.int)) := upd_same
    refine ⟨_, rfl, p2, rfl, ⟨_, SqL.of upd_same⟩, fun D hD => lc_filtL (fun y => decide (y < 2 ^ (wd - 1).toNat)) (SqL.of upd_same) (by omega) hD (fun _ => rfl) (fun x H3 Q3 _ s3 q3 => ?_) (fun x H3 Q3 _ _ q3 => ?_) (fun H3 s3 e3 => ?_)⟩
    · exact ⟨_, rfl, _, rfl, wd, rfl, h1, h2, _, _, rfl, rfl, _, rfl, q3 _ (Same.refl _)⟩
    · exact ⟨_, rfl, q3⟩
    have s13 := s2.trans s3
    have e23 := s3 _ _ e2
    refine ⟨_, rfl, t, rfl, ⟨_, sameT s13 ht⟩, fun D2 hD2 => lc_ints (fun x => ((rk (srt xs) x : Nat) : Int)) (sameT s13 ht) (by omega) hD2 (fun _ => rfl) (fun x H4 Q4 hm s4 q4 => ?_) (fun H4 s4 e4 => ?_)⟩
    · have m := srt_mem.mpr hm
      have ar := at_rk (srt_up xs) m
      refine ⟨_, rfl, .inl ⟨rfl, _, SqL.of (s4 _ _ e23)⟩, _, rfl, p2, (srt xs).map V.int, .int x, rk (srt xs) x, .int x, rfl, rfl, SqL.of (s4 _ _ e23), rfl, by simp [flatV], by rw [List.getElem?_map, ar]; rfl, by show (x == x) = true; simp, fun j z' hj hz' => ?_, q4 _ (Same.refl _)⟩
      obtain ⟨y, hy, rfl⟩ := map_at hz'
      show (y == x) = false
      refine beq_eq_false_iff_ne.mpr fun e => ?_
      subst e
      have := rk_at (srt_up xs) hy
      omega
    refine ⟨D2, _, rfl, .inl ⟨SqL.of e4, fun q hq => ?_⟩⟩
    have e3' := (s4.trans (sameNew hq (o := .tup ((rks xs).map V.int)))) _ _ e3
    refine ⟨_, rfl, D, _, rfl, .inl (SqL.of e3'), (by show 2 ≤ sizeLine; decide), fun r hr9 => ?_⟩
    refine k r q _ (s13.trans (s4.trans ((sameNew hq).trans (sameNew hr9)))) ⟨?_, ?_⟩
    · rw [upd_same, List.length_map]
      rfl
    · exact (sameNew hr9) _ _ upd_same
/-! outcome_in -/
def sp_outcome_in (K : PySem.W.Frag) : Sp := fun vs H Q E => ∃ (q rt : Addr) (rs : List Int) (c : Int) (m i j : Nat) (a b : Int), vs = [.ref q, .int (i : Int), .int (j : Int)] ∧ RkAt H q rt rs c ∧ IsRk rs m ∧ 0 ≤ c ∧ c ≤ (m : Int) ∧ rs.length ≤ 60 ∧ rs[i]? = some a ∧ rs[j]? = some b ∧ ∀ H', Same H H' → Q (.str (ocut c a b)) H'
theorem sc_outcome_in : FnScope ["ranking", "first", "second", "number"] ["ranking", "first", "second"] (defScope s_outcome_in) := ⟨rfl, rfl, rfl, by decide +kernel, rfl, by decide +kernel, by decide +kernel⟩
theorem bd_outcome_in (T : Txt w K mg A0) : Binds K A0.d_outcome_in ["ranking", "first", "second"] [] := T.F_outcome_in.binds fun _ _ _ _ _ _ us hl => match us, hl with | [_, _, _], _ => rfl
theorem ok_outcome_in (T : Txt w K mg A0) : FnOk P w K mg base CX0 3 A0.a_outcome_in A0.d_outcome_in ["ranking", "first", "second"] (sp_outcome_in K) := by
  refine T.F_outcome_in.ok sc_outcome_in (fun vs H Q E h => ?_) (fun cdv A outer s H vs Q E hr h => ?_)
  · obtain ⟨q, rt, rs, c, m, i, j, a, b, rfl, _⟩ := h
    rfl
  · obtain ⟨q, rt, rs, c, m, i, j, a, b, rfl, h⟩ := h
    refine ⟨_, (pss_cons (ps_expr (pe_call (ok_check_ranking T) (hr.mono (by decide)) rfl T.g_check_ranking T.F_check_ranking.kp (bd_check_ranking T) .nil pass0 (pa_cons (pv 0) pa_nil)))
        (pss_cons (ps_for PassesOwn.never rfl (pi_tup (pe_tup (pa_cons (pv 1) (pa_cons (pv 2) pa_nil)))) (pg_name (i := 3) sc_outcome_in.nd rfl (Or.inl rfl)) (pss_one (ps_if (PW.pt (pw_or (pt_cmpR op_lt (pv 3) pe_int (nomark _)) (pw_or1 (pt_cmpR op_ge (pv 3) (pe_callB call_len_seq (by rfl) T.b_len (by decide +kernel) (pa_cons (pe_ix ix_tup (pv 0) pe_int (fun _ _ => rfl)) pa_nil)) (nomark _))))) (pss_one ps_never) pss_nil)))
        (pss_one (ps_ret (pe_call (ok_outcome_between T) (hr.mono (by decide)) rfl T.g_outcome_between T.F_outcome_between.kp (bd_outcome_between T) .nil pass0 (pa_cons (pv 0) (pa_cons (pv 1) (pa_cons (pv 2) pa_nil)))))))), ?_⟩
    obtain ⟨hr, is, c0, cm, hz, ha, hb, k⟩ := h
    have la := (List.getElem?_eq_some_iff.mp ha).1
    have lb := (List.getElem?_eq_some_iff.mp hb).1
    refine ⟨_, rfl, q, rt, rs, c, m, rfl, hr, is, c0, cm, hz, fun H1 s1 => ?_⟩
    refine ⟨_, rfl, _, rfl, (by show 2 ≤ sizeLine; decide), fun tt htt => ⟨tt, rfl, ⟨_, SqT.of upd_same⟩, for_tup (K := K) (a := tt) (xs := [.int (i : Int), .int (j : Int)]) (fun _ σ H' => ∃ u, σ = [some (.ref q), some (.int (i : Int)), some (.int (j : Int)), u] ∧ Same (upd H1 tt (.tup [.int (i : Int), .int (j : Int)])) H') ⟨none, rfl, Same.refl _⟩ (fun _ σ H' _ hp => ?_) ?_ ?_⟩⟩
    · obtain ⟨_, _, s⟩ := hp
      exact SqT.of (s _ _ upd_same)
    · rintro d x σ H2 hd ⟨u, rfl, s2⟩
      obtain ⟨z, rfl, z0, z1⟩ : ∃ z : Int, x = .int z ∧ 0 ≤ z ∧ z < (rs.length : Int) := by
        match d, hd with
        | 0, e => exact ⟨_, (Option.some.inj e).symm, by omega, by omega⟩
        | 1, e => exact ⟨_, (Option.some.inj e).symm, by omega, by omega⟩
      have hr2 := hr.same (s1.trans ((sameNew htt).trans s2))
      refine ⟨_, rfl, _, _, rfl, rfl, _, rfl, ?_⟩
      refine tF (decide_eq_false (by omega)) ?_
      refine ⟨_, rfl, _, rfl, q, _, 0, .ref rt, rfl, rfl, SqT.of hr2.1, rfl, rt, _, rfl, .inr (SqT.of hr2.2), _, _, rfl, rfl, _, rfl, ?_⟩
      refine tF (decide_eq_false (by rw [List.length_map]; omega)) ?_
      exact ⟨_, rfl, s2⟩
    · rintro σ H2 ⟨u, rfl, s2⟩
      have sm := s1.trans ((sameNew htt).trans s2)
      exact ⟨_, rfl, _, rfl, _, rfl, q, rt, rs, c, i, j, a, b, rfl, hr.same sm, ha, hb, k _ sm⟩
/-! least_words -/
def sp_least_words (K : PySem.W.Frag) : Sp := fun vs H Q E => ∃ (q rt : Addr) (rs : List Int) (c : Int) (m : Nat) (wd : Int), vs = [.ref q, .int wd] ∧ RkAt H q rt rs c ∧ IsRk rs m ∧ 0 ≤ c ∧ c ≤ (m : Int) ∧ rs.length ≤ 60 ∧ 1 ≤ wd ∧ wd ≤ 1000 ∧ c ≤ 2 ^ (wd - 1).toNat ∧ (m : Int) - c ≤ 2 ^ (wd - 1).toNat ∧ ∀ p H', H p = none → Same H H' → H' p = some (.tup ((rs.map (lw (2 ^ (wd - 1).toNat) c)).map V.int)) → Q (.ref p) H'
theorem sc_least_words : FnScope ["ranking", "width", "ranks", "cut", "rank"] ["ranking", "width"] (defScope s_least_words) := ⟨rfl, rfl, rfl, by decide +kernel, rfl, by decide +kernel, by decide +kernel⟩
theorem bd_least_words (T : Txt w K mg A0) : Binds K A0.d_least_words ["ranking", "width"] [] := T.F_least_words.binds fun _ _ _ _ _ _ us hl => match us, hl with | [_, _], _ => rfl
set_option maxHeartbeats 0 in
theorem ok_least_words (T : Txt w K mg A0) : FnOk P w K mg base CX0 3 A0.a_least_words A0.d_least_words ["ranking", "width"] (sp_least_words K) := by
  refine T.F_least_words.ok sc_least_words (fun vs H Q E h => ?_) (fun cdv A outer s H vs Q E hr h => ?_)
  · obtain ⟨q, rt, rs, c, m, wd, rfl, _⟩ := h
    rfl
  · obtain ⟨q, rt, rs, c, m, wd, rfl, h⟩ := h
    refine ⟨_, (pss_cons (ps_expr (pe_call (ok_check_ranking T) (hr.mono (by decide)) rfl T.g_check_ranking T.F_check_ranking.kp (bd_check_ranking T) .nil pass0 (pa_cons (pv 0) pa_nil)))
        (pss_cons (ps_expr (pe_call (ok_check_width T) (hr.mono (by decide)) rfl T.g_check_width T.F_check_width.kp (bd_check_width T) .nil pass0 (pa_cons (pv 1) pa_nil)))
        (pss_cons (ps_if (pt_not (pt_val (pe_call (ok_fits T) (hr.mono (by decide)) rfl T.g_fits T.F_fits.kp (bd_fits T) .nil pass0 (pa_cons (pv 0) (pa_cons (pv 1) pa_nil))))) (pss_one (ps_ret pe_non)) pss_nil)
        (pss_cons (ps_asg (pv 0) (pg_tup rfl (pgs_cons (pg_name (i := 2) sc_least_words.nd rfl (Or.inl rfl)) (pgs_cons (pg_name (i := 3) sc_least_words.nd rfl (Or.inr rfl)) pgs_nil))))
        (pss_one (ps_ret (pe_callTy call_tuple_of (by rfl) T.b_tuple (by decide +kernel) (pa_cons (pe_lc (own := [("rank", 4)]) (g := gName 4) rfl sc_least_words.nd (pi_tup (pv 2)) (blkOk_by (own := [("rank", 4)]) (N := ["ranking", "width", "ranks", "cut", "rank"]) (sc := defScope s_least_words) (by decide +kernel)) (fun _ _ _ _ _ => pg_name (i := 4) sc_least_words.nd rfl (Or.inl rfl)) (fun _ _ _ _ _ => pts_nil) (fun _ _ _ _ _ => (pe_ifExp (pt_cmpR op_lt (pv 4) (pv 3) (nomark _)) (pv 4) (pe_op op_sub (pe_op op_add (pe_call (ok_sign_bit T) (hr.mono (by decide)) rfl T.g_sign_bit T.F_sign_bit.kp (bd_sign_bit T) .nil pass0 (pa_cons (pv 1) pa_nil)) (pv 4)) (pv 3))))) pa_nil)))))))), ?_⟩
    obtain ⟨hr, is, c0, cm, hz, h1, h2, b1, b2, k⟩ := h
    refine ⟨_, rfl, q, rt, rs, c, m, rfl, hr, is, c0, cm, hz, fun H1 s1 => ?_⟩
    refine ⟨_, rfl, wd, rfl, h1, ?_⟩
    have hr1 := hr.same s1
    refine ⟨_, rfl, _, rfl, q, rt, rs, c, m, wd, rfl, hr1, is, hz, h1, h2, fun H2 s2 => ⟨_, rfl, ?_⟩⟩
    refine tF (by rw [decide_eq_true b1, decide_eq_true b2]; rfl) ?_
    have s12 := s1.trans s2
    have hr2 := hr.same s12
    refine ⟨_, rfl, q, _, rfl, SqT.of hr2.1, rfl, _, _, rfl, _, _, rfl, rfl, ?_⟩
    refine ⟨_, rfl, rt, rfl, ⟨_, SqT.of hr2.2⟩, fun D hD => lc_ints (lw (2 ^ (wd - 1).toNat) c) (SqT.of hr2.2) (by omega) hD (fun _ => rfl) (fun x H3 Q3 _ s3 q3 => ?_) (fun H3 s3 e3 => ?_)⟩
    · have q4 := q3 H3 (Same.refl _)
      unfold lw at q4
      refine ⟨_, rfl, _, rfl, _, _, rfl, rfl, _, rfl, ?_⟩
      by_cases d : x < c
      · rw [if_pos d] at q4
        refine tT (decide_eq_true d) ?_
        exact ⟨_, rfl, q4⟩
      · rw [if_neg d] at q4
        refine tF (decide_eq_false d) ?_
        exact ⟨_, rfl, wd, rfl, h1, h2, _, rfl, _, _, rfl, rfl, _, rfl, _, _, rfl, rfl, q4⟩
    refine ⟨D, _, rfl, .inl ⟨SqL.of e3, fun t ht => ?_⟩⟩
    exact k t _ (s12.free (s3.free ht)) (s12.trans (s3.trans (sameNew ht))) upd_same
/-! count_words -/
def sp_count_words (K : PySem.W.Frag) : Sp := fun vs H Q E => ∃ (q rt : Addr) (rs : List Int) (c : Int) (m : Nat) (wd : Int), vs = [.ref q, .int wd] ∧ RkAt H q rt rs c ∧ IsRk rs m ∧ 0 ≤ c ∧ c ≤ (m : Int) ∧ rs.length ≤ 60 ∧ m ≤ 8 ∧ 1 ≤ wd ∧ wd ≤ 1000 ∧ ∀ H', Same H H' → Q (.int (cmb (2 ^ (wd - 1).toNat) c * cmb (2 ^ (wd - 1).toNat) ((m : Int) - c))) H'
theorem sc_count_words : FnScope ["ranking", "width", "not_negative", "negative"] ["ranking", "width"] (defScope s_count_words) := ⟨rfl, rfl, rfl, by decide +kernel, rfl, by decide +kernel, by decide +kernel⟩
theorem bd_count_words (T : Txt w K mg A0) : Binds K A0.d_count_words ["ranking", "width"] [] := T.F_count_words.binds fun _ _ _ _ _ _ us hl => match us, hl with | [_, _], _ => rfl
set_option maxHeartbeats 0 in
theorem ok_count_words (T : Txt w K mg A0) : FnOk P w K mg base CX0 3 A0.a_count_words A0.d_count_words ["ranking", "width"] (sp_count_words K) := by
  refine T.F_count_words.ok sc_count_words (fun vs H Q E h => ?_) (fun cdv A outer s H vs Q E hr h => ?_)
  · obtain ⟨q, rt, rs, c, m, wd, rfl, _⟩ := h
    rfl
  · obtain ⟨q, rt, rs, c, m, wd, rfl, h⟩ := h
    refine ⟨_, (pss_cons (ps_expr (pe_call (ok_check_ranking T) (hr.mono (by decide)) rfl T.g_check_ranking T.F_check_ranking.kp (bd_check_ranking T) .nil pass0 (pa_cons (pv 0) pa_nil)))
        (pss_cons (ps_expr (pe_call (ok_check_width T) (hr.mono (by decide)) rfl T.g_check_width T.F_check_width.kp (bd_check_width T) .nil pass0 (pa_cons (pv 1) pa_nil)))
        (pss_cons (ps_asg (pe_call (ok_ranks_by_sign T) (hr.mono (by decide)) rfl T.g_ranks_by_sign T.F_ranks_by_sign.kp (bd_ranks_by_sign T) .nil pass0 (pa_cons (pv 0) pa_nil)) (pg_tup rfl (pgs_cons (pg_name (i := 2) sc_count_words.nd rfl (Or.inl rfl)) (pgs_cons (pg_name (i := 3) sc_count_words.nd rfl (Or.inl rfl)) pgs_nil))))
        (pss_one (ps_ret (pe_op op_mulW (pe_callBfun cr_comb rfl T.gf_comb (pa_cons (pe_call (ok_sign_bit T) (hr.mono (by decide)) rfl T.g_sign_bit T.F_sign_bit.kp (bd_sign_bit T) .nil pass0 (pa_cons (pv 1) pa_nil)) (pa_cons (pv 2) pa_nil))) (pe_callBfun cr_comb rfl T.gf_comb (pa_cons (pe_call (ok_sign_bit T) (hr.mono (by decide)) rfl T.g_sign_bit T.F_sign_bit.kp (bd_sign_bit T) .nil pass0 (pa_cons (pv 1) pa_nil)) (pa_cons (pv 3) pa_nil))))))))), ?_⟩
    obtain ⟨hr, is, c0, cm, hz, m8, h1, h2, k⟩ := h
    have hp0 := pow_pos (wd - 1).toNat
    have hp1 : (2 : Int) ^ (wd - 1).toNat ≤ 2 ^ 1000 := pow_le (by omega)
    have lg := fun (k : Int) (k0 : 0 ≤ k) (k8 : k ≤ 8) => cmb_log (n := 2 ^ (wd - 1).toNat) (Int.le_of_lt hp0) hp1 k0 k8
    refine ⟨_, rfl, q, rt, rs, c, m, rfl, hr, is, c0, cm, hz, fun H1 s1 => ?_⟩
    refine ⟨_, rfl, wd, rfl, h1, ?_⟩
    refine ⟨_, rfl, q, rt, rs, c, m, rfl, hr.same s1, is, hz, fun p H2 s2 e2 => ?_⟩
    refine ⟨p, _, rfl, SqT.of e2, rfl, _, _, rfl, _, _, rfl, rfl, ?_⟩
    obtain ⟨a1, a2⟩ := lg c c0 (by omega)
    obtain ⟨b1, b2⟩ := lg ((m : Int) - c) (by omega) (by omega)
    refine ⟨_, rfl, wd, rfl, h1, h2, _, rfl, _, c, rfl, Int.le_of_lt hp0, c0, by omega, a1, ?_⟩
    refine ⟨_, rfl, wd, rfl, h1, h2, _, rfl, _, (m : Int) - c, rfl, Int.le_of_lt hp0, by omega, by omega, b1, ?_⟩
    exact ⟨_, _, rfl, rfl, by show _ + _ < 1000000; omega, k _ (s1.trans s2)⟩
/-! count_rankings -/
def sp_count_rankings (K : PySem.W.Frag) : Sp := fun vs H Q E => ∃ n : Nat, vs = [.int (n : Int)] ∧ 1 ≤ n ∧ n ≤ 5 ∧ ∀ H', Same H H' → Q (.int ((allRk n).length : Int)) H'
theorem sc_count_rankings : FnScope ["items"] ["items"] (defScope s_count_rankings) := ⟨rfl, rfl, rfl, by decide +kernel, rfl, by decide +kernel, by decide +kernel⟩
theorem bd_count_rankings (T : Txt w K mg A0) : Binds K A0.d_count_rankings ["items"] [] := T.F_count_rankings.binds fun _ _ _ _ _ _ us hl => match us, hl with | [_], _ => rfl
theorem ok_count_rankings (T : Txt w K mg A0) : FnOk P w K mg base CX0 3 A0.a_count_rankings A0.d_count_rankings ["items"] (sp_count_rankings K) := by
  refine T.F_count_rankings.ok sc_count_rankings (fun vs H Q E h => ?_) (fun cdv A outer s H vs Q E hr h => ?_)
  · obtain ⟨n, rfl, _⟩ := h
    rfl
  · obtain ⟨n, rfl, h⟩ := h
    refine ⟨_, (pss_cons (ps_expr (pe_call (ok_check_items T) (hr.mono (by decide)) rfl T.g_check_items T.F_check_items.kp (bd_check_items T) .nil pass0 (pa_cons (pv 0) pa_nil)))
        (pss_one (ps_ret (pe_callB call_len_seq (by rfl) T.b_len (by decide +kernel) (pa_cons (pe_call (ok_all_rankings T) (hr.mono (by decide)) rfl T.g_all_rankings T.F_all_rankings.kp (bd_all_rankings T) .nil pass0 (pa_cons (pv 0) pa_nil)) pa_nil))))), ?_⟩
    obtain ⟨n1, n5, k⟩ := h
    refine ⟨_, rfl, n, rfl, n1, n5, ?_⟩
    refine ⟨_, rfl, n, rfl, n1, n5, fun l qs H1 hl s1 e1 r1 => ?_⟩
    refine ⟨l, _, rfl, .inl (SqL.of e1), ?_⟩
    rw [List.length_map, pr_len r1]
    exact k _ s1
/-! nth_ranking -/
def sp_nth_ranking (K : PySem.W.Frag) : Sp := fun vs H Q E => ∃ (n : Nat) (j : Int), vs = [.int (n : Int), .int j] ∧ 1 ≤ n ∧ n ≤ 5 ∧ 0 ≤ j ∧ j < ((allRk n).length : Int) ∧ ∀ q rt p H', p ∈ allRk n → Same H H' → RkAt H' q rt p.1 p.2 → Q (.ref q) H'
theorem sc_nth_ranking : FnScope ["items", "number", "rankings"] ["items", "number"] (defScope s_nth_ranking) := ⟨rfl, rfl, rfl, by decide +kernel, rfl, by decide +kernel, by decide +kernel⟩
theorem bd_nth_ranking (T : Txt w K mg A0) : Binds K A0.d_nth_ranking ["items", "number"] [] := T.F_nth_ranking.binds fun _ _ _ _ _ _ us hl => match us, hl with | [_, _], _ => rfl
theorem ok_nth_ranking (T : Txt w K mg A0) : FnOk P w K mg base CX0 3 A0.a_nth_ranking A0.d_nth_ranking ["items", "number"] (sp_nth_ranking K) := by
  refine T.F_nth_ranking.ok sc_nth_ranking (fun vs H Q E h => ?_) (fun cdv A outer s H vs Q E hr h => ?_)
  · obtain ⟨n, j, rfl, _⟩ := h
    rfl
  · obtain ⟨n, j, rfl, h⟩ := h
    refine ⟨_, (pss_cons (ps_expr (pe_call (ok_check_items T) (hr.mono (by decide)) rfl T.g_check_items T.F_check_items.kp (bd_check_items T) .nil pass0 (pa_cons (pv 0) pa_nil)))
        (pss_cons (ps_set (i := 2) sc_nth_ranking.nd rfl (Or.inl rfl) (pe_call (ok_all_rankings T) (hr.mono (by decide)) rfl T.g_all_rankings T.F_all_rankings.kp (bd_all_rankings T) .nil pass0 (pa_cons (pv 0) pa_nil)))
        (pss_cons (ps_if (PW.pt (pw_or (pt_cmpR op_lt (pv 1) pe_int (nomark _)) (pw_or1 (pt_cmpR op_ge (pv 1) (pe_callB call_len_seq (by rfl) T.b_len (by decide +kernel) (pa_cons (pv 2) pa_nil)) (nomark _))))) (pss_one ps_never) pss_nil)
        (pss_one (ps_ret (pe_ix ix_list (pv 2) (pv 1) (fun _ _ => rfl))))))), ?_⟩
    obtain ⟨n1, n5, j0, j1, k⟩ := h
    refine ⟨_, rfl, n, rfl, n1, n5, ?_⟩
    refine ⟨_, rfl, n, rfl, n1, n5, fun l qs H1 hl s1 e1 r1 => ?_⟩
    have lq := pr_len r1
    refine ⟨_, rfl, _, _, rfl, rfl, _, rfl, ?_⟩
    refine tF (decide_eq_false (by omega)) ?_
    refine ⟨_, rfl, _, rfl, l, _, rfl, .inl (SqL.of e1), _, _, rfl, rfl, _, rfl, ?_⟩
    refine tF (decide_eq_false (by rw [List.length_map]; omega)) ?_
    obtain ⟨q, hq⟩ : ∃ q, qs[j.toNat]? = some q := ⟨_, List.getElem?_eq_getElem (by omega)⟩
    obtain ⟨p, hp, rt, hr9⟩ := pr_at r1 hq
    exact ⟨_, rfl, _, rfl, l, _, j, .ref q, rfl, rfl, SqL.of e1, at_of (j := j.toNat) (by omega) (by rw [List.getElem?_map, hq]; rfl), k q rt p _ (List.mem_of_getElem? hp) s1 hr9⟩
/-! _law_some -/
def sp_law_some (K : PySem.W.Frag) : Sp := fun vs H Q E => ∃ (p : Addr) (wd m : Int) (n : Nat), vs = [.ref p, .int wd, .int m] ∧ Pool H p n ∧ n ≤ 50000 ∧ 1 ≤ wd ∧ wd ≤ 300 ∧ 0 ≤ m ∧ m ≤ 100 ∧ ∀ (t : Addr) (xs : List Int) (H' : Hp), xs.length = m.toNat → (∀ x ∈ xs, 0 ≤ x ∧ x < 2 ^ wd.toNat) → Pool H' p (n + 6 * m.toNat) → But p H H' → t ≠ p → H t = none → H' t = some (.tup (xs.map V.int)) → Q (.ref t) H'
theorem sc_law_some : FnScope ["pool", "wide", "many", "found", "turn", "fresh"] ["pool", "wide", "many"] (defScope s_law_some) := ⟨rfl, rfl, rfl, by decide +kernel, rfl, by decide +kernel, by decide +kernel⟩
theorem bd_law_some (T : Txt w K mg A0) : Binds K A0.d_law_some ["pool", "wide", "many"] [] := T.F_law_some.binds fun _ _ _ _ _ _ us hl => match us, hl with | [_, _, _], _ => rfl
theorem ok_law_some (T : Txt w K mg A0) : FnOk P w K mg base CX0 3 A0.a_law_some A0.d_law_some ["pool", "wide", "many"] (sp_law_some K) := by
  refine T.F_law_some.ok sc_law_some (fun vs H Q E h => ?_) (fun cdv A outer s H vs Q E hr h => ?_)
  · obtain ⟨p, wd, m, n, rfl, _⟩ := h
    rfl
  · obtain ⟨p, wd, m, n, rfl, h⟩ := h
    refine ⟨_, (pss_cons (ps_set (i := 3) sc_law_some.nd rfl (Or.inl rfl) (pe_lst pa_nil))
        (pss_cons (ps_for PassesOwn.never rfl (pi_range1 rfl T.b_range (pa_cons (pv 2) pa_nil)) (pg_name (i := 4) sc_law_some.nd rfl (Or.inl rfl)) (pss_cons (ps_set (i := 5) sc_law_some.nd rfl (Or.inl rfl) (pe_call (ok_law_word T) (hr.mono (by decide)) rfl T.g_law_word T.F_law_word.kp (bd_law_word T) .nil pass0 (pa_cons (pv 0) (pa_cons (pv 1) pa_nil))))
        (pss_cons (ps_if (PW.pt (pw_and (pt_cmpR (op_neD hr.units) (pv 3) (pe_lst pa_nil) (nomark _)) (pw_and1 (pt_cmpR op_eq (pe_call (ok_law_draw T) (hr.mono (by decide)) rfl T.g_law_draw T.F_law_draw.kp (bd_law_draw T) .nil pass0 (pa_cons (pv 0) (pa_cons pe_int pa_nil))) pe_int (nomark _))))) (pss_one (ps_set (i := 5) sc_law_some.nd rfl (Or.inl rfl) (pe_op op_mod (pe_op op_add (pe_ix ix_list (pv 3) (pe_call (ok_law_draw T) (hr.mono (by decide)) rfl T.g_law_draw T.F_law_draw.kp (bd_law_draw T) .nil pass0 (pa_cons (pv 0) (pa_cons (pe_callB call_len_seq (by rfl) T.b_len (by decide +kernel) (pa_cons (pv 3) pa_nil)) pa_nil))) (fun _ _ => rfl)) (pe_call (ok_law_draw T) (hr.mono (by decide)) rfl T.g_law_draw T.F_law_draw.kp (bd_law_draw T) .nil pass0 (pa_cons (pv 0) (pa_cons pe_int pa_nil)))) (pe_call (ok_law_power T) (hr.mono (by decide)) rfl T.g_law_power T.F_law_power.kp (bd_law_power T) .nil pass0 (pa_cons (pv 1) pa_nil))))) pss_nil)
        (pss_one (ps_expr (pe_bmX (K := K) rfl PySem.F.plainAttrs_list PySem.F.slot_list_append PySem.F.type_list_append mt_append (pv 3) (pa_cons (pv 5) pa_nil) rfl rfl rfl rfl rfl))))))
        (pss_one (ps_ret (pe_callTy call_tuple_of (by rfl) T.b_tuple (by decide +kernel) (pa_cons (pv 3) pa_nil)))))), ?_⟩
    obtain ⟨pl, hn, h1, h2, m0, m1, k⟩ := h
    have top0 : (0 : Int) < 2 ^ wd.toNat := pow_pos _
    refine ⟨(by show 0 ≤ sizeLine; decide), fun l hl => ?_⟩
    have nlp : l ≠ p := pl.ne hl
    refine ⟨_, rfl, m, rfl, by omega, by omega, for_range (n := m.toNat) (fun i σ H' => ∃ (xs : List Int) (v4 v5 : Option V), σ = [some (.ref p), some (.int wd), some (.int m), some (.ref l), v4, v5] ∧ xs.length = i ∧ (∀ x ∈ xs, 0 ≤ x ∧ x < 2 ^ wd.toNat) ∧ Pool H' p (n + 6 * i) ∧ But p H H' ∧ H' l = some (.lst (xs.map V.int))) ⟨[], none, none, rfl, rfl, (fun x hx => by cases hx), pl.new hl, But.new hl, upd_same⟩ ?_ ?_⟩
    · rintro i σ H1 hi ⟨xs, v4, v5, rfl, lx, bx, pl1, b1, hl1⟩
      refine ⟨_, rfl, _, rfl, p, wd, _, rfl, pl1, by omega, h1, h2, fun v H2 v0 v1 pl2 b2 => ?_⟩
      have hl2 := b2 l _ nlp hl1
      -- what a turn ends with
      have fin : ∀ (z : Int) (H3 : Hp), 0 ≤ z → z < 2 ^ wd.toNat → Pool H3 p (n + 6 * i + 6) → But p H2 H3 → ∃ l' ys, H3 l = some (.lst ys) ∧ l' = l ∧ ys = xs.map V.int ∧ Pool (upd H3 l (.lst (ys ++ [.int z]))) p (n + 6 * (i + 1)) ∧ But p H (upd H3 l (.lst (ys ++ [.int z]))) := fun z H3 z0 z1 pl3 b3 => by
        refine ⟨l, _, b3 l _ nlp hl2, rfl, rfl, (pl3.put nlp).mono (by omega), ?_⟩
        intro b o hb e
        rw [upd_ne (ne_of_none e hl)]
        exact b3 b o hb (b2 b o hb (b1 b o hb e))
      refine ⟨_, rfl, (by show 0 ≤ sizeLine; decide), fun q hq => ?_⟩
      have nqp : q ≠ p := pl2.ne hq
      have nlq : l ≠ q := ne_of_none hl2 hq
      refine ⟨.list (xs.map PyData.int), .list [], .lst (SqL.of (by rw [upd_ne nlq]; exact hl2)) (ints_all xs), .lst (SqL.of upd_same) .nil, ints_shaped xs, by decide +kernel, _, rfl, ?_⟩
      cases hb : (!PyData.eqv (.list (xs.map PyData.int)) (.list [])) with
      | false =>
        refine tF rfl ?_
        refine tF rfl ?_
        obtain ⟨l', ys, e1, e2, e3, e4, e5⟩ := fin v (upd H2 q (.lst [])) v0 v1 ((pl2.new hq).mono (by omega)) (But.new hq)
        subst e2 e3
        refine ⟨_, rfl, .inl ⟨rfl, _, SqL.of e1⟩, _, rfl, _, _, _, rfl, rfl, e1, small1000 (by rw [List.length_map]; omega), ?_⟩
        refine ⟨xs ++ [v], _, _, rfl, by simp [lx], ?_, e4, e5, by rw [upd_same, List.map_append]; rfl⟩
        intro x hx
        rcases List.mem_append.mp hx with hx | hx
        · exact bx x hx
        · obtain rfl := List.mem_singleton.mp hx
          exact ⟨v0, v1⟩
      | true =>
        refine tT rfl ?_
        have nz : 0 < xs.length := by
          cases xs with
          | nil => exact absurd hb (by decide +kernel)
          | cons y ys => exact Nat.succ_pos _
        refine ⟨_, rfl, p, 3, _, rfl, pl2.new hq, by omega, by decide, by decide, fun d3 H3 l3 u3 pl3 b3 => ?_⟩
        refine ⟨rfl, _, rfl, ?_⟩
        have b23 : But p H2 H3 := (But.new hq).trans b3
        cases hc : decide (V.int d3 = V.int 0) with
        | false =>
          refine tF rfl ?_
          obtain ⟨l', ys, e1, e2, e3, e4, e5⟩ := fin v H3 v0 v1 (pl3.mono (by omega)) b23
          subst e2 e3
          refine ⟨_, rfl, .inl ⟨rfl, _, SqL.of e1⟩, _, rfl, _, _, _, rfl, rfl, e1, small1000 (by rw [List.length_map]; omega), ?_⟩
          refine ⟨xs ++ [v], _, _, rfl, by simp [lx], ?_, e4, e5, by rw [upd_same, List.map_append]; rfl⟩
          intro x hx
          rcases List.mem_append.mp hx with hx | hx
          · exact bx x hx
          · obtain rfl := List.mem_singleton.mp hx
            exact ⟨v0, v1⟩
        | true =>
          refine tT rfl ?_
          have hl3 := b23 l _ nlp hl2
          refine ⟨_, rfl, _, rfl, _, rfl, l, _, rfl, .inl (SqL.of hl3), p, _, _, rfl, pl3, by omega, by rw [List.length_map]; omega, by rw [List.length_map]; exact Int.lt_of_lt_of_le (show (xs.length : Int) < 2 ^ 20 by omega) (by decide), fun d4 H4 l4 u4 pl4 b4 => ?_⟩
          rw [List.length_map] at u4
          have hl4 := b4 l _ nlp hl3
          obtain ⟨z, hz⟩ : ∃ z, xs[d4.toNat]? = some z := ⟨xs[d4.toNat]'(by omega), List.getElem?_eq_getElem (by omega)⟩
          refine ⟨l, _, d4, .int z, rfl, rfl, SqL.of hl4, at_of (j := d4.toNat) (by omega) (by rw [List.getElem?_map, hz]; rfl), ?_⟩
          refine ⟨_, rfl, p, 2, _, rfl, pl4, by omega, by decide, by decide, fun d5 H5 l5 u5 pl5 b5 => ?_⟩
          refine ⟨_, _, rfl, rfl, _, rfl, wd, rfl, by omega, by omega, _, _, rfl, rfl, top0, ?_⟩
          obtain ⟨l', ys, e1, e2, e3, e4, e5⟩ := fin ((z + d5) % 2 ^ wd.toNat) H5 (Int.emod_nonneg _ (by omega)) (Int.emod_lt_of_pos _ top0) (pl5.mono (by omega)) (b23.trans (b4.trans b5))
          subst e2 e3
          refine ⟨_, rfl, .inl ⟨rfl, _, SqL.of e1⟩, _, rfl, _, _, _, rfl, rfl, e1, small1000 (by rw [List.length_map]; omega), ?_⟩
          refine ⟨xs ++ [(z + d5) % 2 ^ wd.toNat], _, _, rfl, by simp [lx], ?_, e4, e5, by rw [upd_same, List.map_append]; rfl⟩
          intro x hx
          rcases List.mem_append.mp hx with hx | hx
          · exact bx x hx
          · obtain rfl := List.mem_singleton.mp hx
            exact ⟨Int.emod_nonneg _ (by omega), Int.emod_lt_of_pos _ top0⟩
    · rintro σ H1 ⟨xs, v4, v5, rfl, lx, bx, pl1, b1, hl1⟩
      refine ⟨_, rfl, l, _, rfl, .inl ⟨SqL.of hl1, fun t ht => ?_⟩⟩
      have ntp : t ≠ p := pl1.ne ht
      have h0 : H t = none := by
        cases e : H t with
        | none => rfl
        | some o =>
          rw [b1 t o ntp e] at ht
          cases ht
      exact k t xs _ lx bx (pl1.new ht) (b1.trans (But.new ht)) ntp h0 upd_same
/-! _law_sum_right -/
def sp_law_sum_right (K : PySem.W.Frag) : Sp := fun vs H Q E => ∃ (wd : Int) (n : Nat), vs = [.int wd, .int (n : Int)] ∧ 1 ≤ wd ∧ wd ≤ 300 ∧ 1 ≤ n ∧ n ≤ 4 ∧ ∀ H', Same H H' → Q (.bl true) H'
theorem sc_law_sum_right : FnScope ["wide", "many", "total", "one"] ["wide", "many"] (defScope s_law_sum_right) := ⟨rfl, rfl, rfl, by decide +kernel, rfl, by decide +kernel, by decide +kernel⟩
theorem bd_law_sum_right (T : Txt w K mg A0) : Binds K A0.d_law_sum_right ["wide", "many"] [] := T.F_law_sum_right.binds fun _ _ _ _ _ _ us hl => match us, hl with | [_, _], _ => rfl
theorem ok_law_sum_right (T : Txt w K mg A0) : FnOk P w K mg base CX0 4 A0.a_law_sum_right A0.d_law_sum_right ["wide", "many"] (sp_law_sum_right K) := by
  refine T.F_law_sum_right.ok sc_law_sum_right (fun vs H Q E h => ?_) (fun cdv A outer s H vs Q E hr h => ?_)
  · obtain ⟨wd, n, rfl, _⟩ := h
    rfl
  · obtain ⟨wd, n, rfl, h⟩ := h
    refine ⟨_, (pss_cons (ps_set (i := 2) sc_law_sum_right.nd rfl (Or.inl rfl) pe_int)
        (pss_cons (ps_for PassesOwn.never rfl (pi_list (pe_call (ok_law_all_rankings T) (hr.mono (by decide)) rfl T.g_law_all_rankings T.F_law_all_rankings.kp (bd_law_all_rankings T) .nil pass0 (pa_cons (pv 1) pa_nil))) (pg_name (i := 3) sc_law_sum_right.nd rfl (Or.inl rfl)) (pss_one (ps_set (i := 2) sc_law_sum_right.nd rfl (Or.inl rfl) (pe_op op_add (pv 2) (pe_call (ok_count_words T) (hr.mono (by decide)) rfl T.g_count_words T.F_count_words.kp (bd_count_words T) .nil pass0 (pa_cons (pv 3) (pa_cons (pv 0) pa_nil)))))))
        (pss_one (ps_ret (pe_cmpR op_eq (pv 2) (pe_call (ok_law_power T) (hr.mono (by decide)) rfl T.g_law_power T.F_law_power.kp (bd_law_power T) .nil pass0 (pa_cons (pe_op op_mulW (pv 0) (pv 1)) pa_nil)) (nomark _)))))), ?_⟩
    obtain ⟨h1, h2, n1, n4, k⟩ := h
    have hp0 := pow_pos (wd - 1).toNat
    refine ⟨_, rfl, n, rfl, n1, n4, fun l qs H1 hl s1 e1 r1 => ⟨l, rfl, ⟨_, SqL.of e1⟩, for_list (K := K) (a := l) (xs := qs.map V.ref) (fun i σ H' => ∃ u, σ = [some (.int wd), some (.int (n : Int)), some (.int (((allRk n).take i).map (wordsOf (2 ^ (wd - 1).toNat))).sum), u] ∧ Same H1 H') ⟨none, rfl, Same.refl _⟩ (fun i σ H' _ hp => ?_) ?_ ?_⟩⟩
    · obtain ⟨_, _, s⟩ := hp
      exact SqL.of (s _ _ e1)
    · rintro i x σ H2 hx ⟨u, rfl, s2⟩
      obtain ⟨q, hq, rfl⟩ := mapR_at hx
      obtain ⟨p, hp, rt, hr9⟩ := pr_at r1 hq
      obtain ⟨o1, o2, o3, o4⟩ := ok_at n1 (by omega) (List.mem_of_getElem? hp)
      have o5 := srt_len p.1
      refine ⟨_, rfl, _, rfl, _, rfl, q, rt, p.1, p.2, (srt p.1).length, wd, rfl, hr9.same s2, o2, o3, o4, by omega, by omega, h1, by omega, fun H3 s3 => ?_⟩
      refine ⟨_, _, rfl, rfl, some (.ref q), ?_, s2.trans s3⟩
      rw [List.take_add_one, hp, List.map_append, List.sum_append]
      show _ = [some (V.int wd), some (V.int (n : Int)), some (V.int ((((allRk n).take i).map (wordsOf (2 ^ (wd - 1).toNat))).sum + (wordsOf (2 ^ (wd - 1).toNat) p + 0))), some (V.ref q)]
      rw [Int.add_zero]
      rfl
    · rintro σ H2 ⟨u, rfl, s2⟩
      have lq := pr_len r1
      have e2 := two_half h1
      have pw : (2 * 2 ^ (wd - 1).toNat) ^ n = (2 : Int) ^ (wd * (n : Int)).toNat := by
        rw [← e2, ← Int.pow_mul]
        congr 1
        obtain ⟨a, rfl⟩ := Int.eq_ofNat_of_zero_le (show 0 ≤ wd by omega)
        rfl
      have b1 : 0 ≤ wd * (n : Int) := Int.mul_nonneg (by omega) (by omega)
      have b2 : wd * (n : Int) ≤ 300 * 4 := Int.mul_le_mul h2 (by omega) (by omega) (by decide)
      refine ⟨_, rfl, _, rfl, _, rfl, _, _, rfl, rfl, CMulW_small (by omega) (by omega), wd * (n : Int), rfl, b1, by omega, rfl, ?_⟩
      rw [List.length_map, lq, List.take_length, sum_all (Int.le_of_lt hp0) n1 n4, pw]
      rw [decide_eq_true rfl]
      exact k _ (s1.trans s2)
/-! _law_turned_right -/
def sp_law_turned_right (K : PySem.W.Frag) : Sp := fun vs H Q E => ∃ (wd : Int) (t : Addr) (xs : List Int) (wi : Int), vs = [.int wd, .ref t, .int wi] ∧ 1 ≤ wd ∧ wd ≤ wi ∧ wi ≤ 300 ∧ SqT K H t (xs.map V.int) ∧ (∀ x ∈ xs, 0 ≤ x ∧ x < 2 ^ wd.toNat) ∧ xs ≠ [] ∧ xs.length ≤ 5 ∧ ∀ H', Same H H' → Q (.bl true) H'
theorem sc_law_turned_right : FnScope ["wide", "some", "more", "ranks", "cut", "top", "due", "rank", "plain"] ["wide", "some", "more"] (defScope s_law_turned_right) := ⟨rfl, rfl, rfl, by decide +kernel, rfl, by decide +kernel, by decide +kernel⟩
theorem bd_law_turned_right (T : Txt w K mg A0) : Binds K A0.d_law_turned_right ["wide", "some", "more"] [] := T.F_law_turned_right.binds fun _ _ _ _ _ _ us hl => match us, hl with | [_, _, _], _ => rfl
set_option maxHeartbeats 0 in
theorem ok_law_turned_right (T : Txt w K mg A0) : FnOk P w K mg base CX0 4 A0.a_law_turned_right A0.d_law_turned_right ["wide", "some", "more"] (sp_law_turned_right K) := by
  refine T.F_law_turned_right.ok sc_law_turned_right (fun vs H Q E h => ?_) (fun cdv A outer s H vs Q E hr h => ?_)
  · obtain ⟨wd, t, xs, wi, rfl, _⟩ := h
    rfl
  · obtain ⟨wd, t, xs, wi, rfl, h⟩ := h
    refine ⟨_, (pss_cons (ps_asg (pe_call (ok_ranking_of T) (hr.mono (by decide)) rfl T.g_ranking_of T.F_ranking_of.kp (bd_ranking_of T) .nil pass0 (pa_cons (pv 0) (pa_cons (pv 1) pa_nil))) (pg_tup rfl (pgs_cons (pg_name (i := 3) sc_law_turned_right.nd rfl (Or.inl rfl)) (pgs_cons (pg_name (i := 4) sc_law_turned_right.nd rfl (Or.inr rfl)) pgs_nil))))
        (pss_cons (ps_set (i := 5) sc_law_turned_right.nd rfl (Or.inr rfl) (pe_op op_add (pe_callB (cr_maxT rfl hr.units) (by rfl) T.b_max (by decide +kernel) (pa_cons (pv 3) pa_nil)) pe_int))
        (pss_cons (ps_set (i := 6) sc_law_turned_right.nd rfl (Or.inl rfl) (pe_tup (pa_cons (pe_callTy call_tuple_of (by rfl) T.b_tuple (by decide +kernel) (pa_cons (pe_lc (own := [("rank", 7)]) (g := gName 7) rfl sc_law_turned_right.nd (pi_tup (pv 3)) (blkOk_by (own := [("rank", 7)]) (N := ["wide", "some", "more", "ranks", "cut", "top", "due", "rank", "plain"]) (sc := defScope s_law_turned_right) (by decide +kernel)) (fun _ _ _ _ _ => pg_name (i := 7) sc_law_turned_right.nd rfl (Or.inl rfl)) (fun _ _ _ _ _ => pts_nil) (fun _ _ _ _ _ => (pe_ifExp (pt_cmpR op_ge (pv 7) (pv 4) (nomark _)) (pe_op op_sub (pv 7) (pv 4)) (pe_op op_sub (pe_op op_add (pv 7) (pv 5)) (pv 4))))) pa_nil)) (pa_cons (pe_op op_sub (pv 5) (pv 4)) pa_nil))))
        (pss_cons (ps_if (pt_cmpR (op_neD hr.units) (pe_call (ok_ranking_of T) (hr.mono (by decide)) rfl T.g_ranking_of T.F_ranking_of.kp (bd_ranking_of T) .nil pass0 (pa_cons (pv 0) (pa_cons (pe_call (ok_flipped T) (hr.mono (by decide)) rfl T.g_flipped T.F_flipped.kp (bd_flipped T) .nil pass0 (pa_cons (pv 0) (pa_cons (pv 1) pa_nil))) pa_nil))) (pv 6) (nomark _)) (pss_one (ps_ret pe_bl)) pss_nil)
        (pss_cons (ps_set (i := 6) sc_law_turned_right.nd rfl (Or.inl rfl) (pe_tup (pa_cons (pe_callTy call_tuple_of (by rfl) T.b_tuple (by decide +kernel) (pa_cons (pe_lc (own := [("rank", 7)]) (g := gName 7) rfl sc_law_turned_right.nd (pi_tup (pv 3)) (blkOk_by (own := [("rank", 7)]) (N := ["wide", "some", "more", "ranks", "cut", "top", "due", "rank", "plain"]) (sc := defScope s_law_turned_right) (by decide +kernel)) (fun _ _ _ _ _ => pg_name (i := 7) sc_law_turned_right.nd rfl (Or.inl rfl)) (fun _ _ _ _ _ => pts_nil) (fun _ _ _ _ _ => (pe_op op_sub (pe_op op_sub (pv 5) pe_int) (pv 7)))) pa_nil)) (pa_cons (pe_op op_sub (pv 5) (pv 4)) pa_nil))))
        (pss_cons (ps_if (pt_cmpR (op_neD hr.units) (pe_call (ok_ranking_of T) (hr.mono (by decide)) rfl T.g_ranking_of T.F_ranking_of.kp (bd_ranking_of T) .nil pass0 (pa_cons (pv 0) (pa_cons (pe_call (ok_inverted T) (hr.mono (by decide)) rfl T.g_inverted T.F_inverted.kp (bd_inverted T) .nil pass0 (pa_cons (pv 0) (pa_cons (pv 1) pa_nil))) pa_nil))) (pv 6) (nomark _)) (pss_one (ps_ret pe_bl)) pss_nil)
        (pss_cons (ps_if (pt_cmpR (op_neD hr.units) (pe_call (ok_ranking_of T) (hr.mono (by decide)) rfl T.g_ranking_of T.F_ranking_of.kp (bd_ranking_of T) .nil pass0 (pa_cons (pv 2) (pa_cons (pe_call (ok_extended T) (hr.mono (by decide)) rfl T.g_extended T.F_extended.kp (bd_extended T) .nil pass0 (pa_cons (pv 0) (pa_cons (pv 1) (pa_cons (pv 2) (pa_cons pe_bl pa_nil))))) pa_nil))) (pe_tup (pa_cons (pv 3) (pa_cons (pv 4) pa_nil))) (nomark _)) (pss_one (ps_ret pe_bl)) pss_nil)
        (pss_cons (ps_set (i := 8) sc_law_turned_right.nd rfl (Or.inl rfl) (pe_call (ok_extended T) (hr.mono (by decide)) rfl T.g_extended T.F_extended.kp (bd_extended T) .nil pass0 (pa_cons (pv 0) (pa_cons (pv 1) (pa_cons (pv 2) (pa_cons pe_bl pa_nil))))))
        (pss_one (ps_ret (pe_or (pe_cmpR op_eq (pv 2) (pv 0) (nomark _)) (pe_one (pe_cmpR (op_eqD hr.units) (pe_call (ok_ranking_of T) (hr.mono (by decide)) rfl T.g_ranking_of T.F_ranking_of.kp (bd_ranking_of T) .nil pass0 (pa_cons (pv 2) (pa_cons (pv 8) pa_nil))) (pe_tup (pa_cons (pv 3) (pa_cons (pv 5) pa_nil))) (nomark _)))))))))))))), ?_⟩
    obtain ⟨h1, h2, h3, ht, hx, hne, hz, k⟩ := h
    have w300 : wd ≤ 1000 := by omega
    have hz60 : xs.length ≤ 60 := by omega
    have cl := ct_le xs (2 ^ (wd - 1).toNat)
    have is := rks_is xs
    have mp := srt_pos hne
    have eT : mx (rks xs) + 1 = ((srt xs).length : Int) := by rw [mx_is mp is]; omega
    have rne : rks xs ≠ [] := fun e => hne (List.map_eq_nil_iff.mp e)
    have lrk : (rks xs).length = xs.length := List.length_map ..
    obtain ⟨fA, fB⟩ := rks_flip h1 hx
    obtain ⟨iA, iB⟩ := rks_inv h1 hx
    obtain ⟨xA, xB⟩ := rks_ext h1 h2 hx
    refine ⟨_, rfl, _, rfl, wd, t, xs, rfl, h1, w300, ht, hx, hz60, fun q rt H1 s1 r1 => ?_⟩
    refine ⟨q, _, rfl, SqT.of r1.1, rfl, _, _, rfl, _, _, rfl, rfl, ?_⟩
    refine ⟨_, rfl, rt, rks xs, rfl, SqT.of r1.2, rne, _, _, rfl, rfl, ?_⟩
    generalize hc : ct xs (2 ^ (wd - 1).toNat) = c at *
    refine ⟨_, rfl, rt, rfl, ⟨_, SqT.of r1.2⟩, fun D hD => lc_ints (turnR c (mx (rks xs) + 1)) (SqT.of r1.2) (by omega) hD (fun _ => rfl) (fun x H2 Q2 _ s2 q2 => ?_) (fun H2 s2 e2 => ?_)⟩
    · have q3 := q2 H2 (Same.refl _)
      unfold turnR at q3
      refine ⟨_, rfl, _, rfl, _, _, rfl, rfl, _, rfl, ?_⟩
      by_cases d : c ≤ x
      · rw [if_pos d] at q3
        refine tT (decide_eq_true d) ?_
        exact ⟨_, rfl, _, rfl, _, _, rfl, rfl, q3⟩
      · rw [if_neg d] at q3
        refine tF (decide_eq_false d) ?_
        exact ⟨_, rfl, _, rfl, _, _, rfl, rfl, _, rfl, _, _, rfl, rfl, q3⟩
    refine ⟨D, _, rfl, .inl ⟨SqL.of e2, fun dt hdt => ?_⟩⟩
    refine ⟨_, rfl, _, rfl, _, _, rfl, rfl, (by show 2 ≤ sizeLine; decide), fun d hd => ?_⟩
    have s3 := s2.trans ((sameNew hdt (o := .tup (((rks xs).map (turnR c (mx (rks xs) + 1))).map V.int))).trans (sameNew hd (o := .tup [.ref dt, .int (mx (rks xs) + 1 - c)])))
    have rd : RkAt (upd (upd H2 dt (.tup (((rks xs).map (turnR c (mx (rks xs) + 1))).map V.int))) d (.tup [.ref dt, .int (mx (rks xs) + 1 - c)])) d dt ((rks xs).map (turnR c ((srt xs).length : Int))) (((srt xs).length : Int) - c) := by
      rw [← eT]
      exact ⟨upd_same, (sameNew hd) _ _ upd_same⟩
    have s13 := s1.trans s3
    -- flipped
    refine ⟨_, rfl, _, rfl, _, rfl, wd, t, xs, rfl, h1, w300, sameT s13 ht, hx, by omega, fun p4 H4 hp4 s4 e4 => ?_⟩
    refine ⟨wd, p4, xs.map (fl wd), rfl, h1, w300, SqT.of e4, fun y hy => ?_, by rw [List.length_map]; omega, fun q5 rt5 H5 s5 r5 => ?_⟩
    · obtain ⟨x, m, rfl⟩ := List.mem_map.mp hy
      exact fl_word h1 (hx x m)
    rw [fA, fB] at r5
    refine ⟨_, rfl, rkD ((rks xs).map (turnR c ((srt xs).length : Int))) (((srt xs).length : Int) - c), rkD ((rks xs).map (turnR c ((srt xs).length : Int))) (((srt xs).length : Int) - c), r5.dp, (rd.same (s4.trans s5)).dp, rkD_sh, rkD_sh, _, rfl, ?_⟩
    refine tF (by rw [SeqAt.eqv_refl _ (SeqAt.canLay_of_shaped rkD_sh)]; rfl) ?_
    have s15 := s13.trans (s4.trans s5)
    have r15 := r1.same (s3.trans (s4.trans s5))
    -- inverted
    refine ⟨_, rfl, rt, rfl, ⟨_, SqT.of r15.2⟩, fun D2 hD2 => lc_ints (fun r => mx (rks xs) + 1 - 1 - r) (SqT.of r15.2) (by omega) hD2 (fun _ => rfl) (fun x H6 Q6 _ s6 q6 => ?_) (fun H6 s6 e6 => ?_)⟩
    · exact ⟨_, rfl, _, _, rfl, rfl, _, rfl, _, _, rfl, rfl, q6 _ (Same.refl _)⟩
    refine ⟨D2, _, rfl, .inl ⟨SqL.of e6, fun dt2 hdt2 => ?_⟩⟩
    refine ⟨_, rfl, _, rfl, _, _, rfl, rfl, (by show 2 ≤ sizeLine; decide), fun d2 hd2 => ?_⟩
    have s7 := s6.trans ((sameNew hdt2 (o := .tup (((rks xs).map (fun r => mx (rks xs) + 1 - 1 - r)).map V.int))).trans (sameNew hd2 (o := .tup [.ref dt2, .int (mx (rks xs) + 1 - c)])))
    have rd2 : RkAt (upd (upd H6 dt2 (.tup (((rks xs).map (fun r => mx (rks xs) + 1 - 1 - r)).map V.int))) d2 (.tup [.ref dt2, .int (mx (rks xs) + 1 - c)])) d2 dt2 ((rks xs).map (fun r => ((srt xs).length : Int) - 1 - r)) (((srt xs).length : Int) - c) := by
      rw [← eT]
      exact ⟨upd_same, (sameNew hd2) _ _ upd_same⟩
    have s17 := s15.trans s7
    refine ⟨_, rfl, _, rfl, _, rfl, wd, t, xs, rfl, h1, w300, sameT s17 ht, hx, by omega, fun p8 H8 hp8 s8 e8 => ?_⟩
    refine ⟨wd, p8, xs.map (iv wd), rfl, h1, w300, SqT.of e8, fun y hy => ?_, by rw [List.length_map]; omega, fun q9 rt9 H9 s9 r9 => ?_⟩
    · obtain ⟨x, m, rfl⟩ := List.mem_map.mp hy
      exact iv_word (hx x m)
    rw [iA, iB] at r9
    refine ⟨_, rfl, rkD ((rks xs).map (fun r => ((srt xs).length : Int) - 1 - r)) (((srt xs).length : Int) - c), rkD ((rks xs).map (fun r => ((srt xs).length : Int) - 1 - r)) (((srt xs).length : Int) - c), r9.dp, (rd2.same (s8.trans s9)).dp, rkD_sh, rkD_sh, _, rfl, ?_⟩
    refine tF (by rw [SeqAt.eqv_refl _ (SeqAt.canLay_of_shaped rkD_sh)]; rfl) ?_
    have s19 := s17.trans (s8.trans s9)
    have r19 := r15.same (s7.trans (s8.trans s9))
    -- extended by signs
    refine ⟨_, rfl, _, rfl, _, rfl, _, rfl, wd, t, xs, wi, true, rfl, h1, h2, by omega, sameT s19 ht, hx, by omega, fun z => (by cases z), fun _ p10 H10 hp10 s10 e10 => ?_⟩
    refine ⟨wi, p10, xs.map (ex wd wi), rfl, by omega, by omega, SqT.of e10, fun y hy => ?_, by rw [List.length_map]; omega, fun q11 rt11 H11 s11 r11 => ?_⟩
    · obtain ⟨x, m, rfl⟩ := List.mem_map.mp hy
      exact ex_word h1 h2 (hx x m)
    rw [xA, xB] at r11
    refine ⟨_, rfl, _, rfl, (by show 2 ≤ sizeLine; decide), fun z hz9 => ?_⟩
    have sz := sameNew hz9 (o := .tup [.ref rt, .int c])
    have rz : RkAt (upd H11 z (.tup [.ref rt, .int c])) z rt (rks xs) c := ⟨upd_same, (r19.same (s10.trans (s11.trans sz))).2⟩
    refine ⟨rkD (rks xs) c, rkD (rks xs) c, (r11.same sz).dp, rz.dp, rkD_sh, rkD_sh, _, rfl, ?_⟩
    refine tF (by rw [SeqAt.eqv_refl _ (SeqAt.canLay_of_shaped rkD_sh)]; rfl) ?_
    have s1z := s19.trans (s10.trans (s11.trans sz))
    have r1z := r19.same (s10.trans (s11.trans sz))
    -- plain
    refine ⟨_, rfl, _, rfl, _, rfl, wd, t, xs, wi, false, rfl, h1, h2, by omega, sameT s1z ht, hx, by omega, fun _ H12 s12 => ?_, fun z => (by cases z)⟩
    refine ⟨_, rfl, _, rfl, rfl, _, rfl, ?_⟩
    by_cases ew : wi = wd
    · refine tT (decide_eq_true (congrArg V.int ew)) ?_
      exact k _ (s1z.trans s12)
    refine tF (decide_eq_false fun z => ew (V.int.inj z)) ?_
    have lt : (2 : Int) ^ wd.toNat ≤ 2 ^ (wi - 1).toNat := pow_le (by omega)
    have le2 : (2 : Int) ^ wd.toNat ≤ 2 ^ wi.toNat := pow_le (by omega)
    refine ⟨_, rfl, _, rfl, wi, t, xs, rfl, by omega, by omega, sameT (s1z.trans s12) ht, fun x m => by have := hx x m; omega, hz60, fun q13 rt13 H13 s13' r13 => ?_⟩
    rw [ct_all (h := 2 ^ (wi - 1).toNat) fun x m => by have := hx x m; omega] at r13
    refine ⟨_, rfl, _, rfl, (by show 2 ≤ sizeLine; decide), fun y hy9 => ?_⟩
    have sy := sameNew hy9 (o := .tup [.ref rt, .int (mx (rks xs) + 1)])
    have ry : RkAt (upd H13 y (.tup [.ref rt, .int (mx (rks xs) + 1)])) y rt (rks xs) ((srt xs).length : Int) := by
      rw [← eT]
      exact ⟨upd_same, (r1z.same (s12.trans (s13'.trans sy))).2⟩
    refine ⟨rkD (rks xs) ((srt xs).length : Int), rkD (rks xs) ((srt xs).length : Int), (r13.same sy).dp, ry.dp, rkD_sh, rkD_sh, ?_⟩
    rw [SeqAt.eqv_refl _ (SeqAt.canLay_of_shaped rkD_sh)]
    exact k _ (s1z.trans (s12.trans (s13'.trans sy)))
/-! _law_shown -/
def sp_law_shown (K : PySem.W.Frag) : Sp := fun vs H Q E => ∃ (q rt : Addr) (rs : List Int) (c : Int) (m : Nat), vs = [.ref q] ∧ RkAt H q rt rs c ∧ IsRk rs m ∧ 0 ≤ c ∧ c ≤ (m : Int) ∧ rs.length ≤ 60 ∧ rs.length ≤ 5 ∧ ∀ l H', H l = none → Same H H' → H' l = some (.lst ((shownR rs c).map V.str)) → Q (.ref l) H'
theorem sc_law_shown : FnScope ["one", "many", "found", "left", "right"] ["one"] (defScope s_law_shown) := ⟨rfl, rfl, rfl, by decide +kernel, rfl, by decide +kernel, by decide +kernel⟩
theorem bd_law_shown (T : Txt w K mg A0) : Binds K A0.d_law_shown ["one"] [] := T.F_law_shown.binds fun _ _ _ _ _ _ us hl => match us, hl with | [_], _ => rfl
set_option maxHeartbeats 0 in
theorem ok_law_shown (T : Txt w K mg A0) : FnOk P w K mg base CX0 4 A0.a_law_shown A0.d_law_shown ["one"] (sp_law_shown K) := by
  refine T.F_law_shown.ok sc_law_shown (fun vs H Q E h => ?_) (fun cdv A outer s H vs Q E hr h => ?_)
  · obtain ⟨q, rt, rs, c, m, rfl, _⟩ := h
    rfl
  · obtain ⟨q, rt, rs, c, m, rfl, h⟩ := h
    refine ⟨_, (pss_cons (ps_set (i := 1) sc_law_shown.nd rfl (Or.inl rfl) (pe_callB call_len_seq (by rfl) T.b_len (by decide +kernel) (pa_cons (pe_ix ix_tup (pv 0) pe_int (fun _ _ => rfl)) pa_nil)))
        (pss_cons (ps_set (i := 2) sc_law_shown.nd rfl (Or.inl rfl) (pe_lst pa_nil))
        (pss_cons (ps_for PassesOwn.never rfl (pi_range1 rfl T.b_range (pa_cons (pv 1) pa_nil)) (pg_name (i := 3) sc_law_shown.nd rfl (Or.inr rfl)) (pss_one (ps_expr (pe_bmX (K := K) rfl PySem.F.plainAttrs_list PySem.F.slot_list_extend PySem.F.type_list_extend mt_extend (pv 2) (pa_cons (pe_lc (own := [("right", 4)]) (g := gName 4) rfl sc_law_shown.nd (pi_range1 rfl T.b_range (pa_cons (pv 1) pa_nil)) (blkOk_by (own := [("right", 4)]) (N := ["one", "many", "found", "left", "right"]) (sc := defScope s_law_shown) (by decide +kernel)) (fun _ _ _ _ _ => pg_name (i := 4) sc_law_shown.nd rfl (Or.inl rfl)) (fun _ _ _ _ _ => pts_nil) (fun _ _ _ _ _ => (pe_call (ok_outcome_in T) (hr.mono (by decide)) rfl T.g_outcome_in T.F_outcome_in.kp (bd_outcome_in T) .nil pass0 (pa_cons (pv 0) (pa_cons (pv 3) (pa_cons (pv 4) pa_nil)))))) pa_nil) rfl rfl rfl rfl rfl))))
        (pss_one (ps_ret (pv 2)))))), ?_⟩
    obtain ⟨hr, is, c0, cm, hz, h5, k⟩ := h
    refine ⟨_, rfl, q, _, 0, .ref rt, rfl, rfl, SqT.of hr.1, rfl, rt, _, rfl, .inr (SqT.of hr.2), ?_⟩
    refine ⟨(by show 0 ≤ sizeLine; decide), fun F hF => ?_⟩
    have nel : ∀ {a : Addr} {o : HO}, H a = some o → a ≠ F := fun e => ne_of_none e hF
    have rb : ∀ {H' : Hp}, But F H H' → RkAt H' q rt rs c := fun b => ⟨b _ _ (nel hr.1) hr.1, b _ _ (nel hr.2) hr.2⟩
    refine ⟨_, rfl, (((rs.map V.int).length : Nat) : Int), rfl, by omega, by rw [List.length_map]; omega, for_range (n := (((rs.map V.int).length : Nat) : Int).toNat) (fun i σ H' => ∃ u v, σ = [some (.ref q), some (.int (((rs.map V.int).length : Nat) : Int)), some (.ref F), u, v] ∧ But F H H' ∧ H' F = some (.lst (((rs.take i).flatMap fun a => rs.map fun b => ocut c a b).map V.str))) ⟨none, none, rfl, But.upd, upd_same⟩ ?_ ?_⟩
    · rintro i σ H1 hi' ⟨u, v, rfl, b1, e1⟩
      have hi : i < rs.length := by simpa using hi'
      obtain ⟨a, ha⟩ : ∃ a, rs[i]? = some a := ⟨_, List.getElem?_eq_getElem hi⟩
      have lf : (((rs.take i).flatMap fun a => rs.map fun b => ocut c a b).map V.str).length ≤ 25 := by
        rw [List.length_map]
        have := flat_len (f := fun a => rs.map fun b => ocut c a b) (m := 5) (l := rs.take i) fun x _ => by rw [List.length_map]; exact h5
        rw [List.length_take] at this
        omega
      refine ⟨_, rfl, .inl ⟨rfl, _, SqL.of e1⟩, ?_⟩
      refine ⟨_, rfl, (((rs.map V.int).length : Nat) : Int), rfl, by omega, by rw [List.length_map]; omega, fun D hD => lc_range (lo := 0) (n := (((rs.map V.int).length : Nat) : Int).toNat) (fun j H' => Same H1 H' ∧ H' D = some (.lst (((rs.take j).map fun b => ocut c a b).map V.str))) ⟨sameNew hD, upd_same⟩ ?_ ?_⟩
      · rintro j H2 hj' ⟨s2, e2⟩
        have hj : j < rs.length := by simpa using hj'
        obtain ⟨b, hb⟩ : ∃ b, rs[j]? = some b := ⟨_, List.getElem?_eq_getElem hj⟩
        refine ⟨rfl, ?_⟩
        refine yesR ?_
        refine tT rfl ?_
        refine ⟨_, rfl, _, rfl, _, rfl, q, rt, rs, c, m, i, j, a, b, by rw [Int.zero_add, Int.zero_add]; rfl, (rb b1).same s2, is, c0, cm, hz, ha, hb, fun H3 s3 => ?_⟩
        refine ⟨_, s3 _ _ e2, small1000 (by rw [List.length_map, List.length_map, List.length_take]; omega), sameUp (s2.trans s3) hD, ?_⟩
        rw [upd_same, map_take_one hb, List.map_append]
        rfl
      · rintro H2 ⟨s2, e2⟩
        have tk : rs.take ((((rs.map V.int).length : Nat) : Int).toNat) = rs := List.take_of_length_le (by rw [List.length_map]; omega)
        rw [tk] at e2
        refine ⟨F, D, _, _, rfl, rfl, s2 _ _ e1, e2, Nat.le_of_lt (small1000 (by rw [List.length_map, List.length_map, List.length_map]; rw [List.length_map] at lf; omega)), ?_⟩
        refine ⟨_, _, rfl, b1.trans ((But.of s2).trans But.upd), ?_⟩
        rw [upd_same, flat_take ha, List.map_append]
    · rintro σ H1 ⟨u, v, rfl, b1, e1⟩
      have tk : rs.take ((((rs.map V.int).length : Nat) : Int).toNat) = rs := List.take_of_length_le (by rw [List.length_map]; omega)
      rw [tk] at e1
      exact ⟨_, rfl, k F H1 hF (fun b o e => b1 b o (nel e) e) e1⟩
/-! _law_pair_right -/
def sp_law_pair_right (K : PySem.W.Frag) : Sp := fun vs H Q E => ∃ (p : Addr) (nn n : Nat), vs = [.ref p, .int (n : Int)] ∧ Pool H p nn ∧ nn ≤ 40000 ∧ 1 ≤ n ∧ n ≤ 4 ∧ ∀ H', Pool H' p (nn + 6) → But p H H' → Q (.bl true) H'
theorem sc_law_pair_right : FnScope ["pool", "many", "one", "two", "single", "part", "wide", "least", "later", "half", "grown", "due", "left", "right"] ["pool", "many"] (defScope s_law_pair_right) := ⟨rfl, rfl, rfl, by decide +kernel, rfl, by decide +kernel, by decide +kernel⟩
theorem bd_law_pair_right (T : Txt w K mg A0) : Binds K A0.d_law_pair_right ["pool", "many"] [] := T.F_law_pair_right.binds fun _ _ _ _ _ _ us hl => match us, hl with | [_, _], _ => rfl
set_option maxHeartbeats 0 in
theorem ok_law_pair_right (T : Txt w K mg A0) : FnOk P w K mg base CX0 5 A0.a_law_pair_right A0.d_law_pair_right ["pool", "many"] (sp_law_pair_right K) := by
  refine T.F_law_pair_right.ok sc_law_pair_right (fun vs H Q E h => ?_) (fun cdv A outer s H vs Q E hr h => ?_)
  · obtain ⟨p, nn, n, rfl, _⟩ := h
    rfl
  · obtain ⟨p, nn, n, rfl, h⟩ := h
    refine ⟨_, (pss_cons (ps_set (i := 2) sc_law_pair_right.nd rfl (Or.inl rfl) (pe_call (ok_nth_ranking T) (hr.mono (by decide)) rfl T.g_nth_ranking T.F_nth_ranking.kp (bd_nth_ranking T) .nil pass0 (pa_cons (pv 1) (pa_cons (pe_call (ok_law_draw T) (hr.mono (by decide)) rfl T.g_law_draw T.F_law_draw.kp (bd_law_draw T) .nil pass0 (pa_cons (pv 0) (pa_cons (pe_call (ok_count_rankings T) (hr.mono (by decide)) rfl T.g_count_rankings T.F_count_rankings.kp (bd_count_rankings T) .nil pass0 (pa_cons (pv 1) pa_nil)) pa_nil))) pa_nil))))
        (pss_cons (ps_set (i := 3) sc_law_pair_right.nd rfl (Or.inl rfl) (pe_call (ok_nth_ranking T) (hr.mono (by decide)) rfl T.g_nth_ranking T.F_nth_ranking.kp (bd_nth_ranking T) .nil pass0 (pa_cons (pv 1) (pa_cons (pe_call (ok_law_draw T) (hr.mono (by decide)) rfl T.g_law_draw T.F_law_draw.kp (bd_law_draw T) .nil pass0 (pa_cons (pv 0) (pa_cons (pe_call (ok_count_rankings T) (hr.mono (by decide)) rfl T.g_count_rankings T.F_count_rankings.kp (bd_count_rankings T) .nil pass0 (pa_cons (pv 1) pa_nil)) pa_nil))) pa_nil))))
        (Evl.pss_cut (ps_if (pt_cmpR op_eq (pe_call (ok_law_draw T) (hr.mono (by decide)) rfl T.g_law_draw T.F_law_draw.kp (bd_law_draw T) .nil pass0 (pa_cons (pv 0) (pa_cons pe_int pa_nil))) pe_int (nomark _)) (pss_one (ps_set (i := 3) sc_law_pair_right.nd rfl (Or.inl rfl) (pe_tup (pa_cons (pe_ix ix_tup (pv 2) pe_int (fun _ _ => rfl)) (pa_cons (pe_call (ok_law_draw T) (hr.mono (by decide)) rfl T.g_law_draw T.F_law_draw.kp (bd_law_draw T) .nil pass0 (pa_cons (pv 0) (pa_cons (pe_op op_add (pe_callB (cr_maxT rfl hr.units) (by rfl) T.b_max (by decide +kernel) (pa_cons (pe_ix ix_tup (pv 2) pe_int (fun _ _ => rfl)) pa_nil)) pe_int) pa_nil))) pa_nil))))) pss_nil)
        (pss_cons (ps_setLc (i := 4) (own := [("part", 5)]) (g := gName 5) rfl sc_law_pair_right.nd rfl rfl (sw_true rfl rfl rfl (by decide +kernel)) (pi_tup (pe_tup (pa_cons (pv 2) (pa_cons (pv 3) pa_nil)))) (blkOk_by (own := [("part", 5)]) (N := ["pool", "many", "one", "two", "single", "part", "wide", "least", "later", "half", "grown", "due", "left", "right"]) (sc := defScope s_law_pair_right) (by decide +kernel)) (fun _ _ _ _ _ => pg_name (i := 5) sc_law_pair_right.nd rfl (Or.inl rfl)) (fun _ _ _ _ _ => pts_nil) (fun _ _ _ _ _ => (pe_cmpR (show OpR _ _ (rIn K false) from op_in_seq) (pe_ix (show IxR _ (rIxT K) from ix_tup) (pv 5) pe_int (fun _ _ => rfl)) (pe_tup (pa_cons pe_int (pa_cons (pe_op op_add (pe_callB (show CallR _ _ (rMaxT K) from cr_maxT rfl hr.units) (by rfl) T.b_max (by decide +kernel) (pa_cons (pe_ix (show IxR _ (rIxT K) from ix_tup) (pv 5) pe_int (fun _ _ => rfl)) pa_nil)) pe_int) pa_nil))) rfl)))
        (pss_cons (ps_if (pt_cmpR op_ne (pe_cmpR (op_eqD hr.units) (pe_call (ok_law_shown T) (hr.mono (by decide)) rfl T.g_law_shown T.F_law_shown.kp (bd_law_shown T) .nil pass0 (pa_cons (pv 2) pa_nil)) (pe_call (ok_law_shown T) (hr.mono (by decide)) rfl T.g_law_shown T.F_law_shown.kp (bd_law_shown T) .nil pass0 (pa_cons (pv 3) pa_nil)) (nomark _)) (pe_or (pe_cmpR (op_eqD hr.units) (pv 2) (pv 3) (nomark _)) (pe_one (pe_and (pe_cmpR (op_eqD hr.units) (pe_ix ix_tup (pv 2) pe_int (fun _ _ => rfl)) (pe_ix ix_tup (pv 3) pe_int (fun _ _ => rfl)) (nomark _)) (pe_one (pe_cmpR (op_eqD hr.units) (pv 4) (pe_lst (pa_cons pe_bl (pa_cons pe_bl pa_nil))) (nomark _)))))) (nomark _)) (pss_one (ps_ret pe_bl)) pss_nil)
        (pss_cons (ps_set (i := 6) sc_law_pair_right.nd rfl (Or.inr rfl) (pe_op op_add pe_int (pe_call (ok_law_draw T) (hr.mono (by decide)) rfl T.g_law_draw T.F_law_draw.kp (bd_law_draw T) .nil pass0 (pa_cons (pv 0) (pa_cons pe_int pa_nil)))))
        (pss_cons (ps_par (i := 7) (j := 8) rfl sc_law_pair_right.nd rfl rfl (by decide) rfl rfl (pa_cons (pe_call (ok_least_words T) (hr.mono (by decide)) rfl T.g_least_words T.F_least_words.kp (bd_least_words T) .nil pass0 (pa_cons (pv 2) (pa_cons (pv 6) pa_nil))) (pa_cons (pe_call (ok_least_words T) (hr.mono (by decide)) rfl T.g_least_words T.F_least_words.kp (bd_least_words T) .nil pass0 (pa_cons (pv 2) (pa_cons (pe_op op_add (pv 6) pe_int) pa_nil))) pa_nil)) rfl)
        (pss_cons (ps_set (i := 9) sc_law_pair_right.nd rfl (Or.inr rfl) (pe_call (ok_law_power T) (hr.mono (by decide)) rfl T.g_law_power T.F_law_power.kp (bd_law_power T) .nil pass0 (pa_cons (pe_op op_sub (pv 6) pe_int) pa_nil)))
        (pss_cons (ps_set (i := 10) sc_law_pair_right.nd rfl (Or.inl rfl) (pe_callTy call_tuple_of (by rfl) T.b_tuple (by decide +kernel) (pa_cons (pe_lc (own := [("part", 5)]) (g := gName 5) rfl sc_law_pair_right.nd (pi_tup (pv 7)) (blkOk_by (own := [("part", 5)]) (N := ["pool", "many", "one", "two", "single", "part", "wide", "least", "later", "half", "grown", "due", "left", "right"]) (sc := defScope s_law_pair_right) (by decide +kernel)) (fun _ _ _ _ _ => pg_name (i := 5) sc_law_pair_right.nd rfl (Or.inl rfl)) (fun _ _ _ _ _ => pts_nil) (fun _ _ _ _ _ => (pe_ifExp (pt_cmpR op_ge (pv 5) (pv 9) (nomark _)) (pe_op op_add (pv 5) (pv 9)) (pv 5)))) pa_nil)))
        (pss_cons (ps_if (PW.pt (pw_or (pt_cmpR (op_neD hr.units) (pv 8) (pv 10) (nomark _)) (pw_or1 (pt_cmpR (op_neD hr.units) (pe_call (ok_ranking_of T) (hr.mono (by decide)) rfl T.g_ranking_of T.F_ranking_of.kp (bd_ranking_of T) .nil pass0 (pa_cons (pv 6) (pa_cons (pv 7) pa_nil))) (pv 2) (nomark _))))) (pss_one (ps_ret pe_bl)) pss_nil)
        (pss_cons (ps_set (i := 11) sc_law_pair_right.nd rfl (Or.inl rfl) (pe_lst pa_nil))
        (pss_cons (ps_for PassesOwn.never rfl (pi_tup (pv 7)) (pg_name (i := 12) sc_law_pair_right.nd rfl (Or.inr rfl)) (pss_one (ps_expr (pe_bmX (K := K) rfl PySem.F.plainAttrs_list PySem.F.slot_list_extend PySem.F.type_list_extend mt_extend (pv 11) (pa_cons (pe_lc (own := [("right", 13)]) (g := gName 13) rfl sc_law_pair_right.nd (pi_tup (pv 7)) (blkOk_by (own := [("right", 13)]) (N := ["pool", "many", "one", "two", "single", "part", "wide", "least", "later", "half", "grown", "due", "left", "right"]) (sc := defScope s_law_pair_right) (by decide +kernel)) (fun _ _ _ _ _ => pg_name (i := 13) sc_law_pair_right.nd rfl (Or.inl rfl)) (fun _ _ _ _ _ => pts_nil) (fun _ _ _ _ _ => (pe_call (ok_outcome T) (hr.mono (by decide)) rfl T.g_outcome T.F_outcome.kp (bd_outcome T) .nil pass0 (pa_cons (pv 6) (pa_cons (pv 12) (pa_cons (pv 13) pa_nil)))))) pa_nil) rfl rfl rfl rfl rfl))))
        (pss_one (ps_ret (pe_cmpR (op_eqD hr.units) (pe_call (ok_law_shown T) (hr.mono (by decide)) rfl T.g_law_shown T.F_law_shown.kp (bd_law_shown T) .nil pass0 (pa_cons (pv 2) pa_nil)) (pv 11) (nomark _)))))))))))))))), ?_⟩
    obtain ⟨pl, hn, n1, n4, k⟩ := h
    obtain ⟨la0, la1⟩ := all_len4 n1 n4
    have pw4 : (308 : Int) < 2 ^ 400 := by decide
    refine ⟨_, rfl, _, rfl, _, rfl, n, rfl, n1, by omega, fun H1 s1 => ?_⟩
    refine ⟨p, _, nn, rfl, pl.same s1, by omega, by omega, Int.lt_of_le_of_lt (show _ ≤ (308 : Int) by omega) pw4, fun d H2 d0 d1 pl2 b2 => ?_⟩
    refine ⟨n, d, rfl, n1, by omega, d0, d1, fun q1 rt1 p1 H3 m1 s3 r1 => ?_⟩
    have pl3 := pl2.same s3
    refine ⟨_, rfl, _, rfl, _, rfl, n, rfl, n1, by omega, fun H4 s4 => ?_⟩
    refine ⟨p, _, nn + 1, rfl, pl3.same s4, by omega, by omega, Int.lt_of_le_of_lt (show _ ≤ (308 : Int) by omega) pw4, fun d' H5 d0' d1' pl5 b5 => ?_⟩
    refine ⟨n, d', rfl, n1, by omega, d0', d1', fun q2 rt2 p2 H6 m2 s6 r2 => ?_⟩
    have notP : ∀ {H' : Hp} {nm : Nat} {a b : Addr} {o : HO} {xs : List V}, Pool H' p nm → H' a = some (.tup xs) → a ≠ p := fun {H' nm a b o xs} pp e z => by
      obtain ⟨_, _, _, ep, _⟩ := pp
      rw [z, ep] at e
      cases e
    have keepR : ∀ {H' H'' : Hp} {nm : Nat} {q rt : Addr} {rs : List Int} {c : Int}, Pool H' p nm → RkAt H' q rt rs c → But p H' H'' → RkAt H'' q rt rs c := fun pp r b => ⟨b _ _ (notP (b := 0) (o := .lst []) pp r.1) r.1, b _ _ (notP (b := 0) (o := .lst []) pp r.2) r.2⟩
    have b06 : But p H H6 := (But.of s1).trans (b2.trans ((But.of (s3.trans s4)).trans (b5.trans (But.of s6))))
    have r16 : RkAt H6 q1 rt1 p1.1 p1.2 := (keepR (pl3.same s4) (r1.same s4) b5).same s6
    obtain ⟨o1, o2, o3, o4⟩ := ok_at n1 (by omega) m1
    obtain ⟨t1, t2, t3, t4⟩ := ok_at n1 (by omega) m2
    have pl6 := pl5.same s6
    have mx1 : mx p1.1 + 1 = ((srt p1.1).length : Int) := by
      rw [mx_is (srt_pos (fun e => by rw [e] at o1; exact absurd o1.symm (by show n ≠ 0; omega))) o2]
      omega
    refine ⟨fun σ H' => ∃ (q2 rt2 : Addr) (rs2 : List Int) (c2 : Int), σ = [some (.ref p), some (.int (n : Int)), some (.ref q1), some (.ref q2), none, none, none, none, none, none, none, none, none, none] ∧ But p H H' ∧ Pool H' p (nn + 5) ∧ RkAt H' q1 rt1 p1.1 p1.2 ∧ RkAt H' q2 rt2 rs2 c2 ∧ rs2.length = n ∧ IsRk rs2 (srt rs2).length ∧ 0 ≤ c2 ∧ c2 ≤ ((srt rs2).length : Int), ?_, ?_⟩
    · refine ⟨_, rfl, p, 3, _, rfl, pl6, by omega, by decide, by decide, fun d3 H7 d30 d31 pl7 b7 => ?_⟩
      have r17 := keepR pl6 r16 b7
      refine ⟨rfl, _, rfl, ?_⟩
      by_cases c : d3 = 0
      · refine tT (decide_eq_true (congrArg V.int c)) ?_
        refine ⟨_, rfl, q1, _, 0, .ref rt1, rfl, rfl, SqT.of r17.1, rfl, ?_⟩
        refine ⟨_, rfl, _, rfl, q1, _, 0, .ref rt1, rfl, rfl, SqT.of r17.1, rfl, rt1, p1.1, rfl, SqT.of r17.2, (fun e => by rw [e] at o1; exact absurd o1.symm (by show n ≠ 0; omega)), _, _, rfl, rfl, ?_⟩
        have o5 := srt_len p1.1
        refine ⟨p, mx p1.1 + 2, _, rfl, pl7, by omega, by omega, Int.lt_of_le_of_lt (show _ ≤ (308 : Int) by omega) pw4, fun d4 H8 d40 d41 pl8 b8 => ?_⟩
        have r18 := keepR pl7 r17 b8
        refine ⟨(by show 2 ≤ sizeLine; decide), fun t ht => ?_⟩
        have st := sameNew ht (o := .tup [.ref rt1, .int d4])
        exact ⟨t, rt1, p1.1, d4, rfl, b06.trans (b7.trans (b8.trans (But.of st))), (pl8.same st).mono (by omega), r18.same st, ⟨upd_same, (r18.same st).2⟩, o1, o2, d40, by omega⟩
      · refine tF (decide_eq_false fun z => c (V.int.inj z)) ?_
        exact ⟨q2, rt2, p2.1, p2.2, rfl, b06.trans b7, pl7.mono (by omega), r17, keepR pl6 r2 b7, t1, t2, t3, t4⟩
    rintro σ H7 ⟨q2', rt2', rs2, c2, rfl, b7, pl7, r17, r27, u1, u2, u3, u4⟩
    obtain ⟨rs1, c1⟩ := p1
    dsimp only at o1 o2 o3 o4 mx1 r17
    have o5 := srt_len rs1
    have u5 := srt_len rs2
    have ne1 : rs1 ≠ [] := fun e => by rw [e] at o1; exact absurd o1.symm (by show n ≠ 0; omega)
    have ne2 : rs2 ≠ [] := fun e => by rw [e] at u1; exact absurd u1.symm (by show n ≠ 0; omega)
    have sp1 := srt_pos ne1
    have sp2 := srt_pos ne2
    -- single
    refine ⟨_, rfl, _, rfl, (by show 2 ≤ sizeLine; decide), fun tt htt => ⟨tt, rfl, ⟨_, SqT.of upd_same⟩, fun D hD => lc_tup (xs := [.ref q1, .ref q2']) (fun i H' => Same (upd H7 tt (.tup [.ref q1, .ref q2'])) H' ∧ H' D = some (.lst (([single rs1 c1, single rs2 c2].take i).map V.bl))) ⟨sameNew hD, upd_same⟩ (fun i H' _ hp => SqT.of (hp.1 _ _ upd_same)) ?_ ?_⟩⟩
    · rintro i x H8 hx ⟨s8, e8⟩
      obtain ⟨q, rt, rs, c, rfl, rne, hr7, hb⟩ : ∃ (q rt : Addr) (rs : List Int) (c : Int), x = .ref q ∧ rs ≠ [] ∧ RkAt H7 q rt rs c ∧ [single rs1 c1, single rs2 c2][i]? = some (single rs c) := by
        match i, hx with
        | 0, e => exact ⟨q1, rt1, rs1, c1, (Option.some.inj e).symm, ne1, r17, rfl⟩
        | 1, e => exact ⟨q2', rt2', rs2, c2, (Option.some.inj e).symm, ne2, r27, rfl⟩
      have hr8 := hr7.same ((sameNew htt).trans s8)
      have li : i < 2 := (List.getElem?_eq_some_iff.mp hb).1
      refine ⟨rfl, ?_⟩
      refine yesR ?_
      refine tT rfl ?_
      refine ⟨_, rfl, q, _, 1, .int c, rfl, rfl, SqT.of hr8.1, rfl, ?_⟩
      refine ⟨_, rfl, q, _, 0, .ref rt, rfl, rfl, SqT.of hr8.1, rfl, rt, rs, rfl, SqT.of hr8.2, rne, _, _, rfl, rfl, (by show 2 ≤ sizeLine; decide), fun z hz9 => ?_⟩
      have sz := sameNew hz9 (o := .tup [.int 0, .int (mx rs + 1)])
      refine ⟨z, [.int 0, .int (mx rs + 1)], rfl, .inr (SqT.of upd_same), rfl, rfl, _, sz _ _ e8, small1000 (by rw [List.length_map, List.length_take]; show min i 2 ≤ 1000; omega), sameUp (s8.trans sz) hD, ?_⟩
      rw [upd_same, List.take_add_one, hb, List.map_append]
      show some (HO.lst (_ ++ [V.bl (inV (.int c) [.int 0, .int (mx rs + 1)])])) = _
      rw [single_in]
      rfl
    rintro H8 ⟨s8', e8⟩
    have s8 : Same H7 H8 := (sameNew htt).trans s8'
    change H8 D = some (.lst [.bl (single rs1 c1), .bl (single rs2 c2)]) at e8
    have r18 := r17.same s8
    have r28 := r27.same s8
    -- outcomes of both
    refine ⟨_, rfl, q1, rt1, rs1, c1, _, rfl, r18, o2, o3, o4, by omega, by omega, fun l1 H9 hl1 s9 e9 => ?_⟩
    refine ⟨_, rfl, q2', rt2', rs2, c2, _, rfl, r28.same s9, u2, u3, u4, by omega, by omega, fun l2 H10 hl2 s10 e10 => ?_⟩
    refine ⟨.list ((shownR rs1 c1).map PyData.str), .list ((shownR rs2 c2).map PyData.str), dp_strsL (s10 _ _ e9), dp_strsL e10, strs_shapedL (shown_okS _ _), strs_shapedL (shown_okS _ _), ?_⟩
    rw [strs_eqvL, shown_tell (by rw [o1, u1]) o2 u2 o3 o4 u3 u4 sp1 sp2]
    have s8a := s9.trans s10
    have r1a := r18.same s8a
    have r2a := r28.same s8a
    have eDa := s8a _ _ e8
    -- what both are
    refine ⟨_, rfl, _, rfl, rkD rs1 c1, rkD rs2 c2, r1a.dp, r2a.dp, rkD_sh, rkD_sh, ?_⟩
    rw [rkD_eqv]
    by_cases e12 : rs1 = rs2 ∧ c1 = c2
    · rw [decide_eq_true e12]
      refine ⟨_, rfl, tT rfl ?_⟩
      refine ⟨rfl, _, rfl, ?_⟩
      refine tF (by simp) ?_
      have sB : Same H10 H10 := Same.refl _
    
      have s7b : Same H7 H10 := s8.trans (s8a.trans sB)
      have plB := pl7.same s7b
      have rB := r17.same s7b
      refine ⟨_, rfl, p, 60, _, rfl, plB, by omega, by decide, by decide, fun dw H12 w0 w1 pl12 b12 => ⟨_, _, rfl, rfl, ?_⟩⟩
      have rC := keepR plB rB b12
      have hp0 := pow_pos (4 + dw - 1).toNat
      have e2 := two_half (show 1 ≤ 4 + dw by omega)
      have e3 := two_half (show 1 ≤ 4 + dw + 1 by omega)
      have hbig : (8 : Int) ≤ 2 ^ (4 + dw - 1).toNat := by
        have := pow_le (a := 3) (b := (4 + dw - 1).toNat) (by omega)
        exact this
      have eh : (2 : Int) ^ (4 + dw + 1 - 1).toNat = 2 * 2 ^ (4 + dw - 1).toNat := by
        rw [show (4 + dw + 1 - 1) = 4 + dw by omega]
        exact e2
      refine ⟨_, rfl, _, rfl, q1, rt1, rs1, c1, _, 4 + dw, rfl, rC, o2, o3, o4, by omega, by omega, by omega, by omega, by omega, fun lw1 H13 hw1 s13 e13 => ?_⟩
      refine ⟨_, rfl, _, rfl, _, _, rfl, rfl, q1, rt1, rs1, c1, _, 4 + dw + 1, rfl, rC.same s13, o2, o3, o4, by omega, by omega, by omega, by rw [eh]; omega, by rw [eh]; omega, fun lw2 H14 hw2 s14 e14 => ?_⟩
      rw [eh] at e14
      refine ⟨_, _, rfl, ?_⟩
      refine ⟨_, rfl, _, _, rfl, rfl, 4 + dw - 1, rfl, by omega, by omega, ?_⟩
      generalize hH : (2 : Int) ^ (4 + dw - 1).toNat = hf at *
      have e13' := s14 _ _ e13
      have cf : c1 ≤ hf := by omega
      refine ⟨_, rfl, lw1, rfl, ⟨_, SqT.of e13'⟩, fun D2 hD2 => lc_ints (fun y => if hf ≤ y then y + hf else y) (SqT.of e13') (by rw [List.length_map]; omega) hD2 (fun _ => rfl) (fun y H15 Q15 _ s15 q15 => ?_) (fun H15 s15 e15 => ?_)⟩
      · have q16 := q15 H15 (Same.refl _)
        refine ⟨_, rfl, _, rfl, _, _, rfl, rfl, _, rfl, ?_⟩
        by_cases cy : hf ≤ y
        · rw [if_pos cy] at q16
          refine tT (decide_eq_true cy) ?_
          exact ⟨_, rfl, _, rfl, _, _, rfl, rfl, q16⟩
        · rw [if_neg cy] at q16
          refine tF (decide_eq_false cy) ?_
          exact ⟨_, rfl, q16⟩
      refine ⟨D2, _, rfl, .inl ⟨SqL.of e15, fun g hg => ?_⟩⟩
      have eg : ((rs1.map (lw hf c1)).map fun y => if hf ≤ y then y + hf else y) = rs1.map (lw (2 * hf) c1) := by
        rw [List.map_map]
        refine List.map_congr_left fun r hr9 => ?_
        exact (lw_grown (by omega) cf ((o2 r).mp hr9).1).symm
      have sg := s15.trans (sameNew hg (o := .tup (((rs1.map (lw hf c1)).map fun y => if hf ≤ y then y + hf else y).map V.int)))
      have egg : (upd H15 g (.tup (((rs1.map (lw hf c1)).map fun y => if hf ≤ y then y + hf else y).map V.int))) g = some (.tup ((rs1.map (lw (2 * hf) c1)).map V.int)) := by rw [upd_same, eg]
      refine ⟨_, rfl, _, rfl, .tuple ((rs1.map (lw (2 * hf) c1)).map PyData.int), .tuple ((rs1.map (lw (2 * hf) c1)).map PyData.int), .tup (SqT.of (sg _ _ e14)) (ints_all _), .tup (SqT.of egg) (ints_all _), tup_shaped _, tup_shaped _, _, rfl, ?_⟩
      refine tF (by rw [eqv_tup]; rfl) ?_
      have e13g := sg _ _ e13'
      have rD := rC.same (s13.trans (s14.trans sg))
      have lws : ∀ x ∈ rs1.map (lw hf c1), 0 ≤ x ∧ x < 2 ^ (4 + dw).toNat := fun x m => by
        obtain ⟨r, hr9, rfl⟩ := List.mem_map.mp m
        obtain ⟨a1, a2⟩ := (o2 r).mp hr9
        rw [e2]
        exact lw_word o3 cf (by omega) a1 a2
      refine ⟨_, rfl, _, rfl, 4 + dw, lw1, rs1.map (lw hf c1), rfl, by omega, by omega, SqT.of e13g, lws, by rw [List.length_map]; omega, fun q16 rt16 H16 s16 r16' => ?_⟩
      rw [hH] at r16'
      obtain ⟨g1, g2⟩ := rks_lw cf o3 o4 o2
      rw [g1, g2] at r16'
      refine ⟨_, rfl, rkD rs1 c1, rkD rs1 c1, r16'.dp, (rD.same s16).dp, rkD_sh, rkD_sh, _, rfl, ?_⟩
      refine tF (by rw [SeqAt.eqv_refl _ (SeqAt.canLay_of_shaped rkD_sh)]; rfl) ?_
      have rE := rD.same s16
      have e13h := s16 _ _ e13g
      -- due
      refine ⟨(by show 0 ≤ sizeLine; decide), fun F hF => ?_⟩
      have nel : ∀ {a : Addr} {o : HO}, H16 a = some o → a ≠ F := fun e => ne_of_none e hF
      have lt13 : ∀ {H' : Hp}, But F H16 H' → H' lw1 = some (.tup ((rs1.map (lw hf c1)).map V.int)) := fun b => b _ _ (nel e13h) e13h
      refine ⟨_, rfl, lw1, rfl, ⟨_, SqT.of (lt13 But.upd)⟩, for_tup (K := K) (a := lw1) (xs := (rs1.map (lw hf c1)).map V.int) (fun i σ H' => ∃ u v, σ = [some (.ref p), some (.int (n : Int)), some (.ref q1), some (.ref q2'), some (.ref D), none, some (.int (4 + dw)), some (.ref lw1), some (.ref lw2), some (.int hf), some (.ref g), some (.ref F), u, v] ∧ But F H16 H' ∧ H' F = some (.lst (((rs1.take i).flatMap fun a => rs1.map fun b => ocut c1 a b).map V.str))) ⟨none, none, rfl, But.upd, upd_same⟩ (fun i σ H' _ hp => ?_) ?_ ?_⟩
      · obtain ⟨_, _, _, b, _⟩ := hp
        exact SqT.of (lt13 b)
      · rintro i x σ H17 hx ⟨u, v, rfl, b17, e17⟩
        obtain ⟨xa, hxa, rfl⟩ := map_at hx
        obtain ⟨a, ha, rfl⟩ : ∃ a, rs1[i]? = some a ∧ xa = lw hf c1 a := by
          rw [List.getElem?_map] at hxa
          obtain ⟨a, h1, h2⟩ := Option.map_eq_some_iff.mp hxa
          exact ⟨a, h1, h2.symm⟩
        have ma := List.mem_of_getElem? ha
        have lf : (((rs1.take i).flatMap fun a => rs1.map fun b => ocut c1 a b).map V.str).length ≤ 25 := by
          rw [List.length_map]
          have := flat_len (f := fun a => rs1.map fun b => ocut c1 a b) (m := 5) (l := rs1.take i) fun x _ => by rw [List.length_map]; omega
          rw [List.length_take] at this
          omega
        refine ⟨_, rfl, .inl ⟨rfl, _, SqL.of e17⟩, ?_⟩
        refine ⟨_, rfl, lw1, rfl, ⟨_, SqT.of (lt13 b17)⟩, fun D3 hD3 => lc_tup (xs := (rs1.map (lw hf c1)).map V.int) (fun j H' => Same H17 H' ∧ H' D3 = some (.lst (((rs1.take j).map fun b => ocut c1 a b).map V.str))) ⟨sameNew hD3, upd_same⟩ (fun j H' _ hp => SqT.of (hp.1 _ _ (lt13 b17))) ?_ ?_⟩
        · rintro j y H18 hy ⟨s18, e18⟩
          obtain ⟨ya, hya, rfl⟩ := map_at hy
          obtain ⟨b, hb, rfl⟩ : ∃ b, rs1[j]? = some b ∧ ya = lw hf c1 b := by
            rw [List.getElem?_map] at hya
            obtain ⟨b, h1, h2⟩ := Option.map_eq_some_iff.mp hya
            exact ⟨b, h1, h2.symm⟩
          have mb := List.mem_of_getElem? hb
          have wa := lws _ (List.mem_map.mpr ⟨a, ma, rfl⟩)
          have wb := lws _ (List.mem_map.mpr ⟨b, mb, rfl⟩)
          have oo : oc (4 + dw) (lw hf c1 a) (lw hf c1 b) = ocut c1 a b := by
            rw [← oc_cut (by omega) wa wb, hH]
            have := ocut_rk (h := hf) (List.mem_map.mpr ⟨a, ma, rfl⟩ : lw hf c1 a ∈ rs1.map (lw hf c1)) (List.mem_map.mpr ⟨b, mb, rfl⟩ : lw hf c1 b ∈ rs1.map (lw hf c1))
            rw [← this, g2, srt_lw cf o2, rk_map cf, rk_map cf, rk_rg ((o2 a).mp ma).1 (by have := ((o2 a).mp ma).2; omega), rk_rg ((o2 b).mp mb).1 (by have := ((o2 b).mp mb).2; omega)]
          refine ⟨rfl, ?_⟩
          refine yesR ?_
          refine tT rfl ?_
          refine ⟨_, rfl, _, rfl, _, rfl, 4 + dw, _, _, rfl, by omega, by omega, wa, wb, fun H19 s19 => ?_⟩
          have lj := (List.getElem?_eq_some_iff.mp hb).1
          refine ⟨_, s19 _ _ e18, small1000 (by rw [List.length_map, List.length_map, List.length_take]; omega), sameUp (s18.trans s19) hD3, ?_⟩
          rw [upd_same, map_take_one hb, List.map_append, oo]
          rfl
        · rintro H18 ⟨s18, e18⟩
          rw [List.length_map, List.length_map, List.take_length] at e18
          refine ⟨F, D3, _, _, rfl, rfl, s18 _ _ e17, e18, Nat.le_of_lt (small1000 (by rw [List.length_map, List.length_map, List.length_map]; rw [List.length_map] at lf; omega)), ?_⟩
          refine ⟨_, _, rfl, b17.trans ((But.of s18).trans But.upd), ?_⟩
          rw [upd_same, flat_take ha, List.map_append]
      · rintro σ H17 ⟨u, v, rfl, b17, e17⟩
        rw [List.length_map, List.length_map, List.take_length] at e17
        have rF : RkAt H17 q1 rt1 rs1 c1 := ⟨b17 _ _ (nel rE.1) rE.1, b17 _ _ (nel rE.2) rE.2⟩
        refine ⟨_, rfl, q1, rt1, rs1, c1, _, rfl, rF, o2, o3, o4, by omega, by omega, fun l3 H18 hl3 s18 e18 => ?_⟩
        refine ⟨_, rfl, .list ((shownR rs1 c1).map PyData.str), .list ((shownR rs1 c1).map PyData.str), dp_strsL e18, dp_strsL (s18 _ _ e17), strs_shapedL (shown_okS _ _), strs_shapedL (shown_okS _ _), ?_⟩
        rw [strs_eqvL, decide_eq_true rfl]
        have nFp : F ≠ p := by
          obtain ⟨_, _, _, ep, _⟩ := pl12.same (s13.trans (s14.trans (sg.trans s16)))
          exact (nel ep).symm
        have pl18 : Pool H18 p (nn + 6) := by
          obtain ⟨g0, g1', g2', ep, rest'⟩ := pl12.same (s13.trans (s14.trans (sg.trans s16)))
          exact (Pool.mono ⟨g0, g1', g2', b17 _ _ (fun z => nFp z.symm) ep, rest'⟩ (by omega)).same s18
        refine k H18 pl18 ?_
        have bA : But p H H16 := b7.trans ((But.of s7b).trans (b12.trans (But.of (s13.trans (s14.trans (sg.trans s16))))))
        intro b o nb e
        have e16 := bA b o nb e
        exact s18 _ _ (b17 _ _ (nel e16) e16)
    
    · rw [decide_eq_false e12]
      refine ⟨_, rfl, tF rfl ?_⟩
      refine ⟨_, rfl, q1, _, 0, .ref rt1, rfl, rfl, SqT.of r1a.1, rfl, _, rfl, q2', _, 0, .ref rt2', rfl, rfl, SqT.of r2a.1, rfl, .tuple (rs1.map PyData.int), .tuple (rs2.map PyData.int), .tup (SqT.of r1a.2) (ints_all _), .tup (SqT.of r2a.2) (ints_all _), tup_shaped _, tup_shaped _, ?_⟩
      rw [ints_eqvT]
      by_cases er : rs1 = rs2
      · rw [decide_eq_true er]
        refine ⟨_, rfl, tT rfl ?_⟩
        refine ⟨_, rfl, (by show 2 ≤ sizeLine; decide), fun tz htz => ?_⟩
        have sB : Same H10 (upd H10 tz (.lst [.bl true, .bl true])) := sameNew htz
        refine ⟨.list [.bool (single rs1 c1), .bool (single rs2 c2)], .list [.bool true, .bool true], .lst (SqL.of (sB _ _ eDa)) (.cons (.bl _) (.cons (.bl _) .nil)), .lst (SqL.of upd_same) (.cons (.bl _) (.cons (.bl _) .nil)), by cases single rs1 c1 <;> cases single rs2 c2 <;> decide +kernel, by decide +kernel, ?_⟩
        rw [two_bools]
        refine ⟨rfl, _, rfl, ?_⟩
        refine tF (by simp) ?_
        generalize upd H10 tz (.lst [.bl true, .bl true]) = HB at sB ⊢
    
        have s7b : Same H7 HB := s8.trans (s8a.trans sB)
        have plB := pl7.same s7b
        have rB := r17.same s7b
        refine ⟨_, rfl, p, 60, _, rfl, plB, by omega, by decide, by decide, fun dw H12 w0 w1 pl12 b12 => ⟨_, _, rfl, rfl, ?_⟩⟩
        have rC := keepR plB rB b12
        have hp0 := pow_pos (4 + dw - 1).toNat
        have e2 := two_half (show 1 ≤ 4 + dw by omega)
        have e3 := two_half (show 1 ≤ 4 + dw + 1 by omega)
        have hbig : (8 : Int) ≤ 2 ^ (4 + dw - 1).toNat := by
          have := pow_le (a := 3) (b := (4 + dw - 1).toNat) (by omega)
          exact this
        have eh : (2 : Int) ^ (4 + dw + 1 - 1).toNat = 2 * 2 ^ (4 + dw - 1).toNat := by
          rw [show (4 + dw + 1 - 1) = 4 + dw by omega]
          exact e2
        refine ⟨_, rfl, _, rfl, q1, rt1, rs1, c1, _, 4 + dw, rfl, rC, o2, o3, o4, by omega, by omega, by omega, by omega, by omega, fun lw1 H13 hw1 s13 e13 => ?_⟩
        refine ⟨_, rfl, _, rfl, _, _, rfl, rfl, q1, rt1, rs1, c1, _, 4 + dw + 1, rfl, rC.same s13, o2, o3, o4, by omega, by omega, by omega, by rw [eh]; omega, by rw [eh]; omega, fun lw2 H14 hw2 s14 e14 => ?_⟩
        rw [eh] at e14
        refine ⟨_, _, rfl, ?_⟩
        refine ⟨_, rfl, _, _, rfl, rfl, 4 + dw - 1, rfl, by omega, by omega, ?_⟩
        generalize hH : (2 : Int) ^ (4 + dw - 1).toNat = hf at *
        have e13' := s14 _ _ e13
        have cf : c1 ≤ hf := by omega
        refine ⟨_, rfl, lw1, rfl, ⟨_, SqT.of e13'⟩, fun D2 hD2 => lc_ints (fun y => if hf ≤ y then y + hf else y) (SqT.of e13') (by rw [List.length_map]; omega) hD2 (fun _ => rfl) (fun y H15 Q15 _ s15 q15 => ?_) (fun H15 s15 e15 => ?_)⟩
        · have q16 := q15 H15 (Same.refl _)
          refine ⟨_, rfl, _, rfl, _, _, rfl, rfl, _, rfl, ?_⟩
          by_cases cy : hf ≤ y
          · rw [if_pos cy] at q16
            refine tT (decide_eq_true cy) ?_
            exact ⟨_, rfl, _, rfl, _, _, rfl, rfl, q16⟩
          · rw [if_neg cy] at q16
            refine tF (decide_eq_false cy) ?_
            exact ⟨_, rfl, q16⟩
        refine ⟨D2, _, rfl, .inl ⟨SqL.of e15, fun g hg => ?_⟩⟩
        have eg : ((rs1.map (lw hf c1)).map fun y => if hf ≤ y then y + hf else y) = rs1.map (lw (2 * hf) c1) := by
          rw [List.map_map]
          refine List.map_congr_left fun r hr9 => ?_
          exact (lw_grown (by omega) cf ((o2 r).mp hr9).1).symm
        have sg := s15.trans (sameNew hg (o := .tup (((rs1.map (lw hf c1)).map fun y => if hf ≤ y then y + hf else y).map V.int)))
        have egg : (upd H15 g (.tup (((rs1.map (lw hf c1)).map fun y => if hf ≤ y then y + hf else y).map V.int))) g = some (.tup ((rs1.map (lw (2 * hf) c1)).map V.int)) := by rw [upd_same, eg]
        refine ⟨_, rfl, _, rfl, .tuple ((rs1.map (lw (2 * hf) c1)).map PyData.int), .tuple ((rs1.map (lw (2 * hf) c1)).map PyData.int), .tup (SqT.of (sg _ _ e14)) (ints_all _), .tup (SqT.of egg) (ints_all _), tup_shaped _, tup_shaped _, _, rfl, ?_⟩
        refine tF (by rw [eqv_tup]; rfl) ?_
        have e13g := sg _ _ e13'
        have rD := rC.same (s13.trans (s14.trans sg))
        have lws : ∀ x ∈ rs1.map (lw hf c1), 0 ≤ x ∧ x < 2 ^ (4 + dw).toNat := fun x m => by
          obtain ⟨r, hr9, rfl⟩ := List.mem_map.mp m
          obtain ⟨a1, a2⟩ := (o2 r).mp hr9
          rw [e2]
          exact lw_word o3 cf (by omega) a1 a2
        refine ⟨_, rfl, _, rfl, 4 + dw, lw1, rs1.map (lw hf c1), rfl, by omega, by omega, SqT.of e13g, lws, by rw [List.length_map]; omega, fun q16 rt16 H16 s16 r16' => ?_⟩
        rw [hH] at r16'
        obtain ⟨g1, g2⟩ := rks_lw cf o3 o4 o2
        rw [g1, g2] at r16'
        refine ⟨_, rfl, rkD rs1 c1, rkD rs1 c1, r16'.dp, (rD.same s16).dp, rkD_sh, rkD_sh, _, rfl, ?_⟩
        refine tF (by rw [SeqAt.eqv_refl _ (SeqAt.canLay_of_shaped rkD_sh)]; rfl) ?_
        have rE := rD.same s16
        have e13h := s16 _ _ e13g
        -- due
        refine ⟨(by show 0 ≤ sizeLine; decide), fun F hF => ?_⟩
        have nel : ∀ {a : Addr} {o : HO}, H16 a = some o → a ≠ F := fun e => ne_of_none e hF
        have lt13 : ∀ {H' : Hp}, But F H16 H' → H' lw1 = some (.tup ((rs1.map (lw hf c1)).map V.int)) := fun b => b _ _ (nel e13h) e13h
        refine ⟨_, rfl, lw1, rfl, ⟨_, SqT.of (lt13 But.upd)⟩, for_tup (K := K) (a := lw1) (xs := (rs1.map (lw hf c1)).map V.int) (fun i σ H' => ∃ u v, σ = [some (.ref p), some (.int (n : Int)), some (.ref q1), some (.ref q2'), some (.ref D), none, some (.int (4 + dw)), some (.ref lw1), some (.ref lw2), some (.int hf), some (.ref g), some (.ref F), u, v] ∧ But F H16 H' ∧ H' F = some (.lst (((rs1.take i).flatMap fun a => rs1.map fun b => ocut c1 a b).map V.str))) ⟨none, none, rfl, But.upd, upd_same⟩ (fun i σ H' _ hp => ?_) ?_ ?_⟩
        · obtain ⟨_, _, _, b, _⟩ := hp
          exact SqT.of (lt13 b)
        · rintro i x σ H17 hx ⟨u, v, rfl, b17, e17⟩
          obtain ⟨xa, hxa, rfl⟩ := map_at hx
          obtain ⟨a, ha, rfl⟩ : ∃ a, rs1[i]? = some a ∧ xa = lw hf c1 a := by
            rw [List.getElem?_map] at hxa
            obtain ⟨a, h1, h2⟩ := Option.map_eq_some_iff.mp hxa
            exact ⟨a, h1, h2.symm⟩
          have ma := List.mem_of_getElem? ha
          have lf : (((rs1.take i).flatMap fun a => rs1.map fun b => ocut c1 a b).map V.str).length ≤ 25 := by
            rw [List.length_map]
            have := flat_len (f := fun a => rs1.map fun b => ocut c1 a b) (m := 5) (l := rs1.take i) fun x _ => by rw [List.length_map]; omega
            rw [List.length_take] at this
            omega
          refine ⟨_, rfl, .inl ⟨rfl, _, SqL.of e17⟩, ?_⟩
          refine ⟨_, rfl, lw1, rfl, ⟨_, SqT.of (lt13 b17)⟩, fun D3 hD3 => lc_tup (xs := (rs1.map (lw hf c1)).map V.int) (fun j H' => Same H17 H' ∧ H' D3 = some (.lst (((rs1.take j).map fun b => ocut c1 a b).map V.str))) ⟨sameNew hD3, upd_same⟩ (fun j H' _ hp => SqT.of (hp.1 _ _ (lt13 b17))) ?_ ?_⟩
          · rintro j y H18 hy ⟨s18, e18⟩
            obtain ⟨ya, hya, rfl⟩ := map_at hy
            obtain ⟨b, hb, rfl⟩ : ∃ b, rs1[j]? = some b ∧ ya = lw hf c1 b := by
              rw [List.getElem?_map] at hya
              obtain ⟨b, h1, h2⟩ := Option.map_eq_some_iff.mp hya
              exact ⟨b, h1, h2.symm⟩
            have mb := List.mem_of_getElem? hb
            have wa := lws _ (List.mem_map.mpr ⟨a, ma, rfl⟩)
            have wb := lws _ (List.mem_map.mpr ⟨b, mb, rfl⟩)
            have oo : oc (4 + dw) (lw hf c1 a) (lw hf c1 b) = ocut c1 a b := by
              rw [← oc_cut (by omega) wa wb, hH]
              have := ocut_rk (h := hf) (List.mem_map.mpr ⟨a, ma, rfl⟩ : lw hf c1 a ∈ rs1.map (lw hf c1)) (List.mem_map.mpr ⟨b, mb, rfl⟩ : lw hf c1 b ∈ rs1.map (lw hf c1))
              rw [← this, g2, srt_lw cf o2, rk_map cf, rk_map cf, rk_rg ((o2 a).mp ma).1 (by have := ((o2 a).mp ma).2; omega), rk_rg ((o2 b).mp mb).1 (by have := ((o2 b).mp mb).2; omega)]
            refine ⟨rfl, ?_⟩
            refine yesR ?_
            refine tT rfl ?_
            refine ⟨_, rfl, _, rfl, _, rfl, 4 + dw, _, _, rfl, by omega, by omega, wa, wb, fun H19 s19 => ?_⟩
            have lj := (List.getElem?_eq_some_iff.mp hb).1
            refine ⟨_, s19 _ _ e18, small1000 (by rw [List.length_map, List.length_map, List.length_take]; omega), sameUp (s18.trans s19) hD3, ?_⟩
            rw [upd_same, map_take_one hb, List.map_append, oo]
            rfl
          · rintro H18 ⟨s18, e18⟩
            rw [List.length_map, List.length_map, List.take_length] at e18
            refine ⟨F, D3, _, _, rfl, rfl, s18 _ _ e17, e18, Nat.le_of_lt (small1000 (by rw [List.length_map, List.length_map, List.length_map]; rw [List.length_map] at lf; omega)), ?_⟩
            refine ⟨_, _, rfl, b17.trans ((But.of s18).trans But.upd), ?_⟩
            rw [upd_same, flat_take ha, List.map_append]
        · rintro σ H17 ⟨u, v, rfl, b17, e17⟩
          rw [List.length_map, List.length_map, List.take_length] at e17
          have rF : RkAt H17 q1 rt1 rs1 c1 := ⟨b17 _ _ (nel rE.1) rE.1, b17 _ _ (nel rE.2) rE.2⟩
          refine ⟨_, rfl, q1, rt1, rs1, c1, _, rfl, rF, o2, o3, o4, by omega, by omega, fun l3 H18 hl3 s18 e18 => ?_⟩
          refine ⟨_, rfl, .list ((shownR rs1 c1).map PyData.str), .list ((shownR rs1 c1).map PyData.str), dp_strsL e18, dp_strsL (s18 _ _ e17), strs_shapedL (shown_okS _ _), strs_shapedL (shown_okS _ _), ?_⟩
          rw [strs_eqvL, decide_eq_true rfl]
          have nFp : F ≠ p := by
            obtain ⟨_, _, _, ep, _⟩ := pl12.same (s13.trans (s14.trans (sg.trans s16)))
            exact (nel ep).symm
          have pl18 : Pool H18 p (nn + 6) := by
            obtain ⟨g0, g1', g2', ep, rest'⟩ := pl12.same (s13.trans (s14.trans (sg.trans s16)))
            exact (Pool.mono ⟨g0, g1', g2', b17 _ _ (fun z => nFp z.symm) ep, rest'⟩ (by omega)).same s18
          refine k H18 pl18 ?_
          have bA : But p H H16 := b7.trans ((But.of s7b).trans (b12.trans (But.of (s13.trans (s14.trans (sg.trans s16))))))
          intro b o nb e
          have e16 := bA b o nb e
          exact s18 _ _ (b17 _ _ (nel e16) e16)
      
      · rw [decide_eq_false er]
        refine ⟨_, rfl, tF rfl ?_⟩
        refine ⟨rfl, _, rfl, ?_⟩
        refine tF (by simp) ?_
        have sB : Same H10 H10 := Same.refl _
    
        have s7b : Same H7 H10 := s8.trans (s8a.trans sB)
        have plB := pl7.same s7b
        have rB := r17.same s7b
        refine ⟨_, rfl, p, 60, _, rfl, plB, by omega, by decide, by decide, fun dw H12 w0 w1 pl12 b12 => ⟨_, _, rfl, rfl, ?_⟩⟩
        have rC := keepR plB rB b12
        have hp0 := pow_pos (4 + dw - 1).toNat
        have e2 := two_half (show 1 ≤ 4 + dw by omega)
        have e3 := two_half (show 1 ≤ 4 + dw + 1 by omega)
        have hbig : (8 : Int) ≤ 2 ^ (4 + dw - 1).toNat := by
          have := pow_le (a := 3) (b := (4 + dw - 1).toNat) (by omega)
          exact this
        have eh : (2 : Int) ^ (4 + dw + 1 - 1).toNat = 2 * 2 ^ (4 + dw - 1).toNat := by
          rw [show (4 + dw + 1 - 1) = 4 + dw by omega]
          exact e2
        refine ⟨_, rfl, _, rfl, q1, rt1, rs1, c1, _, 4 + dw, rfl, rC, o2, o3, o4, by omega, by omega, by omega, by omega, by omega, fun lw1 H13 hw1 s13 e13 => ?_⟩
        refine ⟨_, rfl, _, rfl, _, _, rfl, rfl, q1, rt1, rs1, c1, _, 4 + dw + 1, rfl, rC.same s13, o2, o3, o4, by omega, by omega, by omega, by rw [eh]; omega, by rw [eh]; omega, fun lw2 H14 hw2 s14 e14 => ?_⟩
        rw [eh] at e14
        refine ⟨_, _, rfl, ?_⟩
        refine ⟨_, rfl, _, _, rfl, rfl, 4 + dw - 1, rfl, by omega, by omega, ?_⟩
        generalize hH : (2 : Int) ^ (4 + dw - 1).toNat = hf at *
        have e13' := s14 _ _ e13
        have cf : c1 ≤ hf := by omega
        refine ⟨_, rfl, lw1, rfl, ⟨_, SqT.of e13'⟩, fun D2 hD2 => lc_ints (fun y => if hf ≤ y then y + hf else y) (SqT.of e13') (by rw [List.length_map]; omega) hD2 (fun _ => rfl) (fun y H15 Q15 _ s15 q15 => ?_) (fun H15 s15 e15 => ?_)⟩
        · have q16 := q15 H15 (Same.refl _)
          refine ⟨_, rfl, _, rfl, _, _, rfl, rfl, _, rfl, ?_⟩
          by_cases cy : hf ≤ y
          · rw [if_pos cy] at q16
            refine tT (decide_eq_true cy) ?_
            exact ⟨_, rfl, _, rfl, _, _, rfl, rfl, q16⟩
          · rw [if_neg cy] at q16
            refine tF (decide_eq_false cy) ?_
            exact ⟨_, rfl, q16⟩
        refine ⟨D2, _, rfl, .inl ⟨SqL.of e15, fun g hg => ?_⟩⟩
        have eg : ((rs1.map (lw hf c1)).map fun y => if hf ≤ y then y + hf else y) = rs1.map (lw (2 * hf) c1) := by
          rw [List.map_map]
          refine List.map_congr_left fun r hr9 => ?_
          exact (lw_grown (by omega) cf ((o2 r).mp hr9).1).symm
        have sg := s15.trans (sameNew hg (o := .tup (((rs1.map (lw hf c1)).map fun y => if hf ≤ y then y + hf else y).map V.int)))
        have egg : (upd H15 g (.tup (((rs1.map (lw hf c1)).map fun y => if hf ≤ y then y + hf else y).map V.int))) g = some (.tup ((rs1.map (lw (2 * hf) c1)).map V.int)) := by rw [upd_same, eg]
        refine ⟨_, rfl, _, rfl, .tuple ((rs1.map (lw (2 * hf) c1)).map PyData.int), .tuple ((rs1.map (lw (2 * hf) c1)).map PyData.int), .tup (SqT.of (sg _ _ e14)) (ints_all _), .tup (SqT.of egg) (ints_all _), tup_shaped _, tup_shaped _, _, rfl, ?_⟩
        refine tF (by rw [eqv_tup]; rfl) ?_
        have e13g := sg _ _ e13'
        have rD := rC.same (s13.trans (s14.trans sg))
        have lws : ∀ x ∈ rs1.map (lw hf c1), 0 ≤ x ∧ x < 2 ^ (4 + dw).toNat := fun x m => by
          obtain ⟨r, hr9, rfl⟩ := List.mem_map.mp m
          obtain ⟨a1, a2⟩ := (o2 r).mp hr9
          rw [e2]
          exact lw_word o3 cf (by omega) a1 a2
        refine ⟨_, rfl, _, rfl, 4 + dw, lw1, rs1.map (lw hf c1), rfl, by omega, by omega, SqT.of e13g, lws, by rw [List.length_map]; omega, fun q16 rt16 H16 s16 r16' => ?_⟩
        rw [hH] at r16'
        obtain ⟨g1, g2⟩ := rks_lw cf o3 o4 o2
        rw [g1, g2] at r16'
        refine ⟨_, rfl, rkD rs1 c1, rkD rs1 c1, r16'.dp, (rD.same s16).dp, rkD_sh, rkD_sh, _, rfl, ?_⟩
        refine tF (by rw [SeqAt.eqv_refl _ (SeqAt.canLay_of_shaped rkD_sh)]; rfl) ?_
        have rE := rD.same s16
        have e13h := s16 _ _ e13g
        -- due
        refine ⟨(by show 0 ≤ sizeLine; decide), fun F hF => ?_⟩
        have nel : ∀ {a : Addr} {o : HO}, H16 a = some o → a ≠ F := fun e => ne_of_none e hF
        have lt13 : ∀ {H' : Hp}, But F H16 H' → H' lw1 = some (.tup ((rs1.map (lw hf c1)).map V.int)) := fun b => b _ _ (nel e13h) e13h
        refine ⟨_, rfl, lw1, rfl, ⟨_, SqT.of (lt13 But.upd)⟩, for_tup (K := K) (a := lw1) (xs := (rs1.map (lw hf c1)).map V.int) (fun i σ H' => ∃ u v, σ = [some (.ref p), some (.int (n : Int)), some (.ref q1), some (.ref q2'), some (.ref D), none, some (.int (4 + dw)), some (.ref lw1), some (.ref lw2), some (.int hf), some (.ref g), some (.ref F), u, v] ∧ But F H16 H' ∧ H' F = some (.lst (((rs1.take i).flatMap fun a => rs1.map fun b => ocut c1 a b).map V.str))) ⟨none, none, rfl, But.upd, upd_same⟩ (fun i σ H' _ hp => ?_) ?_ ?_⟩
        · obtain ⟨_, _, _, b, _⟩ := hp
          exact SqT.of (lt13 b)
        · rintro i x σ H17 hx ⟨u, v, rfl, b17, e17⟩
          obtain ⟨xa, hxa, rfl⟩ := map_at hx
          obtain ⟨a, ha, rfl⟩ : ∃ a, rs1[i]? = some a ∧ xa = lw hf c1 a := by
            rw [List.getElem?_map] at hxa
            obtain ⟨a, h1, h2⟩ := Option.map_eq_some_iff.mp hxa
            exact ⟨a, h1, h2.symm⟩
          have ma := List.mem_of_getElem? ha
          have lf : (((rs1.take i).flatMap fun a => rs1.map fun b => ocut c1 a b).map V.str).length ≤ 25 := by
            rw [List.length_map]
            have := flat_len (f := fun a => rs1.map fun b => ocut c1 a b) (m := 5) (l := rs1.take i) fun x _ => by rw [List.length_map]; omega
            rw [List.length_take] at this
            omega
          refine ⟨_, rfl, .inl ⟨rfl, _, SqL.of e17⟩, ?_⟩
          refine ⟨_, rfl, lw1, rfl, ⟨_, SqT.of (lt13 b17)⟩, fun D3 hD3 => lc_tup (xs := (rs1.map (lw hf c1)).map V.int) (fun j H' => Same H17 H' ∧ H' D3 = some (.lst (((rs1.take j).map fun b => ocut c1 a b).map V.str))) ⟨sameNew hD3, upd_same⟩ (fun j H' _ hp => SqT.of (hp.1 _ _ (lt13 b17))) ?_ ?_⟩
          · rintro j y H18 hy ⟨s18, e18⟩
            obtain ⟨ya, hya, rfl⟩ := map_at hy
            obtain ⟨b, hb, rfl⟩ : ∃ b, rs1[j]? = some b ∧ ya = lw hf c1 b := by
              rw [List.getElem?_map] at hya
              obtain ⟨b, h1, h2⟩ := Option.map_eq_some_iff.mp hya
              exact ⟨b, h1, h2.symm⟩
            have mb := List.mem_of_getElem? hb
            have wa := lws _ (List.mem_map.mpr ⟨a, ma, rfl⟩)
            have wb := lws _ (List.mem_map.mpr ⟨b, mb, rfl⟩)
            have oo : oc (4 + dw) (lw hf c1 a) (lw hf c1 b) = ocut c1 a b := by
              rw [← oc_cut (by omega) wa wb, hH]
              have := ocut_rk (h := hf) (List.mem_map.mpr ⟨a, ma, rfl⟩ : lw hf c1 a ∈ rs1.map (lw hf c1)) (List.mem_map.mpr ⟨b, mb, rfl⟩ : lw hf c1 b ∈ rs1.map (lw hf c1))
              rw [← this, g2, srt_lw cf o2, rk_map cf, rk_map cf, rk_rg ((o2 a).mp ma).1 (by have := ((o2 a).mp ma).2; omega), rk_rg ((o2 b).mp mb).1 (by have := ((o2 b).mp mb).2; omega)]
            refine ⟨rfl, ?_⟩
            refine yesR ?_
            refine tT rfl ?_
            refine ⟨_, rfl, _, rfl, _, rfl, 4 + dw, _, _, rfl, by omega, by omega, wa, wb, fun H19 s19 => ?_⟩
            have lj := (List.getElem?_eq_some_iff.mp hb).1
            refine ⟨_, s19 _ _ e18, small1000 (by rw [List.length_map, List.length_map, List.length_take]; omega), sameUp (s18.trans s19) hD3, ?_⟩
            rw [upd_same, map_take_one hb, List.map_append, oo]
            rfl
          · rintro H18 ⟨s18, e18⟩
            rw [List.length_map, List.length_map, List.take_length] at e18
            refine ⟨F, D3, _, _, rfl, rfl, s18 _ _ e17, e18, Nat.le_of_lt (small1000 (by rw [List.length_map, List.length_map, List.length_map]; rw [List.length_map] at lf; omega)), ?_⟩
            refine ⟨_, _, rfl, b17.trans ((But.of s18).trans But.upd), ?_⟩
            rw [upd_same, flat_take ha, List.map_append]
        · rintro σ H17 ⟨u, v, rfl, b17, e17⟩
          rw [List.length_map, List.length_map, List.take_length] at e17
          have rF : RkAt H17 q1 rt1 rs1 c1 := ⟨b17 _ _ (nel rE.1) rE.1, b17 _ _ (nel rE.2) rE.2⟩
          refine ⟨_, rfl, q1, rt1, rs1, c1, _, rfl, rF, o2, o3, o4, by omega, by omega, fun l3 H18 hl3 s18 e18 => ?_⟩
          refine ⟨_, rfl, .list ((shownR rs1 c1).map PyData.str), .list ((shownR rs1 c1).map PyData.str), dp_strsL e18, dp_strsL (s18 _ _ e17), strs_shapedL (shown_okS _ _), strs_shapedL (shown_okS _ _), ?_⟩
          rw [strs_eqvL, decide_eq_true rfl]
          have nFp : F ≠ p := by
            obtain ⟨_, _, _, ep, _⟩ := pl12.same (s13.trans (s14.trans (sg.trans s16)))
            exact (nel ep).symm
          have pl18 : Pool H18 p (nn + 6) := by
            obtain ⟨g0, g1', g2', ep, rest'⟩ := pl12.same (s13.trans (s14.trans (sg.trans s16)))
            exact (Pool.mono ⟨g0, g1', g2', b17 _ _ (fun z => nFp z.symm) ep, rest'⟩ (by omega)).same s18
          refine k H18 pl18 ?_
          have bA : But p H H16 := b7.trans ((But.of s7b).trans (b12.trans (But.of (s13.trans (s14.trans (sg.trans s16))))))
          intro b o nb e
          have e16 := bA b o nb e
          exact s18 _ _ (b17 _ _ (nel e16) e16)
      
/-! law -/
def sp_law (K : PySem.W.Frag) : Sp := fun vs H Q E => ∃ (a : Addr) (ns : List Int), vs = [.ref a] ∧ SqL K H a (ns.map V.int) ∧ ns.length ≤ 63 ∧ ∀ H', Q (.bl true) H'
theorem sc_law : FnScope ["script", "at", "pool", "many", "turn", "wide", "more"] ["script"] (defScope s_law) := ⟨rfl, rfl, rfl, by decide +kernel, rfl, by decide +kernel, by decide +kernel⟩
theorem bd_law (T : Txt w K mg A0) : Binds K A0.d_law ["script"] [] := T.F_law.binds fun _ _ _ _ _ _ us hl => match us, hl with | [_], _ => rfl
set_option maxHeartbeats 0 in
theorem ok_law (T : Txt w K mg A0) : FnOk P w K mg base CX0 6 A0.a_law A0.d_law ["script"] (sp_law K) := by
  refine T.F_law.ok sc_law (fun vs H Q E h => ?_) (fun cdv A outer s H vs Q E hr h => ?_)
  · obtain ⟨a, ns, rfl, _⟩ := h
    rfl
  · obtain ⟨a, ns, rfl, h⟩ := h
    refine ⟨_, (pss_cons (ps_for PassesOwn.never rfl (pi_range1 rfl T.b_range (pa_cons (pe_callB (call_max2 rfl) (by rfl) T.b_max (by decide +kernel) (pa_cons pe_int (pa_cons (pe_callB (call_min2 rfl) (by rfl) T.b_min (by decide +kernel) (pa_cons pe_int (pa_cons (pe_callB call_len_seq (by rfl) T.b_len (by decide +kernel) (pa_cons (pv 0) pa_nil)) pa_nil))) pa_nil))) pa_nil)) (pg_name (i := 1) sc_law.nd rfl (Or.inl rfl)) (pss_cons (ps_set (i := 2) sc_law.nd rfl (Or.inl rfl) (pe_call (ok_law_pool T) (hr.mono (by decide)) rfl T.g_law_pool T.F_law_pool.kp (bd_law_pool T) .nil pass0 (pa_cons (pv 0) (pa_cons (pv 1) pa_nil))))
        (pss_cons (ps_for PassesOwn.never rfl (pi_tup (pe_tup (pa_cons pe_int (pa_cons pe_int (pa_cons pe_int pa_nil))))) (pg_name (i := 3) sc_law.nd rfl (Or.inl rfl)) (pss_one (ps_if (pt_not (pt_val (pe_call (ok_law_sum_right T) (hr.mono (by decide)) rfl T.g_law_sum_right T.F_law_sum_right.kp (bd_law_sum_right T) .nil pass0 (pa_cons (pe_call (ok_law_wide T) (hr.mono (by decide)) rfl T.g_law_wide T.F_law_wide.kp (bd_law_wide T) .nil pass0 (pa_cons (pv 2) pa_nil)) (pa_cons (pv 3) pa_nil))))) (pss_one (ps_ret pe_bl)) pss_nil)))
        (pss_cons (ps_if (PW.pt (pw_and (pt_cmpR op_eq (pv 1) pe_int (nomark _)) (pw_and1 (pt_not (pt_val (pe_call (ok_law_sum_right T) (hr.mono (by decide)) rfl T.g_law_sum_right T.F_law_sum_right.kp (bd_law_sum_right T) .nil pass0 (pa_cons (pe_call (ok_law_wide T) (hr.mono (by decide)) rfl T.g_law_wide T.F_law_wide.kp (bd_law_wide T) .nil pass0 (pa_cons (pv 2) pa_nil)) (pa_cons pe_int pa_nil)))))))) (pss_one (ps_ret pe_bl)) pss_nil)
        (pss_one (ps_for PassesOwn.never rfl (pi_range1 rfl T.b_range (pa_cons pe_int pa_nil)) (pg_name (i := 4) sc_law.nd rfl (Or.inl rfl)) (pss_cons (ps_set (i := 5) sc_law.nd rfl (Or.inl rfl) (pe_call (ok_law_wide T) (hr.mono (by decide)) rfl T.g_law_wide T.F_law_wide.kp (bd_law_wide T) .nil pass0 (pa_cons (pv 2) pa_nil)))
        (pss_cons (ps_set (i := 6) sc_law.nd rfl (Or.inl rfl) (pe_callB (call_min2 rfl) (by rfl) T.b_min (by decide +kernel) (pa_cons pe_int (pa_cons (pe_op op_add (pv 5) (pe_ix ix_list (pe_lst (pa_cons pe_int (pa_cons pe_int (pa_cons (pe_call (ok_law_draw T) (hr.mono (by decide)) rfl T.g_law_draw T.F_law_draw.kp (bd_law_draw T) .nil pass0 (pa_cons (pv 2) (pa_cons pe_int pa_nil))) pa_nil)))) (pe_call (ok_law_draw T) (hr.mono (by decide)) rfl T.g_law_draw T.F_law_draw.kp (bd_law_draw T) .nil pass0 (pa_cons (pv 2) (pa_cons pe_int pa_nil))) (fun _ _ => rfl))) pa_nil))))
        (pss_cons (ps_if (pt_not (pt_val (pe_call (ok_law_turned_right T) (hr.mono (by decide)) rfl T.g_law_turned_right T.F_law_turned_right.kp (bd_law_turned_right T) .nil pass0 (pa_cons (pv 5) (pa_cons (pe_call (ok_law_some T) (hr.mono (by decide)) rfl T.g_law_some T.F_law_some.kp (bd_law_some T) .nil pass0 (pa_cons (pv 2) (pa_cons (pv 5) (pa_cons (pe_op op_add pe_int (pe_call (ok_law_draw T) (hr.mono (by decide)) rfl T.g_law_draw T.F_law_draw.kp (bd_law_draw T) .nil pass0 (pa_cons (pv 2) (pa_cons pe_int pa_nil)))) pa_nil)))) (pa_cons (pv 6) pa_nil)))))) (pss_one (ps_ret pe_bl)) pss_nil)
        (pss_one (ps_if (pt_not (pt_val (pe_call (ok_law_pair_right T) (hr.mono (by decide)) rfl T.g_law_pair_right T.F_law_pair_right.kp (bd_law_pair_right T) .nil pass0 (pa_cons (pv 2) (pa_cons (pe_op op_add pe_int (pe_call (ok_law_draw T) (hr.mono (by decide)) rfl T.g_law_draw T.F_law_draw.kp (bd_law_draw T) .nil pass0 (pa_cons (pv 2) (pa_cons pe_int pa_nil)))) pa_nil))))) (pss_one (ps_ret pe_bl)) pss_nil)))))))))))
        (pss_one (ps_ret pe_bl))), ?_⟩
    obtain ⟨hS, hlen, k⟩ := h
    refine ⟨_, rfl, a, _, rfl, .inl hS, _, _, rfl, _, _, rfl, _, rfl, ?_⟩
    rw [List.length_map]
    obtain ⟨m, hm, em⟩ := laps_of (n := ns.length) (t := 6) (by decide)
    rw [em]
    refine ⟨by omega, by omega, for_range (n := m) (fun i σ H' => ∃ v1 v2 v3 v4 v5 v6, σ = [some (.ref a), v1, v2, v3, v4, v5, v6] ∧ Same H H') ⟨none, none, none, none, none, none, rfl, Same.refl H⟩ ?_ ?_⟩
    · rintro i σ H1 hi ⟨v1, v2, v3, v4, v5, v6, rfl, s1⟩
      refine ⟨_, rfl, _, rfl, a, ns, _, rfl, s1.seq hS, by omega, by omega, hlen, fun p H2 hp s2 pl => ?_⟩
      refine ⟨(by show 3 ≤ sizeLine; decide), fun tt htt => ⟨tt, rfl, ⟨_, SqT.of upd_same⟩, for_tup (K := K) (a := tt) (xs := [.int 1, .int 2, .int 3]) (fun j σ H' => ∃ u3 u4 u5 u6, σ = [some (.ref a), some (.int (0 + (i : Nat))), some (.ref p), u3, u4, u5, u6] ∧ But p (upd H2 tt (.tup [.int 1, .int 2, .int 3])) H' ∧ Pool H' p (5 * j)) ⟨v3, v4, v5, v6, rfl, But.refl _, pl.new htt⟩ (fun j σ H' _ hp9 => ?_) ?_ ?_⟩⟩
      · obtain ⟨_, _, _, _, _, b, _⟩ := hp9
        have ntp : tt ≠ p := pl.ne htt
        exact SqT.of (b _ _ ntp upd_same)
      · rintro j x σ H3 hx ⟨u3, u4, u5, u6, rfl, b3, pl3⟩
        obtain ⟨z, rfl, z1, z2⟩ : ∃ z : Nat, x = .int (z : Int) ∧ 1 ≤ z ∧ z ≤ 4 := by
          match j, hx with
          | 0, e => exact ⟨1, (Option.some.inj e).symm, by omega, by omega⟩
          | 1, e => exact ⟨2, (Option.some.inj e).symm, by omega, by omega⟩
          | 2, e => exact ⟨3, (Option.some.inj e).symm, by omega, by omega⟩
        have lj : j < 3 := (List.getElem?_eq_some_iff.mp hx).1
        refine ⟨_, rfl, p, _, rfl, pl3, by omega, fun wd H4 w1 w2 pl4 b4 => ?_⟩
        refine ⟨_, rfl, wd, z, rfl, w1, w2, z1, z2, fun H5 s5 => ⟨true, rfl, ?_⟩⟩
        refine tF rfl ?_
        exact ⟨_, _, _, _, rfl, b3.trans (b4.trans (But.of s5)), (pl4.same s5).mono (by omega)⟩
      · rintro σ H3 ⟨u3, u4, u5, u6, rfl, b3, pl3⟩
        have b13 : But p H1 H3 := (But.of (s2.trans (sameNew htt))).trans b3
        have pl3' : Pool H3 p 15 := pl3
        refine ⟨_, rfl, rfl, _, rfl, ?_⟩
        by_cases c0 : (0 + (i : Nat) : Int) = 0
        · refine tT (decide_eq_true (congrArg V.int c0)) ?_
          refine ⟨_, rfl, p, _, rfl, pl3', by omega, fun wd H4 w1 w2 pl4 b4 => ?_⟩
          refine ⟨wd, 4, rfl, w1, w2, by decide, by decide, fun H4' s4 => ⟨true, rfl, ?_⟩⟩
          refine tF rfl ?_
          have bX : But p H1 H4' := b13.trans (b4.trans (But.of s4))
          have plX : Pool H4' p 19 := pl4.same s4
          refine ⟨10, rfl, by decide, by decide, for_range (n := 10) (fun j σ H' => ∃ u4 u5 u6, σ = [some (.ref a), some (.int (0 + (i : Nat))), some (.ref p), u3, u4, u5, u6] ∧ But p H1 H' ∧ Pool H' p (100 + 100 * j)) ⟨_, _, _, rfl, bX, plX.mono (by omega)⟩ ?_ ?_⟩
          · rintro j σ H5 hj ⟨u4, u5, u6, rfl, b5, pl5⟩
            refine ⟨_, rfl, p, _, rfl, pl5, by omega, fun wd H6 w1 w2 pl6 b6 => ?_⟩
            refine ⟨_, rfl, _, rfl, p, 300, _, rfl, pl6, by omega, by decide, by decide, fun d7 H7 d70 d71 pl7 b7 => ?_⟩
            refine ⟨(by show 3 ≤ sizeLine; decide), fun q7 hq7 => ?_⟩
            refine ⟨_, rfl, p, 3, _, rfl, pl7.new hq7, by omega, by decide, by decide, fun d8 H8 d80 d81 pl8 b8 => ?_⟩
            obtain ⟨w3, e3, i3⟩ : ∃ w3 : Int, atI [V.int 0, V.int 1, V.int d7] d8 = some (.int w3) ∧ 0 ≤ w3 := by
              have : d8 = 0 ∨ d8 = 1 ∨ d8 = 2 := by omega
              rcases this with rfl | rfl | rfl
              · exact ⟨_, rfl, by omega⟩
              · exact ⟨_, rfl, by omega⟩
              · exact ⟨_, rfl, by omega⟩
            have nq7 : q7 ≠ p := pl7.ne hq7
            refine ⟨q7, _, d8, .int w3, rfl, rfl, SqL.of (b8 q7 _ nq7 upd_same), e3, _, _, rfl, rfl, _, _, rfl, ?_⟩
            have mo : ∃ mo : Int, (if wd + w3 < 300 then wd + w3 else 300) = mo ∧ wd ≤ mo ∧ mo ≤ 300 := ⟨_, rfl, by split <;> omega, by split <;> omega⟩
            obtain ⟨mo, emo, mo1, mo2⟩ := mo
            rw [emo]
            have b58 := b6.trans (b7.trans ((But.new hq7).trans b8))
            refine ⟨_, rfl, _, rfl, _, rfl, _, rfl, p, 5, _, rfl, pl8, by omega, by decide, by decide, fun d9 H9 d90 d91 pl9 b9 => ?_⟩
            refine ⟨_, _, rfl, rfl, p, wd, 1 + d9, _, rfl, pl9, by omega, w1, w2, by omega, by omega, fun t xs H10 lx bx pl10 b10 htp ht0 ht => ?_⟩
            refine ⟨_, rfl, wd, t, xs, mo, rfl, w1, mo1, mo2, SqT.of ht, bx, (fun e => by rw [e] at lx; simp at lx; omega), by omega, fun H11 s11 => ⟨true, rfl, ?_⟩⟩
            refine tF rfl ?_
            refine ⟨_, rfl, _, rfl, p, 4, _, rfl, pl10.same s11, by omega, by decide, by decide, fun d12 H12 d120 d121 pl12 b12 => ?_⟩
            refine ⟨_, _, rfl, rfl, p, _, (1 + d12).toNat, by rw [Int.toNat_of_nonneg (by omega)]; rfl, pl12, by omega, by omega, by omega, fun H13 pl13 b13 => ⟨true, rfl, ?_⟩⟩
            refine tF rfl ?_
            exact ⟨_, _, _, rfl, b5.trans (b58.trans (b9.trans (b10.trans ((But.of s11).trans (b12.trans b13))))), pl13.mono (by omega)⟩
          · rintro σ H5 ⟨u4, u5, u6, rfl, b5, pl5⟩
            exact ⟨_, _, _, _, _, _, rfl, fun b o e => b5 b o (ne_of_none (s1 b o e) hp) (s1 b o e)⟩
        · refine tF (decide_eq_false fun z => c0 (V.int.inj z)) ?_
          refine tF rfl ?_
          have bX : But p H1 H3 := b13
          have plX : Pool H3 p 15 := pl3'
          refine ⟨10, rfl, by decide, by decide, for_range (n := 10) (fun j σ H' => ∃ u4 u5 u6, σ = [some (.ref a), some (.int (0 + (i : Nat))), some (.ref p), u3, u4, u5, u6] ∧ But p H1 H' ∧ Pool H' p (100 + 100 * j)) ⟨_, _, _, rfl, bX, plX.mono (by omega)⟩ ?_ ?_⟩
          · rintro j σ H5 hj ⟨u4, u5, u6, rfl, b5, pl5⟩
            refine ⟨_, rfl, p, _, rfl, pl5, by omega, fun wd H6 w1 w2 pl6 b6 => ?_⟩
            refine ⟨_, rfl, _, rfl, p, 300, _, rfl, pl6, by omega, by decide, by decide, fun d7 H7 d70 d71 pl7 b7 => ?_⟩
            refine ⟨(by show 3 ≤ sizeLine; decide), fun q7 hq7 => ?_⟩
            refine ⟨_, rfl, p, 3, _, rfl, pl7.new hq7, by omega, by decide, by decide, fun d8 H8 d80 d81 pl8 b8 => ?_⟩
            obtain ⟨w3, e3, i3⟩ : ∃ w3 : Int, atI [V.int 0, V.int 1, V.int d7] d8 = some (.int w3) ∧ 0 ≤ w3 := by
              have : d8 = 0 ∨ d8 = 1 ∨ d8 = 2 := by omega
              rcases this with rfl | rfl | rfl
              · exact ⟨_, rfl, by omega⟩
              · exact ⟨_, rfl, by omega⟩
              · exact ⟨_, rfl, by omega⟩
            have nq7 : q7 ≠ p := pl7.ne hq7
            refine ⟨q7, _, d8, .int w3, rfl, rfl, SqL.of (b8 q7 _ nq7 upd_same), e3, _, _, rfl, rfl, _, _, rfl, ?_⟩
            have mo : ∃ mo : Int, (if wd + w3 < 300 then wd + w3 else 300) = mo ∧ wd ≤ mo ∧ mo ≤ 300 := ⟨_, rfl, by split <;> omega, by split <;> omega⟩
            obtain ⟨mo, emo, mo1, mo2⟩ := mo
            rw [emo]
            have b58 := b6.trans (b7.trans ((But.new hq7).trans b8))
            refine ⟨_, rfl, _, rfl, _, rfl, _, rfl, p, 5, _, rfl, pl8, by omega, by decide, by decide, fun d9 H9 d90 d91 pl9 b9 => ?_⟩
            refine ⟨_, _, rfl, rfl, p, wd, 1 + d9, _, rfl, pl9, by omega, w1, w2, by omega, by omega, fun t xs H10 lx bx pl10 b10 htp ht0 ht => ?_⟩
            refine ⟨_, rfl, wd, t, xs, mo, rfl, w1, mo1, mo2, SqT.of ht, bx, (fun e => by rw [e] at lx; simp at lx; omega), by omega, fun H11 s11 => ⟨true, rfl, ?_⟩⟩
            refine tF rfl ?_
            refine ⟨_, rfl, _, rfl, p, 4, _, rfl, pl10.same s11, by omega, by decide, by decide, fun d12 H12 d120 d121 pl12 b12 => ?_⟩
            refine ⟨_, _, rfl, rfl, p, _, (1 + d12).toNat, by rw [Int.toNat_of_nonneg (by omega)]; rfl, pl12, by omega, by omega, by omega, fun H13 pl13 b13 => ⟨true, rfl, ?_⟩⟩
            refine tF rfl ?_
            exact ⟨_, _, _, rfl, b5.trans (b58.trans (b9.trans (b10.trans ((But.of s11).trans (b12.trans b13))))), pl13.mono (by omega)⟩
          · rintro σ H5 ⟨u4, u5, u6, rfl, b5, pl5⟩
            exact ⟨_, _, _, _, _, _, rfl, fun b o e => b5 b o (ne_of_none (s1 b o e) hp) (s1 b o e)⟩
    · rintro σ H1 ⟨v1, v2, v3, v4, v5, v6, rfl, s1⟩
      exact k _
end
/-! ### the end -/
theorem all_mk {l : PySem.W.OpenLaw} {w : World} {K : PySem.W.Frag} {h : Heap} {mg : Str → Option Value} {fa : Addr} (X : K.In h) (G : h.Ns mainGlobals mg) (hfa : mg "law" = some (.ref fa))
    {f0 : Addr} {od0 an0 : Option Addr} {sl0 : Array (Option Value)} {oc0 kV0 dc0 pm0 cd0 ct0 : Value}
    {f1 : Addr} {od1 an1 : Option Addr} {sl1 : Array (Option Value)} {oc1 kV1 dc1 pm1 cd1 ct1 : Value}
    {f2 : Addr} {od2 an2 : Option Addr} {sl2 : Array (Option Value)} {oc2 kV2 dc2 pm2 cd2 ct2 : Value}
    {f3 : Addr} {od3 an3 : Option Addr} {sl3 : Array (Option Value)} {oc3 kV3 dc3 pm3 cd3 ct3 : Value}
    {f4 : Addr} {od4 an4 : Option Addr} {sl4 : Array (Option Value)} {oc4 kV4 dc4 pm4 cd4 ct4 : Value}
    {f5 : Addr} {od5 an5 : Option Addr} {sl5 : Array (Option Value)} {oc5 kV5 dc5 pm5 cd5 ct5 : Value}
    {f6 : Addr} {od6 an6 : Option Addr} {sl6 : Array (Option Value)} {oc6 kV6 dc6 pm6 cd6 ct6 : Value}
    {f7 : Addr} {od7 an7 : Option Addr} {sl7 : Array (Option Value)} {oc7 kV7 dc7 pm7 cd7 ct7 : Value}
    {f8 : Addr} {od8 an8 : Option Addr} {sl8 : Array (Option Value)} {oc8 kV8 dc8 pm8 cd8 ct8 : Value}
    {f9 : Addr} {od9 an9 : Option Addr} {sl9 : Array (Option Value)} {oc9 kV9 dc9 pm9 cd9 ct9 : Value}
    {f10 : Addr} {od10 an10 : Option Addr} {sl10 : Array (Option Value)} {oc10 kV10 dc10 pm10 cd10 ct10 : Value}
    {f11 : Addr} {od11 an11 : Option Addr} {sl11 : Array (Option Value)} {oc11 kV11 dc11 pm11 cd11 ct11 : Value}
    {f12 : Addr} {od12 an12 : Option Addr} {sl12 : Array (Option Value)} {oc12 kV12 dc12 pm12 cd12 ct12 : Value}
    {f13 : Addr} {od13 an13 : Option Addr} {sl13 : Array (Option Value)} {oc13 kV13 dc13 pm13 cd13 ct13 : Value}
    {f14 : Addr} {od14 an14 : Option Addr} {sl14 : Array (Option Value)} {oc14 kV14 dc14 pm14 cd14 ct14 : Value}
    {f15 : Addr} {od15 an15 : Option Addr} {sl15 : Array (Option Value)} {oc15 kV15 dc15 pm15 cd15 ct15 : Value}
    {f16 : Addr} {od16 an16 : Option Addr} {sl16 : Array (Option Value)} {oc16 kV16 dc16 pm16 cd16 ct16 : Value}
    {f17 : Addr} {od17 an17 : Option Addr} {sl17 : Array (Option Value)} {oc17 kV17 dc17 pm17 cd17 ct17 : Value}
    {f18 : Addr} {od18 an18 : Option Addr} {sl18 : Array (Option Value)} {oc18 kV18 dc18 pm18 cd18 ct18 : Value}
    {f19 : Addr} {od19 an19 : Option Addr} {sl19 : Array (Option Value)} {oc19 kV19 dc19 pm19 cd19 ct19 : Value}
    {f20 : Addr} {od20 an20 : Option Addr} {sl20 : Array (Option Value)} {oc20 kV20 dc20 pm20 cd20 ct20 : Value}
    {f21 : Addr} {od21 an21 : Option Addr} {sl21 : Array (Option Value)} {oc21 kV21 dc21 pm21 cd21 ct21 : Value}
    {f22 : Addr} {od22 an22 : Option Addr} {sl22 : Array (Option Value)} {oc22 kV22 dc22 pm22 cd22 ct22 : Value}
    {f23 : Addr} {od23 an23 : Option Addr} {sl23 : Array (Option Value)} {oc23 kV23 dc23 pm23 cd23 ct23 : Value}
    {f24 : Addr} {od24 an24 : Option Addr} {sl24 : Array (Option Value)} {oc24 kV24 dc24 pm24 cd24 ct24 : Value}
    {f25 : Addr} {od25 an25 : Option Addr} {sl25 : Array (Option Value)} {oc25 kV25 dc25 pm25 cd25 ct25 : Value}
    {f26 : Addr} {od26 an26 : Option Addr} {sl26 : Array (Option Value)} {oc26 kV26 dc26 pm26 cd26 ct26 : Value}
    {f27 : Addr} {od27 an27 : Option Addr} {sl27 : Array (Option Value)} {oc27 kV27 dc27 pm27 cd27 ct27 : Value}
    {f28 : Addr} {od28 an28 : Option Addr} {sl28 : Array (Option Value)} {oc28 kV28 dc28 pm28 cd28 ct28 : Value}
    {f29 : Addr} {od29 an29 : Option Addr} {sl29 : Array (Option Value)} {oc29 kV29 dc29 pm29 cd29 ct29 : Value}
    {f30 : Addr} {od30 an30 : Option Addr} {sl30 : Array (Option Value)} {oc30 kV30 dc30 pm30 cd30 ct30 : Value}
    {f31 : Addr} {od31 an31 : Option Addr} {sl31 : Array (Option Value)} {oc31 kV31 dc31 pm31 cd31 ct31 : Value}
    {f32 : Addr} {od32 an32 : Option Addr} {sl32 : Array (Option Value)} {oc32 kV32 dc32 pm32 cd32 ct32 : Value}
    {f33 : Addr} {od33 an33 : Option Addr} {sl33 : Array (Option Value)} {oc33 kV33 dc33 pm33 cd33 ct33 : Value}
    {f34 : Addr} {od34 an34 : Option Addr} {sl34 : Array (Option Value)} {oc34 kV34 dc34 pm34 cd34 ct34 : Value}
    {f35 : Addr} {od35 an35 : Option Addr} {sl35 : Array (Option Value)} {oc35 kV35 dc35 pm35 cd35 ct35 : Value}
    (a0 : PySem.W.nsIn K mainGlobals "check_width" = some (some (.ref f0))) (l0 : K.lookup f0 = some ⟨oc0, od0, .func (PySem.W.fnOf "check_width" "check_width" (defArgs s_check_width) (defBody s_check_width) (defScope s_check_width) .none kV0 dc0 pm0 an0 cd0 ct0), sl0⟩) (c0 : PySem.W.codeIn K cd0 "check_width" = true) (k0 : PySem.W.keepIn K (.ref f0) = true)
    (a1 : PySem.W.nsIn K mainGlobals "check_words" = some (some (.ref f1))) (l1 : K.lookup f1 = some ⟨oc1, od1, .func (PySem.W.fnOf "check_words" "check_words" (defArgs s_check_words) (defBody s_check_words) (defScope s_check_words) .none kV1 dc1 pm1 an1 cd1 ct1), sl1⟩) (c1 : PySem.W.codeIn K cd1 "check_words" = true) (k1 : PySem.W.keepIn K (.ref f1) = true)
    (a2 : PySem.W.nsIn K mainGlobals "is_word" = some (some (.ref f2))) (l2 : K.lookup f2 = some ⟨oc2, od2, .func (PySem.W.fnOf "is_word" "is_word" (defArgs s_is_word) (defBody s_is_word) (defScope s_is_word) .none kV2 dc2 pm2 an2 cd2 ct2), sl2⟩) (c2 : PySem.W.codeIn K cd2 "is_word" = true) (k2 : PySem.W.keepIn K (.ref f2) = true)
    (a3 : PySem.W.nsIn K mainGlobals "sign_bit" = some (some (.ref f3))) (l3 : K.lookup f3 = some ⟨oc3, od3, .func (PySem.W.fnOf "sign_bit" "sign_bit" (defArgs s_sign_bit) (defBody s_sign_bit) (defScope s_sign_bit) .none kV3 dc3 pm3 an3 cd3 ct3), sl3⟩) (c3 : PySem.W.codeIn K cd3 "sign_bit" = true) (k3 : PySem.W.keepIn K (.ref f3) = true)
    (a4 : PySem.W.nsIn K mainGlobals "outcome_by_cut" = some (some (.ref f4))) (l4 : K.lookup f4 = some ⟨oc4, od4, .func (PySem.W.fnOf "outcome_by_cut" "outcome_by_cut" (defArgs s_outcome_by_cut) (defBody s_outcome_by_cut) (defScope s_outcome_by_cut) .none kV4 dc4 pm4 an4 cd4 ct4), sl4⟩) (c4 : PySem.W.codeIn K cd4 "outcome_by_cut" = true) (k4 : PySem.W.keepIn K (.ref f4) = true)
    (a5 : PySem.W.nsIn K mainGlobals "outcome" = some (some (.ref f5))) (l5 : K.lookup f5 = some ⟨oc5, od5, .func (PySem.W.fnOf "outcome" "outcome" (defArgs s_outcome) (defBody s_outcome) (defScope s_outcome) .none kV5 dc5 pm5 an5 cd5 ct5), sl5⟩) (c5 : PySem.W.codeIn K cd5 "outcome" = true) (k5 : PySem.W.keepIn K (.ref f5) = true)
    (a6 : PySem.W.nsIn K mainGlobals "flipped" = some (some (.ref f6))) (l6 : K.lookup f6 = some ⟨oc6, od6, .func (PySem.W.fnOf "flipped" "flipped" (defArgs s_flipped) (defBody s_flipped) (defScope s_flipped) .none kV6 dc6 pm6 an6 cd6 ct6), sl6⟩) (c6 : PySem.W.codeIn K cd6 "flipped" = true) (k6 : PySem.W.keepIn K (.ref f6) = true)
    (a7 : PySem.W.nsIn K mainGlobals "inverted" = some (some (.ref f7))) (l7 : K.lookup f7 = some ⟨oc7, od7, .func (PySem.W.fnOf "inverted" "inverted" (defArgs s_inverted) (defBody s_inverted) (defScope s_inverted) .none kV7 dc7 pm7 an7 cd7 ct7), sl7⟩) (c7 : PySem.W.codeIn K cd7 "inverted" = true) (k7 : PySem.W.keepIn K (.ref f7) = true)
    (a8 : PySem.W.nsIn K mainGlobals "extended" = some (some (.ref f8))) (l8 : K.lookup f8 = some ⟨oc8, od8, .func (PySem.W.fnOf "extended" "extended" (defArgs s_extended) (defBody s_extended) (defScope s_extended) .none kV8 dc8 pm8 an8 cd8 ct8), sl8⟩) (c8 : PySem.W.codeIn K cd8 "extended" = true) (k8 : PySem.W.keepIn K (.ref f8) = true)
    (a9 : PySem.W.nsIn K mainGlobals "_changed" = some (some (.ref f9))) (l9 : K.lookup f9 = some ⟨oc9, od9, .func (PySem.W.fnOf "_changed" "_changed" (defArgs s_changed) (defBody s_changed) (defScope s_changed) .none kV9 dc9 pm9 an9 cd9 ct9), sl9⟩) (c9 : PySem.W.codeIn K cd9 "_changed" = true) (k9 : PySem.W.keepIn K (.ref f9) = true)
    (a10 : PySem.W.nsIn K mainGlobals "check_ranking" = some (some (.ref f10))) (l10 : K.lookup f10 = some ⟨oc10, od10, .func (PySem.W.fnOf "check_ranking" "check_ranking" (defArgs s_check_ranking) (defBody s_check_ranking) (defScope s_check_ranking) .none kV10 dc10 pm10 an10 cd10 ct10), sl10⟩) (c10 : PySem.W.codeIn K cd10 "check_ranking" = true) (k10 : PySem.W.keepIn K (.ref f10) = true)
    (a11 : PySem.W.nsIn K mainGlobals "check_items" = some (some (.ref f11))) (l11 : K.lookup f11 = some ⟨oc11, od11, .func (PySem.W.fnOf "check_items" "check_items" (defArgs s_check_items) (defBody s_check_items) (defScope s_check_items) .none kV11 dc11 pm11 an11 cd11 ct11), sl11⟩) (c11 : PySem.W.codeIn K cd11 "check_items" = true) (k11 : PySem.W.keepIn K (.ref f11) = true)
    (a12 : PySem.W.nsIn K mainGlobals "ranking_of" = some (some (.ref f12))) (l12 : K.lookup f12 = some ⟨oc12, od12, .func (PySem.W.fnOf "ranking_of" "ranking_of" (defArgs s_ranking_of) (defBody s_ranking_of) (defScope s_ranking_of) .none kV12 dc12 pm12 an12 cd12 ct12), sl12⟩) (c12 : PySem.W.codeIn K cd12 "ranking_of" = true) (k12 : PySem.W.keepIn K (.ref f12) = true)
    (a13 : PySem.W.nsIn K mainGlobals "outcome_in" = some (some (.ref f13))) (l13 : K.lookup f13 = some ⟨oc13, od13, .func (PySem.W.fnOf "outcome_in" "outcome_in" (defArgs s_outcome_in) (defBody s_outcome_in) (defScope s_outcome_in) .none kV13 dc13 pm13 an13 cd13 ct13), sl13⟩) (c13 : PySem.W.codeIn K cd13 "outcome_in" = true) (k13 : PySem.W.keepIn K (.ref f13) = true)
    (a14 : PySem.W.nsIn K mainGlobals "outcome_between" = some (some (.ref f14))) (l14 : K.lookup f14 = some ⟨oc14, od14, .func (PySem.W.fnOf "outcome_between" "outcome_between" (defArgs s_outcome_between) (defBody s_outcome_between) (defScope s_outcome_between) .none kV14 dc14 pm14 an14 cd14 ct14), sl14⟩) (c14 : PySem.W.codeIn K cd14 "outcome_between" = true) (k14 : PySem.W.keepIn K (.ref f14) = true)
    (a15 : PySem.W.nsIn K mainGlobals "least_words" = some (some (.ref f15))) (l15 : K.lookup f15 = some ⟨oc15, od15, .func (PySem.W.fnOf "least_words" "least_words" (defArgs s_least_words) (defBody s_least_words) (defScope s_least_words) .none kV15 dc15 pm15 an15 cd15 ct15), sl15⟩) (c15 : PySem.W.codeIn K cd15 "least_words" = true) (k15 : PySem.W.keepIn K (.ref f15) = true)
    (a16 : PySem.W.nsIn K mainGlobals "count_words" = some (some (.ref f16))) (l16 : K.lookup f16 = some ⟨oc16, od16, .func (PySem.W.fnOf "count_words" "count_words" (defArgs s_count_words) (defBody s_count_words) (defScope s_count_words) .none kV16 dc16 pm16 an16 cd16 ct16), sl16⟩) (c16 : PySem.W.codeIn K cd16 "count_words" = true) (k16 : PySem.W.keepIn K (.ref f16) = true)
    (a17 : PySem.W.nsIn K mainGlobals "count_rankings" = some (some (.ref f17))) (l17 : K.lookup f17 = some ⟨oc17, od17, .func (PySem.W.fnOf "count_rankings" "count_rankings" (defArgs s_count_rankings) (defBody s_count_rankings) (defScope s_count_rankings) .none kV17 dc17 pm17 an17 cd17 ct17), sl17⟩) (c17 : PySem.W.codeIn K cd17 "count_rankings" = true) (k17 : PySem.W.keepIn K (.ref f17) = true)
    (a18 : PySem.W.nsIn K mainGlobals "nth_ranking" = some (some (.ref f18))) (l18 : K.lookup f18 = some ⟨oc18, od18, .func (PySem.W.fnOf "nth_ranking" "nth_ranking" (defArgs s_nth_ranking) (defBody s_nth_ranking) (defScope s_nth_ranking) .none kV18 dc18 pm18 an18 cd18 ct18), sl18⟩) (c18 : PySem.W.codeIn K cd18 "nth_ranking" = true) (k18 : PySem.W.keepIn K (.ref f18) = true)
    (a19 : PySem.W.nsIn K mainGlobals "all_rankings" = some (some (.ref f19))) (l19 : K.lookup f19 = some ⟨oc19, od19, .func (PySem.W.fnOf "all_rankings" "all_rankings" (defArgs s_all_rankings) (defBody s_all_rankings) (defScope s_all_rankings) .none kV19 dc19 pm19 an19 cd19 ct19), sl19⟩) (c19 : PySem.W.codeIn K cd19 "all_rankings" = true) (k19 : PySem.W.keepIn K (.ref f19) = true)
    (a20 : PySem.W.nsIn K mainGlobals "_is_ranking" = some (some (.ref f20))) (l20 : K.lookup f20 = some ⟨oc20, od20, .func (PySem.W.fnOf "_is_ranking" "_is_ranking" (defArgs s_is_ranking) (defBody s_is_ranking) (defScope s_is_ranking) .none kV20 dc20 pm20 an20 cd20 ct20), sl20⟩) (c20 : PySem.W.codeIn K cd20 "_is_ranking" = true) (k20 : PySem.W.keepIn K (.ref f20) = true)
    (a21 : PySem.W.nsIn K mainGlobals "_ranks_by_sign" = some (some (.ref f21))) (l21 : K.lookup f21 = some ⟨oc21, od21, .func (PySem.W.fnOf "_ranks_by_sign" "_ranks_by_sign" (defArgs s_ranks_by_sign) (defBody s_ranks_by_sign) (defScope s_ranks_by_sign) .none kV21 dc21 pm21 an21 cd21 ct21), sl21⟩) (c21 : PySem.W.codeIn K cd21 "_ranks_by_sign" = true) (k21 : PySem.W.keepIn K (.ref f21) = true)
    (a22 : PySem.W.nsIn K mainGlobals "_fits" = some (some (.ref f22))) (l22 : K.lookup f22 = some ⟨oc22, od22, .func (PySem.W.fnOf "_fits" "_fits" (defArgs s_fits) (defBody s_fits) (defScope s_fits) .none kV22 dc22 pm22 an22 cd22 ct22), sl22⟩) (c22 : PySem.W.codeIn K cd22 "_fits" = true) (k22 : PySem.W.keepIn K (.ref f22) = true)
    (a23 : PySem.W.nsIn K mainGlobals "_gaps" = some (some (.ref f23))) (l23 : K.lookup f23 = some ⟨oc23, od23, .func (PySem.W.fnOf "_gaps" "_gaps" (defArgs s_gaps) (defBody s_gaps) (defScope s_gaps) .none kV23 dc23 pm23 an23 cd23 ct23), sl23⟩) (c23 : PySem.W.codeIn K cd23 "_gaps" = true) (k23 : PySem.W.keepIn K (.ref f23) = true)
    (a24 : PySem.W.nsIn K mainGlobals "_law_pool" = some (some (.ref f24))) (l24 : K.lookup f24 = some ⟨oc24, od24, .func (PySem.W.fnOf "_law_pool" "_law_pool" (defArgs s_law_pool) (defBody s_law_pool) (defScope s_law_pool) .none kV24 dc24 pm24 an24 cd24 ct24), sl24⟩) (c24 : PySem.W.codeIn K cd24 "_law_pool" = true) (k24 : PySem.W.keepIn K (.ref f24) = true)
    (a25 : PySem.W.nsIn K mainGlobals "_law_draw" = some (some (.ref f25))) (l25 : K.lookup f25 = some ⟨oc25, od25, .func (PySem.W.fnOf "_law_draw" "_law_draw" (defArgs s_law_draw) (defBody s_law_draw) (defScope s_law_draw) .none kV25 dc25 pm25 an25 cd25 ct25), sl25⟩) (c25 : PySem.W.codeIn K cd25 "_law_draw" = true) (k25 : PySem.W.keepIn K (.ref f25) = true)
    (a26 : PySem.W.nsIn K mainGlobals "_law_wide" = some (some (.ref f26))) (l26 : K.lookup f26 = some ⟨oc26, od26, .func (PySem.W.fnOf "_law_wide" "_law_wide" (defArgs s_law_wide) (defBody s_law_wide) (defScope s_law_wide) .none kV26 dc26 pm26 an26 cd26 ct26), sl26⟩) (c26 : PySem.W.codeIn K cd26 "_law_wide" = true) (k26 : PySem.W.keepIn K (.ref f26) = true)
    (a27 : PySem.W.nsIn K mainGlobals "_law_power" = some (some (.ref f27))) (l27 : K.lookup f27 = some ⟨oc27, od27, .func (PySem.W.fnOf "_law_power" "_law_power" (defArgs s_law_power) (defBody s_law_power) (defScope s_law_power) .none kV27 dc27 pm27 an27 cd27 ct27), sl27⟩) (c27 : PySem.W.codeIn K cd27 "_law_power" = true) (k27 : PySem.W.keepIn K (.ref f27) = true)
    (a28 : PySem.W.nsIn K mainGlobals "_law_word" = some (some (.ref f28))) (l28 : K.lookup f28 = some ⟨oc28, od28, .func (PySem.W.fnOf "_law_word" "_law_word" (defArgs s_law_word) (defBody s_law_word) (defScope s_law_word) .none kV28 dc28 pm28 an28 cd28 ct28), sl28⟩) (c28 : PySem.W.codeIn K cd28 "_law_word" = true) (k28 : PySem.W.keepIn K (.ref f28) = true)
    (a29 : PySem.W.nsIn K mainGlobals "_law_some" = some (some (.ref f29))) (l29 : K.lookup f29 = some ⟨oc29, od29, .func (PySem.W.fnOf "_law_some" "_law_some" (defArgs s_law_some) (defBody s_law_some) (defScope s_law_some) .none kV29 dc29 pm29 an29 cd29 ct29), sl29⟩) (c29 : PySem.W.codeIn K cd29 "_law_some" = true) (k29 : PySem.W.keepIn K (.ref f29) = true)
    (a30 : PySem.W.nsIn K mainGlobals "_law_all_rankings" = some (some (.ref f30))) (l30 : K.lookup f30 = some ⟨oc30, od30, .func (PySem.W.fnOf "_law_all_rankings" "_law_all_rankings" (defArgs s_law_all_rankings) (defBody s_law_all_rankings) (defScope s_law_all_rankings) .none kV30 dc30 pm30 an30 cd30 ct30), sl30⟩) (c30 : PySem.W.codeIn K cd30 "_law_all_rankings" = true) (k30 : PySem.W.keepIn K (.ref f30) = true)
    (a31 : PySem.W.nsIn K mainGlobals "_law_sum_right" = some (some (.ref f31))) (l31 : K.lookup f31 = some ⟨oc31, od31, .func (PySem.W.fnOf "_law_sum_right" "_law_sum_right" (defArgs s_law_sum_right) (defBody s_law_sum_right) (defScope s_law_sum_right) .none kV31 dc31 pm31 an31 cd31 ct31), sl31⟩) (c31 : PySem.W.codeIn K cd31 "_law_sum_right" = true) (k31 : PySem.W.keepIn K (.ref f31) = true)
    (a32 : PySem.W.nsIn K mainGlobals "_law_turned_right" = some (some (.ref f32))) (l32 : K.lookup f32 = some ⟨oc32, od32, .func (PySem.W.fnOf "_law_turned_right" "_law_turned_right" (defArgs s_law_turned_right) (defBody s_law_turned_right) (defScope s_law_turned_right) .none kV32 dc32 pm32 an32 cd32 ct32), sl32⟩) (c32 : PySem.W.codeIn K cd32 "_law_turned_right" = true) (k32 : PySem.W.keepIn K (.ref f32) = true)
    (a33 : PySem.W.nsIn K mainGlobals "_law_shown" = some (some (.ref f33))) (l33 : K.lookup f33 = some ⟨oc33, od33, .func (PySem.W.fnOf "_law_shown" "_law_shown" (defArgs s_law_shown) (defBody s_law_shown) (defScope s_law_shown) .none kV33 dc33 pm33 an33 cd33 ct33), sl33⟩) (c33 : PySem.W.codeIn K cd33 "_law_shown" = true) (k33 : PySem.W.keepIn K (.ref f33) = true)
    (a34 : PySem.W.nsIn K mainGlobals "_law_pair_right" = some (some (.ref f34))) (l34 : K.lookup f34 = some ⟨oc34, od34, .func (PySem.W.fnOf "_law_pair_right" "_law_pair_right" (defArgs s_law_pair_right) (defBody s_law_pair_right) (defScope s_law_pair_right) .none kV34 dc34 pm34 an34 cd34 ct34), sl34⟩) (c34 : PySem.W.codeIn K cd34 "_law_pair_right" = true) (k34 : PySem.W.keepIn K (.ref f34) = true)
    (a35 : PySem.W.nsIn K mainGlobals "law" = some (some (.ref f35))) (l35 : K.lookup f35 = some ⟨oc35, od35, .func (PySem.W.fnOf "law" "law" (defArgs s_law) (defBody s_law) (defScope s_law) .none kV35 dc35 pm35 an35 cd35 ct35), sl35⟩) (c35 : PySem.W.codeIn K cd35 "law" = true) (k35 : PySem.W.keepIn K (.ref f35) = true)
    (z_abs : PySem.W.nsIn K mainGlobals "abs" = some none)
    (z_any : PySem.W.nsIn K mainGlobals "any" = some none)
    (z_enumerate : PySem.W.nsIn K mainGlobals "enumerate" = some none)
    (z_int : PySem.W.nsIn K mainGlobals "int" = some none)
    (z_len : PySem.W.nsIn K mainGlobals "len" = some none)
    (z_list : PySem.W.nsIn K mainGlobals "list" = some none)
    (z_max : PySem.W.nsIn K mainGlobals "max" = some none)
    (z_min : PySem.W.nsIn K mainGlobals "min" = some none)
    (z_range : PySem.W.nsIn K mainGlobals "range" = some none)
    (z_set : PySem.W.nsIn K mainGlobals "set" = some none)
    (z_sorted : PySem.W.nsIn K mainGlobals "sorted" = some none)
    (z_tuple : PySem.W.nsIn K mainGlobals "tuple" = some none)
    (z_type : PySem.W.nsIn K mainGlobals "type" = some none)
    {ti_MOST_ITEMS : Tok} (ai_MOST_ITEMS : PySem.W.nsIn K mainGlobals "MOST_ITEMS" = some (some (.int 5 ti_MOST_ITEMS)))
    (af_comb : PySem.W.nsIn K mainGlobals "comb" = some (some (.builtin "math.comb")))
    : ∃ fd : FuncData, (∀ (s : Shared) (v : Value), BindsTo s fd ⟨[v], []⟩ [("script", v)]) ∧ ∀ base : Heap, K.In base → base.Ns mainGlobals mg → FnOk l.prog w K mg base CX0 6 fa fd ["script"] (sp_law K) := by
  have e := hfa.symm.trans (PySem.W.mg_of X G a35)
  cases e
  have T : Txt w K mg ⟨f0, (PySem.W.fnOf "check_width" "check_width" (defArgs s_check_width) (defBody s_check_width) (defScope s_check_width) .none kV0 dc0 pm0 an0 cd0 ct0), f1, (PySem.W.fnOf "check_words" "check_words" (defArgs s_check_words) (defBody s_check_words) (defScope s_check_words) .none kV1 dc1 pm1 an1 cd1 ct1), f2, (PySem.W.fnOf "is_word" "is_word" (defArgs s_is_word) (defBody s_is_word) (defScope s_is_word) .none kV2 dc2 pm2 an2 cd2 ct2), f3, (PySem.W.fnOf "sign_bit" "sign_bit" (defArgs s_sign_bit) (defBody s_sign_bit) (defScope s_sign_bit) .none kV3 dc3 pm3 an3 cd3 ct3), f4, (PySem.W.fnOf "outcome_by_cut" "outcome_by_cut" (defArgs s_outcome_by_cut) (defBody s_outcome_by_cut) (defScope s_outcome_by_cut) .none kV4 dc4 pm4 an4 cd4 ct4), f5, (PySem.W.fnOf "outcome" "outcome" (defArgs s_outcome) (defBody s_outcome) (defScope s_outcome) .none kV5 dc5 pm5 an5 cd5 ct5), f6, (PySem.W.fnOf "flipped" "flipped" (defArgs s_flipped) (defBody s_flipped) (defScope s_flipped) .none kV6 dc6 pm6 an6 cd6 ct6), f7, (PySem.W.fnOf "inverted" "inverted" (defArgs s_inverted) (defBody s_inverted) (defScope s_inverted) .none kV7 dc7 pm7 an7 cd7 ct7), f8, (PySem.W.fnOf "extended" "extended" (defArgs s_extended) (defBody s_extended) (defScope s_extended) .none kV8 dc8 pm8 an8 cd8 ct8), f9, (PySem.W.fnOf "_changed" "_changed" (defArgs s_changed) (defBody s_changed) (defScope s_changed) .none kV9 dc9 pm9 an9 cd9 ct9), f10, (PySem.W.fnOf "check_ranking" "check_ranking" (defArgs s_check_ranking) (defBody s_check_ranking) (defScope s_check_ranking) .none kV10 dc10 pm10 an10 cd10 ct10), f11, (PySem.W.fnOf "check_items" "check_items" (defArgs s_check_items) (defBody s_check_items) (defScope s_check_items) .none kV11 dc11 pm11 an11 cd11 ct11), f12, (PySem.W.fnOf "ranking_of" "ranking_of" (defArgs s_ranking_of) (defBody s_ranking_of) (defScope s_ranking_of) .none kV12 dc12 pm12 an12 cd12 ct12), f13, (PySem.W.fnOf "outcome_in" "outcome_in" (defArgs s_outcome_in) (defBody s_outcome_in) (defScope s_outcome_in) .none kV13 dc13 pm13 an13 cd13 ct13), f14, (PySem.W.fnOf "outcome_between" "outcome_between" (defArgs s_outcome_between) (defBody s_outcome_between) (defScope s_outcome_between) .none kV14 dc14 pm14 an14 cd14 ct14), f15, (PySem.W.fnOf "least_words" "least_words" (defArgs s_least_words) (defBody s_least_words) (defScope s_least_words) .none kV15 dc15 pm15 an15 cd15 ct15), f16, (PySem.W.fnOf "count_words" "count_words" (defArgs s_count_words) (defBody s_count_words) (defScope s_count_words) .none kV16 dc16 pm16 an16 cd16 ct16), f17, (PySem.W.fnOf "count_rankings" "count_rankings" (defArgs s_count_rankings) (defBody s_count_rankings) (defScope s_count_rankings) .none kV17 dc17 pm17 an17 cd17 ct17), f18, (PySem.W.fnOf "nth_ranking" "nth_ranking" (defArgs s_nth_ranking) (defBody s_nth_ranking) (defScope s_nth_ranking) .none kV18 dc18 pm18 an18 cd18 ct18), f19, (PySem.W.fnOf "all_rankings" "all_rankings" (defArgs s_all_rankings) (defBody s_all_rankings) (defScope s_all_rankings) .none kV19 dc19 pm19 an19 cd19 ct19), f20, (PySem.W.fnOf "_is_ranking" "_is_ranking" (defArgs s_is_ranking) (defBody s_is_ranking) (defScope s_is_ranking) .none kV20 dc20 pm20 an20 cd20 ct20), f21, (PySem.W.fnOf "_ranks_by_sign" "_ranks_by_sign" (defArgs s_ranks_by_sign) (defBody s_ranks_by_sign) (defScope s_ranks_by_sign) .none kV21 dc21 pm21 an21 cd21 ct21), f22, (PySem.W.fnOf "_fits" "_fits" (defArgs s_fits) (defBody s_fits) (defScope s_fits) .none kV22 dc22 pm22 an22 cd22 ct22), f23, (PySem.W.fnOf "_gaps" "_gaps" (defArgs s_gaps) (defBody s_gaps) (defScope s_gaps) .none kV23 dc23 pm23 an23 cd23 ct23), f24, (PySem.W.fnOf "_law_pool" "_law_pool" (defArgs s_law_pool) (defBody s_law_pool) (defScope s_law_pool) .none kV24 dc24 pm24 an24 cd24 ct24), f25, (PySem.W.fnOf "_law_draw" "_law_draw" (defArgs s_law_draw) (defBody s_law_draw) (defScope s_law_draw) .none kV25 dc25 pm25 an25 cd25 ct25), f26, (PySem.W.fnOf "_law_wide" "_law_wide" (defArgs s_law_wide) (defBody s_law_wide) (defScope s_law_wide) .none kV26 dc26 pm26 an26 cd26 ct26), f27, (PySem.W.fnOf "_law_power" "_law_power" (defArgs s_law_power) (defBody s_law_power) (defScope s_law_power) .none kV27 dc27 pm27 an27 cd27 ct27), f28, (PySem.W.fnOf "_law_word" "_law_word" (defArgs s_law_word) (defBody s_law_word) (defScope s_law_word) .none kV28 dc28 pm28 an28 cd28 ct28), f29, (PySem.W.fnOf "_law_some" "_law_some" (defArgs s_law_some) (defBody s_law_some) (defScope s_law_some) .none kV29 dc29 pm29 an29 cd29 ct29), f30, (PySem.W.fnOf "_law_all_rankings" "_law_all_rankings" (defArgs s_law_all_rankings) (defBody s_law_all_rankings) (defScope s_law_all_rankings) .none kV30 dc30 pm30 an30 cd30 ct30), f31, (PySem.W.fnOf "_law_sum_right" "_law_sum_right" (defArgs s_law_sum_right) (defBody s_law_sum_right) (defScope s_law_sum_right) .none kV31 dc31 pm31 an31 cd31 ct31), f32, (PySem.W.fnOf "_law_turned_right" "_law_turned_right" (defArgs s_law_turned_right) (defBody s_law_turned_right) (defScope s_law_turned_right) .none kV32 dc32 pm32 an32 cd32 ct32), f33, (PySem.W.fnOf "_law_shown" "_law_shown" (defArgs s_law_shown) (defBody s_law_shown) (defScope s_law_shown) .none kV33 dc33 pm33 an33 cd33 ct33), f34, (PySem.W.fnOf "_law_pair_right" "_law_pair_right" (defArgs s_law_pair_right) (defBody s_law_pair_right) (defScope s_law_pair_right) .none kV34 dc34 pm34 an34 cd34 ct34), fa, (PySem.W.fnOf "law" "law" (defArgs s_law) (defBody s_law) (defScope s_law) .none kV35 dc35 pm35 an35 cd35 ct35)⟩ := {
    g_check_width := PySem.W.mg_of X G a0, F_check_width := fun_mk (st := s_check_width) l0 c0 k0,
    g_check_words := PySem.W.mg_of X G a1, F_check_words := fun_mk (st := s_check_words) l1 c1 k1,
    g_is_word := PySem.W.mg_of X G a2, F_is_word := fun_mk (st := s_is_word) l2 c2 k2,
    g_sign_bit := PySem.W.mg_of X G a3, F_sign_bit := fun_mk (st := s_sign_bit) l3 c3 k3,
    g_outcome_by_cut := PySem.W.mg_of X G a4, F_outcome_by_cut := fun_mk (st := s_outcome_by_cut) l4 c4 k4,
    g_outcome := PySem.W.mg_of X G a5, F_outcome := fun_mk (st := s_outcome) l5 c5 k5,
    g_flipped := PySem.W.mg_of X G a6, F_flipped := fun_mk (st := s_flipped) l6 c6 k6,
    g_inverted := PySem.W.mg_of X G a7, F_inverted := fun_mk (st := s_inverted) l7 c7 k7,
    g_extended := PySem.W.mg_of X G a8, F_extended := fun_mk (st := s_extended) l8 c8 k8,
    g_changed := PySem.W.mg_of X G a9, F_changed := fun_mk (st := s_changed) l9 c9 k9,
    g_check_ranking := PySem.W.mg_of X G a10, F_check_ranking := fun_mk (st := s_check_ranking) l10 c10 k10,
    g_check_items := PySem.W.mg_of X G a11, F_check_items := fun_mk (st := s_check_items) l11 c11 k11,
    g_ranking_of := PySem.W.mg_of X G a12, F_ranking_of := fun_mk (st := s_ranking_of) l12 c12 k12,
    g_outcome_in := PySem.W.mg_of X G a13, F_outcome_in := fun_mk (st := s_outcome_in) l13 c13 k13,
    g_outcome_between := PySem.W.mg_of X G a14, F_outcome_between := fun_mk (st := s_outcome_between) l14 c14 k14,
    g_least_words := PySem.W.mg_of X G a15, F_least_words := fun_mk (st := s_least_words) l15 c15 k15,
    g_count_words := PySem.W.mg_of X G a16, F_count_words := fun_mk (st := s_count_words) l16 c16 k16,
    g_count_rankings := PySem.W.mg_of X G a17, F_count_rankings := fun_mk (st := s_count_rankings) l17 c17 k17,
    g_nth_ranking := PySem.W.mg_of X G a18, F_nth_ranking := fun_mk (st := s_nth_ranking) l18 c18 k18,
    g_all_rankings := PySem.W.mg_of X G a19, F_all_rankings := fun_mk (st := s_all_rankings) l19 c19 k19,
    g_is_ranking := PySem.W.mg_of X G a20, F_is_ranking := fun_mk (st := s_is_ranking) l20 c20 k20,
    g_ranks_by_sign := PySem.W.mg_of X G a21, F_ranks_by_sign := fun_mk (st := s_ranks_by_sign) l21 c21 k21,
    g_fits := PySem.W.mg_of X G a22, F_fits := fun_mk (st := s_fits) l22 c22 k22,
    g_gaps := PySem.W.mg_of X G a23, F_gaps := fun_mk (st := s_gaps) l23 c23 k23,
    g_law_pool := PySem.W.mg_of X G a24, F_law_pool := fun_mk (st := s_law_pool) l24 c24 k24,
    g_law_draw := PySem.W.mg_of X G a25, F_law_draw := fun_mk (st := s_law_draw) l25 c25 k25,
    g_law_wide := PySem.W.mg_of X G a26, F_law_wide := fun_mk (st := s_law_wide) l26 c26 k26,
    g_law_power := PySem.W.mg_of X G a27, F_law_power := fun_mk (st := s_law_power) l27 c27 k27,
    g_law_word := PySem.W.mg_of X G a28, F_law_word := fun_mk (st := s_law_word) l28 c28 k28,
    g_law_some := PySem.W.mg_of X G a29, F_law_some := fun_mk (st := s_law_some) l29 c29 k29,
    g_law_all_rankings := PySem.W.mg_of X G a30, F_law_all_rankings := fun_mk (st := s_law_all_rankings) l30 c30 k30,
    g_law_sum_right := PySem.W.mg_of X G a31, F_law_sum_right := fun_mk (st := s_law_sum_right) l31 c31 k31,
    g_law_turned_right := PySem.W.mg_of X G a32, F_law_turned_right := fun_mk (st := s_law_turned_right) l32 c32 k32,
    g_law_shown := PySem.W.mg_of X G a33, F_law_shown := fun_mk (st := s_law_shown) l33 c33 k33,
    g_law_pair_right := PySem.W.mg_of X G a34, F_law_pair_right := fun_mk (st := s_law_pair_right) l34 c34 k34,
    g_law := PySem.W.mg_of X G a35, F_law := fun_mk (st := s_law) l35 c35 k35,
    gi_MOST_ITEMS := ⟨_, PySem.W.mg_of X G ai_MOST_ITEMS⟩,
    gf_comb := PySem.W.mg_of X G af_comb,
    b_abs := PySem.W.mg_none_of X G z_abs, b_any := PySem.W.mg_none_of X G z_any, b_enumerate := PySem.W.mg_none_of X G z_enumerate, b_int := PySem.W.mg_none_of X G z_int, b_len := PySem.W.mg_none_of X G z_len, b_list := PySem.W.mg_none_of X G z_list, b_max := PySem.W.mg_none_of X G z_max, b_min := PySem.W.mg_none_of X G z_min, b_range := PySem.W.mg_none_of X G z_range, b_set := PySem.W.mg_none_of X G z_set, b_sorted := PySem.W.mg_none_of X G z_sorted, b_tuple := PySem.W.mg_none_of X G z_tuple, b_type := PySem.W.mg_none_of X G z_type }
  exact ⟨(PySem.W.fnOf "law" "law" (defArgs s_law) (defBody s_law) (defScope s_law) .none kV35 dc35 pm35 an35 cd35 ct35), fun s v => .of_eq rfl, fun base _ _ => ok_law T⟩
theorem walk {l : PySem.W.OpenLaw} {q : Program} {loose : List Str} {XP : (Str → Option Value) → Heap → Prop} {YP : World → Heap → Prop} {d : DefRec} {K : Params → PySem.W.Frag} (hn : l.most = some 63) (hdf : d.params.defaults = [])
    (hY : ∀ (w : World) (h : Heap), YP w h → (K w.params).In h) (F : ∀ (w : World) (mg : Str → Option Value) (fa : Addr) (h : Heap), (K w.params).In h → h.Ns mainGlobals mg → mg d.name = some (.ref fa) →
      ∃ fd : FuncData, (∀ (s : Shared) (u : Value), BindsTo s fd ⟨[u], []⟩ [("script", u)]) ∧ ∀ base : Heap, (K w.params).In base → base.Ns mainGlobals mg → FnOk l.prog w (K w.params) mg base CX0 6 fa fd ["script"] (sp_law (K w.params))) :
    PySem.W.WalkO q loose XP YP l.row.toRowW d [] (fun f vs => PySem.call f vs) :=
  L2.walk_ofK (n := 63) (k := 6) (x := "script") (CX := CX0) (sp := sp_law) hn (by decide) hdf ⟨rfl, by decide, by decide⟩ hY F (fun K H a ns hl _ hS => ⟨a, ns, rfl, hS, hl, fun _ => rfl⟩) fun _ _ _ _ z => z
end BR
open PySem PySem.W PyProof.Rows
set_option maxRecDepth 100000 in
set_option maxHeartbeats 0 in
theorem PySem.Challenge.cw_branchorders_k10_whole_rankings_and_word_holds : PySem.Challenge.rw_branchorders_k10_whole_rankings_and_word.Holds := by
  w_on; o_law; k_head; (case hw => w_witness2)
  k_fill
  refine BR.walk (l := PySem.Challenge.rw_branchorders_k10_whole_rankings_and_word) rfl rfl (fun w h Y => PySem.W.kIn_of Y) ?F
  case F =>
    intro w mg fa h KX G hmg
    refine' BR.all_mk KX G hmg ?a0 ?l0 ?c0 ?k0 ?a1 ?l1 ?c1 ?k1 ?a2 ?l2 ?c2 ?k2 ?a3 ?l3 ?c3 ?k3 ?a4 ?l4 ?c4 ?k4 ?a5 ?l5 ?c5 ?k5 ?a6 ?l6 ?c6 ?k6 ?a7 ?l7 ?c7 ?k7 ?a8 ?l8 ?c8 ?k8 ?a9 ?l9 ?c9 ?k9 ?a10 ?l10 ?c10 ?k10 ?a11 ?l11 ?c11 ?k11 ?a12 ?l12 ?c12 ?k12 ?a13 ?l13 ?c13 ?k13 ?a14 ?l14 ?c14 ?k14 ?a15 ?l15 ?c15 ?k15 ?a16 ?l16 ?c16 ?k16 ?a17 ?l17 ?c17 ?k17 ?a18 ?l18 ?c18 ?k18 ?a19 ?l19 ?c19 ?k19 ?a20 ?l20 ?c20 ?k20 ?a21 ?l21 ?c21 ?k21 ?a22 ?l22 ?c22 ?k22 ?a23 ?l23 ?c23 ?k23 ?a24 ?l24 ?c24 ?k24 ?a25 ?l25 ?c25 ?k25 ?a26 ?l26 ?c26 ?k26 ?a27 ?l27 ?c27 ?k27 ?a28 ?l28 ?c28 ?k28 ?a29 ?l29 ?c29 ?k29 ?a30 ?l30 ?c30 ?k30 ?a31 ?l31 ?c31 ?k31 ?a32 ?l32 ?c32 ?k32 ?a33 ?l33 ?c33 ?k33 ?a34 ?l34 ?c34 ?k34 ?a35 ?l35 ?c35 ?k35 ?z_abs ?z_any ?z_enumerate ?z_int ?z_len ?z_list ?z_max ?z_min ?z_range ?z_set ?z_sorted ?z_tuple ?z_type ?ai_MOST_ITEMS ?af_comb
    (case a0 => k_is)
    (case l0 => k_is)
    (case c0 => k_is)
    (case k0 => k_is)
    (case a1 => k_is)
    (case l1 => k_is)
    (case c1 => k_is)
    (case k1 => k_is)
    (case a2 => k_is)
    (case l2 => k_is)
    (case c2 => k_is)
    (case k2 => k_is)
    (case a3 => k_is)
    (case l3 => k_is)
    (case c3 => k_is)
    (case k3 => k_is)
    (case a4 => k_is)
    (case l4 => k_is)
    (case c4 => k_is)
    (case k4 => k_is)
    (case a5 => k_is)
    (case l5 => k_is)
    (case c5 => k_is)
    (case k5 => k_is)
    (case a6 => k_is)
    (case l6 => k_is)
    (case c6 => k_is)
    (case k6 => k_is)
    (case a7 => k_is)
    (case l7 => k_is)
    (case c7 => k_is)
    (case k7 => k_is)
    (case a8 => k_is)
    (case l8 => k_is)
    (case c8 => k_is)
    (case k8 => k_is)
    (case a9 => k_is)
    (case l9 => k_is)
    (case c9 => k_is)
    (case k9 => k_is)
    (case a10 => k_is)
    (case l10 => k_is)
    (case c10 => k_is)
    (case k10 => k_is)
    (case a11 => k_is)
    (case l11 => k_is)
    (case c11 => k_is)
    (case k11 => k_is)
    (case a12 => k_is)
    (case l12 => k_is)
    (case c12 => k_is)
    (case k12 => k_is)
    (case a13 => k_is)
    (case l13 => k_is)
    (case c13 => k_is)
    (case k13 => k_is)
    (case a14 => k_is)
    (case l14 => k_is)
    (case c14 => k_is)
    (case k14 => k_is)
    (case a15 => k_is)
    (case l15 => k_is)
    (case c15 => k_is)
    (case k15 => k_is)
    (case a16 => k_is)
    (case l16 => k_is)
    (case c16 => k_is)
    (case k16 => k_is)
    (case a17 => k_is)
    (case l17 => k_is)
    (case c17 => k_is)
    (case k17 => k_is)
    (case a18 => k_is)
    (case l18 => k_is)
    (case c18 => k_is)
    (case k18 => k_is)
    (case a19 => k_is)
    (case l19 => k_is)
    (case c19 => k_is)
    (case k19 => k_is)
    (case a20 => k_is)
    (case l20 => k_is)
    (case c20 => k_is)
    (case k20 => k_is)
    (case a21 => k_is)
    (case l21 => k_is)
    (case c21 => k_is)
    (case k21 => k_is)
    (case a22 => k_is)
    (case l22 => k_is)
    (case c22 => k_is)
    (case k22 => k_is)
    (case a23 => k_is)
    (case l23 => k_is)
    (case c23 => k_is)
    (case k23 => k_is)
    (case a24 => k_is)
    (case l24 => k_is)
    (case c24 => k_is)
    (case k24 => k_is)
    (case a25 => k_is)
    (case l25 => k_is)
    (case c25 => k_is)
    (case k25 => k_is)
    (case a26 => k_is)
    (case l26 => k_is)
    (case c26 => k_is)
    (case k26 => k_is)
    (case a27 => k_is)
    (case l27 => k_is)
    (case c27 => k_is)
    (case k27 => k_is)
    (case a28 => k_is)
    (case l28 => k_is)
    (case c28 => k_is)
    (case k28 => k_is)
    (case a29 => k_is)
    (case l29 => k_is)
    (case c29 => k_is)
    (case k29 => k_is)
    (case a30 => k_is)
    (case l30 => k_is)
    (case c30 => k_is)
    (case k30 => k_is)
    (case a31 => k_is)
    (case l31 => k_is)
    (case c31 => k_is)
    (case k31 => k_is)
    (case a32 => k_is)
    (case l32 => k_is)
    (case c32 => k_is)
    (case k32 => k_is)
    (case a33 => k_is)
    (case l33 => k_is)
    (case c33 => k_is)
    (case k33 => k_is)
    (case a34 => k_is)
    (case l34 => k_is)
    (case c34 => k_is)
    (case k34 => k_is)
    (case a35 => k_is)
    (case l35 => k_is)
    (case c35 => k_is)
    (case k35 => k_is)
    (case z_abs => k_is)
    (case z_any => k_is)
    (case z_enumerate => k_is)
    (case z_int => k_is)
    (case z_len => k_is)
    (case z_list => k_is)
    (case z_max => k_is)
    (case z_min => k_is)
    (case z_range => k_is)
    (case z_set => k_is)
    (case z_sorted => k_is)
    (case z_tuple => k_is)
    (case z_type => k_is)
    (case ai_MOST_ITEMS => k_is)
    (case af_comb => k_is)
#print axioms PySem.Challenge.cw_branchorders_k10_whole_rankings_and_word_holds
