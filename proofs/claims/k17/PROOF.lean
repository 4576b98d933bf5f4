import PyProof.Rows.All
import Wide.All
import OpenK.AllK
import Wide.FinOn
import PyProof.ReprRoads
import HandS.ForMost
import HandS.Wide
import HandS.Walk
import KE.GoesEnum
import KE.GoesMore
import PyProof.ReprLen
import PyProof.Rows.RegStrFacts
import HandS.IsInst
import HandS.ExcInit
import HandS.ExcValue
import KE.KExcIs
import KE.KIsAll
import HandS.ExcField
import HandS.ExcIs
import HandS.Evl
import KE.DataFind
import HandS.WordsExc
import HandS.Text
import HandS.More
import HandS.Iter
import HandS.HeadHook3
import HandS.Style
import HandS.Small
import HandS.Strs
import HandS.SetFor
import HandS.Star
import HandS.Conv
import HandS.TupLe
import HandS.TupSets
import HandS.Zip
import KE.DataMinMax
import HandS.Gcd
import HandS.Deep
import HandS.TupAny
import KE.KMathGC
import HandS.SortRule
import HandS.WideBits
import HandS.Property
import HandS.OwnEq
import HandS.SlotsOwn
import PyProof.Rows.TupDisplay
import KE.GoesZip
import KE.KItemsList
import HandS.ListItems
import PyProof.StrWalks
import PySem.Challenge.RW_branchorders_k17_errors_of_programs
set_option Elab.async false
set_option linter.all false
set_option maxRecDepth 100000
set_option maxHeartbeats 2000000

namespace BR
open PySem PySem.Spec PyProof.Rows L2
/-! ### own rules: great powers, calls by keywords alone, repr of data where no repr runs, enumerate of a tuple -/
section
variable {X : Cx}
def CPowB (i j : Int) : Prop := 0 ≤ j ∧ (Builtin.Int.intBits i : Int) * j ≤ 2 ^ 27
theorem op_powB : OpR X (binaryOp .Pow) (rI CPowB fun i j => .int (i ^ j.toNat)) :=
  opI fun _ _ _ _ _ _ _ c h => pow_int c.1 c.2 h
theorem powB_of {i j : Int} {a : Nat} (ha : i.natAbs < 2 ^ a) (h0 : 0 < a) (hj : 0 ≤ j) (hz : ((a : Int) + 1) * j ≤ 2 ^ 27) : CPowB i j := by
  refine ⟨hj, Int.le_trans (Int.mul_le_mul_of_nonneg_right ?_ hj) hz⟩
  have e := PySem.Flt.log2_lt_of h0 ha
  have b : Builtin.Int.intBits i ≤ i.natAbs.log2 + 1 := by
    unfold Builtin.Int.intBits
    split
    · exact Nat.zero_le _
    · omega
  omega
end

section
variable {X : Cx} {CX : CXT} {k : Nat} {f : Addr} {fd : FuncData} {ps ks : List Str} {sp : Sp} {E : XK} {x : Str}
/-- f(k = v, ..): keywords alone -/
theorem pe_callK0 {p pos : Pos} {kws : List Keyword} {tk : TA} {g : List Value → List Value → List Value} {gV : List V → List V → List V} (F : FnOk X.prog X.w X.K X.mg X.base CX k f fd ps sp) (room : Room k X.A) (hg : Gl X x)
    (hm : X.mg x = some (.ref f)) (kp : PySem.W.keepIn X.K (.ref f) = true) (b : KBinds X.K fd ps ks g gV) (hx : Passes CX X E) (hkw : PK X kws tk)
    (all1 : (backToKw pos (keywordEach kws X.env)).all (·.1.isSome) = true := by rfl) (nms : (backToKw pos (keywordEach kws X.env)).filterMap (·.1) = ks := by rfl)
    (nodb : (x == ("__debug__" : Str)) = false := by decide) (pl : ((backTo pos (starEach [] X.env)).any (·.1) || (backToKw pos (keywordEach kws X.env)).any (·.1.isNone)) = false := by rfl) :
    PE X (.Call (.Name x p) [] kws pos) (tCallK sp gV E tNil tk) := by
  refine ⟨fun pins s σ H Q I0 hh => ?_⟩
  refine wpAny_Call_Name_kw (ld_glob I0 hg hm ?_ nodb)
  refine PySem.W.callWith_KW0 (h₀ := X.base) I0.ok.mod.kin kp all1 (thn (hkw.run pos pins s σ H _ I0 hh) fun ws s2 ⟨zs, H2, I2, rz, q2⟩ => ?_) pl
  refine ⟨I2.kIn, ?_⟩
  rw [nms]
  exact run_fnk (us := []) (vs := []) F room b hx I2 .nil rz q2
end

/-! ### defs that run where no repr runs -/
structure FnG (P : Program) (w : World) (K : PySem.W.Frag) (mg : Str → Option Value) (base : Heap) (CX : CXT) (k : Nat) (f : Addr) (fd : FuncData) (ps : List Str) (sp : Sp) : Prop where
  ln : ∀ vs H Q E, sp vs H Q E → vs.length = ps.length
  go : ∀ (A : Around) (outer : List Env) (s : Shared) (H : Hp) (args : Args) (us : List Value) (vs : List V) (Q : VK) (E : XK), A.guards = some [] → Room k A → Env0 P w K mg base A outer s H →
    BindsTo s fd args (ps.zip us) → Vals vs us → sp vs H Q E → codeAny (model P w) A (.call (.ref f) args) (CR CX outer P w H s Q E) s
section
variable {P : Program} {w : World} {K : PySem.W.Frag} {mg : Str → Option Value} {base : Heap}
theorem Fun.okG {x qual : Str} {st : Stmt} {f : Addr} {fd : FuncData} {N ps : List Str} {k : Nat} {sp : Sp} (F : Fun K x qual st f fd) (S : FnScope N ps (defScope st)) (ln : ∀ vs H Q E, sp vs H Q E → vs.length = ps.length)
    (body : ∀ (cdv : Value) (A : Around) (outer : List Env) (s : Shared) (H : Hp) (vs : List V) (Q : VK) (E : XK), A.guards = some [] → Room k (A.deeper (envOfC qual (defScope st) s.heap.objs.size f cdv)) → sp vs H Q E →
      ∃ t, PSs (cxOf CX0 P w K mg base N qual (defScope st) f cdv A outer s H E).nox (defBody st) t ∧ t { nx := fun _ H' => Q .non H', rt := Q } (start N vs) H) : FnG P w K mg base CX0 (k + 1) f fd ps sp := by
  obtain ⟨oc, od, kV, doc, pm, an, cdv, ct, osl, rfl, lk, hcd⟩ := F.ex
  refine ⟨ln, fun A outer s H args us vs Q E gg hr e0 hb r hsp => ?_⟩
  have hl := ln _ _ _ _ hsp
  have kin : K.In s.heap := e0.mod.kin.keeps fun b o e => (e0.bs b o e).1
  have nolim : s.heap.NoLimit := e0.mod.nolimit.keeps fun b o e => (e0.bs b o e).1
  have kinds : ∀ y ∈ ps.zip us, (defScope st).names.lookup y.1 = some .local ∨ ((defScope st).names.lookup y.1 = some .cell ∧ ((cellsFrom (s.heap.objs.size + 1) (defScope st).names []).lookup y.1).isSome = true) := by
    rintro ⟨n, v⟩ hy
    rcases S.par n (List.of_mem_zip hy).1 with q | q
    · exact .inl q
    · exact .inr ⟨q, PySem.W.cellsFrom_some _ _ _ (.inl q)⟩
  refine codeAny_call_function hr.depth (kin _ _ lk) rfl S.co S.gen rfl (PySem.W.codeRec_of kin hcd) (hb _ _ _ _ ?_)
  refine wpAny_newFunctionEnv_cells S.kind kinds fun env he s1 xc => ?_
  subst he
  refine ⟨nolim.keeps xc.toInCall.keep, codeAny_func ?_⟩
  obtain ⟨t, ht0, hq⟩ := body cdv A outer s H vs Q E gg (hr.deeper _) hsp
  have ht := ht0.nox
  have I1 := inv_start (CX := CX0) (E := E) S hr.hd e0 hl r xc
  refine wpAny_mono (ht.run [] s1 (start N vs) H _ I1 hq) (fun fl s' hs => ?_) fun e s' hs => hs
  cases fl with
  | ret u =>
    obtain ⟨v, σ', H', J, rv, q⟩ := hs
    exact ⟨v, H', J.os, J.bare, J.base, J.hok, rv, q⟩
  | next =>
    obtain ⟨σ', H', J, q⟩ := hs
    exact ⟨.non, H', J.os, J.bare, J.base, J.hok, rfl, q⟩
  | brk => obtain ⟨_, _, _, q⟩ := hs; exact q.elim
  | cont => obtain ⟨_, _, _, q⟩ := hs; exact q.elim
end
section
variable {X : Cx} {CX : CXT} {k : Nat} {f : Addr} {fd : FuncData} {ps : List Str} {sp : Sp} {E : XK} {x : Str} {ds : List Value} {dvs : List V} {p pos : Pos} {e : Expr} {es : List Expr} {t : TA}
theorem pe_callG (F : FnG X.prog X.w X.K X.mg X.base CX k f fd ps sp) (gg : X.A.guards = some []) (room : Room k X.A) (hg : Gl X x) (hm : X.mg x = some (.ref f)) (kp : PySem.W.keepIn X.K (.ref f) = true)
    (b : Binds X.K fd ps ds) (hd : Vals dvs ds) (hx : Passes CX X E) (args : PA X (e :: es) t) (nodb : (x == ("__debug__" : Str)) = false := by decide)
    (st1 : starEach (e :: es) X.env = (false, eval e X.env) :: starEach es X.env := by rfl) (st2 : (backTo pos (starEach es X.env)).any (·.1) = false := by rfl) :
    PE X (.Call (.Name x p) (e :: es) [] pos) (tCall sp dvs E t) := by
  refine ⟨fun pins s σ H Q I0 hh => ?_⟩
  refine wpAny_Call_Name_kw (ld_glob I0 hg hm ?_ nodb)
  refine PySem.W.callWith_K (h₀ := X.base) I0.ok.mod.kin kp (thn (args.run pos pins s σ H _ I0 hh) ?_) st1 st2
  rintro us s1 ⟨vs, H1, I1, r, q⟩
  refine ⟨I1.kIn, ?_⟩
  have r2 : Vals (vs ++ dvs) (us ++ ds) := r.append hd
  have hl : (us ++ ds).length = ps.length := by rw [← r2.length]; exact F.ln _ _ _ _ q
  refine wpAny_call (codeAny_mono (F.go X.A X.stack s1 H1 ⟨us, []⟩ (us ++ ds) (vs ++ dvs) Q E gg room I1.env0 (b s1 us I1.kIn hl) r2 q) fun res s' hq => ?_)
  cases res with
  | error e => exact hx pins σ H1 s1 e s' I1 hq
  | ok fl =>
    cases fl with
    | ret u => exact I1.after hq
    | next => exact hq.elim
    | brk => exact hq.elim
    | cont => exact hq.elim
/-- repr of a list or tuple of plain data -/
theorem call_reprD (gg : X.A.guards = some []) (hu : X.A.units + 64 < cLine) : CallR X (.builtin "repr") (fun xs H Q => ∃ a d, xs = [.ref a] ∧ Dp X.K H (.ref a) d ∧ d.showable = true ∧ d.hasDict = false ∧ d.depth ≤ 60 ∧ d.shown.length ≤ sizeLine ∧ Q (.str d.shown) H) := by
  rintro pins s σ H xs us Q I r ⟨a, d, rfl, hd, h1, h2, h3, h4, q⟩
  cases r with
  | cons r1 rr =>
    cases rr
    obtain ⟨as, rd⟩ := Dp.reads I d (.ref a) _ hd r1
    cases r1
    refine repr_of_reads' rd h1 (fun z => by rw [h2] at z; cases z) gg (by omega) (fun _ _ z => z) (fun h' u tk hk => ?_) h4
    exact ⟨.str d.shown, H, I.kept (t' := tk) hk, ⟨u, rfl⟩, q⟩
end
end BR

namespace BR
open PySem PySem.Spec PyProof.Rows L2
/-! ### a law's end for such defs -/
theorem law_callG {P : Program} {w : World} {K : PySem.W.Frag} {mg mb : Str → Option Value} {k : Nat} {fa a : Addr} {fd : FuncData} {x : Str} {sp : Sp} {s₁ : Shared} {vs : List Value} {ns : List Int}
    (kin : K.In s₁.heap) (hns : s₁.heap.Ns mainGlobals mg) (hb : s₁.heap.Ns builtinsNs mb) (hbb : ∀ y : Str, y ≠ "__name__" → mb y = bootBuiltins y) (nolim : s₁.heap.NoLimit) (nogen : s₁.gens = #[])
    (ha : s₁.heap.get? a = some { cls := .type "list", data := .seq vs.toArray }) (hi : IntsAre vs ns) (hl : ns.length ≤ sizeLine) (hr : Room k callerA)
    (F : ∀ base : Heap, K.In base → base.Ns mainGlobals mg → FnG P w K mg base CX0 k fa fd [x] sp) (hbind : ∀ (s : Shared) (u : Value), BindsTo s fd ⟨[u], []⟩ [(x, u)])
    (hsp : ∀ H : Hp, Only H → SqL K H a (ns.map V.int) → sp [.ref a] H (fun v _ => v = .bl true) fun _ _ _ => False) :
    codeAny (model P w) callerA (.call (.ref fa) ⟨[.ref a], []⟩) (fun r s' => r = .ok (.ret (.bool true)) ∧ OldK s₁.heap s'.heap ∧ s'.os = s₁.os ∧ AllBare s'.gens) s₁ := by
  have rv := vals_ints hi
  have lenV := hi.length
  have core : ∀ H : Hp, Only H → SqL K H a (ns.map V.int) → HOk P w H s₁.heap → (∀ b, H b ≠ none → b = a) → (H a ≠ none → K.lookup a = none) →
      codeAny (model P w) callerA (.call (.ref fa) ⟨[.ref a], []⟩) (fun r s' => r = .ok (.ret (.bool true)) ∧ OldK s₁.heap s'.heap ∧ s'.os = s₁.os ∧ AllBare s'.gens) s₁ := by
    intro H only sq hok hA hK
    have isA : ∀ {b : Addr} {u : HO}, H b = some u → b = a := fun {b u} q => hA b (by rw [q]; exact fun z => nomatch z)
    have hid : ∀ {b : Addr} {o : Obj}, s₁.heap.get? b = some o → H b = none → (hidT s₁.heap H).get? b = some o := fun e n => hidT_get e n
    have noA : ∀ {b : Addr} {o : Obj} {es : Array DictEntry} {ep : Nat}, s₁.heap.get? b = some o → o.data = .dict es ep → H b = none := by
      intro b o es ep e d
      cases q : H b with
      | none => rfl
      | some u =>
        have eb := isA q
        subst eb
        rw [ha] at e
        cases e
        exact absurd (show Data.seq vs.toArray _ = Data.dict es ep from d) (by intro z; cases z)
    have nsK : ∀ {b : Addr} {m : Str → Option Value}, s₁.heap.Ns b m → (hidT s₁.heap H).Ns b m := by
      rintro b m ⟨o, es, ep, e, d, r⟩
      exact ⟨o, es, ep, hid e (noA e d), d, r⟩
    have kinB : K.In (hidT s₁.heap H) := by
      intro b o e
      refine hid (kin b o e) ?_
      cases q : H b with
      | none => rfl
      | some u =>
        have eb := isA q
        subst eb
        rw [hK (by rw [q]; exact fun z => nomatch z)] at e
        cases e
    obtain ⟨mc, l1, l2⟩ := nolim
    have md : Mod K mg (hidT s₁.heap H) := ⟨kinB, nsK hns, ⟨mb, nsK hb, hbb⟩, ⟨mc, nsK l1, l2⟩⟩
    have e0 : Env0 P w K mg (hidT s₁.heap H) callerA [] s₁ H := ⟨rfl, md, fun b o e => of_hidT e, Nat.le_of_eq (hidT_size _ _), trivial, fun b z => absurd (show b ∈ ([] : List Addr) from z) (by simp), hok, .of_eq nogen⟩
    refine codeAny_mono ((F _ kinB (nsK hns)).go callerA [] s₁ H ⟨[.ref a], []⟩ [.ref a] [.ref a] _ _ rfl hr e0 (hbind s₁ (.ref a)) (.cons rfl .nil) (hsp H only sq)) fun r s' hh => ?_
    cases r with
    | error e => exact False.elim hh
    | ok fl =>
      cases fl with
      | next => exact hh.elim
      | brk => exact hh.elim
      | cont => exact hh.elim
      | ret u =>
        obtain ⟨v, H', os, bare, un, hok', r', q⟩ := hh
        obtain rfl : v = V.bl true := q
        obtain rfl : u = Value.bool true := r'
        refine ⟨rfl, OldK.of_keep fun b o e => ?_, os, bare⟩
        cases q : H b with
        | none => exact un.keep b o e q (fun z => absurd (show b ∈ ([] : List Addr) from z) (by simp)) (by simp)
        | some u =>
          rcases only b with z | ⟨ob, xs, z⟩
          · rw [q] at z; cases z
          · obtain ⟨e1, _⟩ := hok b _ z
            obtain ⟨e2, _⟩ := hok' b _ (un.frzs b ob _ z)
            rw [e] at e1
            cases e1
            exact e2
  cases hk : K.lookup a with
  | some o =>
    have e := kin a o hk
    rw [ha] at e
    cases e
    exact core (fun _ => none) (fun _ => .inl rfl) (.inr ⟨_, vs.toArray, _, hk, rfl, rfl, rfl, by rw [List.size_toArray, lenV]; exact hl, by simpa using rv⟩) (fun b u z => nomatch (show (none : Option HO) = some u from z)) (fun b z => absurd rfl z) fun z => absurd rfl z
  | none =>
    refine core (fun b => if b = a then some (.frz { cls := .type "list", data := .seq vs.toArray } (.lst (ns.map V.int))) else none) (fun b => ?_) (.inl (.inr ⟨_, if_pos rfl⟩)) (fun b u z => ?_) (fun b z => ?_) fun _ => hk
    · by_cases hb : b = a
      · exact .inr ⟨_, _, if_pos hb⟩
      · exact .inl (if_neg hb)
    · have z1 : (if b = a then some (HO.frz { cls := .type "list", data := .seq vs.toArray } (.lst (ns.map V.int))) else none) = some u := z
      by_cases hb : b = a
      · subst hb
        rw [if_pos rfl] at z1
        cases z1
        refine ⟨ha, ?_, vs, _, rv, ha⟩
        rw [List.length_map]
        exact hl
      · rw [if_neg hb] at z1
        cases z1
    · refine Decidable.byContradiction fun hb => z ?_
      exact if_neg hb
theorem walk_ofG {l : PySem.W.OpenLaw} {n k : Nat} {q : Program} {loose : List Str} {XP : (Str → Option Value) → Heap → Prop} {YP : World → Heap → Prop} {d : DefRec} {K : Params → PySem.W.Frag} {sp : PySem.W.Frag → Sp} {x : Str}
    (most : l.most = some n) (small : n ≤ sizeLine) (nodef : d.params.defaults = []) (hr : Room k callerA) (hY : ∀ (w : World) (h : Heap), YP w h → (K w.params).In h)
    (F : ∀ (w : World) (mg : Str → Option Value) (fa : Addr) (h : Heap), (K w.params).In h → h.Ns mainGlobals mg → mg d.name = some (.ref fa) → ∃ fd : FuncData, (∀ (s : Shared) (u : Value), BindsTo s fd ⟨[u], []⟩ [(x, u)]) ∧
      ∀ base : Heap, (K w.params).In base → base.Ns mainGlobals mg → FnG l.prog w (K w.params) mg base CX0 k fa fd [x] (sp (K w.params)))
    (hsp : ∀ (K : PySem.W.Frag) (H : Hp) (a : Addr) (ns : List Int), ns.length ≤ n → Only H → SqL K H a (ns.map V.int) → sp K [.ref a] H (fun v _ => v = .bl true) fun _ _ _ => False) :
    PySem.W.WalkO q loose XP YP l.row.toRowW d [] (fun f vs => PySem.call f vs) := by
  refine Att.attach_call most nodef fun w s₀ s₁ mg mb fa o pm cd doc a vs ns G Y ho hd hcd hmg hobj hints hlen hg => ?_
  have kin := hY w _ Y
  obtain ⟨fd, bnd, ok⟩ := F w mg fa _ kin G.T.g hmg
  exact law_callG kin G.T.g G.T.b G.T.builtins G.T.nolimit hg hobj hints (Nat.le_trans hlen small) hr ok bnd fun H only sq => hsp _ H a ns hlen only sq
/-! ### for i, x in enumerate(t), t a tuple -/
set_option maxHeartbeats 4000000 in
theorem meets_enumT (l : Addr) (items : Array Value) (n : Nat) (dct : Option Addr) (sl : Array (Option Value)) :
    Meets (Builtin.«enumerate.__new__» ⟨[.type "enumerate", .ref l], []⟩) (fun _ R s => s.heap.get? l = some { cls := .type "tuple", dict := dct, data := .seq items n, slots := sl } ∧
      R (.ok (.ret (.ref (s.heap.push { cls := .type "tuple_iterator", data := .fields #[.ref l, .int 0 0] }).objs.size)))
        { s with heap := (s.heap.push { cls := .type "tuple_iterator", data := .fields #[.ref l, .int 0 0] }).push { cls := .type "enumerate", data := .fields #[.none, .bool false, .ref s.heap.objs.size, rawInt 0, .none, .none] } }) :=
  .of_wp fun prog w A R s hh => by
    obtain ⟨hp, g, d, tk, os⟩ := s
    obtain ⟨hl, hh⟩ := hh
    have sub := sub_enumerate
    have isT : Heap.IsTuple (Shared.heap ⟨hp, g, d, tk, os⟩) l items := ⟨_, hl, rfl, n, rfl⟩
    wp_walk using AutoSeq1.wpAny_loadPart' hl
    refine wpAny_stack_any fun st0 => wpAny_pure ?_
    split
    · rename_i c _ _ _ _ _
      cases (c == Value.type "enumerate")
      · wp_walk using AutoSeq1.wpAny_loadPart' hl, wpAny_pyIter_tuple isT
        exact ⟨_, rfl, hh⟩
      · wp_walk using AutoSeq1.wpAny_loadPart' hl, wpAny_pyIter_tuple isT
        exact ⟨_, rfl, hh⟩
    · wp_walk using AutoSeq1.wpAny_loadPart' hl, wpAny_pyIter_tuple isT
      exact ⟨_, rfl, hh⟩
section
variable {prog : Program} {w : World} {A : Around} {E : Value → Shared → Prop} {s : Shared}
theorem call_enumT {l : Addr} {items : Array Value} {Q : Value → Shared → Prop} (isT : s.heap.IsTuple l items)
    (hh : ∀ h', IsEnum h' (s.heap.objs.size + 1) s.heap.objs.size 0 .none → h'.IsTupleIter s.heap.objs.size l 0 → h'.objs.size = s.heap.objs.size + 2 →
      (∀ b o, s.heap.get? b = some o → h'.get? b = some o) → Q (.ref (s.heap.objs.size + 1)) { s with heap := h' }) :
    wpAny (model prog w) A (call (.type "enumerate") [.ref l]) Q E s := by
  obtain ⟨⟨c, dct, dt, sl⟩, hl, hc, n, hd⟩ := isT
  obtain rfl : c = .type "tuple" := hc
  obtain rfl : dt = .seq items n := hd
  refine callType_new F.called_enumerate (by decide) (F.typeCall_enumerate_1 _) (F.newCall_enumerate_1 _) (fun obj => F.args_object_init_2 obj _) F.entry_enumerate_new (meets_enumT l items n dct sl) ⟨hl, ?_⟩
  generalize hI : s.heap.push { cls := .type "tuple_iterator", data := .fields #[.ref l, .int 0 0] } = h1
  have sz : h1.objs.size = s.heap.objs.size + 1 := by rw [← hI]; exact Heap.size_push ..
  show _ ∧ _
  rw [sz]
  have he : IsEnum (h1.push { cls := .type "enumerate", data := .fields #[.none, .bool false, .ref s.heap.objs.size, rawInt 0, .none, .none] }) (s.heap.objs.size + 1) s.heap.objs.size 0 .none := by
    have e := Heap.get?_push_size h1 (o := { cls := .type "enumerate", data := .fields #[.none, .bool false, .ref s.heap.objs.size, rawInt 0, .none, .none] }) rfl
    rw [sz] at e
    exact e
  refine ⟨⟨_, he, rfl⟩, hh _ he ⟨_, Heap.get?_push_of_some _ (by rw [← hI]; exact Heap.get?_push_size _ rfl), rfl, rfl⟩ (by rw [Heap.size_push, sz]) fun b o e => Heap.get?_push_of_some _ ?_⟩
  rw [← hI]
  exact Heap.get?_push_of_some _ e
end
end BR

namespace BR
open PySem PySem.Spec PyProof.Rows L2
def IteT (K : PySem.W.Frag) (a : Addr) (xs : List V) : It :=
  ⟨fun i H => SqT K H a xs ∧ i < xs.length, fun i H v H' => ∃ T x, v = .ref T ∧ H T = none ∧ H' = upd H T (.tup [.int (i : Nat), x]) ∧ xs[i]? = some x, fun i H => SqT K H a xs ∧ xs.length ≤ i⟩
theorem diff_cls {h : Heap} {a b : Addr} {o u : Obj} {c d : String} (h1 : h.get? a = some o) (h2 : h.get? b = some u) (e1 : o.cls = .type c) (e2 : u.cls = .type d) (ne : c ≠ d) : a ≠ b := by
  rintro rfl
  rw [h1] at h2
  cases h2
  rw [e1] at e2
  cases e2
  exact ne rfl
theorem turn_enumT {P : Program} {w : World} {K : PySem.W.Frag} {elts : List Expr} {kk : Nat} {tpos : Pos} (a e it : Addr) (xs : List V) :
    Turn P w K (.Tuple elts kk tpos) (IteT K a xs) [e, it] e (fun i h => (∃ old, IsEnum h e it ((i : Nat) : Int) old) ∧ h.IsTupleIter it a i ∧ e ≠ it ∧ i ≤ xs.length) where
  mem := by simp
  obj := by
    rintro i h ⟨⟨old, he⟩, ⟨o, ho, hc, hd⟩, _⟩ b hb
    rcases List.mem_cons.mp hb with rfl | hb
    · exact ⟨_, he, fun v q => nomatch q⟩
    · obtain rfl := List.mem_singleton.mp hb
      exact ⟨o, ho, fun v q => by rw [hd] at q; cases q⟩
  keep := by
    rintro i h h' ⟨⟨old, he⟩, hi, hne, hz⟩ k
    exact ⟨⟨old, k e (by simp) _ he⟩, hi.at fun o q => k it (by simp) o q, hne, hz⟩
  item := by
    intro X hP hw hK hc i pins s σ H E I hf st hg
    subst hP hw hK
    obtain ⟨⟨old, he⟩, hit, hne, hz⟩ := st
    obtain ⟨hq, hlt⟩ := hg
    obtain ⟨its, rv, isT, _⟩ := I.tuple hq
    have hl := rv.length
    obtain ⟨ot, hot, hct, _⟩ := id isT
    obtain ⟨oi, hoi, hci, _⟩ := id hit
    have nta : it ≠ a := diff_cls hoi hot hci hct (by decide)
    have nea : e ≠ a := diff_cls he hot rfl hct (by decide)
    have hel : e < s.heap.objs.size := Heap.lt_size he
    have hil : it < s.heap.objs.size := Heap.lt_size hoi
    have D := Draws.tuple (prog := X.prog) (w := X.w) (A := X.A.in1) (show X.A.in1.handled = none from I.ok.hd hc) it a (Ne.symm nta) its.toArray
    refine wpAny_pyNext_enum_itemD D he ⟨hit, isT⟩ (by simp; omega) hne (by simp [hne, nea]) fun x h' tk hx ho hit' hT hsz hk => ?_
    obtain ⟨hit1, isT1⟩ := hit'
    refine ⟨_, rfl, wpAny_letOwnedTupleGo_enum (s := { s with heap := h', toks := tk + 1 }) ho fun h2 he2 sb => ?_⟩
    have hT2 : h2.get? s.heap.objs.size = some { cls := .type "tuple", data := .seq #[.int i tk, x] } := (sb.2 _ (Nat.ne_of_gt hel)).trans hT
    have hxi : i < its.length := by omega
    obtain ⟨y, hy, ry⟩ : ∃ y, xs[i]? = some y ∧ RelV y x := by
      have e1 : xs[i]? = some xs[i] := by simp [hlt]
      obtain ⟨u, hu, ru⟩ := rv.get e1
      have e2 : its[i]? = some x := by simpa using hx
      rw [e2] at hu
      cases hu
      exact ⟨_, e1, ru⟩
    have new : ObjOk X.prog X.w (upd H s.heap.objs.size (.tup [.int (i : Nat), y])) h2 s.heap.objs.size (.tup [.int (i : Nat), y]) :=
      ⟨by show 2 ≤ sizeLine; decide, [.int i tk, x], .cons ⟨_, rfl⟩ (.cons ry .nil), ⟨_, hT2, rfl, _, rfl⟩⟩
    have I1 : Inv X pins σ (upd H s.heap.objs.size (.tup [.int (i : Nat), y])) { s with heap := h2, toks := tk + 1 } := by
      refine I.turnedNew (ch := [e, it]) (fun b ob hb q => ?_) hf (Nat.le_refl _) new
      have b1 : b ≠ e := fun z => hb (by simp [z])
      exact (sb.2 b b1).trans (hk b ob b1 (fun z => hb (by simp [z])) q)
    refine ⟨.ref s.heap.objs.size, _, I1, rfl, ⟨_, y, rfl, I.hok.fresh (Nat.le_refl _), rfl, hy⟩, ⟨⟨x, ?_⟩, hit1.at fun o q => (sb.2 it (Ne.symm hne)).trans q, hne, hlt⟩, fun b hb => ?_⟩
    · have e1 : ((i + 1 : Nat) : Int) = (i : Int) + 1 := by omega
      rw [e1]
      exact he2
    · have hb' : b < s.heap.objs.size := by
        rcases List.mem_cons.mp hb with rfl | hb
        · exact hel
        · obtain rfl := List.mem_singleton.mp hb
          exact hil
      rw [upd_ne (Nat.ne_of_lt hb')]
      exact (hf b hb).1
  done := by
    intro X hP hw hK hc i pins s σ H E I hf st hg
    subst hP hw hK
    obtain ⟨⟨old, he⟩, hit, hne, hz⟩ := st
    obtain ⟨hq, hge⟩ := hg
    obtain ⟨its, rv, isT, _⟩ := I.tuple hq
    have hl := rv.length
    obtain rfl : i = its.toArray.size := by simp; omega
    obtain ⟨ot, hot, hct, _⟩ := id isT
    obtain ⟨oi, hoi, hci, _⟩ := id hit
    have nta : it ≠ a := diff_cls hoi hot hci hct (by decide)
    have D := Draws.tuple (prog := X.prog) (w := X.w) (A := X.A.in1) (show X.A.in1.handled = none from I.ok.hd hc) it a (Ne.symm nta) its.toArray
    obtain ⟨f0, f1, f2, f3, f4, f5⟩ := hf it (by simp)
    exact wpAny_pyNext_enum_endD D he ⟨hit, isT⟩ fun h' eb => ⟨rfl, I.turned (t' := s.toks) (fun b o hb q => eb b o hb q) f0 f1 f3 f4 f5⟩
  self := fun A i s Q E st h => let ⟨⟨_, he⟩, _⟩ := st; wpAny_pyIter_enum he h
def iEnumT (K : PySem.W.Frag) (ta : TA) : TI := fun σ H R => ta σ H fun vs H1 => ∃ a xs, vs = [.ref a] ∧ SqT K H1 a xs ∧ R (IteT K a xs) H1
theorem pi_enumT {X : Cx} {e : Expr} {ta : TA} {p pos tpos : Pos} {elts : List Expr} {kk : Nat} (hg : Gl X "enumerate") (hm : X.mg "enumerate" = none) (args : PA X [e] ta) (st1 : starEach [e] X.env = [(false, eval e X.env)] := by rfl) :
    PI X (.Tuple elts kk tpos) (.Call (.Name "enumerate" p) [e] [] pos) (iEnumT X.K ta) := by
  refine ⟨fun pins s σ H R I h => ?_⟩
  refine Call_ (ld_blt I hg hm boot_enumerate (PyProof.Rows.callWith_type1 (thn (args.run pos pins s σ H _ I h) ?_) st1 rfl))
  rintro us s1 ⟨vs, H1, I1, r1, a, xs, rfl, hq, q⟩
  cases r1 with
  | cons r rr =>
    cases rr
    cases r
    obtain ⟨its, rv, isT, hz⟩ := I1.tuple hq
    refine call_enumT isT fun h' he hit hsz hk => wpAny_pyIter_enum he ?_
    have I2 : Inv X pins σ H1 { s1 with heap := h' } := I1.kept (t' := s1.toks) hk
    refine ⟨s1.heap.objs.size + 1, [s1.heap.objs.size + 1, s1.heap.objs.size], _, _, H1, rfl, I2, turn_enumT a (s1.heap.objs.size + 1) s1.heap.objs.size xs, ⟨⟨.none, he⟩, hit, Nat.succ_ne_self _, Nat.zero_le _⟩, fun b hb => ?_, q⟩
    have hle : s1.heap.objs.size ≤ b := by
      rcases List.mem_cons.mp hb with rfl | hb
      · exact Nat.le_add_right _ _
      · obtain rfl := List.mem_singleton.mp hb
        exact Nat.le_refl _
    exact I1.fpOk hle (I1.hok.fresh hle)
theorem walk_enumT {K : PySem.W.Frag} {a : Addr} {xs : List V} : Walk (IteT K a xs) xs.length (fun H => SqT K H a xs) (YPair (fun i => some (.int (i : Nat))) (fun i => xs[i]?)) := by
  refine ⟨fun i _ hi q => ⟨q, hi⟩, fun _ q => ⟨q, Nat.le_refl _⟩, ?_⟩
  rintro i H v H' _ q ⟨T, x, h1, h2, h3, h4⟩
  exact ⟨T, .int (i : Nat), x, h1, h2, h3, rfl, h4⟩
end BR

namespace BR
open PySem PySem.Spec PyProof.Rows L2
/-! ### the draws' pool, heaps, words -/
theorem tT {c : Bool} {A B : Prop} (hc : c = true) (h : A) : if c = true then A else B := by
  rw [if_pos hc]
  exact h
theorem tF {c : Bool} {A B : Prop} (hc : c = false) (h : B) : if c = true then A else B := by
  rw [hc, if_neg Bool.false_ne_true]
  exact h
theorem sameNew {H : Hp} {p : Addr} {o : HO} (h : H p = none) : Same H (upd H p o) := fun b u e => by
  rw [upd_ne (ne_of_none e h)]
  exact e
theorem sameT {K : PySem.W.Frag} {H H' : Hp} {a : Addr} {xs : List V} (e : Same H H') (h : SqT K H a xs) : SqT K H' a xs := by
  rcases h with (h | ⟨o, h⟩) | h
  · exact .inl (.inl (e _ _ h))
  · exact .inl (.inr ⟨o, e _ _ h⟩)
  · exact .inr h
theorem map_at {xs : List Int} {i : Nat} {v : V} (h : (xs.map V.int)[i]? = some v) : ∃ z, xs[i]? = some z ∧ v = V.int z := by
  rw [List.getElem?_map] at h
  cases e : xs[i]? with
  | none => rw [e] at h; cases h
  | some z => rw [e] at h; exact ⟨z, rfl, (Option.some.inj h).symm⟩
/-- all but p as it was -/
def But (p : Addr) (H H' : Hp) : Prop := ∀ b o, b ≠ p → H b = some o → H' b = some o
theorem But.refl {p : Addr} (H : Hp) : But p H H := fun _ _ _ e => e
theorem But.trans {p : Addr} {H H1 H2 : Hp} (a : But p H H1) (b : But p H1 H2) : But p H H2 := fun c o n e => b c o n (a c o n e)
theorem But.of {p : Addr} {H H' : Hp} (s : Same H H') : But p H H' := fun b o _ e => s b o e
theorem But.upd {p : Addr} {H : Hp} {o : HO} : But p H (upd H p o) := fun b u n e => by
  rw [upd_ne n]
  exact e
theorem But.new {p q : Addr} {H : Hp} {o : HO} (h : H q = none) : But p H (L2.upd H q o) := But.of (sameNew h)
/-- the pool at p, not more than n numbers mixed -/
def Pool (H : Hp) (p : Addr) (n : Nat) : Prop := ∃ g b c : Int, H p = some (.lst [.int g, .int b, .int c]) ∧ 0 ≤ g ∧ 0 ≤ b ∧ b < 2 ^ 62 ∧ 0 ≤ c ∧ c ≤ (n : Int)
theorem Pool.same {H H' : Hp} {p : Addr} {n : Nat} (h : Pool H p n) (s : Same H H') : Pool H' p n := by
  obtain ⟨g, b, c, e, r⟩ := h
  exact ⟨g, b, c, s _ _ e, r⟩
theorem Pool.mono {H : Hp} {p : Addr} {n m : Nat} (h : Pool H p n) (l : n ≤ m) : Pool H p m := by
  obtain ⟨g, b, c, e, r1, r2, r3, r4, r5⟩ := h
  exact ⟨g, b, c, e, r1, r2, r3, r4, by omega⟩
theorem Pool.new {H : Hp} {p q : Addr} {o : HO} {n : Nat} (h : Pool H p n) (hq : H q = none) : Pool (L2.upd H q o) p n := h.same (sameNew hq)
theorem Pool.ne {H : Hp} {p q : Addr} {n : Nat} (h : Pool H p n) (hq : H q = none) : q ≠ p := by
  obtain ⟨g, b, c, e, _⟩ := h
  exact (ne_of_none e hq).symm
theorem Pool.put {H : Hp} {p q : Addr} {o : HO} {n : Nat} (h : Pool H p n) (nq : q ≠ p) : Pool (L2.upd H q o) p n := by
  obtain ⟨g, b, c, e, r⟩ := h
  exact ⟨g, b, c, by rw [upd_ne nq.symm]; exact e, r⟩
theorem pow_pos (n : Nat) : (0 : Int) < 2 ^ n := by
  have h : (2 : Int) ^ n = ((2 ^ n : Nat) : Int) := by norm_cast
  rw [h]
  have := Nat.two_pow_pos n
  omega
theorem pow_lt {a b : Nat} (h : a < b) : (2 : Int) ^ a < 2 ^ b := by
  have h1 : (2 : Int) ^ a = ((2 ^ a : Nat) : Int) := by norm_cast
  have h2 : (2 : Int) ^ b = ((2 ^ b : Nat) : Int) := by norm_cast
  have h3 : 2 ^ a < 2 ^ b := Nat.pow_lt_pow_right (by decide) h
  rw [h1, h2]
  omega
theorem log_ok {m : Int} (h0 : 0 < m) (h1 : m < 2 ^ 400) : m.natAbs.log2 < 9000 := by
  have h : m.natAbs < 2 ^ 400 := by
    have e : ((2 : Int) ^ 400) = ((2 ^ 400 : Nat) : Int) := by norm_cast
    rw [e] at h1
    omega
  exact Nat.lt_of_lt_of_le (PySem.Flt.log2_lt_of (by decide) h) (by decide)
/-- signed value, outcome -/
def sv (wd x : Int) : Int := if (2 : Int) ^ (wd - 1).toNat ≤ x then x - 2 ^ wd.toNat else x
def oc (wd x y : Int) : Str := if x = y then "E" else if sv wd x < sv wd y then (if x < y then "LB" else "LA") else (if x < y then "GB" else "GA")
theorem oc_short (wd x y : Int) : (oc wd x y).length ≤ 2 := by
  unfold oc
  split
  · decide +kernel
  · split <;> split <;> decide +kernel
theorem ints_all {K : PySem.W.Frag} {H : Hp} : ∀ xs : List Int, DpAll K H (xs.map V.int) (xs.map PyData.int)
  | [] => .nil
  | x :: r => .cons (.int x) (ints_all r)
theorem ints_lay : ∀ xs : List Int, PyData.canLayAll0 (xs.map PyData.int) = true ∧ PyData.depthAll (xs.map PyData.int) = 0
  | [] => ⟨rfl, rfl⟩
  | x :: r => by
    obtain ⟨h1, h2⟩ := ints_lay r
    refine ⟨?_, ?_⟩
    · show (PyData.canLay0 (.int x) && PyData.canLayAll0 (r.map PyData.int)) = true
      rw [h1]
      rfl
    · show max (PyData.depth (.int x)) (PyData.depthAll (r.map PyData.int)) = 0
      rw [h2]
      rfl
theorem ints_shaped (xs : List Int) : SeqAt.shaped (.list (xs.map PyData.int)) = true := by
  obtain ⟨h1, h2⟩ := ints_lay xs
  unfold SeqAt.shaped
  show (PyData.canLayAll0 (xs.map PyData.int) && decide (PyData.depthAll (xs.map PyData.int) + 1 ≤ 64)) = true
  rw [h1, h2]
  rfl
/-- what is small enough to be shown -/
def Tame (m : Int) : Prop := m.natAbs.log2 < 1920
theorem Tame.of {m : Int} {k : Nat} (k0 : 0 < k) (hk : k ≤ 1900) (h0 : -(2 ^ k) < m) (h1 : m < 2 ^ k) : Tame m := by
  have e : ((2 : Int) ^ k) = ((2 ^ k : Nat) : Int) := by norm_cast
  rw [e] at h0 h1
  have h : m.natAbs < 2 ^ k := by omega
  exact Nat.lt_of_lt_of_le (PySem.Flt.log2_lt_of k0 h) (by omega)
theorem tame_short {m : Int} (h : Tame m) : (PyData.shown (.int m)).length ≤ 1921 := int_text_len_1921 h
theorem tame_weight {m : Int} (h : Tame m) : (PyData.int m).weight ≤ 1920 := by
  show (if m == 0 then 0 else m.natAbs.log2 + 1) ≤ 1920
  have := show m.natAbs.log2 < 1920 from h
  split <;> omega
theorem oc_is (wd x y : Int) : oc wd x y = "E" ∨ oc wd x y = "LB" ∨ oc wd x y = "LA" ∨ oc wd x y = "GB" ∨ oc wd x y = "GA" := by
  unfold oc
  split
  · exact .inl rfl
  · split <;> split <;> simp
theorem sv_tame {wd x : Int} (h1 : 1 ≤ wd) (h2 : wd ≤ 300) (h : 0 ≤ x ∧ x < 2 ^ wd.toNat) : Tame (sv wd x) := by
  have p := pow_pos wd.toNat
  refine Tame.of (k := wd.toNat + 1) (by omega) (by omega) ?_ ?_
  · have q : (2 : Int) ^ (wd.toNat + 1) = 2 ^ wd.toNat * 2 := Int.pow_succ ..
    unfold sv
    split <;> omega
  · have q : (2 : Int) ^ (wd.toNat + 1) = 2 ^ wd.toNat * 2 := Int.pow_succ ..
    unfold sv
    split <;> omega
theorem shown_small {d : PyData} (h : d.leavesShort 1921 = true) (hw : d.weight ≤ 8000) : d.shown.length ≤ sizeLine := by
  have e := PyData.shown_le 1921 (by decide) d h
  have : (1921 + 2) * d.weight ≤ (1921 + 2) * 8000 := Nat.mul_le_mul_left _ hw
  exact Nat.le_trans e (Nat.le_trans (Nat.add_le_add_right this _) (by decide))
theorem shown_ok {wd x y : Int} (h1 : 1 ≤ wd) (h2 : wd ≤ 300) (h3 : 0 ≤ x ∧ x < 2 ^ wd.toNat) (h4 : 0 ≤ y ∧ y < 2 ^ wd.toNat) :
    (PyData.list [.int (sv wd x), .str (oc wd x y)]).showable = true ∧ (PyData.list [.int (sv wd x), .str (oc wd x y)]).hasDict = false ∧ (PyData.list [.int (sv wd x), .str (oc wd x y)]).depth ≤ 60 ∧
      (PyData.list [.int (sv wd x), .str (oc wd x y)]).shown.length ≤ sizeLine := by
  have t := sv_tame h1 h2 h3
  have a1 := tame_short t
  have a2 := tame_weight t
  have b : (PyData.str (oc wd x y)).leavesShort 1921 = true ∧ (PyData.str (oc wd x y)).weight ≤ 2 := by
    rcases oc_is wd x y with e | e | e | e | e <;> rw [e] <;> exact ⟨by decide +kernel, by decide +kernel⟩
  refine ⟨?_, rfl, ?_, shown_small ?_ ?_⟩
  · show (decide ((sv wd x).natAbs.log2 < 1920) && (true && true)) = true
    rw [decide_eq_true (show (sv wd x).natAbs.log2 < 1920 from t)]
    rfl
  · show max 0 (max 0 0) + 1 ≤ 60
    decide
  · show (decide ((PyData.shown (.int (sv wd x))).length ≤ 1921) && ((PyData.str (oc wd x y)).leavesShort 1921 && true)) = true
    rw [decide_eq_true a1, b.1]
    rfl
  · show (PyData.int (sv wd x)).weight + 1 + ((PyData.str (oc wd x y)).weight + 1 + 0) ≤ 8000
    omega
theorem laps_of {n : Nat} {t : Int} (ht : 1 ≤ t) : ∃ m : Nat, (m : Int) ≤ t ∧ (if (if (n : Int) < t then (n : Int) else t) > 1 then (if (n : Int) < t then (n : Int) else t) else 1) = (m : Int) := by
  by_cases h : (n : Int) < t
  · rw [if_pos h]
    by_cases h1 : (n : Int) > 1
    · rw [if_pos h1]; exact ⟨n, by omega, rfl⟩
    · rw [if_neg h1]; exact ⟨1, by omega, rfl⟩
  · rw [if_neg h]
    refine ⟨t.toNat, by omega, ?_⟩
    split <;> omega
end BR

namespace BR
open PySem PySem.Spec PyProof.Rows L2
/-! ### words changed; comprehensions over ints -/
def fl (wd x : Int) : Int := if x < 2 ^ (wd - 1).toNat then x + 2 ^ (wd - 1).toNat else x - 2 ^ (wd - 1).toNat
def iv (wd x : Int) : Int := 2 ^ wd.toNat - 1 - x
def ex (wd wi x : Int) : Int := if (2 : Int) ^ (wd - 1).toNat ≤ x then x + (2 ^ wi.toNat - 2 ^ wd.toNat) else x
theorem two_half {wd : Int} (h : 1 ≤ wd) : (2 : Int) ^ wd.toNat = 2 * 2 ^ (wd - 1).toNat := by
  have e : wd.toNat = (wd - 1).toNat + 1 := by omega
  rw [e, Int.pow_succ, Int.mul_comm]
theorem pow_le {a b : Nat} (h : a ≤ b) : (2 : Int) ^ a ≤ 2 ^ b := by
  have h1 : (2 : Int) ^ a = ((2 ^ a : Nat) : Int) := by norm_cast
  have h2 : (2 : Int) ^ b = ((2 ^ b : Nat) : Int) := by norm_cast
  have h3 : 2 ^ a ≤ 2 ^ b := Nat.pow_le_pow_right (by decide) h
  rw [h1, h2]
  omega
theorem nat_cast_pow (n : Nat) : (2 : Int) ^ n = ((2 ^ n : Nat) : Int) := by norm_cast
theorem fl_word {wd x : Int} (h : 1 ≤ wd) (hx : 0 ≤ x ∧ x < 2 ^ wd.toNat) : 0 ≤ fl wd x ∧ fl wd x < 2 ^ wd.toNat := by
  have e := two_half h
  have p := pow_pos (wd - 1).toNat
  unfold fl
  split <;> omega
theorem fl_fl {wd x : Int} (h : 1 ≤ wd) (hx : 0 ≤ x ∧ x < 2 ^ wd.toNat) : fl wd (fl wd x) = x := by
  have e := two_half h
  have p := pow_pos (wd - 1).toNat
  unfold fl
  split <;> split <;> omega
theorem iv_word {wd x : Int} (hx : 0 ≤ x ∧ x < 2 ^ wd.toNat) : 0 ≤ iv wd x ∧ iv wd x < 2 ^ wd.toNat := by
  unfold iv
  omega
theorem iv_iv (wd x : Int) : iv wd (iv wd x) = x := by
  unfold iv
  omega
theorem ex_word {wd wi x : Int} (h1 : 1 ≤ wd) (h2 : wd ≤ wi) (hx : 0 ≤ x ∧ x < 2 ^ wd.toNat) : 0 ≤ ex wd wi x ∧ ex wd wi x < 2 ^ wi.toNat := by
  have q := pow_le (a := wd.toNat) (b := wi.toNat) (by omega)
  unfold ex
  split <;> omega
theorem sv_ex {wd wi x : Int} (h1 : 1 ≤ wd) (h2 : wd ≤ wi) (hx : 0 ≤ x ∧ x < 2 ^ wd.toNat) : sv wi (ex wd wi x) = sv wd x := by
  have q := pow_le (a := (wd - 1).toNat) (b := (wi - 1).toNat) (by omega)
  have e1 := two_half h1
  have e2 := two_half (show 1 ≤ wi by omega)
  have p := pow_pos (wd - 1).toNat
  unfold sv ex
  split <;> split <;> omega
theorem and_bit {n a : Nat} (h : a < 2 ^ (n + 1)) : a &&& 2 ^ n = if a < 2 ^ n then 0 else 2 ^ n := by
  apply Nat.eq_of_testBit_eq
  intro i
  rw [Nat.testBit_and, Nat.testBit_two_pow]
  by_cases c : a < 2 ^ n
  · rw [if_pos c]
    by_cases e : n = i
    · subst e
      rw [Nat.testBit_lt_two_pow c]
      simp
    · simp [e]
  · rw [if_neg c, Nat.testBit_two_pow]
    by_cases e : n = i
    · subst e
      have hk : 2 ^ (n + 1) = 2 ^ n * 2 := Nat.pow_succ ..
      have z : a / 2 ^ n = 1 := by
        have p : 0 < 2 ^ n := Nat.two_pow_pos n
        have h1 : 1 ≤ a / 2 ^ n := (Nat.le_div_iff_mul_le p).mpr (by omega)
        have h2 : a / 2 ^ n < 2 := (Nat.div_lt_iff_lt_mul p).mpr (by omega)
        omega
      have t : a.testBit n = true := by
        rw [Nat.testBit_eq_decide_div_mod_eq, z]
        rfl
      simp [t]
    · simp [e]
theorem xor_half {wd x : Int} (h : 1 ≤ wd) (hx : 0 ≤ x ∧ x < 2 ^ wd.toNat) : Builtin.bitXor x (2 ^ (wd - 1).toNat) = fl wd x := by
  have e := two_half h
  have p := pow_pos (wd - 1).toNat
  rw [Bits.bitXor_pp hx.1 (by omega)]
  rw [nat_cast_pow] at p e ⊢
  unfold fl
  rw [nat_cast_pow]
  generalize (wd - 1).toNat = n at p e ⊢
  obtain ⟨a, rfl⟩ := Int.eq_ofNat_of_zero_le hx.1
  rw [Int.toNat_natCast, Int.toNat_natCast]
  have k := Bits.nat_xor_add_and a (2 ^ n)
  have b1 : (a : Int) < 2 * 2 ^ n := by rw [← e]; exact hx.2
  have p2 : ((2 ^ n : Nat) : Int) = 2 ^ n := (nat_cast_pow n).symm
  have hk : 2 ^ (n + 1) = 2 ^ n * 2 := Nat.pow_succ ..
  rw [and_bit (n := n) (a := a) (by omega)] at k
  by_cases c : a < 2 ^ n
  · rw [if_pos c] at k
    rw [if_pos (by omega)]
    omega
  · rw [if_neg c] at k
    rw [if_neg (by omega)]
    omega
theorem xor_all {wd x : Int} (hx : 0 ≤ x ∧ x < 2 ^ wd.toNat) : Builtin.bitXor x (2 ^ wd.toNat - 1) = iv wd x := by
  have p := pow_pos wd.toNat
  rw [Bits.bitXor_pp hx.1 (by omega)]
  unfold iv
  have b1 := hx.2
  rw [nat_cast_pow] at p b1 ⊢
  generalize wd.toNat = n at p b1 ⊢
  obtain ⟨a, rfl⟩ := Int.eq_ofNat_of_zero_le hx.1
  have et : (((2 ^ n : Nat) : Int) - 1).toNat = 2 ^ n - 1 := by omega
  rw [Int.toNat_natCast, et]
  have k := Bits.nat_xor_add_and a (2 ^ n - 1)
  rw [Nat.and_two_pow_sub_one_eq_mod, Nat.mod_eq_of_lt (by omega)] at k
  omega
theorem map_take_succ {f : Int → Int} {xs : List Int} {i : Nat} {z : Int} (h : xs[i]? = some z) : ((xs.take (i + 1)).map f).map V.int = ((xs.take i).map f).map V.int ++ [V.int (f z)] := by
  have e : xs.take (i + 1) = xs.take i ++ [z] := by
    rw [List.take_add_one, h]
    rfl
  rw [e, List.map_append, List.map_append]
  rfl
/-- [e for x in t], t a tuple of ints, e an int of x alone -/
theorem lc_ints {K : PySem.W.Frag} {a : Addr} {xs : List Int} {j : Nat} {te : TE} {vs : List Nat} {σ : L2.St} {H1 : Hp} {D : Addr} {Qd : Hp → Prop} (f : Int → Int) (hT : SqT K H1 a (xs.map V.int)) (hz : xs.length ≤ 1000) (hD : H1 D = none)
    (hw : ∀ x : V, wipe ((wipe σ vs).set j (some x)) vs = wipe σ vs)
    (he : ∀ (x : Int) (H2 : Hp) (Q : VK), x ∈ xs → Same H1 H2 → (∀ H3, Same H2 H3 → Q (.int (f x)) H3) → te ((wipe σ vs).set j (some (.int x))) H2 Q)
    (hd : ∀ H, Same H1 H → H D = some (.lst ((xs.map f).map V.int)) → Qd H) :
    ∃ W : Nat → Nat → Hp → Prop, (∃ m, W 0 m (L2.upd H1 D (.lst []))) ∧ ∀ i m H, W i m H →
      ((Itt K a).stop i H ∧ Qd H) ∨ ((Itt K a).go i H ∧ ∃ Nx : Hp → Prop, (∀ H', Nx H' → ∃ m', m' < m ∧ W (i + 1) m' H') ∧ ∀ x H', (Itt K a).yld i H x H' → gName j x (wipe σ vs) H' fun σ2 H2 => wipe σ2 vs = wipe σ vs ∧ tYes σ2 H2 fun b H3 =>
        if b = true then te σ2 H3 fun y H4 => ∃ acc, H4 D = some (.lst acc) ∧ acc.length < sizeLine ∧ Nx (L2.upd H4 D (.lst (acc ++ [y]))) else Nx H3) := by
  refine lc_tup (xs := xs.map V.int) (fun i H => Same H1 H ∧ H D = some (.lst (((xs.take i).map f).map V.int))) ⟨sameNew hD, upd_same⟩ (fun i H _ p => sameT p.1 hT) ?_ ?_
  · rintro i x H hx ⟨s, hH⟩
    obtain ⟨z, hz1, rfl⟩ := map_at hx
    refine ⟨hw _, ?_⟩
    show te ((wipe σ vs).set j (some (V.int z))) H _
    refine he z H _ (List.mem_of_getElem? hz1) s fun H3 s3 => ?_
    refine ⟨_, s3 _ _ hH, small1000 (by rw [List.length_map, List.length_map, List.length_take]; omega), ?_, ?_⟩
    · intro b o e
      rw [upd_ne (ne_of_none e hD)]
      exact s3 _ _ (s _ _ e)
    · rw [upd_same, map_take_succ hz1]
  · rintro H ⟨s, hH⟩
    rw [List.length_map, List.take_length] at hH
    exact hd H s hH
end BR
namespace BR
open PySem PySem.Spec PyProof.Rows L2
/-! ### what tuples of words look like when they are shown -/
theorem ints_show : ∀ {ys : List Int}, (∀ y ∈ ys, 0 ≤ y ∧ y < 2 ^ 300) → PyData.showableAll (ys.map PyData.int) = true ∧ PyData.hasDictAll (ys.map PyData.int) = false ∧ PyData.leavesShortAll 301 (ys.map PyData.int) = true ∧ PyData.weightAll (ys.map PyData.int) ≤ 301 * ys.length
  | [], _ => ⟨rfl, rfl, rfl, Nat.zero_le _⟩
  | y :: r, h => by
    obtain ⟨h1, h2, h3, h4⟩ := ints_show (ys := r) fun z m => h z (List.mem_cons_of_mem _ m)
    have hy := h y List.mem_cons_self
    have n : y.natAbs < 2 ^ 300 := by
      have e := nat_cast_pow 300
      have b := hy.2
      rw [e] at b
      omega
    have l := PySem.Flt.log2_lt_of (k := 300) (by decide) n
    refine ⟨?_, ?_, ?_, ?_⟩
    · show (decide (y.natAbs.log2 < 1920) && PyData.showableAll (r.map PyData.int)) = true
      rw [h1, decide_eq_true (by omega)]
      rfl
    · show (false || PyData.hasDictAll (r.map PyData.int)) = false
      rw [h2]
      rfl
    · show (decide ((PyData.shown (.int y)).length ≤ 301) && PyData.leavesShortAll 301 (r.map PyData.int)) = true
      have e : (PyData.shown (.int y)).length ≤ 301 := by
        show (PySem.Str.ofString (toString y)).length ≤ 301
        rw [PySem.ofString_length]
        exact PySem.int_text_length_le (k := 300) (by decide) l
      rw [h3, decide_eq_true e]
      rfl
    · show (if y == 0 then 0 else y.natAbs.log2 + 1) + 1 + PyData.weightAll (r.map PyData.int) ≤ 301 * (r.length + 1)
      split <;> omega
theorem shown_tup {ys : List Int} (h : ∀ y ∈ ys, 0 ≤ y ∧ y < 2 ^ 300) (hz : ys.length ≤ 41) :
    (PyData.tuple (ys.map PyData.int)).showable = true ∧ (PyData.tuple (ys.map PyData.int)).hasDict = false ∧ (PyData.tuple (ys.map PyData.int)).depth ≤ 60 ∧ (PyData.tuple (ys.map PyData.int)).shown.length ≤ sizeLine := by
  obtain ⟨h1, h2, h3, h4⟩ := ints_show h
  obtain ⟨_, h6⟩ := ints_lay ys
  refine ⟨h1, h2, ?_, ?_⟩
  · show PyData.depthAll (ys.map PyData.int) + 1 ≤ 60
    omega
  · have e := PyData.shown_le 301 (by decide) (.tuple (ys.map PyData.int)) h3
    have w : (PyData.tuple (ys.map PyData.int)).weight ≤ 12341 := by
      show PyData.weightAll (ys.map PyData.int) ≤ 12341
      omega
    have : (301 + 2) * (PyData.tuple (ys.map PyData.int)).weight ≤ (301 + 2) * 12341 := Nat.mul_le_mul_left _ w
    exact Nat.le_trans e (Nat.le_trans (Nat.add_le_add_right this _) (by decide))
theorem shown_two {ys : List Int} (h : ∀ y ∈ ys, 0 ≤ y ∧ y < 2 ^ 300) (hz : ys.length ≤ 41) :
    (PyData.list [.tuple (ys.map PyData.int), .tuple (ys.map PyData.int)]).showable = true ∧ (PyData.list [.tuple (ys.map PyData.int), .tuple (ys.map PyData.int)]).hasDict = false ∧
      (PyData.list [.tuple (ys.map PyData.int), .tuple (ys.map PyData.int)]).depth ≤ 60 ∧ (PyData.list [.tuple (ys.map PyData.int), .tuple (ys.map PyData.int)]).shown.length ≤ sizeLine := by
  obtain ⟨h1, h2, h3, h4⟩ := ints_show h
  obtain ⟨_, h6⟩ := ints_lay ys
  refine ⟨?_, ?_, ?_, ?_⟩
  · show (PyData.showableAll (ys.map PyData.int) && (PyData.showableAll (ys.map PyData.int) && true)) = true
    rw [h1]
    rfl
  · show (PyData.hasDictAll (ys.map PyData.int) || (PyData.hasDictAll (ys.map PyData.int) || false)) = false
    rw [h2]
    rfl
  · show max (PyData.depthAll (ys.map PyData.int) + 1) (max (PyData.depthAll (ys.map PyData.int) + 1) 0) + 1 ≤ 60
    omega
  · have e := PyData.shown_le 301 (by decide) (.list [.tuple (ys.map PyData.int), .tuple (ys.map PyData.int)]) (by
      show (PyData.leavesShortAll 301 (ys.map PyData.int) && (PyData.leavesShortAll 301 (ys.map PyData.int) && true)) = true
      rw [h3]
      rfl)
    have w : (PyData.list [.tuple (ys.map PyData.int), .tuple (ys.map PyData.int)]).weight ≤ 24684 := by
      show PyData.weightAll (ys.map PyData.int) + 1 + (PyData.weightAll (ys.map PyData.int) + 1 + 0) ≤ 24684
      omega
    have : (301 + 2) * (PyData.list [.tuple (ys.map PyData.int), .tuple (ys.map PyData.int)]).weight ≤ (301 + 2) * 24684 := Nat.mul_le_mul_left _ w
    exact Nat.le_trans e (Nat.le_trans (Nat.add_le_add_right this _) (by decide))
theorem tup_shaped (xs : List Int) : SeqAt.shaped (.tuple (xs.map PyData.int)) = true := by
  obtain ⟨h1, h2⟩ := ints_lay xs
  unfold SeqAt.shaped
  show (PyData.canLayAll0 (xs.map PyData.int) && decide (PyData.depthAll (xs.map PyData.int) + 1 ≤ 64)) = true
  rw [h1, h2]
  rfl
theorem eqv_tup (xs : List Int) : PyData.eqv (.tuple (xs.map PyData.int)) (.tuple (xs.map PyData.int)) = true := SeqAt.eqv_refl _ (SeqAt.canLay_of_shaped (tup_shaped xs))
theorem eqv_lst (xs : List Int) : PyData.eqv (.list (xs.map PyData.int)) (.list (xs.map PyData.int)) = true := SeqAt.eqv_refl _ (SeqAt.canLay_of_shaped (ints_shaped xs))
end BR

namespace BR
open PySem PySem.Spec PyProof.Rows L2
/-! ### outcomes told by a cut -/
def ocut (c x y : Int) : Str := if x = y then "E" else if x < y then (if (decide (x < c) != decide (y < c)) = true then "GB" else "LB") else (if (decide (x < c) != decide (y < c)) = true then "LA" else "GA")
theorem mixed_is (a b : Bool) : (!decide (V.bl a = V.bl b)) = (a != b) := by
  cases a <;> cases b <;> rfl
theorem oc_cut {wd x y : Int} (h : 1 ≤ wd) (hx : 0 ≤ x ∧ x < 2 ^ wd.toNat) (hy : 0 ≤ y ∧ y < 2 ^ wd.toNat) : ocut (2 ^ (wd - 1).toNat) x y = oc wd x y := by
  have e := two_half h
  have p := pow_pos (wd - 1).toNat
  unfold ocut oc
  by_cases c : x = y
  · rw [if_pos c, if_pos c]
  rw [if_neg c, if_neg c]
  by_cases cx : x < 2 ^ (wd - 1).toNat
  · have sx : sv wd x = x := by unfold sv; rw [if_neg (by omega)]
    by_cases cy : y < 2 ^ (wd - 1).toNat
    · have sy : sv wd y = y := by unfold sv; rw [if_neg (by omega)]
      rw [sx, sy, decide_eq_true cx, decide_eq_true cy, if_neg (show ¬ ((true != true) = true) by decide), if_neg (show ¬ ((true != true) = true) by decide)]
      by_cases l : x < y
      · rw [if_pos l, if_pos l, if_pos l]
      · rw [if_neg l, if_neg l, if_neg l]
    · have sy : sv wd y = y - 2 ^ wd.toNat := by unfold sv; rw [if_pos (by omega)]
      rw [sx, sy, decide_eq_true cx, decide_eq_false cy, if_pos (show (true != false) = true by decide), if_pos (show (true != false) = true by decide)]
      rw [if_pos (show x < y by omega), if_neg (show ¬ x < y - 2 ^ wd.toNat by omega), if_pos (show x < y by omega)]
  · have sx : sv wd x = x - 2 ^ wd.toNat := by unfold sv; rw [if_pos (by omega)]
    by_cases cy : y < 2 ^ (wd - 1).toNat
    · have sy : sv wd y = y := by unfold sv; rw [if_neg (by omega)]
      rw [sx, sy, decide_eq_false cx, decide_eq_true cy, if_pos (show (false != true) = true by decide), if_pos (show (false != true) = true by decide)]
      rw [if_neg (show ¬ x < y by omega), if_pos (show x - 2 ^ wd.toNat < y by omega), if_neg (show ¬ x < y by omega)]
    · have sy : sv wd y = y - 2 ^ wd.toNat := by unfold sv; rw [if_pos (by omega)]
      rw [sx, sy, decide_eq_false cx, decide_eq_false cy, if_neg (show ¬ ((false != false) = true) by decide), if_neg (show ¬ ((false != false) = true) by decide)]
      by_cases l : x < y
      · rw [if_pos l, if_pos (show x - 2 ^ wd.toNat < y - 2 ^ wd.toNat by omega), if_pos l]
      · rw [if_neg l, if_neg (show ¬ x - 2 ^ wd.toNat < y - 2 ^ wd.toNat by omega), if_neg l]
end BR

/-! ### own errors held as values: made by position and by keyword -/
namespace PySem
namespace BRX
open PySem.W PySem.Calls PyProof.Rows PySem.HandSPX
section
variable {M : Model} {prog : Program} {w : World} {A : Around} {E : Value → Shared → Prop} {R : Result → Shared → Prop} {h : Heap} {g : Array GenState} {d : Drawn} {t : Nat} {os : OsState}
variable {nm q : Str} {C N : Addr} {bs bm bmB : List Value} {hd0 : Bool} {sn : List Str} {sub : List Value} {ab : Bool} {col : Option Bool} {dd : Option Addr} {k0 k1 k2 k3 k5 : Option Value} {B newId initId : String} {kw : List (Str × Value)}
theorem check_newK (F : ExcBaseFacts B newId initId bmB) (hT : ∀ X : String, bm.contains (.type X) = bmB.contains (.type X)) {Q : Unit → Shared → Prop}
    (cl : h.get? C = some (excClassObj nm q C N bs bm hd0 sn sub ab col dd k0 k1 k2 k3 k5 newId)) (go : Q () ⟨h, g, d, t, os⟩) : wpAny M A (checkBuiltinCall newId ⟨[.ref C], kw⟩) Q E ⟨h, g, d, t, os⟩ := by
  have inB : (Value.ref C :: bm).contains (.type B) = true := by rw [List.contains_cons, hT, F.hasB, Bool.or_true]
  have star := F.noStar
  simp only [checkBuiltinCall, F.newKind, F.newSplit, F.newRow]
  repeat (first | refine wpAny_loadPart_at cl ?_ | (refine wpAny_isSubtype_exc cl ?_; rw [inB]) | refine wpAny_staticBase_exc cl ?_ | refine wpAny_madeBy_exc cl ?_ | simp only [bne_self_eq_false, Bool.false_eq_true, if_false] | wp_step)
  exact go
theorem newK (F : ExcBaseFacts B newId initId bmB) (hT : ∀ X : String, bm.contains (.type X) = bmB.contains (.type X))
    (cl : h.get? C = some (excClassObj nm q C N bs bm hd0 sn sub ab col dd k0 k1 k2 k3 k5 newId))
    (go : R (.ok (.ret (.ref (h.objs.size + 1)))) ⟨(h.push { cls := .type "tuple", data := .seq #[] }).push { cls := .ref C, data := .fields #[.ref h.objs.size, .none, .none, .none, .bool false, .none] }, g, d, t, os⟩) :
    codeAny (model prog w) A (.builtin newId ⟨[.ref C], kw⟩) R ⟨h, g, d, t, os⟩ := by
  have ends := F.ends
  have inB : (Value.ref C :: bm).contains (.type B) = true := by rw [List.contains_cons, hT, F.hasB, Bool.or_true]
  have inA : (Value.ref C :: bm).contains (.type "AttributeError") = false := by rw [List.contains_cons, hT, F.noAttr]; rfl
  have inN : (Value.ref C :: bm).contains (.type "NameError") = false := by rw [List.contains_cons, hT, F.noName]; rfl
  refine codeAny_builtinAt F.entry ?_
  unfold Builtin.«BaseException.__new__»
  refine wpAt_bind ?_
  show wpAt _ _ _ (stack >>= _) _ _ _
  refine wpAt_bind (wpAt_stack fun p below => wpAt_of_wpAny ?_)
  wp_walk
  refine wpAt_of_wpAny ?_
  rw [F.owner]
  repeat (first | with_reducible refine wpAny_madeHere_exc F.canon cl ?_ | with_reducible refine wpAny_loadPart_at cl ?_ | (with_reducible refine wpAny_isSubtype_exc cl ?_; first | rw [inB] | rw [inA] | rw [inN]) | wp_step)
  show R _ _
  rw [Heap.size_push]
  exact go
theorem type_callK (F : ExcBaseFacts B newId initId bmB) (hT : ∀ X : String, bm.contains (.type X) = bmB.contains (.type X)) {fI : Addr} {Q : Fin → Shared → Prop}
    (cl : h.get? C = some (excClassObj nm q C N bs bm hd0 sn sub ab col dd k0 k1 k2 k3 k5 newId))
    (li : W.Looks (model prog w) h (typeLookup (.ref C) "__init__") (some (.ref fI))) (lb : ∀ self, W.Looks (model prog w) h (bindSpecial (.ref fI) self) (.ref fI, [self]))
    (go : codeAny (model prog w) A (.call (.ref fI) ⟨[.ref (h.objs.size + 1)], kw⟩) (fun r s' => match r with | .ok (.ret v) => v = .none ∧ Q (.done (.ret (.ref (h.objs.size + 1)))) s' | .ok _ => False | .error e => E e s')
      ⟨(h.push (W.kdv_tup [])).push (excO C h.objs.size), g, d, t, os⟩) : wpAny (model prog w) A (Builtin.«type.__call__» ⟨[.ref C], kw⟩) Q E ⟨h, g, d, t, os⟩ := by
  repeat (first | with_reducible refine wpAny_loadPart_at cl ?_ | with_reducible refine wpAny_madeBy_exc cl ?_ | wp_step)
  refine codeAny_call_builtin_code (Code.quiet_builtin _ F.quiet) (check_newK F hT cl ?_)
  refine newK F hT cl ?_
  show wpAny _ _ _ _ _ _
  have kp : ∀ b o, h.get? b = some o → ((h.push (W.kdv_tup [])).push (excO C h.objs.size)).get? b = some o := fun b o e => Heap.get?_push_of_some _ (Heap.get?_push_of_some _ e)
  have cl1 := kp _ _ cl
  have new : ((h.push (W.kdv_tup [])).push (excO C h.objs.size)).get? (h.objs.size + 1) = some (excO C h.objs.size) := by heap_get
  have inC : (Value.ref C :: bm).contains (.ref C) = true := by simp
  have i1 := li.keeps kp
  have b1 := (lb (.ref (h.objs.size + 1))).keeps kp
  unfold isInstance
  repeat (first | with_reducible refine wpAny_loadPart_at new ?_ | (with_reducible refine wpAny_isSubtype_exc cl1 ?_; rw [inC]) | wp_step)
  show wpAny _ _ (typeLookup (.ref C) _) _ _ _
  refine i1.at ?_
  refine wpAny_holding (wpAny_bind (b1.at ?_))
  refine wpAny_bind (wpAny_call (codeAny_mono go fun r s' z => ?_))
  rcases r with e | (v | _ | _ | _) <;> first | exact z | exact z.elim | skip
  obtain ⟨rfl, z⟩ := z
  first
    | exact wpAny_pure (wpAny_pure z)
    | (wp_walk; exact z)
theorem call_ownK (F : ExcBaseFacts B newId initId bmB) (hT : ∀ X : String, bm.contains (.type X) = bmB.contains (.type X)) {fI : Addr}
    (cl : h.get? C = some (excClassObj nm q C N bs bm hd0 sn sub ab col dd k0 k1 k2 k3 k5 newId))
    (li : W.Looks (model prog w) h (typeLookup (.ref C) "__init__") (some (.ref fI))) (lb : ∀ self, W.Looks (model prog w) h (bindSpecial (.ref fI) self) (.ref fI, [self]))
    (go : codeAny (model prog w) (A.under (.builtin "type.__call__" ⟨[.ref C], kw⟩)) (.call (.ref fI) ⟨[.ref (h.objs.size + 1)], kw⟩) (W.InitBack (h.objs.size + 1) R) ⟨(h.push (W.kdv_tup [])).push (excO C h.objs.size), g, d, t, os⟩) :
    codeAny (model prog w) A (.call (.ref C) ⟨[], kw⟩) R ⟨h, g, d, t, os⟩ := by
  have f1 := tc_lookup
  have f2 := tc_bind (.ref C)
  have isTy : (⟨h, g, d, t, os⟩ : Shared).TypeIs (.ref C) "type" := ⟨_, cl, rfl⟩
  refine codeAny_of_tree ?_
  show wpAny _ _ (callAny (.ref C) _) _ _ _
  repeat (any_goals (first | assumption | with_reducible refine wpAny_loadPart_at cl ?_ | wp_step))
  refine ⟨rfl, ?_⟩
  refine codeAny_call_builtin_at (Code.quiet_builtin _ (by decide +kernel)) entry_typeCall (wpAny_check_type_call_sub cl (type_callK F hT cl li lb ?_))
  refine codeAny_mono go fun r s' z => ?_
  rcases r with e | (v | _ | _ | _) <;> exact z
end
end BRX
end PySem

namespace BR
open PySem PySem.Spec PyProof.Rows L2
/-! ### C(e), C(value = e): a new error, held as a value -/
def tOexV (C : Addr) (sp : Sp) (ta : TA) : TE := fun σ H Q => ta σ H fun vs H1 => vs.length ≤ 1000 ∧ ∀ e, H1 e = none → sp (.ref e :: vs) (L2.upd H1 e (exo e C none)) (fun v H2 => v = .non ∧ Q (.ref e) H2) fun _ _ _ => False
section
variable {X : Cx} {CX : CXT} {k : Nat} {fI C : Addr} {fd : FuncData} {ps : List Str} {sp : Sp} {x : Str} {p pos kpos : Pos} {e : Expr} {es : List Expr} {ta : TA} {te : TE}
theorem pe_oexV (T : OexC X.K C) (iC : PySem.W.findIn X.K (.ref C) "__init__" = some (some (.ref fI))) (tI : PySem.W.typeIn X.K (.ref fI) = some (.type "function"))
    (F1 : FnOk X.prog X.w X.K X.mg X.base CX k fI fd ps sp) (room : Room (k + 1) X.A) (b : Binds X.K fd ps []) (hx : Passes CX X (fun _ _ _ => False)) (hg : Gl X x) (hm : X.mg x = some (.ref C)) (args : PA X (e :: es) ta)
    (nodb : (x == ("__debug__" : Str)) = false := by decide) (st1 : starEach (e :: es) X.env = (false, eval e X.env) :: starEach es X.env := by rfl) (st2 : (backTo pos (starEach es X.env)).any (·.1) = false := by rfl) :
    PE X (.Call (.Name x p) (e :: es) [] pos) (tOexV C sp ta) := by
  refine ⟨fun pins s σ H Q I0 hh => ?_⟩
  obtain ⟨nm, q, N, bs, bm, sn, sub, ab, col, dd, k0, k1, k2, k3, k5, hC, hbm⟩ := T.cls
  refine wpAny_Call_Name_kw (ld_glob I0 hg hm ?_ nodb)
  refine PySem.W.callWith_K (h₀ := X.base) I0.ok.mod.kin T.kC (thn (args.run pos pins s σ H _ I0 hh) ?_) st1 st2
  rintro us s1 ⟨vs, H1, I1, r1, hz, q1⟩
  refine ⟨I1.kIn, ?_⟩
  show wpAny _ _ (call (.ref C) us) _ _ _
  obtain ⟨hp, g, dr, tk, os⟩ := s1
  have le1 : hp.objs.size ≤ hp.objs.size + 1 := Nat.le_succ _
  have free : H1 (hp.objs.size + 1) = none := I1.hok.fresh le1
  have hq := q1 (hp.objs.size + 1) free
  have kp : ∀ b o, hp.get? b = some o → ((hp.push (PySem.W.kdv_tup us)).push (PySem.HandSPX.excO C hp.objs.size)).get? b = some o := fun b o z => Heap.get?_push_of_some _ (Heap.get?_push_of_some _ z)
  have new : ((hp.push (PySem.W.kdv_tup us)).push (PySem.HandSPX.excO C hp.objs.size)).get? (hp.objs.size + 1) = some (PySem.HandSPX.excO C hp.objs.size) := by heap_get
  have I2 := I1.laid (t' := tk) (a := hp.objs.size + 1) (o := exo (hp.objs.size + 1) C none) kp le1 (exo_ok new)
  have r2 : Vals (V.ref (hp.objs.size + 1) :: vs) (Value.ref (hp.objs.size + 1) :: us) := .cons rfl r1
  have hl : (Value.ref (hp.objs.size + 1) :: us).length = ps.length := r2.length.symm.trans (F1.len _ _ _ _ hq)
  have lus : us.length ≤ sizeLine := by
    rw [← Paired.length r1, sizeLine_eq]
    omega
  have bd := b _ (Value.ref (hp.objs.size + 1) :: us) I2.kIn (by rw [List.append_nil]; exact hl)
  rw [List.append_nil] at bd
  refine wpAny_call (PySem.HandSPX.call_own F.excBase_ValueError (fun Y => PySem.HandSPX.refsVE_contains Y bm hbm) (I1.kIn _ _ hC) (PySem.W.looks_findIn I1.kIn iC) (fun self => PySem.W.bind_fn I1.kIn self tI) lus ?_)
  refine codeAny_mono (F1.run _ X.stack _ _ ⟨Value.ref (hp.objs.size + 1) :: us, []⟩ (Value.ref (hp.objs.size + 1) :: us) _ _ (fun _ _ _ => False) (room.make C us []) (I2.env0.make C us []) bd r2 hq) fun r s' hq' => ?_
  cases r with
  | error er => exact hx pins σ _ _ er s' I2 hq'
  | ok flw =>
    cases flw with
    | ret u =>
      obtain ⟨v, H2, I3, rv, ev, q2⟩ := I2.after hq'
      subst ev
      exact ⟨rv, ⟨.ref (hp.objs.size + 1), H2, I3, rfl, q2⟩⟩
    | next => exact hq'.elim
    | brk => exact hq'.elim
    | cont => exact hq'.elim
theorem pe_oexK {nk : Str} (T : OexC X.K C) (iC : PySem.W.findIn X.K (.ref C) "__init__" = some (some (.ref fI))) (tI : PySem.W.typeIn X.K (.ref fI) = some (.type "function"))
    (F1 : FnOk X.prog X.w X.K X.mg X.base CX k fI fd ps sp) (room : Room (k + 1) X.A) (b : ∀ (s : Shared) (u v : Value), BindsTo s fd ⟨[u], [(nk, v)]⟩ (ps.zip [u, v])) (l2 : ps.length = 2) (hx : Passes CX X (fun _ _ _ => False)) (hg : Gl X x) (hm : X.mg x = some (.ref C)) (he : PE X e te)
    (all1 : (backToKw pos (keywordEach [⟨some nk, e, kpos⟩] X.env)).all (·.1.isSome) = true := by rfl) (nms : (backToKw pos (keywordEach [⟨some nk, e, kpos⟩] X.env)).filterMap (·.1) = [nk] := by rfl)
    (nodb : (x == ("__debug__" : Str)) = false := by decide) (pl : ((backTo pos (starEach [] X.env)).any (·.1) || (backToKw pos (keywordEach [⟨some nk, e, kpos⟩] X.env)).any (·.1.isNone)) = false := by rfl) :
    PE X (.Call (.Name x p) [] [⟨some nk, e, kpos⟩] pos) (tOexV C sp (tCons te tNil)) := by
  refine ⟨fun pins s σ H Q I0 hh => ?_⟩
  obtain ⟨nm, q, N, bs, bm, sn, sub, ab, col, dd, k0, k1, k2, k3, k5, hC, hbm⟩ := T.cls
  refine wpAny_Call_Name_kw (ld_glob I0 hg hm ?_ nodb)
  refine PySem.W.callWith_KW0 (h₀ := X.base) I0.ok.mod.kin T.kC all1 (thn ((pk_cons he pk_nil).run pos pins s σ H _ I0 hh) ?_) pl
  rintro us s1 ⟨vs, H1, I1, r1, hz, q1⟩
  refine ⟨I1.kIn, ?_⟩
  rw [nms]
  obtain ⟨hp, g, dr, tk, os⟩ := s1
  have le1 : hp.objs.size ≤ hp.objs.size + 1 := Nat.le_succ _
  have free : H1 (hp.objs.size + 1) = none := I1.hok.fresh le1
  have hq := q1 (hp.objs.size + 1) free
  have hlv : vs.length + 1 = 2 := by
    have z := F1.len _ _ _ _ hq
    rw [l2] at z
    exact z
  obtain ⟨v1, rfl⟩ : ∃ v1, vs = [v1] := by
    match vs, hlv with
    | [v1], _ => exact ⟨v1, rfl⟩
  cases r1 with
  | @cons _ u1 _ _ ru rr =>
  cases rr
  show wpAny _ _ (call (.ref C) [] [(nk, u1)]) _ _ _
  have kp : ∀ b o, hp.get? b = some o → ((hp.push (PySem.W.kdv_tup [])).push (PySem.HandSPX.excO C hp.objs.size)).get? b = some o := fun b o z => Heap.get?_push_of_some _ (Heap.get?_push_of_some _ z)
  have new : ((hp.push (PySem.W.kdv_tup [])).push (PySem.HandSPX.excO C hp.objs.size)).get? (hp.objs.size + 1) = some (PySem.HandSPX.excO C hp.objs.size) := by heap_get
  have I2 := I1.laid (t' := tk) (a := hp.objs.size + 1) (o := exo (hp.objs.size + 1) C none) kp le1 (exo_ok new)
  have r2 : Vals [V.ref (hp.objs.size + 1), v1] [Value.ref (hp.objs.size + 1), u1] := .cons rfl (.cons ru .nil)
  refine wpAny_call (PySem.BRX.call_ownK F.excBase_ValueError (fun Y => PySem.HandSPX.refsVE_contains Y bm hbm) (I1.kIn _ _ hC) (PySem.W.looks_findIn I1.kIn iC) (fun self => PySem.W.bind_fn I1.kIn self tI) ?_)
  refine codeAny_mono (F1.run _ X.stack _ _ ⟨[Value.ref (hp.objs.size + 1)], [(nk, u1)]⟩ [Value.ref (hp.objs.size + 1), u1] _ _ (fun _ _ _ => False) (room.make C [] [(nk, u1)]) (I2.env0.make C [] [(nk, u1)]) (b _ _ _) r2 hq) fun r s' hq' => ?_
  cases r with
  | error er => exact hx pins σ _ _ er s' I2 hq'
  | ok flw =>
    cases flw with
    | ret u =>
      obtain ⟨v, H2, I3, rv, ev, q2⟩ := I2.after hq'
      subst ev
      exact ⟨rv, ⟨.ref (hp.objs.size + 1), H2, I3, rfl, q2⟩⟩
    | next => exact hq'.elim
    | brk => exact hq'.elim
    | cont => exact hq'.elim
end
/-! ### e.value -/
/-- an error of the class at C stands at a; its one field f holds v -/
def ErrAt (H : Hp) (a C : Addr) (f : Str) (v : V) : Prop := ∃ d, H a = some (exo a C (some d)) ∧ H d = some (exd d [(f, v)])
theorem ErrAt.same {H H' : Hp} {a C : Addr} {f : Str} {v : V} (h : ErrAt H a C f v) (s : Same H H') : ErrAt H' a C f v := by
  obtain ⟨d, h1, h2⟩ := h
  exact ⟨d, s _ _ h1, s _ _ h2⟩
def tErrF (K : PySem.W.Frag) (f : Str) (te : TE) : TE := fun σ H Q => te σ H fun x H1 => ∃ a C v, x = .ref a ∧ ErrAt H1 a C f v ∧ XfC K C ∧ PySem.W.findIn K (.ref C) f = some none ∧ Q v H1
theorem err_inst {X : Cx} {pins : List (Addr × Obj)} {σ : L2.St} {H : Hp} {s : Shared} {a C : Addr} {f : Str} {v : V} (I : Inv X pins σ H s) (h : ErrAt H a C f v) :
    ∃ (ox od : Obj) (u : Value), PySem.W.InstAt s.heap a ox C (some od) ∧ RelV v u ∧ PySem.W.lookIn f od = some (some u) := by
  obtain ⟨d, h1, h2⟩ := h
  obtain ⟨t1, e1⟩ := exo_at I.hok h1
  obtain ⟨mA, hns, hr⟩ := exd_at I.hok h2
  obtain ⟨od, ho, hl⟩ := lookIn_ns hns
  have l : List.lookup f [(f, v)] = some v := by simp [List.lookup]
  obtain ⟨u, hu, ru⟩ := RelO.some_of (v := v) (o := mA f) (by rw [← l]; exact hr f)
  exact ⟨_, od, u, ⟨e1, rfl, rfl, ho⟩, ru, by rw [hl, hu]⟩
theorem pe_errF {X : Cx} {e : Expr} {te : TE} {pos : Pos} {n : Str} (he : PE X e te) (hb : attributeBase e n X.env (eval e X.env) = eval e X.env := by rfl) : PE X (.Attribute e n pos) (tErrF X.K n te) := by
  refine ⟨fun pins s σ H Q I h => ?_⟩
  refine attr_of hb (thn (he.run pins s σ H _ I h) fun u s1 hh => ?_)
  obtain ⟨x, H1, I1, rx, a, C, v, rfl, ea, T, no, q⟩ := hh
  obtain rfl : u = Value.ref a := rx
  obtain ⟨ox, od, u, J, ru, hl⟩ := err_inst I1 ea
  exact HandSPX.exc_get I1.kIn J T.ga T.gg T.exC (PySem.W.findObj_own T.hdC no rfl hl) (handed_of ru) ⟨v, H1, I1.tok _, ru, q⟩
/-! ### isinstance(e, c), e such an error -/
def rIsErr (K : PySem.W.Frag) : List V → Hp → VK → Prop := fun xs H Q => ∃ a C f v c u b, xs = [.ref a, c] ∧ ErrAt H a C f v ∧ ExcC K C ∧ ClsV c u ∧ PySem.W.kitOne K (.ref C) u = some b ∧ Q (.bl b) H
theorem call_isErr {X : Cx} : CallR X (.builtin "isinstance") (rIsErr X.K) := by
  rintro pins s σ H xs us Q I r ⟨a, C, f, v, c, u, b, rfl, ea, T, kc, ek, q⟩
  obtain ⟨u1, u2, rfl, r1, r2⟩ := vals2 r
  obtain rfl : u1 = Value.ref a := r1
  have e2 := kc.eq r2
  subst e2
  obtain ⟨ox, od, w, J, _, _⟩ := err_inst I ea
  have hcl : (PySem.W.clsIn X.K C).isSome = true := by
    have := T.hd
    unfold PySem.W.hasDictIn at this
    cases z : PySem.W.clsIn X.K C with
    | none => rw [z] at this; exact absurd this (by decide)
    | some y => rfl
  exact PySem.W.kia_one (PySem.W.kitx_exc hcl T.hg T.hk T.hs T.ha T.hn T.ht T.hm) I.kIn J ek (fun z => nomatch z) fun tk => ⟨.bl b, H, I.kept (t' := tk) fun _ _ z => z, rfl, q⟩
def rIsExO (K : PySem.W.Frag) : List V → Hp → VK → Prop := fun xs H Q => ∃ a C c u b, xs = [.ref a, c] ∧ H a = some (ExO (.ref C) a) ∧ ExcC K C ∧ ClsV c u ∧ PySem.W.kitOne K (.ref C) u = some b ∧ Q (.bl b) H
/-- either kind -/
def rIsX (K : PySem.W.Frag) : List V → Hp → VK → Prop := fun xs H Q => rIsErr K xs H Q ∨ rIsExO K xs H Q
theorem call_isX {X : Cx} : CallR X (.builtin "isinstance") (rIsX X.K) := by
  rintro pins s σ H xs us Q I r (h | ⟨a, C, c, u, b, rfl, ea, T, kc, ek, q⟩)
  · exact call_isErr pins s σ H xs us Q I r h
  obtain ⟨u1, u2, rfl, r1, r2⟩ := vals2 r
  obtain rfl : u1 = Value.ref a := r1
  have e2 := kc.eq r2
  subst e2
  obtain ⟨⟨oe, vs, ho, hz, hd, _⟩, _, _⟩ := I.hok a _ ea
  have J : PySem.W.InstAt s.heap a oe C none := by
    obtain ⟨oc, od, oda, osl⟩ := oe
    obtain ⟨h1, h2⟩ := hz
    dsimp only at h1 h2 hd
    subst h1 h2 hd
    exact ⟨ho, rfl, rfl, trivial⟩
  exact PySem.W.kia_one (PySem.W.handS_kitx_exc T.hg T.hk T.hs T.hd T.ha T.hn T.ht T.hm) I.kIn J ek (fun z => nomatch z) fun tk => ⟨.bl b, H, I.kept (t' := tk) fun _ _ z => z, rfl, q⟩
/-! ### repr of None, a text, an int, or data -/
def rReprA (K : PySem.W.Frag) : List V → Hp → VK → Prop := fun xs H Q => ∃ x d, xs = [x] ∧ Dp K H x d ∧ d.showable = true ∧ d.hasDict = false ∧ d.depth ≤ 60 ∧ d.shown.length ≤ sizeLine ∧ Q (.str d.shown) H
theorem call_reprA {X : Cx} (gg : X.A.guards = some []) (hu : X.A.units + 64 < cLine) : CallR X (.builtin "repr") (rReprA X.K) := by
  rintro pins s σ H xs us Q I r ⟨x, d, rfl, hd, h1, h2, h3, h4, q⟩
  obtain ⟨u, rfl, ru⟩ := vals1 r
  cases hd with
  | non =>
    obtain rfl : u = Value.none := ru
    exact PySem.P.repr_of_none ⟨.str _, H, I.tok _, ⟨_, rfl⟩, q⟩
  | bl b =>
    obtain rfl : u = Value.bool b := ru
    exact PySem.P.repr_of_bool ⟨.str _, H, I.tok _, ⟨_, rfl⟩, q⟩
  | int i =>
    obtain ⟨t, rfl⟩ := ru
    exact PySem.P.repr_of_int (of_decide_eq_true h1) ⟨.str _, H, I.tok _, ⟨_, rfl⟩, q⟩
  | str y =>
    obtain ⟨t, rfl⟩ := ru
    exact PySem.P.repr_of_str ⟨.str _, H, I.tok _, ⟨_, rfl⟩, q⟩ h4
  | lst hs ha => exact call_reprD gg hu pins s σ H _ _ Q I r ⟨_, _, rfl, .lst hs ha, h1, h2, h3, h4, q⟩
  | tup hs ha => exact call_reprD gg hu pins s σ H _ _ Q I r ⟨_, _, rfl, .tup hs ha, h1, h2, h3, h4, q⟩
end BR

namespace BR
open PySem PySem.Spec PyProof.Rows L2
/-- what the top says of an error class whose __init__ stores value -/
structure ErrTxt (K : PySem.W.Frag) (C fI : Addr) : Prop where
  ox : OexC K C
  ec : ExcC K C
  no : PySem.W.findIn K (.ref C) "value" = some none
  ii : PySem.W.findIn K (.ref C) "__init__" = some (some (.ref fI))
  ti : PySem.W.typeIn K (.ref fI) = some (.type "function")
theorem xf_of {K : PySem.W.Frag} {C : Addr} (e : ExcC K C) : XfC K C := ⟨e.hg, e.hk, e.hs, e.hd⟩
def sp_err (C : Addr) : Sp := fun vs H Q _ => ∃ (a : Addr) (v : V), vs = [.ref a, v] ∧ H a = some (exo a C none) ∧ ∀ d, H d = none → d ≠ a → Q .non (L2.upd (L2.upd H d (exd d [("value", v)])) a (exo a C (some d)))
theorem oex_var {C : Addr} {i : Nat} {v : V} {σ : L2.St} {H : Hp} {Q : VK} (hv : σ[i]? = some (some v)) (k : ∀ e H', H e = none → Same H H' → ErrAt H' e C "value" v → Q (.ref e) H') : tOexV C (sp_err C) (tCons (tVar i) tNil) σ H Q := by
  refine ⟨v, hv, (by show 1 ≤ 1000; decide), fun e he => ⟨e, v, rfl, upd_same, fun d hd ne => ⟨rfl, ?_⟩⟩⟩
  rw [upd_ne ne] at hd
  refine k e _ he (fun b o z => ?_) ⟨d, upd_same, ?_⟩
  · rw [upd_ne (ne_of_none z he), upd_ne (ne_of_none z hd), upd_ne (ne_of_none z he)]
    exact z
  · rw [upd_ne ne, upd_same]
/-- two errors of the class at C in a tuple at t -/
def PairAt (H : Hp) (t C : Addr) (v : V) : Prop := ∃ e1 e2, H t = some (.tup [.ref e1, .ref e2]) ∧ ErrAt H e1 C "value" v ∧ ErrAt H e2 C "value" v
theorem PairAt.same {H H' : Hp} {t C : Addr} {v : V} (h : PairAt H t C v) (s : Same H H') : PairAt H' t C v := by
  obtain ⟨e1, e2, h1, h2, h3⟩ := h
  exact ⟨e1, e2, s _ _ h1, h2.same s, h3.same s⟩
theorem ErrAt.but {H H' : Hp} {a C l : Addr} {f : Str} {v : V} {xs : List V} (h : ErrAt H a C f v) (hl : H l = some (.lst xs)) (s : But l H H') : ErrAt H' a C f v := by
  obtain ⟨d, h1, h2⟩ := h
  refine ⟨d, s _ _ (fun z => ?_) h1, s _ _ (fun z => ?_) h2⟩
  · rw [z, hl] at h1
    cases (show HO.lst xs = HO.ext _ from Option.some.inj h1)
  · rw [z, hl] at h2
    cases (show HO.lst xs = HO.ext _ from Option.some.inj h2)
theorem PairAt.but {H H' : Hp} {t C l : Addr} {v : V} {xs : List V} (h : PairAt H t C v) (hl : H l = some (.lst xs)) (s : But l H H') : PairAt H' t C v := by
  obtain ⟨e1, e2, h1, h2, h3⟩ := h
  refine ⟨e1, e2, s _ _ (fun z => ?_) h1, h2.but hl s, h3.but hl s⟩
  rw [z, hl] at h1
  cases h1
theorem rdTup {ta : TA} {σ : L2.St} {H : Hp} {Q : VK} (h : ta σ H fun xs H1 => xs.length ≤ sizeLine ∧ ∀ p, H1 p = none → Q (.ref p) (L2.upd H1 p (.tup xs))) : tTup ta σ H Q := h
theorem rdLst {ta : TA} {σ : L2.St} {H : Hp} {Q : VK} (h : ta σ H fun xs H1 => xs.length ≤ sizeLine ∧ ∀ p, H1 p = none → Q (.ref p) (L2.upd H1 p (.lst xs))) : tLst ta σ H Q := h
theorem rdCons {te : TE} {t : TA} {σ : L2.St} {H : Hp} {Q : List V → Hp → Prop} (h : te σ H fun x H1 => t σ H1 fun xs H2 => Q (x :: xs) H2) : tCons te t σ H Q := h
theorem rdSeq {t u : TS} {D : Ends} {σ : L2.St} {H : Hp} (h : t { D with nx := u D } σ H) : tSeq t u D σ H := h
theorem rdAsg {te : TE} {i : Nat} {D : Ends} {σ : L2.St} {H : Hp} (h : te σ H fun v H1 => D.nx (σ.set i (some v)) H1) : tAsg te (gName i) D σ H := h
theorem rdNil {σ : L2.St} {H : Hp} {Q : List V → Hp → Prop} (h : Q [] H) : tNil σ H Q := h
abbrev tPairE (C : Addr) : TE := tTup (tCons (tOexV C (sp_err C) (tCons (tVar 0) tNil)) (tCons (tOexV C (sp_err C) (tCons (tVar 0) tNil)) tNil))
theorem pair_made {C : Addr} {v : V} {σ : L2.St} {H : Hp} {Q : VK} (hv : σ[0]? = some (some v)) (k : ∀ t H', H t = none → Same H H' → PairAt H' t C v → Q (.ref t) H') : tPairE C σ H Q := by
  refine rdTup (rdCons (oex_var hv fun e1 H1 f1 s1 r1 => rdCons (oex_var hv fun e2 H2 f2 s2 r2 => rdNil ?_)))
  refine ⟨(by show 2 ≤ sizeLine; decide), fun t ht => ?_⟩
  have s3 := sameNew ht (o := .tup [.ref e1, .ref e2])
  exact k t _ ((s1.trans s2).free ht) (s1.trans (s2.trans s3)) ⟨e1, e2, upd_same, r1.same (s2.trans s3), r2.same s3⟩
/-- the list at l: a pair of errors for each class -/
def MadeAt (H : Hp) (l : Addr) (Cs : List Addr) (v : V) : Prop := ∃ ts : List Addr, H l = some (.lst (ts.map V.ref)) ∧ ts.length = Cs.length ∧ ∀ (j : Nat) (t C : Addr), ts[j]? = some t → Cs[j]? = some C → PairAt H t C v
theorem app_pair {K : PySem.W.Frag} {C l : Addr} {Cs : List Addr} {v : V} {σ : L2.St} {H : Hp} {D : Ends} (hv : σ[0]? = some (some v)) (hl : σ[1]? = some (some (.ref l))) (m : MadeAt H l Cs v) (hz : Cs.length ≤ 100)
    (k : ∀ H', But l H H' → MadeAt H' l (Cs ++ [C]) v → D.nx σ H') : tDrop (tBM K "list" rAppend (tVar 1) (tCons (tPairE C) tNil)) D σ H := by
  obtain ⟨ts, h1, h2, h3⟩ := m
  refine ⟨_, hl, .inl ⟨rfl, _, SqL.of h1⟩, ?_⟩
  refine rdCons (pair_made hv fun t H1 ht s1 p => rdNil ?_)
  have h1' := s1 _ _ h1
  refine ⟨l, _, _, rfl, rfl, h1', small1000 (by rw [List.length_map]; omega), ?_⟩
  have b : But l H1 (L2.upd H1 l (.lst (ts.map V.ref ++ [V.ref t]))) := But.upd
  refine k _ ((But.of s1).trans b) ⟨ts ++ [t], ?_, by rw [List.length_append, List.length_append, h2]; rfl, fun j u C' hj hC => ?_⟩
  · rw [upd_same, List.map_append]
    rfl
  · by_cases hjl : j < ts.length
    · rw [List.getElem?_append_left hjl] at hj
      rw [List.getElem?_append_left (by omega)] at hC
      exact ((h3 j u C' hj hC).same s1).but h1' b
    · rw [List.getElem?_append_right (by omega)] at hj hC
      have e : j - ts.length = 0 := by
        have := (List.getElem?_eq_some_iff.mp hj).1
        simp at this
        omega
      rw [e] at hj
      rw [show j - Cs.length = 0 by omega] at hC
      cases hj
      cases hC
      exact p.but h1' b
/-! ### isinstance, class by class -/
def kitTab (K : PySem.W.Frag) (Cs : List Addr) (B : Addr) : Bool :=
  (Cs.zipIdx.all fun p => Cs.zipIdx.all fun q => decide (PySem.W.kitOne K (.ref p.1) (.ref q.1) = some (decide (p.2 = q.2)))) &&
    Cs.all fun c => decide (PySem.W.kitOne K (.ref c) (.ref B) = some true) && decide (PySem.W.kitOne K (.ref c) (.type "ValueError") = some true) && decide (PySem.W.kitOne K (.ref B) (.ref c) = some false)
section
variable {K : PySem.W.Frag} {Cs : List Addr} {B : Addr}
theorem kit_ij (h : kitTab K Cs B = true) {i j : Nat} {c d : Addr} (hi : Cs[i]? = some c) (hj : Cs[j]? = some d) : PySem.W.kitOne K (.ref c) (.ref d) = some (decide (i = j)) := by
  have h1 := (Bool.and_eq_true_iff.mp h).1
  have h2 := List.all_eq_true.mp h1 (c, i) (List.mk_mem_zipIdx_iff_getElem?.mpr hi)
  have h3 := List.all_eq_true.mp h2 (d, j) (List.mk_mem_zipIdx_iff_getElem?.mpr hj)
  exact of_decide_eq_true h3
theorem kit_b (h : kitTab K Cs B = true) {i : Nat} {c : Addr} (hi : Cs[i]? = some c) : PySem.W.kitOne K (.ref c) (.ref B) = some true ∧ PySem.W.kitOne K (.ref c) (.type "ValueError") = some true ∧ PySem.W.kitOne K (.ref B) (.ref c) = some false := by
  have h1 := (Bool.and_eq_true_iff.mp h).2
  have h2 := List.all_eq_true.mp h1 c (List.mem_of_getElem? hi)
  have h3 := Bool.and_eq_true_iff.mp h2
  have h4 := Bool.and_eq_true_iff.mp h3.1
  exact ⟨of_decide_eq_true h4.1, of_decide_eq_true h4.2, of_decide_eq_true h3.2⟩
end
/-! ### lists of bools -/
theorem bls_all {K : PySem.W.Frag} {H : Hp} : ∀ bs : List Bool, DpAll K H (bs.map V.bl) (bs.map PyData.bool)
  | [] => .nil
  | b :: r => .cons (.bl b) (bls_all r)
theorem bls_lay : ∀ bs : List Bool, PyData.canLayAll0 (bs.map PyData.bool) = true ∧ PyData.depthAll (bs.map PyData.bool) = 0
  | [] => ⟨rfl, rfl⟩
  | b :: r => by
    obtain ⟨h1, h2⟩ := bls_lay r
    refine ⟨?_, ?_⟩
    · show (PyData.canLay0 (.bool b) && PyData.canLayAll0 (r.map PyData.bool)) = true
      rw [h1]
      rfl
    · show max (PyData.depth (.bool b)) (PyData.depthAll (r.map PyData.bool)) = 0
      rw [h2]
      rfl
theorem bls_shaped (bs : List Bool) : SeqAt.shaped (.list (bs.map PyData.bool)) = true := by
  obtain ⟨h1, h2⟩ := bls_lay bs
  unfold SeqAt.shaped
  show (PyData.canLayAll0 (bs.map PyData.bool) && decide (PyData.depthAll (bs.map PyData.bool) + 1 ≤ 64)) = true
  rw [h1, h2]
  rfl
theorem eqv_bls (bs : List Bool) : PyData.eqv (.list (bs.map PyData.bool)) (.list (bs.map PyData.bool)) = true := SeqAt.eqv_refl _ (SeqAt.canLay_of_shaped (bls_shaped bs))
theorem seq0 {n : Nat} (h : 0 < n) : seqIndex? 0 n = some 0 := by
  unfold seqIndex?
  simp
  omega
/-- [e for x in range(15)] and its like: bools -/
theorem lc_bools {n : Nat} {j : Nat} {te : TE} {vs : List Nat} {σ : L2.St} {H1 : Hp} {D : Addr} {Qd : Hp → Prop} (f : Nat → Bool) (hz : n ≤ 1000) (hD : H1 D = none)
    (hw : ∀ x : V, wipe ((wipe σ vs).set j (some x)) vs = wipe σ vs)
    (he : ∀ (i : Nat) (H2 : Hp) (Q : VK), Same H1 H2 → (∀ H3, Same H2 H3 → Q (.bl (f i)) H3) → te ((wipe σ vs).set j (some (.int (0 + (i : Nat))))) H2 Q)
    (hd : ∀ H, Same H1 H → H D = some (.lst (((List.range n).map f).map V.bl)) → Qd H) :
    ∃ W : Nat → Nat → Hp → Prop, (∃ m, W 0 m (L2.upd H1 D (.lst []))) ∧ ∀ i m H, W i m H →
      ((Itr 0 n).stop i H ∧ Qd H) ∨ ((Itr 0 n).go i H ∧ ∃ Nx : Hp → Prop, (∀ H', Nx H' → ∃ m', m' < m ∧ W (i + 1) m' H') ∧ ∀ x H', (Itr 0 n).yld i H x H' → gName j x (wipe σ vs) H' fun σ2 H2 => wipe σ2 vs = wipe σ vs ∧ tYes σ2 H2 fun b H3 =>
        if b = true then te σ2 H3 fun y H4 => ∃ acc, H4 D = some (.lst acc) ∧ acc.length < sizeLine ∧ Nx (L2.upd H4 D (.lst (acc ++ [y]))) else Nx H3) := by
  refine lc_range (lo := 0) (n := n) (fun i H => Same H1 H ∧ H D = some (.lst (((List.range i).map f).map V.bl)) ∧ i ≤ n) ⟨sameNew hD, upd_same, Nat.zero_le _⟩ ?_ (fun H p => hd H p.1 p.2.1)
  rintro i H hi ⟨s, hH, _⟩
  refine ⟨hw _, ?_⟩
  show te ((wipe σ vs).set j (some (.int (0 + (i : Nat))))) H _
  refine he i H _ s fun H3 s3 => ?_
  refine ⟨_, s3 _ _ hH, small1000 (by rw [List.length_map, List.length_map, List.length_range]; omega), fun b o e => ?_, ?_, hi⟩
  · rw [upd_ne (ne_of_none e hD)]
    exact s3 _ _ (s _ _ e)
  · rw [upd_same, List.range_succ, List.map_append, List.map_append]
    rfl
/-- what is handed to the errors -/
structure Shows (K : PySem.W.Frag) (H : Hp) (v : V) (d : PyData) : Prop where
  dp : ∀ H', Same H H' → Dp K H' v d
  o1 : d.showable = true
  o2 : d.hasDict = false
  o3 : d.depth ≤ 60
  o4 : d.shown.length ≤ sizeLine
/-! ### the bag -/
abbrev bagK (l : Addr) (left turn blend : Int) : List (Key × V) := [(.inr "great", .ref l), (.inr "left", .int left), (.inr "turn", .int turn), (.inr "blend", .int blend)]
theorem bag_left (l : Addr) (a b c : Int) : valV (bagK l a b c) (.inr "left" : Key) = some (.int a) := rfl
theorem bag_great (l : Addr) (a b c : Int) : valV (bagK l a b c) (.inr "great" : Key) = some (.ref l) := rfl
theorem bag_turn (l : Addr) (a b c : Int) : valV (bagK l a b c) (.inr "turn" : Key) = some (.int b) := rfl
theorem bag_blend (l : Addr) (a b c : Int) : valV (bagK l a b c) (.inr "blend" : Key) = some (.int c) := rfl
theorem bag_put_left (l : Addr) (a b c z : Int) : putK (bagK l a b c) (.inr "left" : Key) (.int z) = bagK l z b c := rfl
theorem bag_put_turn (l : Addr) (a b c z : Int) : putK (bagK l a b c) (.inr "turn" : Key) (.int z) = bagK l a z c := rfl
theorem bag_merge (l : Addr) (a b c : Int) : mergeK [] (bagK l a b c) = bagK l a b c := rfl
end BR

/-! ### try: .. except x as n: suite, where the error is kept behind the suite -/
namespace BR
open PySem PySem.Spec PyProof.Rows L2
/-- an error of the class cls, its dict at d, stands at a -/
def exk (a : Addr) (cls : Value) (d : Option Addr) : HO := .ext fun h => ∃ (oe : Obj) (vs : Array Value), h.get? a = some oe ∧ Zc cls d oe ∧ oe.data = .fields vs
theorem exk_ok {P : Program} {w : World} {H : Hp} {h : Heap} {a : Addr} {cls : Value} {d : Option Addr} {oe : Obj} {vs : Array Value} (e : h.get? a = some oe) (z : Zc cls d oe) (dd : oe.data = .fields vs) : ObjOk P w H h a (exk a cls d) :=
  ⟨⟨oe, vs, e, z, dd⟩, ⟨oe, e⟩, fun h1 h2 q k => by
    obtain ⟨o1, v1, q1, q2, q3⟩ := q
    exact ⟨o1, v1, k _ q1, q2, q3⟩⟩
section
variable {X : Cx} {pins : List (Addr × Obj)} {σ : L2.St} {H : Hp} {s : Shared} {a : Addr} {o : Obj} {ob : HO}
/-- what is pinned becomes a thing of the abstract heap -/
theorem inv_track (I : Inv X ((a, o) :: pins) σ H s) (new : X.s_0.heap.get? a = none) (apart : ∀ p ∈ X.pn ++ pins, p.1 ≠ a) (is : ObjOk X.prog X.w (L2.upd H a ob) s.heap a ob) : Inv X pins σ (L2.upd H a ob) s := by
  obtain ⟨ha, hn, nL, nF, nc⟩ := I.pin (a, o) (List.mem_append_right _ List.mem_cons_self)
  have old : ∀ {b : Addr} {u : Obj}, X.s_0.heap.get? b = some u → b ≠ a := fun {b u} q e => by
    rw [e, new] at q
    cases q
  refine ⟨I.ok, I.os, I.bare, { keep := I.base.keep, slot := I.base.slot, there := I.base.there, free := fun b u q n x => ?_, tups := fun b xs q => ?_, frzs := fun b u v q => ?_, tbls := fun b ps q => ?_ }, I.loc, I.cell, ?_, fun x c q => ?_, fun p hp => ?_, fun b u q => ?_, I.len⟩
  · rw [upd_ne (old q)]
    exact I.base.free b u q n x
  · have z := I.base.tups b xs q
    rw [upd_ne (ne_of_none z hn)]
    exact z
  · have z := I.base.frzs b u v q
    rw [upd_ne (ne_of_none z hn)]
    exact z
  · obtain ⟨m, z⟩ := I.base.tbls b ps q
    exact ⟨m, by rw [upd_ne (ne_of_none z hn)]; exact z⟩
  · rw [upd_ne (Ne.symm nL)]
    exact I.free
  · obtain ⟨v, u, q1, q2⟩ := I.cell x c q
    have ca : c ≠ a := fun e => by
      rw [e] at q1
      rw [ha] at q1
      cases q1
      exact nc v q2
    rw [upd_ne ca]
    exact I.freeC x c q
  · have ne := apart p hp
    have mem : p ∈ X.pn ++ (a, o) :: pins := by
      rcases List.mem_append.mp hp with z | z
      · exact List.mem_append_left _ z
      · exact List.mem_append_right _ (List.mem_cons_of_mem _ z)
    obtain ⟨y1, y2, y3, y4, y5⟩ := I.pin p mem
    exact ⟨y1, by rw [upd_ne ne]; exact y2, y3, y4, y5⟩
  · by_cases e : b = a
    · subst e
      rw [upd_same] at q
      cases q
      exact is
    · rw [upd_ne e] at q
      exact (I.hok b u q).stay (fun c v _ y => y) (fun c y => by rw [upd_ne (ne_of_none y hn)]; exact y) fun c xs y => by rw [upd_ne (ne_of_none y hn)]; exact y
/-- behind the suite: the error is a pin of the frame's own -/
theorem inv_outSuite (I : Inv (X.suite a ((a, o) :: (X.pn ++ pins))) [] σ H s) (ok : X.Ok) : Inv X ((a, o) :: pins) σ H s :=
  ⟨ok, I.os, I.bare, I.base, I.loc, I.cell, I.free, I.freeC, fun p hp => I.pin p (by
    refine List.mem_append_left _ ?_
    rcases List.mem_append.mp hp with z | z
    · exact List.mem_cons_of_mem _ (List.mem_append_left _ z)
    · rcases List.mem_cons.mp z with z | z
      · rw [z]
        exact List.mem_cons_self
      · exact List.mem_cons_of_mem _ (List.mem_append_right _ z)), I.hok, I.len⟩
end
/-- what is wished of an error that the body lets out -/
def wKept (K : PySem.W.Frag) (c : Value) (i : Nat) (ts : Addr → Value → Option Addr → TS) (D : Ends) : WX := fun cls d σ H =>
  PySem.W.exmOne K cls c = some true ∧ ∀ a, H a = none → ts a cls d { nx := fun σ1 H1 => H1 a = none → D.nx (σ1.set i none) (L2.upd H1 a (exk a cls d)), rt := fun _ _ => False } (σ.set i (some (.ref a))) H
section
variable {X : Cx} {x n : Str} {c : Value} {i : Nat} {body suite : List Stmt} {st0 : Stmt} {np pos hpos : Pos} {tb : WX → TS} {ts : Addr → Value → Option Addr → TS}
theorem ps_try_kept (stk : X.stack = X.env :: X.outer) (lf : X.env.frame = some X.env.locals) (ex0 : X.ex = []) (nd : X.N.Nodup) (ix : X.N[i]? = some n) (kl : X.env.kindOf n = some .local) (nc : Names X x c)
    (bodyOk : ∀ (W : WX) (pn : List (Addr × Obj)) (xe : Value → Shared → Prop), Takes (X.tr pn xe) W → PassesOwn (model X.prog X.w) X.A X.env xe → PSs (X.tr pn xe) body (tb W))
    (suiteOk : ∀ (a : Addr) (oe : Obj) (cls : Value) (d : Option Addr) (pn : List (Addr × Obj)), Zc cls d oe → (∃ vs, oe.data = .fields vs) → PSs (X.suite a ((a, oe) :: pn)) (st0 :: suite) (ts a cls d)) :
    PS X (.Try body [.ExceptHandler (some (.Name x np)) (some n) (st0 :: suite) hpos] [] [] pos) (fun D σ H => tb (wKept X.K c i ts D) D σ H) := by
  refine ⟨fun pins s σ H D I0 wish => ?_⟩
  have okX := I0.ok
  have frames : X.A.frames = some (X.env :: X.outer) := okX.frames.trans (by rw [stk])
  refine wpAny_Try_except (wpAny_mono ((bodyOk (wKept X.K c i ts D) (X.pn ++ pins) (fun er s1 => wpAny (model X.prog X.w) X.A (noteFrame er X.env) (fun _ s2 => wpAny (model X.prog X.w) X.A (setFlight er none)
    (fun _ s3 => wpAny (model X.prog X.w) X.A (handleBy er X.env [.ExceptHandler (some (.Name x np)) (some n) (st0 :: suite) hpos]) (SP X pins D) X.xe s3) X.xe s2) X.xe s1) ?caught PassesOwn.looking).run [] s σ H D (I0.toTry _) wish) ?through fun _ _ z => z)
  case through =>
    intro fl s1 sp
    cases fl with
    | next =>
      obtain ⟨σ1, H1, J, q⟩ := sp
      exact wpAny_execs_nil ⟨σ1, H1, J.ofTry okX, q⟩
    | ret v =>
      obtain ⟨v1, σ1, H1, J, r, q⟩ := sp
      exact ⟨v1, σ1, H1, J.ofTry okX, r, q⟩
    | brk =>
      obtain ⟨σ1, H1, J, q⟩ := sp
      exact ⟨σ1, H1, J.ofTry okX, q⟩
    | cont =>
      obtain ⟨σ1, H1, J, q⟩ := sp
      exact ⟨σ1, H1, J.ofTry okX, q⟩
  case caught =>
    rintro u s1 ⟨a, B, sI, pins1, σ1, H1, cls, d, rfl, J0, nb, up, sky, na, os1, bare1, match1, wish1⟩
    have J : Inv X pins σ1 H1 sI := J0.ofTry okX
    have sky1 : Sky B (X.env :: X.outer) a (Zc cls d) X.env.locals s1.heap := by
      rw [← stk]
      exact sky
    have fresh : B.get? a = none := by
      rcases sky1 with ⟨_, z, _⟩ | ⟨_, z, _⟩ | ⟨_, z, _⟩ <;> exact z
    show wpAny (model X.prog X.w) X.A (noteFrame (.ref a) X.env) _ _ _
    refine Sky.land Zc.steady frames lf sky1 fun h2 fly2 up2 => ?_
    obtain ⟨oe2, vs2, at2, z2, d2⟩ := fly2.there
    have noFrame : a ∉ frs (X.env :: X.outer) := fun m => by
      obtain ⟨_, o', e', nf⟩ := fly2.2.2.1.mem m
      rw [at2] at e'
      cases e'
      exact nf _ d2
    have noI : sI.heap.get? a = none := by
      cases z : sI.heap.get? a with
      | none => rfl
      | some o =>
        have y := nb a o z (by rw [stk]; exact noFrame)
        rw [fresh] at y
        cases y
    have new0 : X.s_0.heap.get? a = none := by
      cases z : X.s_0.heap.get? a with
      | none => rfl
      | some o =>
        obtain ⟨o', y⟩ := J.base.there a o z (by rw [ex0]; simp)
        rw [noI] at y
        cases y
    have apart : ∀ p ∈ X.pn ++ pins, p.1 ≠ a := fun p hp e => by
      have y := (J.pin p hp).1
      rw [e, noI] at y
      cases y
    have nL : a ≠ X.env.locals := fun e => noFrame (List.mem_filterMap.mpr ⟨X.env, List.mem_cons_self, by rw [lf, e]⟩)
    have nF : a ∉ X.fs := fun m => by
      obtain ⟨en, hen, q⟩ := List.mem_filterMap.mp m
      exact noFrame (List.mem_filterMap.mpr ⟨en, List.mem_cons_of_mem _ hen, q⟩)
    have J2 : Inv X pins σ1 H1 { s1 with heap := h2 } := J.landed nb fly2.1 (up.trans up2) os1 bare1
    have S2 := J2.suite at2 d2 na nL nF
    refine wpAny_handleBy_cons (codeAny_handlers_test ?_) (by intro q; cases q)
    have ty : PySem.W.Looks (model X.prog X.w) h2 (typeOf (.ref a)) cls := fun A Q E s k q => wpAny_typeOf_ref (k _ _ at2) (by rw [z2.1]; exact q)
    have named : ∀ {Q : Value → Shared → Prop} {E : Value → Shared → Prop}, Q c { s1 with heap := h2 } → wpAny (model X.prog X.w) (X.A.mark (some (.ref a))) (eval (.Name x np) X.env) Q E { s1 with heap := h2 } := fun {Q E} q => by
      obtain ⟨g1, g2, g3⟩ := nc
      rcases g3 with g3 | ⟨g3, g4, g5⟩
      · exact ld_glob (X := X.suite a ((a, oe2) :: (X.pn ++ pins))) S2 g1 g3 q g2
      · exact ld_blt (X := X.suite a ((a, oe2) :: (X.pn ++ pins))) S2 g1 g3 g4 q g5 g2
    refine named ((PySem.W.exm_one (M := model X.prog X.w) J2.kIn ty match1).here (codeAny_handlers_suite_as (HandSPX.lands_againZ fly2 fun h3 fly3 up3 => ?_)))
    obtain ⟨oe3, vs3, at3, z3, d3⟩ := fly3.there
    have J3 : Inv X pins σ1 H1 { s1 with heap := h3 } := J.landed nb fly3.1 ((up.trans up2).trans up3) os1 bare1
    refine store_ok (X := X.suite a ((a, oe3) :: (X.pn ++ pins))) (v := .ref a) (J3.suite at3 d3 na nL nF) nd ix (.inl kl) rfl (fun s4 S4 => ?_) (.inr kl)
    refine wpAny_mono ((suiteOk a oe3 cls d (X.pn ++ pins) z3 ⟨_, d3⟩).run [] s4 _ H1 _ S4 (wish1 a na)) (fun fl s5 sp => ?_) fun _ _ z => False.elim z
    cases fl with
    | next =>
      obtain ⟨σ5, H5, S5, q5⟩ := sp
      refine gone_ok (inv_outSuite S5 okX) nd ix kl fun s6 J6 => ?_
      obtain ⟨at6, n6, _⟩ := J6.pin (a, oe3) (List.mem_append_right _ List.mem_cons_self)
      exact ⟨_, _, inv_track J6 new0 apart (exk_ok at6 z3 d3), q5 n6⟩
    | brk =>
      obtain ⟨_, _, _, z⟩ := sp
      exact z.elim
    | cont =>
      obtain ⟨_, _, _, z⟩ := sp
      exact z.elim
    | ret v =>
      obtain ⟨_, _, _, _, _, z⟩ := sp
      exact z.elim
end
end BR

/-! ### an error that was caught and kept: its field, isinstance -/
namespace BR
open PySem PySem.Spec PyProof.Rows L2
/-- an error of the class at C that was caught stands at a; its one field f holds v -/
def ErrK (H : Hp) (a C : Addr) (f : Str) (v : V) : Prop := ∃ d, H a = some (exk a (.ref C) (some d)) ∧ H d = some (.xd [(f, v)])
theorem ErrK.same {H H' : Hp} {a C : Addr} {f : Str} {v : V} (h : ErrK H a C f v) (s : Same H H') : ErrK H' a C f v := by
  obtain ⟨d, h1, h2⟩ := h
  exact ⟨d, s _ _ h1, s _ _ h2⟩
theorem errK_inst {X : Cx} {pins : List (Addr × Obj)} {σ : L2.St} {H : Hp} {s : Shared} {a C : Addr} {f : Str} {v : V} (I : Inv X pins σ H s) (h : ErrK H a C f v) :
    ∃ (ox od : Obj) (u : Value), PySem.W.InstAt s.heap a ox C (some od) ∧ RelV v u ∧ PySem.W.lookIn f od = some (some u) := by
  obtain ⟨d, h1, h2⟩ := h
  have x : ObjOk X.prog X.w H s.heap a (.ext fun h => ∃ (oe : Obj) (vs : Array Value), h.get? a = some oe ∧ Zc (.ref C) (some d) oe ∧ oe.data = .fields vs) := I.hok a _ h1
  obtain ⟨⟨oe, vs, e1, z, hd⟩, _, _⟩ := x
  have y : ObjOk X.prog X.w H s.heap d (.xd [(f, v)]) := I.hok d _ h2
  obtain ⟨mA, hns, hr⟩ := y
  obtain ⟨od, ho, hl⟩ := lookIn_ns hns
  have l : List.lookup f [(f, v)] = some v := by simp [List.lookup]
  obtain ⟨u, hu, ru⟩ := RelO.some_of (v := v) (o := mA f) (by rw [← l]; exact hr f)
  exact ⟨oe, od, u, ⟨e1, z.1, by unfold PySem.W.notCls; rw [hd] <;> rfl, by rw [z.2]; exact ho⟩, ru, by rw [hl, hu]⟩
def tErrK (K : PySem.W.Frag) (f : Str) (te : TE) : TE := fun σ H Q => te σ H fun x H1 => ∃ a C v, x = .ref a ∧ ErrK H1 a C f v ∧ XfC K C ∧ PySem.W.findIn K (.ref C) f = some none ∧ Q v H1
theorem pe_errK {X : Cx} {e : Expr} {te : TE} {pos : Pos} {n : Str} (he : PE X e te) (hb : attributeBase e n X.env (eval e X.env) = eval e X.env := by rfl) : PE X (.Attribute e n pos) (tErrK X.K n te) := by
  refine ⟨fun pins s σ H Q I h => attr_of hb (thn (he.run pins s σ H _ I h) ?_)⟩
  rintro u s1 ⟨x, H1, I1, rx, a, C, v, rfl, ea, T, no, q⟩
  obtain rfl : u = Value.ref a := rx
  obtain ⟨ox, od, w, J, ru, hl⟩ := errK_inst I1 ea
  exact HandSPX.exc_get I1.kIn J T.ga T.gg T.exC (PySem.W.findObj_own T.hdC no rfl hl) (handed_of ru) ⟨v, H1, I1.tok _, ru, q⟩
theorem cls_of {K : PySem.W.Frag} {C : Addr} (T : ExcC K C) : (PySem.W.clsIn K C).isSome = true := by
  have z := T.hd
  unfold PySem.W.hasDictIn at z
  cases y : PySem.W.clsIn K C with
  | none =>
    rw [y] at z
    exact absurd z (by decide)
  | some c => rfl
/-- isinstance(e, c) -/
def rIsK1 (K : PySem.W.Frag) : List V → Hp → VK → Prop := fun xs H Q => ∃ a C f v c u b, xs = [.ref a, c] ∧ ErrK H a C f v ∧ ExcC K C ∧ ClsV c u ∧ PySem.W.kitOne K (.ref C) u = some b ∧ Q (.bl b) H
/-- isinstance(e, (c, ..)) -/
def rIsKT (K : PySem.W.Frag) : List V → Hp → VK → Prop := fun xs H Q => ∃ a C f v tp cs us b, xs = [.ref a, .ref tp] ∧ ErrK H a C f v ∧ ExcC K C ∧ H tp = some (.tup cs) ∧ Paired ClsV cs us ∧ PySem.W.kitAny K (.ref C) us = some b ∧ Q (.bl b) H
def rIsK (K : PySem.W.Frag) : List V → Hp → VK → Prop := fun xs H Q => rIsK1 K xs H Q ∨ rIsKT K xs H Q
theorem call_isK {X : Cx} : CallR X (.builtin "isinstance") (rIsK X.K) := by
  rintro pins s σ H xs us Q I r (⟨a, C, f, v, c, u, b, rfl, ea, T, kc, ek, q⟩ | ⟨a, C, f, v, tp, cs, ws, b, rfl, ea, T, ht, kc, ek, q⟩)
  · obtain ⟨u1, u2, rfl, r1, r2⟩ := vals2 r
    obtain rfl : u1 = Value.ref a := r1
    have e2 := kc.eq r2
    subst e2
    obtain ⟨ox, od, w, J, _, _⟩ := errK_inst I ea
    exact PySem.W.kia_one (PySem.W.kitx_exc (cls_of T) T.hg T.hk T.hs T.ha T.hn T.ht T.hm) I.kIn J ek (fun z => nomatch z) fun tk => ⟨.bl b, H, I.kept (t' := tk) fun _ _ z => z, rfl, q⟩
  · obtain ⟨u1, u2, rfl, r1, r2⟩ := vals2 r
    obtain rfl : u1 = Value.ref a := r1
    obtain rfl : u2 = Value.ref tp := r2
    obtain ⟨ox, od, w, J, _, _⟩ := errK_inst I ea
    have y : ObjOk X.prog X.w H s.heap tp (.tup cs) := I.hok tp _ ht
    obtain ⟨_, its, rv, o, g1, g2, n, g3⟩ := y
    obtain rfl := ClsV.all kc rv
    obtain ⟨oc, odi, oda, osl⟩ := o
    dsimp only at g2 g3
    subst g2 g3
    exact PySem.W.kia_tup (PySem.W.kitx_exc (cls_of T) T.hg T.hk T.hs T.ha T.hn T.ht T.hm) I.kIn J g1 ek (fun z => nomatch z) fun tk => ⟨.bl b, H, I.kept (t' := tk) fun _ _ z => z, rfl, q⟩
end BR

/-! ### raise C(v): what is left; l.count(x) over data -/
namespace BR
open PySem PySem.Spec PyProof.Rows L2
/-- the end of a reading of «raise C(v)»: its own dict, new, holds v -/
theorem mkO_end {C : Addr} {v : V} {H1 : Hp} {Q : XK} (h : ∀ d, H1 d = none → Q (.ref C) (some d) (L2.upd H1 d (.xd [("value", v)]))) :
    [v].length ≤ 1000 ∧ ∀ a, H1 a = none → sp_err C (.ref a :: ([v] ++ [])) (L2.upd H1 a (exo a C none))
      (fun w H2 => w = .non ∧ ∃ (d : Addr) (fs : List (Str × V)), H2 a = some (exo a C (some d)) ∧ H2 d = some (exd d fs) ∧ H1 d = none ∧ Q (.ref C) (some d) (L2.upd (del H2 a) d (.xd fs))) (fun _ _ _ => False) := by
  refine ⟨(by show 1 ≤ 1000; decide), fun a ha => ⟨a, v, rfl, upd_same, fun d hd ne => ⟨rfl, d, [("value", v)], upd_same, ?_, ?_, ?_⟩⟩⟩
  · rw [upd_ne ne, upd_same]
  · rw [upd_ne ne] at hd
    exact hd
  · have hd1 : H1 d = none := by
      rw [upd_ne ne] at hd
      exact hd
    have e : L2.upd (del (L2.upd (L2.upd (L2.upd H1 a (exo a C none)) d (exd d [("value", v)])) a (exo a C (some d))) a) d (.xd [("value", v)]) = L2.upd H1 d (.xd [("value", v)]) := by
      funext b
      by_cases hb : b = d
      · rw [hb, upd_same, upd_same]
      · rw [upd_ne hb, upd_ne hb]
        by_cases hc : b = a
        · rw [hc, del_same, ha]
        · rw [del_ne hc, upd_ne hc, upd_ne hb, upd_ne hc]
    rw [e]
    exact h d hd1
def rCountD (K : PySem.W.Frag) : V → List V → Hp → VK → Prop := fun x xs H Q => ∃ (a : Addr) (y : V) (d : PyData) (ds : List PyData), x = .ref a ∧ xs = [y] ∧ Dp K H (.ref a) (.list ds) ∧ Dp K H y d ∧
  PyData.plainAll ds = true ∧ d.plain = true ∧ PyData.depthAll ds ≤ 60 ∧ Q (.int ((ds.countP fun z => PyData.eqv z d : Nat) : Int)) H
theorem mt_countD {X : Cx} (hu : X.A.units + 65 < cLine) : MtR X "list.count" (rCountD X.K) := by
  rintro pins s σ H x xs v us Q I rx rxs ⟨a, y, d, ds, rfl, rfl, hl, hy, pl, pd, dep, q⟩
  cases rx
  obtain ⟨u, rfl, ru⟩ := rxs.one
  obtain ⟨bs, r1⟩ := Dp.reads I d y u hy ru
  cases hl with
  | lst hs ha =>
    obtain ⟨its, rv, ⟨⟨cls, dd, data, sl⟩, n, ho, hc, hdn, hdt⟩, hlen⟩ := I.list hs
    simp only at hc hdt
    subst hc hdt
    obtain ⟨as, h4⟩ := Dp.readsAll I ds _ its ha rv
    refine SeqAt.count_list_data (vs := its.toArray) ⟨_, ho, rfl, n, rfl⟩ (by simpa using h4) r1 pl pd (by omega) ?_
    exact ⟨.int _, H, I.tok _, ⟨_, rfl⟩, q⟩
end BR

namespace BR
open PySem PySem.Spec PyProof.Rows L2
/-! ### dicts of the module with text keys: walked by items, asked by get -/
/-- the pairs of a written dict, as the layer's values -/
structure KTab (K : PySem.W.Frag) (P : Program) (w : World) (d : Addr) (kvs : List (Str × V)) : Prop where
  ex : ∃ (es : Array DictEntry) (n : Nat) (us : List (Str × Value)), K.lookup d = some ⟨.type "dict", none, .dict es n, #[]⟩ ∧ PySem.W.KeysLit w.params es.toList ∧ Pairs (strKind P w) es.toList us ∧ (us.map (·.1)).Nodup ∧
    KV kvs us
  low : (d == sysModules) = false
theorem KTab.at {K : PySem.W.Frag} {P : Program} {w : World} {d : Addr} {kvs : List (Str × V)} (T : KTab K P w d kvs) {h : Heap} (X : K.In h) :
    ∃ (us : List (Str × Value)) (n : Nat), h.DictAt (strKind P w) d us n ∧ KV kvs us := by
  obtain ⟨es, n, us, lk, lit, ps, nd, rel⟩ := T.ex
  refine ⟨us, n, ⟨_, es, X _ _ lk, ⟨rfl, rfl, rfl⟩, rfl, fun e he => ?_, ps, nd⟩, rel⟩
  obtain ⟨x, t, e1, e2⟩ := lit.all e (Array.mem_toList_iff.mpr he)
  exact ⟨x, by rw [e1]; exact strKind_is P w x t, e2⟩
/-- a new pair of key and value, turn by turn -/
def ItK (kvs : List (Str × V)) : It :=
  ⟨fun i _ => i < kvs.length, fun i H v H' => ∃ T k x, v = .ref T ∧ H T = none ∧ H' = L2.upd H T (.tup [.str k, x]) ∧ kvs[i]? = some (k, x), fun i _ => kvs.length ≤ i⟩
theorem turn_itemsK {P : Program} {w : World} {K : PySem.W.Frag} {elts : List Expr} {kk : Nat} {tpos : Pos} {d : Addr} {kvs : List (Str × V)} {us : List (Str × Value)} {n : Nat} (it : Addr)
    (hm : ∀ h : Heap, K.In h → h.DictAt (strKind P w) d us n) (rel : KV kvs us) :
    Turn P w K (.Tuple elts kk tpos) (ItK kvs) [it] it (fun i h => ∃ ok ov, IsItemIter h it d i us.length n ok ov) where
  mem := by simp
  obj := by
    rintro i h ⟨ok, ov, e⟩ b hb
    obtain rfl : b = it := by simpa using hb
    exact ⟨_, e, fun v z => nomatch z⟩
  keep := by
    rintro i h h' ⟨ok, ov, e⟩ kp
    exact ⟨ok, ov, kp it (by simp) _ e⟩
  item := by
    intro X hP hw hK hc i pins s σ H E I hf st hg
    subst hP hw hK
    have lz : kvs.length = us.length := Paired.length rel
    have hi : i < kvs.length := hg
    obtain ⟨⟨k, x⟩, hp⟩ : ∃ p, kvs[i]? = some p := ⟨kvs[i], List.getElem?_eq_getElem hi⟩
    obtain ⟨u, hq, ru⟩ := kv_get rel hp
    obtain ⟨ok, ov, he⟩ := st
    have below : it < s.heap.objs.size := Heap.lt_size he
    refine wpAny_pyNext_items_item he (hm _ I.kIn) hq fun key h1 hkey ho hT hz kp => ?_
    obtain ⟨tk, rfl⟩ := Value.isStrOf_shape hkey
    refine ⟨_, rfl, wpAny_letOwnedTupleGo_items (s := { s with heap := h1 }) ho fun h2 he2 sb => ?_⟩
    have hT2 := (sb.2 _ (Nat.ne_of_gt below)).trans hT
    have new : ObjOk X.prog X.w (L2.upd H s.heap.objs.size (.tup [.str k, x])) h2 s.heap.objs.size (.tup [.str k, x]) :=
      ⟨by show 2 ≤ sizeLine; decide, [.str k tk, u], .cons ⟨_, rfl⟩ (.cons ru .nil), ⟨_, hT2, rfl, _, rfl⟩⟩
    have J := I.turnedNew (t' := s.toks) (ch := [it]) (h' := h2) (fun b ob hb z => (sb.2 b (by simpa using hb)).trans (kp b ob (by simpa using hb) z)) hf (Nat.le_refl _) new
    refine ⟨.ref s.heap.objs.size, _, J, rfl, ⟨_, k, x, rfl, I.hok.fresh (Nat.le_refl _), rfl, hp⟩, ⟨_, _, he2⟩, fun b hb => ?_⟩
    obtain rfl : b = it := by simpa using hb
    rw [upd_ne (Nat.ne_of_lt below)]
    exact (hf b hb).1
  done := by
    intro X hP hw hK hc i pins s σ H E I hf st hg
    subst hP hw hK
    have lz : kvs.length = us.length := Paired.length rel
    have hge : kvs.length ≤ i := hg
    obtain ⟨f0, f1, f2, f3, f4, f5⟩ := hf it (by simp)
    obtain ⟨ok, ov, he⟩ := st
    exact wpAny_pyNext_items_end (I.ok.hd hc) he (hm _ I.kIn) (List.getElem?_eq_none (by omega)) fun h' eb => ⟨rfl, I.turned (t' := s.toks) (fun b o hb z => eb b o hb z) f0 f1 f3 f4 f5⟩
  self := fun A i s Q E st h => let ⟨_, _, e⟩ := st; PySem.W.kcp_self e h
def iItemsK (K : PySem.W.Frag) (P : Program) (w : World) (td : TE) : TI := fun σ H R => td σ H fun x H1 => ∃ d kvs, x = .ref d ∧ KTab K P w d kvs ∧ R (ItK kvs) H1
theorem pi_itemsK {X : Cx} {e : Expr} {td : TE} {apos cpos tpos : Pos} {elts : List Expr} {kk : Nat} (he : PE X e td) (hb : attributeBase e "items" X.env (eval e X.env) = eval e X.env := by rfl) (hl : (apos.endLine == cpos.line) = true := by rfl) :
    PI X (.Tuple elts kk tpos) (.Call (.Attribute e "items" apos) [] [] cpos) (iItemsK X.K X.prog X.w td) := by
  refine ⟨fun pins s σ H R I h => ?_⟩
  refine wpAny_Call_method (T := "dict") (id := "dict.items") hb rfl hl F.plainAttrs_dict F.slot_dict_items F.type_dict_items (thn (he.run pins s σ H _ I h) ?_)
  rintro u s1 ⟨x, H1, I1, rx, d, kvs, rfl, T, q⟩
  obtain rfl : u = Value.ref d := rx
  obtain ⟨es, n, us, lk, lit, ps, nd, rel⟩ := T.ex
  have hm : ∀ h : Heap, X.K.In h → h.DictAt (strKind X.prog X.w) d us n := fun h XK => ⟨_, es, XK _ _ lk, ⟨rfl, rfl, rfl⟩, rfl, fun e he => by
    obtain ⟨x, t, e1, e2⟩ := lit.all e (Array.mem_toList_iff.mpr he)
    exact ⟨x, by rw [e1]; exact strKind_is X.prog X.w x t, e2⟩, ps, nd⟩
  have hm1 := hm _ I1.kIn
  refine ⟨hm1.dictOf.typeIs, hm1.dictOf.mapOf.noDict, ?_⟩
  have I2 : Inv X pins σ H1 { s1 with heap := s1.heap.push { cls := .type "dict_items", data := .fields #[.ref d] } } := I1.kept (t' := s1.toks) fun b ob z => Heap.get?_push_of_some _ z
  have fin : wpAny (model X.prog X.w) X.A (pyIter (.ref s1.heap.objs.size)) (PIE X pins σ (.Tuple elts kk tpos) R) X.xe { s1 with heap := s1.heap.push { cls := .type "dict_items", data := .fields #[.ref d] } } := by
    refine wpAny_pyIter_items (d := d) (knd := strKind X.prog X.w) ⟨_, Heap.get?_push_size _ rfl, rfl, rfl⟩ (hm _ I2.kIn) (pi_one (tk := s1.toks) I2 _ (turn_itemsK _ hm rel) ⟨.none, .none, ?_⟩ q)
    exact Heap.get?_push_size _ rfl
  show wpAny _ _ (callWith cpos (.builtin "dict.items") [.ref d] [] []) _ X.xe s1
  exact method_meetsIn F.slot_dict_items F.entry_dict_items rfl (PySem.evalArgs_none ⟨rfl, hm1.dictOf.typeIs, F.args_dict_items_1 _, _, meets_dict_items (strKind X.prog X.w) d T.low, ⟨us, hm1.dictOf⟩, fin⟩)
theorem walk_itemsK {kvs : List (Str × V)} : L2.Walk (ItK kvs) kvs.length (fun _ => True) (YPair (fun i => kvs[i]?.map fun p => .str p.1) (fun i => kvs[i]?.map Prod.snd)) := by
  refine ⟨fun _ _ hi _ => hi, fun _ _ => Nat.le_refl _, ?_⟩
  rintro i H v H' _ _ ⟨T, k, x, h1, h2, h3, h4⟩
  exact ⟨T, .str k, x, h1, h2, h3, by simp [h4], by simp [h4]⟩
/-! in, not in, [], get with a default -/
section
variable {X : Cx}
theorem KTab.map {P : Program} {w : World} {K : PySem.W.Frag} {d : Addr} {kvs : List (Str × V)} (T : KTab K P w d kvs) {h : Heap} (X : K.In h) (z : Str) : ∃ f : Str → Option Value, h.MapOf (strKind P w) d f ∧ RelO (valV kvs z) (f z) := by
  obtain ⟨us, n, hm, rel⟩ := T.at X
  exact ⟨_, hm.dictOf.mapOf, rel.val z⟩
def rInK (K : PySem.W.Frag) (P : Program) (w : World) (neg : Bool) : R2 := fun x y H Q => ∃ z d kvs, x = .str z ∧ y = .ref d ∧ KTab K P w d kvs ∧ Q (.bl (if neg then !(valV kvs z).isSome else (valV kvs z).isSome)) H
theorem op_inT : OpR X (compareOp .In) (rInK X.K X.prog X.w false) := by
  rintro pins s σ H x y v u Q I rx ry ⟨z, d, kvs, rfl, rfl, T, q⟩
  obtain ⟨t, rfl⟩ := rx
  cases ry
  obtain ⟨f, hm, rel⟩ := T.map I.kIn z
  refine wpAny_in_of (strKind_is X.prog X.w z t) T.low hm ?_
  rw [← rel.isSome_eq]
  exact ⟨.bl (valV kvs z).isSome, H, I.tok _, rfl, q⟩
theorem op_notInT : OpR X (compareOp .NotIn) (rInK X.K X.prog X.w true) := by
  rintro pins s σ H x y v u Q I rx ry ⟨z, d, kvs, rfl, rfl, T, q⟩
  obtain ⟨t, rfl⟩ := rx
  cases ry
  obtain ⟨f, hm, rel⟩ := T.map I.kIn z
  refine wpAny_notIn_of (strKind_is X.prog X.w z t) T.low hm ?_
  rw [← rel.isSome_eq]
  exact ⟨.bl (!(valV kvs z).isSome), H, I.tok _, rfl, q⟩
def rIxT2 (K : PySem.W.Frag) (P : Program) (w : World) : R2 := fun x y H Q => ∃ d z v kvs, x = .ref d ∧ y = .str z ∧ KTab K P w d kvs ∧ valV kvs z = some v ∧ Q v H
theorem ix_tab : IxR X (rIxT2 X.K X.prog X.w) := by
  rintro value slice pins s σ H x y v u Q I rx ry ⟨d, z, r, kvs, rfl, rfl, T, ev, q⟩ hs
  obtain rfl : v = Value.ref d := rx
  obtain ⟨t, rfl⟩ := ry
  obtain ⟨f, hm, rel⟩ := T.map I.kIn z
  rw [ev] at rel
  obtain ⟨u0, e, ru⟩ := RelO.some_of rel
  exact tail_any hm.typeIs slot_dict_getitem.lookup (wpAny_getItem_of (strKind_is X.prog X.w z t) hm e ⟨r, H, I.tok _, ru, q⟩) hs
def tGetT (K : PySem.W.Frag) (P : Program) (w : World) (td ty tx : TE) : TE := fun σ H Q => td σ H fun x H1 => ∃ d kvs, x = .ref d ∧ KTab K P w d kvs ∧ ty σ H1 fun y H2 => tx σ H2 fun z H3 => ∃ k, y = .str k ∧ Q ((valV kvs k).getD z) H3
theorem pe_getT {o e f : Expr} {td ty tx : TE} {apos cpos : Pos} (ho : PE X o td) (he : PE X e ty) (hf : PE X f tx) (m : M2 X o "get" apos e f cpos) : PE X (.Call (.Attribute o "get" apos) [e, f] [] cpos) (tGetT X.K X.prog X.w td ty tx) := by
  refine ⟨fun pins s σ H Q I h => ?_⟩
  refine wpAny_Call_method m.base m.few m.line PySem.F.plainAttrs_dict PySem.F.slot_dict_get PySem.F.type_dict_get (thn (ho.run pins s σ H _ I h) ?_)
  rintro u s1 ⟨x, H1, I1, rx, d, kvs, rfl, T, q1⟩
  obtain rfl : u = Value.ref d := rx
  obtain ⟨us, n, dm, _⟩ := T.at I1.kIn
  refine ⟨dm.dictOf.typeIs, dm.dictOf.mapOf.noDict, ?_⟩
  rw [m.trees]
  refine Calls.callWith_builtin rfl (Calls.evalArgs_plain (Calls.spliced_cons (thn (he.run pins s1 σ H1 _ I1 q1) ?_)))
  rintro iv s2 ⟨y, H2, I2, ry, q2⟩
  refine Calls.spliced_cons (thn (hf.run pins s2 σ H2 _ I2 q2) ?_)
  rintro fv s3 ⟨z, H3, I3, rz, k, rfl, q3⟩
  refine Calls.spliced_nil ?_
  obtain ⟨t, rfl⟩ := (show ∃ t, iv = Value.str k t from ry)
  obtain ⟨g, hm, rel⟩ := T.map I3.kIn k
  refine call_meetsIn PySem.F.slot_dict_get hm.typeIs PySem.F.entry_dict_get (PySem.F.args_dict_get_3 _ _ _) (meets_dict_get_default (strKind X.prog X.w) d (strKind_is X.prog X.w k t) T.low fv) ⟨_, hm, ?_⟩
  exact ⟨_, H3, I3.tok _, rel.getD rz, q3⟩
end
end BR

/-! ### a module's dict with text keys, out of what the head answers -/
namespace BR
open PySem PySem.Spec PyProof.Rows L2
theorem pairs_of {P : Program} {w : World} : ∀ {es : List DictEntry} {kus : List (Str × Value)}, es.map He.keyOf = He.keysIn w.params (kus.map (·.1)) → es.map (·.val) = kus.map (·.2) → Pairs (strKind P w) es kus
  | [], [], _, _ => .nil
  | [], _ :: _, h, _ => by cases h
  | _ :: _, [], h, _ => by cases h
  | e :: es, (k, u) :: kus, h, g => by
    have h1 : He.keyOf e :: es.map He.keyOf = some (k, PyData.keyHash w.params k) :: He.keysIn w.params (kus.map (·.1)) := h
    injection h1 with h2 h3
    have g1 : e.val :: es.map (·.val) = u :: kus.map (·.2) := g
    injection g1 with g2 g3
    refine .cons ?_ g2 (pairs_of h3 g3)
    unfold He.keyOf at h2
    split at h2
    · rename_i x t q
      obtain ⟨y1, y2⟩ := Prod.mk.inj (Option.some.inj h2)
      show (strKind P w).is k e.key = true
      rw [q, ← y1]
      exact strKind_is P w x t
    · cases h2
theorem ktab_of {K : PySem.W.Frag} {P : Program} {w : World} {d : Addr} {es : Array DictEntry} {n : Nat} {kus : List (Str × Value)} {kvs : List (Str × V)} (lk : K.lookup d = some ⟨.type "dict", none, .dict es n, #[]⟩)
    (kk : es.toList.map He.keyOf = He.keysIn w.params (kus.map (·.1))) (vv : es.toList.map (·.val) = kus.map (·.2)) (rel : KV kvs kus) (nd : (kus.map (·.1)).Nodup) (low : (d == sysModules) = false) : KTab K P w d kvs :=
  ⟨⟨es, n, kus, lk, He.keysLit_of kk, pairs_of kk vv, nd, rel⟩, low⟩
end BR

/-! ### a module's tuple of texts -/
namespace BR
open PySem PySem.Spec PyProof.Rows L2
def strV (u : Value) : Option Str := match u with
  | .str x _ => some x
  | _ => none
theorem vals_strV : ∀ {us : List Value} {xs : List Str}, us.map strV = xs.map some → Vals (xs.map V.str) us
  | [], [], _ => .nil
  | [], _ :: _, h => by cases h
  | _ :: _, [], h => by cases h
  | u :: us, x :: xs, h => by
    have h1 : strV u :: us.map strV = some x :: xs.map some := h
    injection h1 with h2 h3
    refine .cons ?_ (vals_strV h3)
    unfold strV at h2
    split at h2
    · rename_i y t
      rw [Option.some.inj h2]
      exact ⟨t, rfl⟩
    · cases h2
/-- the texts xs stand in a written tuple at p -/
structure TupK (K : PySem.W.Frag) (p : Addr) (xs : List Str) : Prop where
  ex : ∃ (o : Obj) (its : Array Value) (n : Nat), K.lookup p = some o ∧ o.cls = .type "tuple" ∧ o.data = .seq its n ∧ its.size ≤ sizeLine ∧ Vals (xs.map V.str) its.toList
theorem TupK.sq {K : PySem.W.Frag} {p : Addr} {xs : List Str} (T : TupK K p xs) {H : Hp} : SqT K H p (xs.map V.str) := .inr T.ex
theorem tupK_of {K : PySem.W.Frag} {p : Addr} {o : Obj} {its : Array Value} {n : Nat} {xs : List Str} (l : K.lookup p = some o) (c : o.cls = .type "tuple") (d : o.data = .seq its n) (e : its.toList.map strV = xs.map some) (z : xs.length ≤ 1000 := by decide) : TupK K p xs := by
  refine ⟨o, its, n, l, c, d, ?_, vals_strV e⟩
  have y := congrArg List.length e
  rw [List.length_map, List.length_map, Array.length_toList] at y
  rw [sizeLine_eq]
  omega
end BR

/-! ### tables of the module, asked -/
namespace BR
open PySem PySem.Spec PyProof.Rows L2
theorem inV_str {z : Str} : ∀ {xs : List Str}, inV (.str z) (xs.map V.str) = decide (z ∈ xs)
  | [] => rfl
  | x :: xs => by
    have ih := inV_str (z := z) (xs := xs)
    unfold inV at ih ⊢
    rw [List.map_cons, List.any_cons, ih]
    have e : eqV (.str x) (.str z) = decide (z = x) := by
      show (x == z) = decide (z = x)
      by_cases h : z = x
      · rw [h]; simp
      · have h2 : ¬ x = z := fun e => h e.symm
        simp [h, h2]
    rw [e]
    simp
theorem flat_strs : ∀ {xs : List Str}, (xs.map V.str).all flatV = true
  | [] => rfl
  | _ :: xs => flat_strs (xs := xs)
/-- each key's value is a written tuple of texts -/
def TabRel (K : PySem.W.Frag) : List (Str × V) → List (Str × List Str) → Prop := Paired fun p q => p.1 = q.1 ∧ ∃ a, p.2 = .ref a ∧ TupK K a q.2
theorem look_cons {α : Type} {k z : Str} {v : α} {l : List (Str × α)} : List.lookup z ((k, v) :: l) = if z = k then some v else List.lookup z l := by
  by_cases h : z = k
  · rw [if_pos h, h]
    simp [List.lookup]
  · rw [if_neg h]
    have e : (z == k) = false := by simpa using h
    simp [List.lookup, e]
theorem valV_cons {k z : Str} {v : V} {l : List (Str × V)} : valV ((k, v) :: l) z = if z = k then some v else valV l z := by
  unfold valV
  by_cases h : z = k
  · rw [if_pos h, h]
    simp
  · rw [if_neg h]
    have e : ¬ k = z := fun y => h y.symm
    simp [List.find?, e]
theorem tab_find {K : PySem.W.Frag} {z : Str} : ∀ {kvs : List (Str × V)} {tab : List (Str × List Str)}, TabRel K kvs tab → (tab.lookup z = none ∧ valV kvs z = none) ∨ ∃ os a, tab.lookup z = some os ∧ valV kvs z = some (.ref a) ∧ TupK K a os
  | _, _, .nil => .inl ⟨rfl, rfl⟩
  | (k, v) :: kvs, (k2, os) :: tab, .cons h r => by
    obtain ⟨h1, a, h2, h3⟩ := h
    dsimp only at h1 h2 h3
    subst h1 h2
    rw [look_cons, valV_cons]
    by_cases c : z = k
    · rw [if_pos c, if_pos c]
      exact .inr ⟨os, a, rfl, rfl, h3⟩
    · rw [if_neg c, if_neg c]
      exact tab_find r
theorem txt_find {z : Str} : ∀ {l : List (Str × Str)}, valV (l.map fun p => (p.1, V.str p.2)) z = (l.lookup z).map V.str
  | [] => rfl
  | (k, v) :: l => by
    rw [List.map_cons, valV_cons, look_cons]
    by_cases c : z = k
    · rw [if_pos c, if_pos c]
      rfl
    · rw [if_neg c, if_neg c]
      exact txt_find
end BR

namespace BR
open PySem PySem.Spec PyProof.Rows L2
theorem pick_succ {p : Str → Bool} {xs : List Str} {i : Nat} {z : Str} (h : xs[i]? = some z) : (xs.take (i + 1)).filter p = (xs.take i).filter p ++ (if p z then [z] else []) := by
  have e : xs.take (i + 1) = xs.take i ++ [z] := by
    rw [List.take_add_one, h]
    rfl
  rw [e, List.filter_append]
  congr 1
  cases c : p z <;> simp [List.filter, c]
theorem mapS_at {xs : List Str} {i : Nat} {x : V} (h : (xs.map V.str)[i]? = some x) : ∃ z, xs[i]? = some z ∧ x = .str z := by
  rw [List.getElem?_map] at h
  cases e : xs[i]? with
  | none =>
    rw [e] at h
    cases h
  | some z =>
    rw [e] at h
    cases h
    exact ⟨z, rfl, rfl⟩
/-- [x for x in t if c], t a tuple of texts, c told by x alone -/
theorem lc_pick {K : PySem.W.Frag} {a : Addr} {xs : List Str} {j : Nat} {tt : TT} {te : TE} {vs : List Nat} {σ : L2.St} {H1 : Hp} {D : Addr} {Qd : Hp → Prop} (p : Str → Bool) (hT : SqT K H1 a (xs.map V.str)) (hz : xs.length ≤ 1000) (hD : H1 D = none)
    (hw : ∀ x : V, wipe ((wipe σ vs).set j (some x)) vs = wipe σ vs)
    (ht : ∀ (x : Str) (H2 : Hp) (Q : Bool → Hp → Prop), x ∈ xs → Same H1 H2 → Q (p x) H2 → tt ((wipe σ vs).set j (some (.str x))) H2 Q)
    (he : ∀ (x : Str) (H2 : Hp) (Q : VK), x ∈ xs → Same H1 H2 → Q (.str x) H2 → te ((wipe σ vs).set j (some (.str x))) H2 Q)
    (hd : ∀ H, Same H1 H → H D = some (.lst ((xs.filter p).map V.str)) → Qd H) :
    ∃ W : Nat → Nat → Hp → Prop, (∃ m, W 0 m (L2.upd H1 D (.lst []))) ∧ ∀ i m H, W i m H →
      ((Itt K a).stop i H ∧ Qd H) ∨ ((Itt K a).go i H ∧ ∃ Nx : Hp → Prop, (∀ H', Nx H' → ∃ m', m' < m ∧ W (i + 1) m' H') ∧ ∀ x H', (Itt K a).yld i H x H' → gName j x (wipe σ vs) H' fun σ2 H2 => wipe σ2 vs = wipe σ vs ∧ tt σ2 H2 fun b H3 =>
        if b = true then te σ2 H3 fun y H4 => ∃ acc, H4 D = some (.lst acc) ∧ acc.length < sizeLine ∧ Nx (L2.upd H4 D (.lst (acc ++ [y]))) else Nx H3) := by
  refine lc_tup (xs := xs.map V.str) (fun i H => Same H1 H ∧ H D = some (.lst (((xs.take i).filter p).map V.str))) ⟨sameNew hD, upd_same⟩ (fun i H _ p => sameT p.1 hT) ?_ ?_
  · rintro i x H hx ⟨s, hH⟩
    obtain ⟨z, hz1, rfl⟩ := mapS_at hx
    have mem := List.mem_of_getElem? hz1
    refine ⟨hw _, ?_⟩
    refine ht z H _ mem s ?_
    have step := pick_succ (p := p) hz1
    cases c : p z with
    | false =>
      rw [c] at step
      refine (if_neg (by decide)).mpr ?_
      refine ⟨s, ?_⟩
      rw [step]
      simpa using hH
    | true =>
      rw [c] at step
      refine (if_pos rfl).mpr ?_
      refine he z H _ mem s ?_
      refine ⟨_, hH, small1000 ?_, ?_, ?_⟩
      · have l1 := List.length_filter_le p (xs.take i)
        rw [List.length_take] at l1
        rw [List.length_map]
        omega
      · intro b o e
        rw [upd_ne (ne_of_none e hD)]
        exact s _ _ e
      · rw [upd_same, step, List.map_append]
        rfl
  · rintro H ⟨s, hH⟩
    rw [List.length_map, List.take_length] at hH
    exact hd H s hH
end BR

/-! ### tuples of texts as data -/
namespace BR
open PySem PySem.Spec PyProof.Rows L2
theorem strs_all {K : PySem.W.Frag} {H : Hp} : ∀ xs : List Str, DpAll K H (xs.map V.str) (xs.map PyData.str)
  | [] => .nil
  | x :: r => .cons (.str x) (strs_all r)
theorem strs_lay : ∀ xs : List Str, (∀ x ∈ xs, PyData.strOk x = true) → PyData.canLayAll0 (xs.map PyData.str) = true ∧ PyData.depthAll (xs.map PyData.str) = 0
  | [], _ => ⟨rfl, rfl⟩
  | x :: r, ok => by
    obtain ⟨h1, h2⟩ := strs_lay r fun y m => ok y (List.mem_cons_of_mem _ m)
    refine ⟨?_, ?_⟩
    · show (PyData.canLay0 (.str x) && PyData.canLayAll0 (r.map PyData.str)) = true
      rw [h1, Bool.and_true]
      exact ok x List.mem_cons_self
    · show max (PyData.depth (.str x)) (PyData.depthAll (r.map PyData.str)) = 0
      rw [h2]
      rfl
theorem strs_shapedT {xs : List Str} (ok : ∀ x ∈ xs, PyData.strOk x = true) : SeqAt.shaped (.tuple (xs.map PyData.str)) = true := by
  obtain ⟨h1, h2⟩ := strs_lay xs ok
  unfold SeqAt.shaped
  show (PyData.canLayAll0 (xs.map PyData.str) && decide (PyData.depthAll (xs.map PyData.str) + 1 ≤ 64)) = true
  rw [h1, h2]
  rfl
theorem strs_eqvA : ∀ xs ys : List Str, PyData.eqvAll (xs.map PyData.str) (ys.map PyData.str) = decide (xs = ys)
  | [], [] => rfl
  | [], _ :: _ => rfl
  | _ :: _, [] => rfl
  | x :: xs, y :: ys => by
    show (x == y && PyData.eqvAll (xs.map PyData.str) (ys.map PyData.str)) = decide (x :: xs = y :: ys)
    rw [strs_eqvA xs ys]
    by_cases h : x = y
    · by_cases g : xs = ys <;> simp [h, g]
    · simp [h]
theorem strs_eqv (xs ys : List Str) : PyData.eqv (.tuple (xs.map PyData.str)) (.tuple (ys.map PyData.str)) = decide (xs = ys) := strs_eqvA xs ys
theorem dp_strsT {K : PySem.W.Frag} {H : Hp} {a : Addr} {xs : List Str} (h : SqT K H a (xs.map V.str)) : Dp K H (.ref a) (.tuple (xs.map PyData.str)) := .tup h (strs_all xs)
theorem tab_at {K : PySem.W.Frag} : ∀ {kvs : List (Str × V)} {tab : List (Str × List Str)}, TabRel K kvs tab → ∀ {i : Nat} {k : Str} {x : V}, kvs[i]? = some (k, x) → ∃ os a, tab[i]? = some (k, os) ∧ x = .ref a ∧ TupK K a os
  | _, _, .nil, i, k, x, h => by cases i <;> cases h
  | (k1, v1) :: kvs, (k2, os) :: tab, .cons h r, i, k, x, e => by
    obtain ⟨h1, a, h2, h3⟩ := h
    dsimp only at h1 h2 h3
    subst h1 h2
    cases i with
    | zero =>
      cases e
      exact ⟨os, a, rfl, rfl, h3⟩
    | succ i => exact tab_at r (i := i) e
theorem find_at {α : Type} {p : α → Bool} : ∀ {l : List α} {i : Nat} {x : α}, l[i]? = some x → p x = true → (∀ (j : Nat) (y : α), j < i → l[j]? = some y → p y = false) → l.find? p = some x
  | [], i, x, h, _, _ => by cases i <;> cases h
  | a :: l, 0, x, h, hp, _ => by
    cases h
    simp [List.find?, hp]
  | a :: l, i + 1, x, h, hp, hn => by
    have ha := hn 0 a (Nat.succ_pos i) rfl
    have ih := find_at (l := l) (i := i) (x := x) h hp fun j y hj hy => hn (j + 1) y (Nat.succ_lt_succ hj) hy
    simp [List.find?, ha, ih]
theorem find_no {α : Type} {p : α → Bool} {l : List α} (h : ∀ (j : Nat) (y : α), l[j]? = some y → p y = false) : l.find? p = none := by
  rw [List.find?_eq_none]
  intro x hx
  obtain ⟨j, hj, e⟩ := List.mem_iff_getElem.mp hx
  rw [h j x (by rw [List.getElem?_eq_getElem hj, e])]
  decide
end BR

/-! ### calls without arguments where no repr runs; comprehensions that choose, over lists; heaps -/
namespace BR
open PySem PySem.Spec PyProof.Rows L2
section
variable {X : Cx} {CX : CXT} {k : Nat} {f : Addr} {fd : FuncData} {ps : List Str} {sp : Sp} {E : XK} {x : Str} {ds : List Value} {dvs : List V} {p pos : Pos}
theorem pe_callG0 (F : FnG X.prog X.w X.K X.mg X.base CX k f fd ps sp) (gg : X.A.guards = some []) (room : Room k X.A) (hg : Gl X x) (hm : X.mg x = some (.ref f)) (kp : PySem.W.keepIn X.K (.ref f) = true)
    (b : Binds X.K fd ps ds) (hd : Vals dvs ds) (hx : Passes CX X E) (nodb : (x == ("__debug__" : Str)) = false := by decide) : PE X (.Call (.Name x p) [] [] pos) (tCall sp dvs E tNil) := by
  refine ⟨fun pins s σ H Q I0 hh => ?_⟩
  refine wpAny_Call_Name_kw (ld_glob I0 hg hm ?_ nodb)
  have r2 : Vals ([] ++ dvs) ([] ++ ds) := hd
  have hl : ([] ++ ds).length = ps.length := by rw [← r2.length]; exact F.ln _ _ _ _ hh
  refine PySem.W.callWith_K0 I0.kIn kp ?_
  refine wpAny_call (codeAny_mono (F.go X.A X.stack s H ⟨[], []⟩ ([] ++ ds) ([] ++ dvs) Q E gg room I0.env0 (b s [] I0.kIn hl) r2 hh) fun res s' hq => ?_)
  cases res with
  | error e => exact hx pins σ H s e s' I0 hq
  | ok fl =>
    cases fl with
    | ret u => exact I0.after hq
    | next => exact hq.elim
    | brk => exact hq.elim
    | cont => exact hq.elim
end
section
variable {X : Cx} {T id : String} {name : Str} {r : V → List V → Hp → VK → Prop} {o e : Expr} {es : List Expr} {to : TE} {t : TA} {apos cpos : Pos} {K : PySem.W.Frag}
/-- a method's call where each side condition is written -/
theorem pe_bmX (hK : X.K = K) (pa : PlainAttrs T) (slot : Slot T name id) (hty : typeOf (.builtin id) = pure (.type "method_descriptor")) (hm : MtR X id r) (ho : PE X o to) (ha : PA X (e :: es) t)
    (c1 : attributeBase o name X.env (eval o X.env) = eval o X.env)
    (c2 : ((backTo cpos (starEach (e :: es) X.env)).all (fun x => !x.1) && (backToKw cpos (keywordEach [] X.env)).all (fun x => x.1.isSome) && decide ((e :: es).length + ([] : List Keyword).length + (if ([] : List Keyword).isEmpty then 0 else 1) < 30)) = true)
    (c3 : (apos.endLine == cpos.line) = true) (c4 : starEach (e :: es) X.env = (false, eval e X.env) :: starEach es X.env) (c5 : (backTo cpos (starEach es X.env)).any (·.1) = false) :
    PE X (.Call (.Attribute o name apos) (e :: es) [] cpos) (tBM K T r to t) := by
  subst hK
  exact pe_bm pa slot hty hm ho ha c1 c2 c3 c4 c5
end
theorem sameUp {H H1 : Hp} {p : Addr} {o : HO} (s : Same H H1) (hp : H p = none) : Same H (upd H1 p o) := fun b u e => by
  rw [upd_ne (ne_of_none e hp)]
  exact s b u e
theorem sameL {K : PySem.W.Frag} {H H' : Hp} {a : Addr} {xs : List V} (e : Same H H') (h : H a = some (.lst xs)) : SqL K H' a xs := SqL.of (e _ _ h)
/-- [x for x in l if c], l a list of texts, c told by x alone -/
theorem lc_pickL {K : PySem.W.Frag} {a : Addr} {xs : List Str} {j : Nat} {tt : TT} {te : TE} {vs : List Nat} {σ : L2.St} {H1 : Hp} {D : Addr} {Qd : Hp → Prop} (p : Str → Bool) (hL : H1 a = some (.lst (xs.map V.str))) (hz : xs.length ≤ 1000) (hD : H1 D = none)
    (hw : ∀ x : V, wipe ((wipe σ vs).set j (some x)) vs = wipe σ vs)
    (ht : ∀ (x : Str) (H2 : Hp) (Q : Bool → Hp → Prop), x ∈ xs → Same H1 H2 → (∀ H3, Same H2 H3 → Q (p x) H3) → tt ((wipe σ vs).set j (some (.str x))) H2 Q)
    (he : ∀ (x : Str) (H2 : Hp) (Q : VK), x ∈ xs → Same H1 H2 → Q (.str x) H2 → te ((wipe σ vs).set j (some (.str x))) H2 Q)
    (hd : ∀ H, Same H1 H → H D = some (.lst ((xs.filter p).map V.str)) → Qd H) :
    ∃ W : Nat → Nat → Hp → Prop, (∃ m, W 0 m (L2.upd H1 D (.lst []))) ∧ ∀ i m H, W i m H →
      ((Itl K a).stop i H ∧ Qd H) ∨ ((Itl K a).go i H ∧ ∃ Nx : Hp → Prop, (∀ H', Nx H' → ∃ m', m' < m ∧ W (i + 1) m' H') ∧ ∀ x H', (Itl K a).yld i H x H' → gName j x (wipe σ vs) H' fun σ2 H2 => wipe σ2 vs = wipe σ vs ∧ tt σ2 H2 fun b H3 =>
        if b = true then te σ2 H3 fun y H4 => ∃ acc, H4 D = some (.lst acc) ∧ acc.length < sizeLine ∧ Nx (L2.upd H4 D (.lst (acc ++ [y]))) else Nx H3) := by
  refine lc_list (xs := xs.map V.str) (fun i H => Same H1 H ∧ H D = some (.lst (((xs.take i).filter p).map V.str))) ⟨sameNew hD, upd_same⟩ (fun i H _ q => sameL q.1 hL) ?_ ?_
  · rintro i x H hx ⟨s, hH⟩
    obtain ⟨z, hz1, rfl⟩ := mapS_at hx
    have mem := List.mem_of_getElem? hz1
    refine ⟨hw _, ?_⟩
    refine ht z H _ mem s fun H3 s3 => ?_
    have step := pick_succ (p := p) hz1
    cases c : p z with
    | false =>
      rw [c] at step
      refine (if_neg (by decide)).mpr ?_
      refine ⟨s.trans s3, ?_⟩
      rw [step]
      simpa using s3 _ _ hH
    | true =>
      rw [c] at step
      refine (if_pos rfl).mpr ?_
      refine he z H3 _ mem (s.trans s3) ?_
      refine ⟨_, s3 _ _ hH, small1000 ?_, ?_, ?_⟩
      · have l1 := List.length_filter_le p (xs.take i)
        rw [List.length_take] at l1
        rw [List.length_map]
        omega
      · exact sameUp (s.trans s3) hD
      · rw [upd_same, step, List.map_append]
        rfl
  · rintro H ⟨s, hH⟩
    rw [List.length_map, List.take_length] at hH
    exact hd H s hH
theorem valV_mapS {α : Type} {f : α → V} {z : Str} : ∀ {l : List (Str × α)}, valV (l.map fun q => ((.inr q.1 : Key), f q.2)) (.inr z : Key) = (l.lookup z).map f
  | [] => rfl
  | (k, v) :: l => by
    have ih := valV_mapS (f := f) (z := z) (l := l)
    rw [List.map_cons]
    by_cases c : k = z
    · subst c
      rw [valV_pos rfl]
      simp [List.lookup]
    · rw [valV_neg (fun q => c (Sum.inr.inj q)), ih]
      have e : (z == k) = false := by simpa using fun q : z = k => c q.symm
      simp [List.lookup, e]
theorem putK_le {κ : Type} [DecidableEq κ] (c : List (κ × V)) (k : κ) (x : V) : (putK c k x).length ≤ c.length + 1 := by
  unfold putK
  split <;> simp
theorem dget_of {H : Hp} {a : Addr} {kvs : List (Key × V)} {z : Str} {v : V} (e : H a = some (.dK kvs)) (h : valV kvs (.inr z : Key) = some v) : DGet H a (.str z) (some v) := by
  rw [← h]
  exact DGet.k (k := .inr z) e
theorem yesR {σ : L2.St} {H : Hp} {k : Bool → Hp → Prop} (h : k true H) : tYes σ H k := h
theorem dput_new {H : Hp} {a : Addr} {kvs : List (Key × V)} {z : Str} {v : V} (e : H a = some (.dK kvs)) (hl : kvs.length ≤ 1000) (hn : valV kvs (.inr z : Key) = none) : DPut H a (.str z) v (L2.upd H a (.dK (kvs ++ [(.inr z, v)]))) := by
  have g := DPut.k (k := (.inr z : Key)) (v := v) e (small1000 hl)
  rw [putK_new v hn] at g
  exact g
theorem int_dec (x y : Int) : decide (V.int x = V.int y) = decide (x = y) := decide_eq_decide.mpr ⟨V.int.inj, fun e => congrArg V.int e⟩
theorem bl_dec (x y : Bool) : decide (V.bl x = V.bl y) = decide (x = y) := decide_eq_decide.mpr ⟨V.bl.inj, fun e => congrArg V.bl e⟩
end BR

/-! ### sets of ints out of a tuple, how many there are, max of a tuple of two -/
namespace BR
open PySem PySem.Spec PyProof.Rows L2
def rSetOf (K : PySem.W.Frag) (w : World) : List V → Hp → VK → Prop := fun xs H Q => ∃ (a : Addr) (ns : List Int), xs = [.ref a] ∧ SqT K H a (ns.map V.int) ∧ ns.length ≤ 1000 ∧
  ∀ (p : Addr) (n : Nat) (ks : List Int), H p = none → ks.Nodup → (∀ k, k ∈ ks ↔ k ∈ ns) → ks.length = n → Q (.ref p) (L2.upd H p (SetO w p (fun j => decide (j ∈ ns)) n))
section
variable {X : Cx}
theorem cr_setOf (hc : X.calm = true) : CallR X (.type "set") (rSetOf X.K X.w) := by
  intro pins s σ H xs us Q I r h
  obtain ⟨a, ns, rfl, hq, hz, q⟩ := h
  rw [Vals.ref1 r]
  obtain ⟨its, rv, pt, _⟩ := I.tuple hq
  refine call_set_tupI ns (I.ok.hd hc) (show s.heap.IsTuple a its.toArray from pt) (by simpa using rv.ints) (by unfold scanBound; omega) fun h' tk c R1 hcn k => ?_
  have ⟨o, es, ep, t, ho, hex, hdt, g, nd, hm2, hb, hf, hn, hr, hl2⟩ := R1
  refine ⟨.ref _, _, I.laid (t' := tk) (fun b u e => k b u e) (Nat.le_refl _) (setO_new R1), rfl, q _ c (es.toList.map keyOf) (I.hok.fresh (Nat.le_refl _)) nd (fun j => ?_) ?_⟩
  · rw [← hm2 j, decide_eq_true_eq]
  · rw [List.length_map, Array.length_toList, hn]
theorem call_len_setO : CallR X (.builtin "len") (fun xs H Q => ∃ (a : Addr) (S : Int → Bool) (n : Nat), xs = [.ref a] ∧ H a = some (SetO X.w a S n) ∧ Q (.int n) H) := by
  intro pins s σ H xs us Q I r h
  obtain ⟨a, S, n, rfl, ha, q⟩ := h
  rw [Vals.ref1 r]
  obtain ⟨o, es, ep, t, ho, hex, hdt, g, nd, hm2, hb, hf, hn, hr, hl2⟩ := setO_get I ha
  refine call_len_set ho hex hdt hf (by unfold scanBound at hb; omega) ⟨.int n, H, I.tok _, ⟨_, by rw [hn]⟩, q⟩
theorem met_nodup (val : Nat → Int) : ∀ i, (firstMet val i).Nodup
  | 0 => by rw [firstMet_zero]; exact List.nodup_nil
  | i + 1 => by
    rw [firstMet_succ]
    unfold step_dedup
    split
    · exact met_nodup val i
    · rename_i h
      refine List.nodup_append.mpr ⟨met_nodup val i, by simp, fun a ha b hb => ?_⟩
      rw [List.mem_singleton] at hb
      subst hb
      intro e
      subst e
      exact h (List.any_eq_true.mpr ⟨_, ha, by simp⟩)
theorem met_mem {ns : List Int} {k : Int} : k ∈ firstMet (fun i => ns.getD i 0) ns.length ↔ k ∈ ns := by
  have e := firstMet_any (fun i => ns.getD i 0) ns.length k
  have e2 : (List.range ns.length).map (fun i => ns.getD i 0) = ns := by
    apply List.ext_getElem?
    intro i
    rw [List.getElem?_map]
    by_cases h : i < ns.length
    · rw [List.getElem?_range h]
      simp [List.getD, h]
    · rw [List.getElem?_eq_none (by simpa using Nat.le_of_not_lt h), List.getElem?_eq_none (Nat.le_of_not_lt h)]
      rfl
  rw [e2] at e
  have m : ∀ l : List Int, l.any (· == k) = true ↔ k ∈ l := fun l => by simp
  rw [← m, ← m, e]
/-- len(set(l)), l a list of ints -/
def tLenSetL (K : PySem.W.Frag) (ta : TE) : TE := fun σ H Q => ta σ H fun x H1 => ∃ (l : Addr) (ns : List Int), x = V.ref l ∧ SqL K H1 l (ns.map V.int) ∧ ns.length < 64 ∧ ∀ (ks : List Int), ks.Nodup → (∀ k, k ∈ ks ↔ k ∈ ns) → Q (.int ks.length) H1
theorem pe_lenSetL {a : Expr} {ta : TE} {p p2 q pos : Pos} {K : PySem.W.Frag} (hK : X.K = K) (hc : X.calm = true) (hg : Gl X "len") (hm : X.mg "len" = none) (hg2 : Gl X "set") (hm2 : X.mg "set" = none) (ha : PE X a ta)
    (na : starEach [a] X.env = (false, eval a X.env) :: starEach [] X.env) : PE X (.Call (.Name "len" p) [.Call (.Name "set" p2) [a] [] q] [] pos) (tLenSetL K ta) := by
  subst hK
  refine ⟨fun pins s σ H Q I h => ?_⟩
  refine Call_ (ld_blt I hg hm PySem.boot_len ?_)
  refine callWith_builtin1 (args_cons ?_ rfl) rfl rfl
  refine Call_ (ld_blt I hg2 hm2 boot_set ?_)
  refine callWith_type1 (args_cons (thn (ha.run pins s σ H _ I h) ?_) na) na rfl
  rintro v s1 ⟨x, H1, I1, r1, l, ns, rfl, hq, hz, q1⟩
  refine args_nil ?_
  cases r1
  obtain ⟨its, r, pl, _⟩ := I1.list hq
  have hl : its.toArray.size = ns.length := by rw [List.size_toArray, ← r.length, List.length_map]
  refine call_set_list (I1.ok.hd hc) pl.isList (ns := ns) (by simpa using r.ints) (by unfold scanBound; omega) fun h' tk hS hk => ?_
  rw [hl] at hS
  refine args_nil ?_
  obtain ⟨o, es, ep, t, ho, hex, hd, _, _, _, hf, hn⟩ := hS
  have I2 : Inv X pins σ H1 { s1 with heap := h', toks := tk } := I1.kept fun b u e => hk b u (Heap.lt_size e) e
  have lz := firstMet_length_le (fun i => ns.getD i 0) ns.length
  refine call_len_set ho hex hd hf (by omega) ⟨.int (firstMet (fun i => ns.getD i 0) ns.length).length, H1, I2.tok _, ⟨_, by rw [hn]⟩, q1 _ (met_nodup _ _) fun k => met_mem⟩
/-- max of a tuple of two ints -/
theorem cr_maxT2 (hc : X.calm = true) (hu : X.A.units + 64 < cLine) : CallR X (.builtin "max") (fun xs H Q => ∃ (a : Addr) (i j : Int), xs = [.ref a] ∧ SqT X.K H a [.int i, .int j] ∧ Q (.int (if i < j then j else i)) H) := by
  intro pins s σ H xs us Q I r h
  obtain ⟨a, i, j, rfl, hq, q⟩ := h
  rw [Vals.ref1 r]
  obtain ⟨its, rv, pt, _⟩ := I.tuple hq
  obtain ⟨as, ra⟩ := Dp.readsAll I [.int i, .int j] _ _ (.cons (.int i) (.cons (.int j) .nil)) rv
  refine PySem.W.max_tuple_data (x := .int i) (xs := [.int j]) (I.ok.hd hc) (show s.heap.IsTuple a its.toArray from pt) (by simpa using ra) (⟨fun x hx y hy => by rcases List.mem_cons.mp hx with rfl | hx <;> rcases List.mem_cons.mp hy with rfl | hy <;> (try rcases List.mem_singleton.mp hx with rfl) <;> (try rcases List.mem_singleton.mp hy with rfl) <;> rfl, fun x hx => by rcases List.mem_cons.mp hx with rfl | hx <;> (try rcases List.mem_singleton.mp hx with rfl) <;> exact fun z => nomatch z⟩) (by show X.A.units + 1 + 0 < cLine; omega) fun k v h' tk bs _ hr hk => ?_
  have e : PySem.W.maxD (.int i) [.int j] = .int (if i < j then j else i) := by
    show (if PySem.W.dataLt (.int i) (.int j) then PyData.int j else .int i) = _
    rw [PySem.W.dataLt_int]
    by_cases c : i < j
    · rw [if_pos c, if_pos (decide_eq_true c)]
    · rw [if_neg c, if_neg (fun z => c (of_decide_eq_true z))]
  rw [e] at hr
  cases hr
  exact ⟨.int _, H, I.kept (t' := tk) hk, ⟨_, rfl⟩, q⟩
end
end BR

/-! ### rankings: the mathematics -/
namespace BR
open PySem PySem.Spec PyProof.Rows L2
def ins1 (x : Int) : List Int → List Int
  | [] => [x]
  | y :: l => if x < y then x :: y :: l else if x = y then y :: l else y :: ins1 x l
def srt : List Int → List Int
  | [] => []
  | x :: l => ins1 x (srt l)
theorem ins1_mem {x k : Int} : ∀ {l : List Int}, k ∈ ins1 x l ↔ k = x ∨ k ∈ l
  | [] => by simp [ins1]
  | y :: l => by
    unfold ins1
    split
    · simp
    · split
      · rename_i h
        subst h
        simp
      · rw [List.mem_cons, ins1_mem (l := l), List.mem_cons]
        constructor <;> (intro h; rcases h with h | h | h <;> simp [h])
theorem ins1_up {x : Int} : ∀ {l : List Int}, l.Pairwise (· < ·) → (ins1 x l).Pairwise (· < ·)
  | [], _ => by simp [ins1]
  | y :: l, h => by
    obtain ⟨h1, h2⟩ := List.pairwise_cons.mp h
    unfold ins1
    split
    · rename_i c
      refine List.pairwise_cons.mpr ⟨fun z hz => ?_, h⟩
      rcases List.mem_cons.mp hz with rfl | hz
      · exact c
      · exact Int.lt_trans c (h1 z hz)
    · split
      · exact h
      · rename_i c d
        refine List.pairwise_cons.mpr ⟨fun z hz => ?_, ins1_up h2⟩
        rcases ins1_mem.mp hz with rfl | hz
        · omega
        · exact h1 z hz
theorem srt_mem {k : Int} : ∀ {l : List Int}, k ∈ srt l ↔ k ∈ l
  | [] => Iff.rfl
  | x :: l => by rw [srt, ins1_mem, srt_mem, List.mem_cons]
theorem srt_up : ∀ l : List Int, (srt l).Pairwise (· < ·)
  | [] => .nil
  | x :: l => ins1_up (srt_up l)
theorem up_nodup {l : List Int} (h : l.Pairwise (· < ·)) : l.Nodup := h.imp fun h => Int.ne_of_lt h
/-- one list alone is in order and has these members -/
theorem up_one {a b : List Int} (ha : a.Pairwise (· < ·)) (hb : b.Pairwise (· < ·)) (h : ∀ k, k ∈ a ↔ k ∈ b) : a = b :=
  PySem.W.lks_uniq ((List.perm_ext_iff_of_nodup (up_nodup ha) (up_nodup hb)).mpr h) (ha.imp fun h => Int.le_of_lt h) (hb.imp fun h => Int.le_of_lt h)
theorem card_one {a b : List Int} (ha : a.Nodup) (hb : b.Nodup) (h : ∀ k, k ∈ a ↔ k ∈ b) : a.length = b.length := ((List.perm_ext_iff_of_nodup ha hb).mpr h).length_eq
def rk (l : List Int) (x : Int) : Nat := (l.filter fun y => decide (y < x)).length
theorem rk_le (l : List Int) (x : Int) : rk l x ≤ l.length := List.length_filter_le _ _
theorem rk_cons {y x : Int} {l : List Int} : rk (y :: l) x = (if y < x then 1 else 0) + rk l x := by
  unfold rk
  rw [List.filter_cons]
  by_cases h : y < x
  · rw [if_pos (decide_eq_true h), if_pos h, List.length_cons, Nat.add_comm]
  · rw [if_neg (fun z => h (of_decide_eq_true z)), if_neg h, Nat.zero_add]
theorem rk_mono {x y : Int} (h : x ≤ y) : ∀ l : List Int, rk l x ≤ rk l y
  | [] => Nat.le_refl _
  | z :: l => by
    have := rk_mono h l
    rw [rk_cons, rk_cons]
    split <;> split <;> omega
theorem rk_lt {x y : Int} (h : x < y) : ∀ {l : List Int}, x ∈ l → rk l x < rk l y
  | z :: l, m => by
    have w := rk_mono (Int.le_of_lt h) l
    rw [rk_cons, rk_cons]
    rcases List.mem_cons.mp m with rfl | m
    · rw [if_neg (Int.lt_irrefl _), if_pos h]
      omega
    · have := rk_lt h m
      split <;> split <;> omega
theorem rk_iff {l : List Int} {x y : Int} (hx : x ∈ l) (hy : y ∈ l) : (x < y ↔ rk l x < rk l y) ∧ (x = y ↔ rk l x = rk l y) := by
  rcases Int.lt_trichotomy x y with h | h | h
  · have := rk_lt h hx
    exact ⟨⟨fun _ => this, fun _ => h⟩, ⟨fun e => by omega, fun e => by omega⟩⟩
  · subst h
    exact ⟨⟨fun e => absurd e (Int.lt_irrefl _), fun e => absurd e (Nat.lt_irrefl _)⟩, ⟨fun _ => rfl, fun _ => rfl⟩⟩
  · have := rk_lt h hy
    exact ⟨⟨fun e => by omega, fun e => by omega⟩, ⟨fun e => by omega, fun e => by omega⟩⟩
theorem rk_cut {l : List Int} {x h : Int} (hx : x ∈ l) : x < h ↔ rk l x < rk l h := by
  constructor
  · exact fun e => rk_lt e hx
  · intro e
    refine Decidable.byContradiction fun n => ?_
    have := rk_mono (show h ≤ x by omega) l
    omega
/-- in a list in order the place is the rank -/
theorem rk_at : ∀ {l : List Int}, l.Pairwise (· < ·) → ∀ {j : Nat} {x : Int}, l[j]? = some x → rk l x = j
  | y :: l, h, 0, x, e => by
    cases e
    obtain ⟨h1, h2⟩ := List.pairwise_cons.mp h
    rw [rk_cons, if_neg (Int.lt_irrefl _), Nat.zero_add]
    unfold rk
    rw [List.filter_eq_nil_iff.mpr fun z hz => by have := h1 z hz; rw [decide_eq_true_eq]; omega]
    rfl
  | y :: l, h, j + 1, x, e => by
    obtain ⟨h1, h2⟩ := List.pairwise_cons.mp h
    have m : x ∈ l := List.mem_of_getElem? (show l[j]? = some x from e)
    rw [rk_cons, if_pos (h1 x m), rk_at h2 (show l[j]? = some x from e), Nat.add_comm]
theorem at_rk {l : List Int} (h : l.Pairwise (· < ·)) {x : Int} (m : x ∈ l) : l[rk l x]? = some x := by
  obtain ⟨j, hj, e⟩ := List.mem_iff_getElem.mp m
  have e2 : l[j]? = some x := by rw [List.getElem?_eq_getElem hj, e]
  rw [rk_at h e2]
  exact e2
/-- the ranks of words, the cut -/
def rks (xs : List Int) : List Int := xs.map fun x => ((rk (srt xs) x : Nat) : Int)
def ct (xs : List Int) (h : Int) : Int := ((rk (srt xs) h : Nat) : Int)
def IsRk (rs : List Int) (m : Nat) : Prop := ∀ k, k ∈ rs ↔ 0 ≤ k ∧ k < (m : Int)
theorem rks_is (xs : List Int) : IsRk (rks xs) (srt xs).length := fun k => by
  unfold rks
  rw [List.mem_map]
  constructor
  · rintro ⟨x, hx, rfl⟩
    have m := srt_mem.mpr hx
    have lt : rk (srt xs) x < (srt xs).length := (List.getElem?_eq_some_iff.mp (at_rk (srt_up xs) m)).1
    omega
  · rintro ⟨h0, h1⟩
    obtain ⟨j, rfl⟩ := Int.eq_ofNat_of_zero_le h0
    have hj : j < (srt xs).length := by omega
    have e : (srt xs)[j]? = some (srt xs)[j] := List.getElem?_eq_getElem hj
    exact ⟨_, srt_mem.mp (List.mem_of_getElem? e), by rw [rk_at (srt_up xs) e]⟩
theorem ct_le (xs : List Int) (h : Int) : 0 ≤ ct xs h ∧ ct xs h ≤ ((srt xs).length : Int) := by
  have := rk_le (srt xs) h
  unfold ct
  omega
/-- the ranks from 0 on -/
def rg (m : Nat) : List Int := (List.range m).map fun i => ((i : Nat) : Int)
theorem rg_up (m : Nat) : (rg m).Pairwise (· < ·) := by
  unfold rg
  rw [List.pairwise_map]
  exact List.pairwise_lt_range.imp fun h => by omega
theorem rg_mem {m : Nat} {k : Int} : k ∈ rg m ↔ 0 ≤ k ∧ k < (m : Int) := by
  unfold rg
  rw [List.mem_map]
  constructor
  · rintro ⟨i, hi, rfl⟩
    have := List.mem_range.mp hi
    omega
  · rintro ⟨h0, h1⟩
    obtain ⟨j, rfl⟩ := Int.eq_ofNat_of_zero_le h0
    exact ⟨j, List.mem_range.mpr (by omega), rfl⟩
theorem rg_len (m : Nat) : (rg m).length = m := by unfold rg; rw [List.length_map, List.length_range]
theorem isRk_srt {rs ks : List Int} {m : Nat} (h : IsRk rs m) (up : ks.Pairwise (· < ·)) (mem : ∀ k, k ∈ ks ↔ k ∈ rs) : ks = rg m := up_one up (rg_up m) fun k => by rw [mem, h k, rg_mem]
theorem isRk_card {rs ks : List Int} {m : Nat} (h : IsRk rs m) (nd : ks.Nodup) (mem : ∀ k, k ∈ ks ↔ k ∈ rs) : ks.length = m := by
  rw [card_one nd (up_nodup (rg_up m)) (fun k => by rw [mem, h k, rg_mem]), rg_len]
/-- as many different integers as lie between two -/
theorem few {l : List Int} {a b : Int} (nd : l.Nodup) (h : ∀ k ∈ l, a ≤ k ∧ k < b) : (l.length : Int) ≤ if a ≤ b then b - a else 0 := by
  by_cases c : a ≤ b
  · rw [if_pos c]
    obtain ⟨n, hn⟩ := Int.eq_ofNat_of_zero_le (show 0 ≤ b - a by omega)
    have p : (l.map fun k => k - a).Nodup := by
      rw [List.Nodup, List.pairwise_map]
      exact nd.imp fun h e => h (by omega)
    have s : ∀ k ∈ l.map (fun k => k - a), k ∈ rg n := fun k hk => by
      obtain ⟨z, hz, rfl⟩ := List.mem_map.mp hk
      have := h z hz
      exact rg_mem.mpr ⟨by omega, by omega⟩
    have q := card_one p ((up_nodup (rg_up n)).filter fun k => decide (k ∈ l.map fun k => k - a)) fun k => by
      rw [List.mem_filter, decide_eq_true_eq]
      exact ⟨fun z => ⟨s k z, z⟩, fun z => z.2⟩
    have u := List.length_filter_le (fun k => decide (k ∈ l.map fun k => k - a)) (rg n)
    rw [← q, List.length_map, rg_len] at u
    omega
  · rw [if_neg c]
    cases l with
    | nil => exact Int.le_refl 0
    | cons x l =>
      have := h x List.mem_cons_self
      omega
theorem ct_bounds {xs : List Int} {h : Int} (h0 : 0 ≤ h) (w : ∀ x ∈ xs, 0 ≤ x ∧ x < 2 * h) : ct xs h ≤ h ∧ ((srt xs).length : Int) - ct xs h ≤ h := by
  have nd := up_nodup (srt_up xs)
  have e1 := few (a := 0) (b := h) (l := (srt xs).filter fun y => decide (y < h)) (nd.filter _) fun k hk => by
    obtain ⟨m, c⟩ := List.mem_filter.mp hk
    exact ⟨(w k (srt_mem.mp m)).1, of_decide_eq_true c⟩
  have e2 := few (a := h) (b := 2 * h) (l := (srt xs).filter fun y => !decide (y < h)) (nd.filter _) fun k hk => by
    obtain ⟨m, c⟩ := List.mem_filter.mp hk
    have := (w k (srt_mem.mp m)).2
    have c2 : decide (k < h) = false := by simpa using c
    have := of_decide_eq_false c2
    omega
  have e3 : ((srt xs).filter fun y => decide (y < h)).length + ((srt xs).filter fun y => !decide (y < h)).length = (srt xs).length := by
    have := List.length_eq_countP_add_countP (fun y => decide (y < h)) (l := srt xs)
    rw [List.countP_eq_length_filter, List.countP_eq_length_filter] at this
    have q : (fun a : Int => decide (¬ (decide (a < h)) = true)) = fun y => !decide (y < h) := by
      funext y
      by_cases c : y < h <;> simp [c]
    rw [q] at this
    omega
  unfold ct rk
  rw [if_pos h0] at e1
  rw [if_pos (show h ≤ 2 * h by omega)] at e2
  omega
/-- the first words -/
def lw (h c r : Int) : Int := if r < c then r else h + r - c
theorem lw_up {h c r s : Int} (hc : c ≤ h) (l : r < s) : lw h c r < lw h c s := by
  unfold lw
  split <;> split <;> omega
theorem lw_inj {h c r s : Int} (hc : c ≤ h) (e : lw h c r = lw h c s) : r = s := by
  rcases Int.lt_trichotomy r s with l | l | l
  · have := lw_up hc l
    omega
  · exact l
  · have := lw_up hc l
    omega
theorem lw_word {h c r : Int} {m : Nat} (h0 : 0 ≤ c) (hc : c ≤ h) (hm : (m : Int) - c ≤ h) (r0 : 0 ≤ r) (r1 : r < m) : 0 ≤ lw h c r ∧ lw h c r < 2 * h := by
  unfold lw
  split <;> omega
theorem lw_cut {h c r : Int} (hc : c ≤ h) : lw h c r < h ↔ r < c := by
  unfold lw
  split <;> constructor <;> intro _ <;> omega
theorem srt_lw {rs : List Int} {m : Nat} {h c : Int} (hc : c ≤ h) (is : IsRk rs m) : srt (rs.map (lw h c)) = (rg m).map (lw h c) := by
  refine up_one (srt_up _) ?_ fun k => ?_
  · rw [List.pairwise_map]
    exact (rg_up m).imp fun l => lw_up hc l
  · rw [srt_mem, List.mem_map, List.mem_map]
    constructor
    · rintro ⟨r, hr, e⟩
      exact ⟨r, rg_mem.mpr ((is r).mp hr), e⟩
    · rintro ⟨r, hr, e⟩
      exact ⟨r, (is r).mpr (rg_mem.mp hr), e⟩
theorem rk_map {h c x : Int} (hc : c ≤ h) : ∀ l : List Int, rk (l.map (lw h c)) (lw h c x) = rk l x
  | [] => rfl
  | y :: l => by
    rw [List.map_cons, rk_cons, rk_cons, rk_map hc l]
    congr 1
    by_cases q : y < x
    · rw [if_pos q, if_pos (lw_up hc q)]
    · rw [if_neg q, if_neg (fun z => by
        rcases Int.lt_trichotomy x y with e | e | e
        · have := lw_up hc e
          omega
        · subst e
          omega
        · exact q e)]
theorem rk_mapc {h c : Int} (hc : c ≤ h) : ∀ l : List Int, rk (l.map (lw h c)) h = rk l c
  | [] => rfl
  | y :: l => by
    rw [List.map_cons, rk_cons, rk_cons, rk_mapc hc l]
    congr 1
    by_cases q : y < c
    · rw [if_pos q, if_pos ((lw_cut hc).mpr q)]
    · rw [if_neg q, if_neg (fun z => q ((lw_cut hc).mp z))]
theorem rk_rg {m : Nat} {c : Int} (h0 : 0 ≤ c) (h1 : c ≤ m) : ((rk (rg m) c : Nat) : Int) = c := by
  obtain ⟨n, rfl⟩ := Int.eq_ofNat_of_zero_le h0
  have e : (rg m).filter (fun y => decide (y < ((n : Nat) : Int))) = rg n := up_one ((rg_up m).filter _) (rg_up n) fun k => by
    rw [List.mem_filter, rg_mem, rg_mem, decide_eq_true_eq]
    omega
  unfold rk
  rw [e, rg_len]
/-- the first words have the ranking -/
theorem rks_lw {rs : List Int} {m : Nat} {h c : Int} (hc : c ≤ h) (c0 : 0 ≤ c) (cm : c ≤ m) (is : IsRk rs m) : rks (rs.map (lw h c)) = rs ∧ ct (rs.map (lw h c)) h = c := by
  have e := srt_lw hc is
  refine ⟨?_, ?_⟩
  · unfold rks
    rw [e, List.map_map]
    have : ∀ r ∈ rs, ((fun x => ((rk ((rg m).map (lw h c)) x : Nat) : Int)) ∘ lw h c) r = r := fun r hr => by
      obtain ⟨r0, r1⟩ := (is r).mp hr
      show ((rk ((rg m).map (lw h c)) (lw h c r) : Nat) : Int) = r
      rw [rk_map hc]
      exact rk_rg r0 (by omega)
    rw [List.map_congr_left this, List.map_id']
  · unfold ct
    rw [e, rk_mapc hc]
    exact rk_rg c0 cm
/-- and no word is less than the first one of its rank -/
theorem lw_least {xs : List Int} {h x : Int} (h0 : 0 ≤ h) (w : ∀ x ∈ xs, 0 ≤ x) (hx : x ∈ xs) : lw h (ct xs h) ((rk (srt xs) x : Nat) : Int) ≤ x := by
  have nd := up_nodup (srt_up xs)
  have m := srt_mem.mpr hx
  have cc := rk_cut (h := h) m
  unfold lw ct
  split
  · rename_i c
    have e := few (a := 0) (b := x) (l := (srt xs).filter fun y => decide (y < x)) (nd.filter _) fun k hk => by
      obtain ⟨m, c⟩ := List.mem_filter.mp hk
      exact ⟨w k (srt_mem.mp m), of_decide_eq_true c⟩
    rw [if_pos (w x hx)] at e
    unfold rk
    omega
  · rename_i c
    have xh : h ≤ x := by
      refine Decidable.byContradiction fun n => c ?_
      have := cc.mp (by omega)
      omega
    have e := few (a := h) (b := x) (l := (srt xs).filter fun y => decide (y < x) && !decide (y < h)) (nd.filter _) fun k hk => by
      obtain ⟨m, c⟩ := List.mem_filter.mp hk
      obtain ⟨c1, c2⟩ := Bool.and_eq_true_iff.mp c
      have c3 : decide (k < h) = false := by simpa using c2
      have := of_decide_eq_false c3
      exact ⟨by omega, of_decide_eq_true c1⟩
    rw [if_pos xh] at e
    have split3 : ∀ l : List Int, rk l x = rk l h + (l.filter fun y => decide (y < x) && !decide (y < h)).length := fun l => by
      induction l with
      | nil => rfl
      | cons y l ih =>
        rw [rk_cons, rk_cons, ih, List.filter_cons]
        by_cases q1 : y < h
        · have q2 : y < x := by omega
          simp only [q1, q2, decide_true, Bool.not_true, Bool.and_false, if_true]
          simp
          omega
        · by_cases q2 : y < x
          · simp [q1, q2]
            omega
          · simp [q1, q2]
    have := split3 (srt xs)
    omega
theorem lex_le {e r : Nat → Bool} {z : Bool} (hz : z = true) (hr : ∀ i, r i = true) : ∀ (k i : Nat), Ob.lexAt e r z i k = true
  | 0, _ => hz
  | k + 1, i => by
    rw [Ob.lexAt_succ]
    split
    · exact lex_le hz hr k (i + 1)
    · exact hr i
/-- outcomes by ranks are those of the words -/
theorem ocut_rk {xs : List Int} {h x y : Int} (hx : x ∈ xs) (hy : y ∈ xs) : ocut (ct xs h) ((rk (srt xs) x : Nat) : Int) ((rk (srt xs) y : Nat) : Int) = ocut h x y := by
  have mx := srt_mem.mpr hx
  have my := srt_mem.mpr hy
  obtain ⟨i1, i2⟩ := rk_iff mx my
  have cx := rk_cut (h := h) mx
  have cy := rk_cut (h := h) my
  unfold ocut ct
  have d1 : decide ((rk (srt xs) x : Int) < (rk (srt xs) h : Int)) = decide (x < h) := decide_eq_decide.mpr (by omega)
  have d2 : decide ((rk (srt xs) y : Int) < (rk (srt xs) h : Int)) = decide (y < h) := decide_eq_decide.mpr (by omega)
  rw [d1, d2]
  by_cases c : x = y
  · rw [if_pos c, if_pos (by have := i2.mp c; omega)]
  · rw [if_neg c, if_neg (fun z => c (i2.mpr (by omega)))]
    by_cases l : x < y
    · rw [if_pos l, if_pos (show (rk (srt xs) x : Int) < (rk (srt xs) y : Int) by have := i1.mp l; omega)]
    · rw [if_neg l, if_neg (show ¬ (rk (srt xs) x : Int) < (rk (srt xs) y : Int) from fun z => l (i1.mpr (by omega)))]
end BR
namespace BR
open PySem PySem.Spec PyProof.Rows L2
/-! ### comprehensions that choose ints; a ranking in the heap -/
theorem filt_succ {p : Int → Bool} {xs : List Int} {i : Nat} {z : Int} (h : xs[i]? = some z) : (xs.take (i + 1)).filter p = (xs.take i).filter p ++ (if p z then [z] else []) := by
  have e : xs.take (i + 1) = xs.take i ++ [z] := by
    rw [List.take_add_one, h]
    rfl
  rw [e, List.filter_append]
  congr 1
  cases c : p z <;> simp [List.filter, c]
section
variable {K : PySem.W.Frag} {a : Addr} {xs : List Int} {j : Nat} {tt : TT} {te : TE} {vs : List Nat} {σ : L2.St} {H1 : Hp} {D : Addr} {Qd : Hp → Prop}
theorem lc_filtL (p : Int → Bool) (hL : SqL K H1 a (xs.map V.int)) (hz : xs.length ≤ 1000) (hD : H1 D = none)
    (hw : ∀ x : V, wipe ((wipe σ vs).set j (some x)) vs = wipe σ vs)
    (ht : ∀ (x : Int) (H2 : Hp) (Q : Bool → Hp → Prop), x ∈ xs → Same H1 H2 → (∀ H3, Same H2 H3 → Q (p x) H3) → tt ((wipe σ vs).set j (some (.int x))) H2 Q)
    (he : ∀ (x : Int) (H2 : Hp) (Q : VK), x ∈ xs → Same H1 H2 → Q (.int x) H2 → te ((wipe σ vs).set j (some (.int x))) H2 Q)
    (hd : ∀ H, Same H1 H → H D = some (.lst ((xs.filter p).map V.int)) → Qd H) :
    ∃ W : Nat → Nat → Hp → Prop, (∃ m, W 0 m (L2.upd H1 D (.lst []))) ∧ ∀ i m H, W i m H →
      ((Itl K a).stop i H ∧ Qd H) ∨ ((Itl K a).go i H ∧ ∃ Nx : Hp → Prop, (∀ H', Nx H' → ∃ m', m' < m ∧ W (i + 1) m' H') ∧ ∀ x H', (Itl K a).yld i H x H' → gName j x (wipe σ vs) H' fun σ2 H2 => wipe σ2 vs = wipe σ vs ∧ tt σ2 H2 fun b H3 =>
        if b = true then te σ2 H3 fun y H4 => ∃ acc, H4 D = some (.lst acc) ∧ acc.length < sizeLine ∧ Nx (L2.upd H4 D (.lst (acc ++ [y]))) else Nx H3) := by
  refine lc_list (xs := xs.map V.int) (fun i H => Same H1 H ∧ H D = some (.lst (((xs.take i).filter p).map V.int))) ⟨sameNew hD, upd_same⟩ (fun i H _ q => q.1.seq hL) ?_ ?_
  · rintro i x H hx ⟨s, hH⟩
    obtain ⟨z, hz1, rfl⟩ := map_at hx
    have mem := List.mem_of_getElem? hz1
    refine ⟨hw _, ?_⟩
    refine ht z H _ mem s fun H3 s3 => ?_
    have step := filt_succ (p := p) hz1
    cases c : p z with
    | false =>
      rw [c] at step
      refine tF rfl ⟨s.trans s3, ?_⟩
      rw [step]
      simpa using s3 _ _ hH
    | true =>
      rw [c] at step
      refine tT rfl (he z H3 _ mem (s.trans s3) ⟨_, s3 _ _ hH, small1000 ?_, sameUp (s.trans s3) hD, ?_⟩)
      · have l1 := List.length_filter_le p (xs.take i)
        rw [List.length_take] at l1
        rw [List.length_map]
        omega
      · rw [upd_same, step, List.map_append]
        rfl
  · rintro H ⟨s, hH⟩
    rw [List.length_map, List.take_length] at hH
    exact hd H s hH
theorem lc_filtT (p : Int → Bool) (hL : SqT K H1 a (xs.map V.int)) (hz : xs.length ≤ 1000) (hD : H1 D = none)
    (hw : ∀ x : V, wipe ((wipe σ vs).set j (some x)) vs = wipe σ vs)
    (ht : ∀ (x : Int) (H2 : Hp) (Q : Bool → Hp → Prop), x ∈ xs → Same H1 H2 → (∀ H3, Same H2 H3 → Q (p x) H3) → tt ((wipe σ vs).set j (some (.int x))) H2 Q)
    (he : ∀ (x : Int) (H2 : Hp) (Q : VK), x ∈ xs → Same H1 H2 → Q (.int x) H2 → te ((wipe σ vs).set j (some (.int x))) H2 Q)
    (hd : ∀ H, Same H1 H → H D = some (.lst ((xs.filter p).map V.int)) → Qd H) :
    ∃ W : Nat → Nat → Hp → Prop, (∃ m, W 0 m (L2.upd H1 D (.lst []))) ∧ ∀ i m H, W i m H →
      ((Itt K a).stop i H ∧ Qd H) ∨ ((Itt K a).go i H ∧ ∃ Nx : Hp → Prop, (∀ H', Nx H' → ∃ m', m' < m ∧ W (i + 1) m' H') ∧ ∀ x H', (Itt K a).yld i H x H' → gName j x (wipe σ vs) H' fun σ2 H2 => wipe σ2 vs = wipe σ vs ∧ tt σ2 H2 fun b H3 =>
        if b = true then te σ2 H3 fun y H4 => ∃ acc, H4 D = some (.lst acc) ∧ acc.length < sizeLine ∧ Nx (L2.upd H4 D (.lst (acc ++ [y]))) else Nx H3) := by
  refine lc_tup (xs := xs.map V.int) (fun i H => Same H1 H ∧ H D = some (.lst (((xs.take i).filter p).map V.int))) ⟨sameNew hD, upd_same⟩ (fun i H _ q => sameT q.1 hL) ?_ ?_
  · rintro i x H hx ⟨s, hH⟩
    obtain ⟨z, hz1, rfl⟩ := map_at hx
    have mem := List.mem_of_getElem? hz1
    refine ⟨hw _, ?_⟩
    refine ht z H _ mem s fun H3 s3 => ?_
    have step := filt_succ (p := p) hz1
    cases c : p z with
    | false =>
      rw [c] at step
      refine tF rfl ⟨s.trans s3, ?_⟩
      rw [step]
      simpa using s3 _ _ hH
    | true =>
      rw [c] at step
      refine tT rfl (he z H3 _ mem (s.trans s3) ⟨_, s3 _ _ hH, small1000 ?_, sameUp (s.trans s3) hD, ?_⟩)
      · have l1 := List.length_filter_le p (xs.take i)
        rw [List.length_take] at l1
        rw [List.length_map]
        omega
      · rw [upd_same, step, List.map_append]
        rfl
  · rintro H ⟨s, hH⟩
    rw [List.length_map, List.take_length] at hH
    exact hd H s hH
end
/-- a ranking (ranks, cut) stands at q -/
def RkAt (H : Hp) (q rt : Addr) (rs : List Int) (c : Int) : Prop := H q = some (.tup [.ref rt, .int c]) ∧ H rt = some (.tup (rs.map V.int))
theorem RkAt.same {H H' : Hp} {q rt : Addr} {rs : List Int} {c : Int} (h : RkAt H q rt rs c) (s : Same H H') : RkAt H' q rt rs c := ⟨s _ _ h.1, s _ _ h.2⟩
theorem rgV_rg (m : Nat) : rgV 0 (m : Int) = (rg m).map V.int := by
  unfold rgV rg
  rw [List.map_map]
  have : ((m : Int) - 0).toNat = m := by omega
  rw [this]
  apply List.map_congr_left
  intro i _
  show V.int (0 + (i : Int)) = V.int (i : Int)
  rw [Int.zero_add]
theorem srt_len : ∀ l : List Int, (srt l).length ≤ l.length
  | [] => Nat.le_refl _
  | x :: l => by
    have h : ∀ (x : Int) (l : List Int), (ins1 x l).length ≤ l.length + 1 := by
      intro x l
      induction l with
      | nil => exact Nat.le_refl _
      | cons y l ih =>
        unfold ins1
        split
        · exact Nat.le_refl _
        · split
          · exact Nat.le_succ _
          · exact Nat.succ_le_succ ih
    exact Nat.le_trans (h x (srt l)) (Nat.succ_le_succ (srt_len l))
/-- a ranking as data -/
def rkD (rs : List Int) (c : Int) : PyData := .tuple [.tuple (rs.map PyData.int), .int c]
theorem RkAt.dp {K : PySem.W.Frag} {H : Hp} {q rt : Addr} {rs : List Int} {c : Int} (h : RkAt H q rt rs c) : Dp K H (.ref q) (rkD rs c) := .tup (SqT.of h.1) (.cons (.tup (SqT.of h.2) (ints_all rs)) (.cons (.int c) .nil))
theorem rkD_ok {rs : List Int} {c : Int} (hr : ∀ r ∈ rs, 0 ≤ r ∧ r < 2 ^ 300) (hc : 0 ≤ c ∧ c < 2 ^ 300) (hz : rs.length ≤ 10) :
    SeqAt.shaped (rkD rs c) = true ∧ (PyData.list [rkD rs c, rkD rs c]).showable = true ∧ (PyData.list [rkD rs c, rkD rs c]).hasDict = false ∧ (PyData.list [rkD rs c, rkD rs c]).depth ≤ 60 ∧ (PyData.list [rkD rs c, rkD rs c]).shown.length ≤ sizeLine := by
  obtain ⟨h1, h2, h3, h4⟩ := ints_show hr
  obtain ⟨g1, g2, g3, g4⟩ := ints_show (ys := [c]) fun y hy => by
    obtain rfl := List.mem_singleton.mp hy
    exact hc
  obtain ⟨l1, l2⟩ := ints_lay rs
  have ic1 : (PyData.int c).showable = true := by simpa [PyData.showableAll] using g1
  have ic3 : (PyData.int c).leavesShort 301 = true := by simpa [PyData.leavesShortAll] using g3
  have ic4 : (PyData.int c).weight + 1 + 0 ≤ 301 * 1 := g4
  refine ⟨?_, ?_, ?_, ?_, ?_⟩
  · unfold SeqAt.shaped
    show ((PyData.canLayAll0 (rs.map PyData.int) && (true && true)) && decide (max (PyData.depthAll (rs.map PyData.int) + 1) (max 0 0) + 1 ≤ 64)) = true
    rw [l1, l2]
    rfl
  · show ((PyData.showableAll (rs.map PyData.int) && ((PyData.int c).showable && true)) && ((PyData.showableAll (rs.map PyData.int) && ((PyData.int c).showable && true)) && true)) = true
    rw [h1, ic1]
    rfl
  · show ((PyData.hasDictAll (rs.map PyData.int) || (false || false)) || ((PyData.hasDictAll (rs.map PyData.int) || (false || false)) || false)) = false
    rw [h2]
    rfl
  · show max (max (PyData.depthAll (rs.map PyData.int) + 1) (max 0 0) + 1) (max (max (PyData.depthAll (rs.map PyData.int) + 1) (max 0 0) + 1) 0) + 1 ≤ 60
    rw [l2]
    decide
  · have e := PyData.shown_le 301 (by decide) (.list [rkD rs c, rkD rs c]) (by
      show ((PyData.leavesShortAll 301 (rs.map PyData.int) && ((PyData.int c).leavesShort 301 && true)) && ((PyData.leavesShortAll 301 (rs.map PyData.int) && ((PyData.int c).leavesShort 301 && true)) && true)) = true
      rw [h3, ic3]
      rfl)
    have w : (PyData.list [rkD rs c, rkD rs c]).weight ≤ 8000 := by
      show (PyData.weightAll (rs.map PyData.int) + 1 + ((PyData.int c).weight + 1 + 0)) + 1 + ((PyData.weightAll (rs.map PyData.int) + 1 + ((PyData.int c).weight + 1 + 0)) + 1 + 0) ≤ 8000
      omega
    have : (301 + 2) * (PyData.list [rkD rs c, rkD rs c]).weight ≤ (301 + 2) * 8000 := Nat.mul_le_mul_left _ w
    exact Nat.le_trans e (Nat.le_trans (Nat.add_le_add_right this _) (by decide))
end BR

/-! ### walks whatever the turn does; max of a tuple; comb -/
namespace BR
open PySem PySem.Spec PyProof.Rows L2
section
variable {K : PySem.W.Frag} {H0 : Hp} {Qd : Hp → Prop} {B : V → Hp → (Hp → Prop) → Prop}
theorem itl_by {a : Addr} {xs : List V} (Pv : Nat → Hp → Prop) (h0 : Pv 0 H0) (hl : ∀ i H, i ≤ xs.length → Pv i H → SqL K H a xs) (hs : ∀ i x H, xs[i]? = some x → Pv i H → B x H (Pv (i + 1))) (hd : ∀ H, Pv xs.length H → Qd H) :
    ∃ W : Nat → Nat → Hp → Prop, (∃ m, W 0 m H0) ∧ ∀ i m H, W i m H → ((Itl K a).stop i H ∧ Qd H) ∨ ((Itl K a).go i H ∧ ∃ Nx : Hp → Prop, (∀ H', Nx H' → ∃ m', m' < m ∧ W (i + 1) m' H') ∧ ∀ x H', (Itl K a).yld i H x H' → B x H' Nx) := by
  refine ⟨fun i m H => m = xs.length - i ∧ i ≤ xs.length ∧ Pv i H, ⟨xs.length, by simp, Nat.zero_le _, h0⟩, fun i m H => ?_⟩
  rintro ⟨rfl, hi, p⟩
  have q := hl i H hi p
  rcases Nat.lt_or_eq_of_le hi with c | c
  · refine .inr ⟨⟨xs, xs[i], q, by simp [c]⟩, Pv (i + 1), fun H' p' => ⟨xs.length - (i + 1), by omega, rfl, c, p'⟩, fun x H' y => ?_⟩
    obtain ⟨e, y⟩ := y
    subst e
    exact hs i x _ (y xs q) p
  · subst c
    exact .inl ⟨⟨xs, q, Nat.le_refl _⟩, hd H p⟩
theorem itt_by {a : Addr} {xs : List V} (Pv : Nat → Hp → Prop) (h0 : Pv 0 H0) (hl : ∀ i H, i ≤ xs.length → Pv i H → SqT K H a xs) (hs : ∀ i x H, xs[i]? = some x → Pv i H → B x H (Pv (i + 1))) (hd : ∀ H, Pv xs.length H → Qd H) :
    ∃ W : Nat → Nat → Hp → Prop, (∃ m, W 0 m H0) ∧ ∀ i m H, W i m H → ((Itt K a).stop i H ∧ Qd H) ∨ ((Itt K a).go i H ∧ ∃ Nx : Hp → Prop, (∀ H', Nx H' → ∃ m', m' < m ∧ W (i + 1) m' H') ∧ ∀ x H', (Itt K a).yld i H x H' → B x H' Nx) := by
  refine ⟨fun i m H => m = xs.length - i ∧ i ≤ xs.length ∧ Pv i H, ⟨xs.length, by simp, Nat.zero_le _, h0⟩, fun i m H => ?_⟩
  rintro ⟨rfl, hi, p⟩
  have q := hl i H hi p
  rcases Nat.lt_or_eq_of_le hi with c | c
  · refine .inr ⟨⟨xs, xs[i], q, by simp [c]⟩, Pv (i + 1), fun H' p' => ⟨xs.length - (i + 1), by omega, rfl, c, p'⟩, fun x H' y => ?_⟩
    obtain ⟨e, y⟩ := y
    subst e
    exact hs i x _ (y xs q) p
  · subst c
    exact .inl ⟨⟨xs, q, Nat.le_refl _⟩, hd H p⟩
theorem itr_by {lo : Int} {n : Nat} (Pv : Nat → Hp → Prop) (h0 : Pv 0 H0) (hs : ∀ i H, i < n → Pv i H → B (.int (lo + i)) H (Pv (i + 1))) (hd : ∀ H, Pv n H → Qd H) :
    ∃ W : Nat → Nat → Hp → Prop, (∃ m, W 0 m H0) ∧ ∀ i m H, W i m H → ((Itr lo n).stop i H ∧ Qd H) ∨ ((Itr lo n).go i H ∧ ∃ Nx : Hp → Prop, (∀ H', Nx H' → ∃ m', m' < m ∧ W (i + 1) m' H') ∧ ∀ x H', (Itr lo n).yld i H x H' → B x H' Nx) := by
  refine ⟨fun i m H => m = n - i ∧ i ≤ n ∧ Pv i H, ⟨n, by simp, Nat.zero_le _, h0⟩, fun i m H => ?_⟩
  rintro ⟨rfl, hi, p⟩
  rcases Nat.lt_or_eq_of_le hi with c | c
  · refine .inr ⟨c, Pv (i + 1), fun H' p' => ⟨n - (i + 1), by omega, rfl, c, p'⟩, fun x H' y => ?_⟩
    obtain ⟨e, y⟩ := y
    subst e y
    exact hs i _ c p
  · subst c
    exact .inl ⟨Nat.le_refl _, hd H p⟩
end
theorem small9000 {n : Nat} (h : n ≤ 9000) : n < sizeLine := by rw [sizeLine_eq]; omega
/-- the greatest of ints -/
def mx : List Int → Int
  | [] => 0
  | x :: xs => xs.foldl (fun a y => if a < y then y else a) x
theorem mx_fold : ∀ (xs : List Int) (x : Int), (x :: xs).foldl (fun a y => if a < y then y else a) x = xs.foldl (fun a y => if a < y then y else a) x := fun xs x => by
  rw [List.foldl_cons, if_neg (Int.lt_irrefl _)]
section
variable {X : Cx}
def rMaxT (K : PySem.W.Frag) : List V → Hp → VK → Prop := fun xs H Q => ∃ (a : Addr) (ns : List Int), xs = [.ref a] ∧ SqT K H a (ns.map V.int) ∧ ns ≠ [] ∧ Q (.int (mx ns)) H
theorem cr_maxT (hc : X.calm = true) (hu : X.A.units + 64 < cLine) : CallR X (.builtin "max") (rMaxT X.K) := by
  intro pins s σ H xs us Q I r h
  obtain ⟨a, ns, rfl, hq, hne, q⟩ := h
  rw [Vals.ref1 r]
  obtain ⟨its, rv, pt, _⟩ := I.tuple hq
  cases ns with
  | nil => exact absurd rfl hne
  | cons x xs =>
    obtain ⟨as, ra⟩ := Dp.readsAll I ((x :: xs).map PyData.int) _ _ (ints_all (x :: xs)) rv
    have al : ∀ d ∈ (x :: xs).map PyData.int, ∃ i, d = .int i := fun d hd => by
      obtain ⟨i, _, e⟩ := List.mem_map.mp hd
      exact ⟨i, e.symm⟩
    refine PySem.W.max_tuple_data (x := .int x) (xs := xs.map .int) (I.ok.hd hc) (show s.heap.IsTuple a its.toArray from pt) (by simpa using ra) ⟨fun d hd e he => ?_, fun d hd => ?_⟩ (by show X.A.units + 1 + PyData.depthAll ((x :: xs).map PyData.int) < cLine; rw [(ints_lay (x :: xs)).2]; omega) fun k v h' tk bs _ hr hk => ?_
    · obtain ⟨i, rfl⟩ := al d hd
      obtain ⟨j, rfl⟩ := al e he
      rfl
    · obtain ⟨i, rfl⟩ := al d hd
      exact fun z => nomatch z
    · have e : ∀ (ys : List Int) (z : Int), PySem.W.maxD (.int z) (ys.map PyData.int) = .int (ys.foldl (fun a y => if a < y then y else a) z) := by
        intro ys
        induction ys with
        | nil => exact fun z => rfl
        | cons y ys ih =>
          intro z
          have st : PySem.W.maxD (.int z) ((y :: ys).map PyData.int) = PySem.W.maxD (if PySem.W.dataLt (.int z) (.int y) then .int y else .int z) (ys.map PyData.int) := rfl
          rw [st, PySem.W.dataLt_int, List.foldl_cons]
          by_cases c : z < y
          · rw [if_pos (decide_eq_true c), if_pos c, ih]
          · rw [if_neg (fun q => c (of_decide_eq_true q)), if_neg c, ih]
      rw [e] at hr
      cases hr
      exact ⟨.int _, H, I.kept (t' := tk) hk, ⟨_, rfl⟩, q⟩
def rLenSq (K : PySem.W.Frag) : List V → Hp → VK → Prop := fun xs H Q => ∃ p ys, xs = [.ref p] ∧ (SqL K H p ys ∨ SqT K H p ys) ∧ Q (.int ys.length) H
theorem cr_lenSq : CallR X (.builtin "len") (rLenSq X.K) := call_len_seq
def rTupOf (K : PySem.W.Frag) : List V → Hp → VK → Prop := fun xs H Q => ∃ p ys, xs = [.ref p] ∧ ((SqL K H p ys ∧ ∀ l, H l = none → Q (.ref l) (L2.upd H l (.tup ys))) ∨ (SqT K H p ys ∧ Q (.ref p) H))
theorem cr_tupOf : CallR X (.type "tuple") (rTupOf X.K) := call_tuple_of
/-- comb(n, k), n below 2^300, k at most 5 -/
def cmb (n : Int) (k : Int) : Int := if n < k then 0 else Builtin.Math.fallingProduct n (min k (n - k)).toNat / Builtin.Math.fallingProduct (min k (n - k)) (min k (n - k)).toNat
theorem cr_comb : CallR X (.builtin "math.comb") (fun xs H Q => ∃ n k : Int, xs = [.int n, .int k] ∧ 0 ≤ n ∧ 0 ≤ k ∧ k ≤ 9000 ∧ (n < k ∨ (Builtin.Math.fallingProduct n (min k (n - k)).toNat / Builtin.Math.fallingProduct (min k (n - k)) (min k (n - k)).toNat).natAbs.log2 < bitsLine) ∧ Q (.int (cmb n k)) H) := by
  intro pins s σ H xs us Q I r h
  obtain ⟨n, k, rfl, n0, k0, k9, sz, q⟩ := h
  obtain ⟨t, u, rfl⟩ := Vals.int2 r
  unfold cmb at q
  by_cases c : n < k
  · rw [if_pos c] at q
    exact call_function_meets PySem.W.MGF.kind_comb PySem.W.MGF.plain_comb PySem.W.MGF.entry_comb (PySem.W.MGF.args_comb _ _) (PySem.W.mc_run_comb0 n t k u (by omega) (by omega) c).meets ⟨.int 0, H, I.tok _, ⟨_, rfl⟩, q⟩
  · rw [if_neg c] at q
    have z := sz.resolve_left c
    refine call_function_meets PySem.W.MGF.kind_comb PySem.W.MGF.plain_comb PySem.W.MGF.entry_comb (PySem.W.MGF.args_comb _ _) (PySem.W.mc_run_comb n t k u (by omega) (by omega) (by omega) ?_ ?_ (by omega) z).meets ⟨.int _, H, I.tok _, ⟨_, rfl⟩, q⟩
    · have : (9000 : Int) < Builtin.Math.maxSsize := by decide +kernel
      omega
    · have : (9000 : Int) ≤ Builtin.Math.manyFactors := by decide +kernel
      omega
end
end BR

/-! ### all rankings -/
namespace BR
open PySem PySem.Spec PyProof.Rows L2
def gapsI (r : List Int) : Int := mx r + 1 - ((srt r).length : Int)
def addR (n : Nat) (r : List Int) : List (List Int) := (List.range n).map fun x => r ++ [((x : Nat) : Int)]
def keepR (n : Nat) (r : List Int) : Bool := decide (gapsI r ≤ (n : Int) - (r.length : Int))
def rowsR (n : Nat) : Nat → List (List Int)
  | 0 => [[]]
  | k + 1 => ((rowsR n k).flatMap (addR n)).filter (keepR n)
def cutsR (r : List Int) : List (List Int × Int) := (List.range (mx r + 2).toNat).map fun c => (r, ((c : Nat) : Int))
def allRk (n : Nat) : List (List Int × Int) := (rowsR n n).flatMap cutsR
def okRk (n : Nat) (p : List Int × Int) : Bool := decide (p.1.length = n) && decide (srt p.1 = rg (srt p.1).length) && decide (0 ≤ p.2) && decide (p.2 ≤ ((srt p.1).length : Int))
theorem rows_small : ∀ n ∈ ([1, 2, 3, 4, 5] : List Nat), ∀ k ∈ List.range n, (rowsR n k).length ≤ 700 ∧ ∀ r ∈ rowsR n k, r.length = k := by decide +kernel
theorem rows_last : ∀ n ∈ ([1, 2, 3, 4, 5] : List Nat), (rowsR n n).length ≤ 700 ∧ (∀ r ∈ rowsR n n, r.length = n ∧ 0 ≤ mx r ∧ mx r ≤ 4) := by decide +kernel
theorem all_len : [1, 2, 3, 4, 5].map (fun n => (allRk n).length) = [2, 8, 44, 308, 2612] := by decide +kernel
theorem all_ok : ∀ n ∈ ([1, 2, 3, 4, 5] : List Nat), (allRk n).all (okRk n) = true := by decide +kernel
theorem five {n : Nat} (h1 : 1 ≤ n) (h2 : n ≤ 5) : n ∈ ([1, 2, 3, 4, 5] : List Nat) := by
  have : n = 1 ∨ n = 2 ∨ n = 3 ∨ n = 4 ∨ n = 5 := by omega
  simpa using this
theorem flat_len {α β : Type} {f : α → List β} {m : Nat} : ∀ {l : List α}, (∀ x ∈ l, (f x).length ≤ m) → (l.flatMap f).length ≤ l.length * m
  | [], _ => Nat.zero_le _
  | x :: l, h => by
    rw [List.flatMap_cons, List.length_append, List.length_cons, Nat.succ_mul]
    have a := h x List.mem_cons_self
    have b := flat_len (f := f) (m := m) (l := l) fun y hy => h y (List.mem_cons_of_mem _ hy)
    omega
/-- refs to tuples of ints -/
def TL (H : Hp) (as : List Addr) (rows : List (List Int)) : Prop := Paired (fun a row => H a = some (.tup (row.map V.int))) as rows
theorem pr_mono {α β : Type} {R S : α → β → Prop} : ∀ {as : List α} {bs : List β}, Paired R as bs → (∀ a b, R a b → S a b) → Paired S as bs
  | _, _, .nil, _ => .nil
  | _, _, .cons h t, m => .cons (m _ _ h) (pr_mono t m)
theorem pr_snoc {α β : Type} {R : α → β → Prop} {a : α} {b : β} : ∀ {as : List α} {bs : List β}, Paired R as bs → R a b → Paired R (as ++ [a]) (bs ++ [b])
  | _, _, .nil, r => .cons r .nil
  | _, _, .cons h t, r => .cons h (pr_snoc t r)
theorem pr_len {α β : Type} {R : α → β → Prop} : ∀ {as : List α} {bs : List β}, Paired R as bs → as.length = bs.length
  | _, _, .nil => rfl
  | _, _, .cons _ t => congrArg Nat.succ (pr_len t)
theorem pr_at {α β : Type} {R : α → β → Prop} : ∀ {as : List α} {bs : List β}, Paired R as bs → ∀ {i : Nat} {a : α}, as[i]? = some a → ∃ b, bs[i]? = some b ∧ R a b
  | _, _, .cons h t, 0, a, e => by
    cases e
    exact ⟨_, rfl, h⟩
  | _, _, .cons h t, i + 1, a, e => pr_at t (i := i) e
theorem pr_at2 {α β : Type} {R : α → β → Prop} : ∀ {as : List α} {bs : List β}, Paired R as bs → ∀ {i : Nat} {b : β}, bs[i]? = some b → ∃ a, as[i]? = some a ∧ R a b
  | _, _, .cons h t, 0, a, e => by
    cases e
    exact ⟨_, rfl, h⟩
  | _, _, .cons h t, i + 1, a, e => pr_at2 t (i := i) e
theorem TL.same {H H' : Hp} {as : List Addr} {rows : List (List Int)} (h : TL H as rows) (s : Same H H') : TL H' as rows := pr_mono h fun a r e => s _ _ e
theorem TL.put {H : Hp} {as : List Addr} {rows : List (List Int)} {D : Addr} {xs : List V} {o : HO} (h : TL H as rows) (e : H D = some (.lst xs)) : TL (L2.upd H D o) as rows := pr_mono h fun a r q => by
  rw [upd_ne (fun z => by rw [z, e] at q; cases q)]
  exact q
/-- refs to rankings -/
def RL (H : Hp) (qs : List Addr) (ps : List (List Int × Int)) : Prop := Paired (fun q p => ∃ rt, RkAt H q rt p.1 p.2) qs ps
theorem RL.same {H H' : Hp} {qs : List Addr} {ps : List (List Int × Int)} (h : RL H qs ps) (s : Same H H') : RL H' qs ps := pr_mono h fun q p e => let ⟨rt, r⟩ := e; ⟨rt, r.same s⟩
theorem RL.put {H : Hp} {qs : List Addr} {ps : List (List Int × Int)} {D : Addr} {xs : List V} {o : HO} (h : RL H qs ps) (e : H D = some (.lst xs)) : RL (L2.upd H D o) qs ps := pr_mono h fun q p r => by
  obtain ⟨rt, r1, r2⟩ := r
  exact ⟨rt, by rw [upd_ne (fun z => by rw [z, e] at r1; cases r1)]; exact r1, by rw [upd_ne (fun z => by rw [z, e] at r2; cases r2)]; exact r2⟩
theorem mapR_at {as : List Addr} {i : Nat} {x : V} (h : (as.map V.ref)[i]? = some x) : ∃ a, as[i]? = some a ∧ x = .ref a := by
  rw [List.getElem?_map] at h
  cases e : as[i]? with
  | none =>
    rw [e] at h
    cases h
  | some a =>
    rw [e] at h
    cases h
    exact ⟨a, rfl, rfl⟩
theorem flat_take {α β : Type} {f : α → List β} {l : List α} {i : Nat} {x : α} (h : l[i]? = some x) : (l.take (i + 1)).flatMap f = (l.take i).flatMap f ++ f x := by
  rw [List.take_add_one, h, List.flatMap_append]
  simp
theorem addR_take {n j : Nat} {r : List Int} (h : j < n) : (addR n r).take (j + 1) = (addR n r).take j ++ [r ++ [((j : Nat) : Int)]] := by
  have e : (addR n r)[j]? = some (r ++ [((j : Nat) : Int)]) := by
    unfold addR
    rw [List.getElem?_map, List.getElem?_range h]
    rfl
  rw [List.take_add_one, e]
  rfl
theorem cutsR_take {j : Nat} {r : List Int} (h : j < (mx r + 2).toNat) : (cutsR r).take (j + 1) = (cutsR r).take j ++ [(r, ((j : Nat) : Int))] := by
  have e : (cutsR r)[j]? = some (r, ((j : Nat) : Int)) := by
    unfold cutsR
    rw [List.getElem?_map, List.getElem?_range h]
    rfl
  rw [List.take_add_one, e]
  rfl
end BR

/-! ### words counted; words turned; outcomes tell rankings -/
namespace BR
open PySem PySem.Spec PyProof.Rows L2
theorem cmb_small : ∀ n ∈ List.range 8, ∀ k ∈ List.range 5, (k = 0 → cmb (n : Int) k = 1) ∧ (k = 1 → cmb (n : Int) k = n) ∧ (k = 2 → 2 * cmb (n : Int) k = (n : Int) * ((n : Int) - 1)) ∧ (k = 3 → 6 * cmb (n : Int) k = (n : Int) * ((n : Int) - 1) * ((n : Int) - 2)) ∧ (k = 4 → 24 * cmb (n : Int) k = (n : Int) * ((n : Int) - 1) * ((n : Int) - 2) * ((n : Int) - 3)) := by decide +kernel
theorem fall_nn {n : Int} (k : Nat) (h : (k : Int) ≤ n) : 0 ≤ Builtin.Math.fallingProduct n k := by
  induction k with
  | zero => exact (by decide : (0 : Int) ≤ 1)
  | succ k ih =>
    unfold Builtin.Math.fallingProduct at ih ⊢
    rw [List.range_succ, List.foldl_append]
    exact Int.mul_nonneg (ih (by omega)) (by omega)
theorem cmb_polys {n : Int} (h : 0 ≤ n) : cmb n 0 = 1 ∧ cmb n 1 = n ∧ 2 * cmb n 2 = n * (n - 1) ∧ 6 * cmb n 3 = n * (n - 1) * (n - 2) ∧ 24 * cmb n 4 = n * (n - 1) * (n - 2) * (n - 3) := by
  by_cases c : n < 8
  · obtain ⟨a, rfl⟩ := Int.eq_ofNat_of_zero_le h
    have s := cmb_small a (List.mem_range.mpr (by omega))
    exact ⟨(s 0 (by decide)).1 rfl, (s 1 (by decide)).2.1 rfl, (s 2 (by decide)).2.2.1 rfl, (s 3 (by decide)).2.2.2.1 rfl, (s 4 (by decide)).2.2.2.2 rfl⟩
  · have e : ∀ k : Nat, k ≤ 4 → cmb n (k : Int) = Builtin.Math.fallingProduct n k / Builtin.Math.fallingProduct (k : Int) k := fun k hk => by
      unfold cmb
      rw [if_neg (by omega)]
      have m : min (k : Int) (n - k) = (k : Int) := by omega
      rw [m]
      rfl
    have f0 : cmb n 0 = 1 := by rw [show (0 : Int) = ((0 : Nat) : Int) from rfl, e 0 (by decide)]; rfl
    have f1 : cmb n 1 = n := by
      rw [show (1 : Int) = ((1 : Nat) : Int) from rfl, e 1 (by decide)]
      show (1 * (n - 0)) / 1 = n
      omega
    have f2 : cmb n 2 = (1 * (n - 0) * (n - 1)) / 2 := by rw [show (2 : Int) = ((2 : Nat) : Int) from rfl, e 2 (by decide)]; rfl
    have f3 : cmb n 3 = (1 * (n - 0) * (n - 1) * (n - 2)) / 6 := by rw [show (3 : Int) = ((3 : Nat) : Int) from rfl, e 3 (by decide)]; rfl
    have f4 : cmb n 4 = (1 * (n - 0) * (n - 1) * (n - 2) * (n - 3)) / 24 := by rw [show (4 : Int) = ((4 : Nat) : Int) from rfl, e 4 (by decide)]; rfl
    have d2 : (n * (n - 1)) % 2 = 0 := by
      have : n % 2 = 0 ∨ n % 2 = 1 := by omega
      rcases this with h | h <;> simp [Int.mul_emod, Int.sub_emod, h]
    have d3 : (n * (n - 1) * (n - 2)) % 6 = 0 := by
      have : n % 6 = 0 ∨ n % 6 = 1 ∨ n % 6 = 2 ∨ n % 6 = 3 ∨ n % 6 = 4 ∨ n % 6 = 5 := by omega
      rcases this with h | h | h | h | h | h <;> simp [Int.mul_emod, Int.sub_emod, h]
    have d4 : (n * (n - 1) * (n - 2) * (n - 3)) % 24 = 0 := by
      have : n % 24 = 0 ∨ n % 24 = 1 ∨ n % 24 = 2 ∨ n % 24 = 3 ∨ n % 24 = 4 ∨ n % 24 = 5 ∨ n % 24 = 6 ∨ n % 24 = 7 ∨ n % 24 = 8 ∨ n % 24 = 9 ∨ n % 24 = 10 ∨ n % 24 = 11 ∨ n % 24 = 12 ∨ n % 24 = 13 ∨ n % 24 = 14 ∨ n % 24 = 15 ∨ n % 24 = 16 ∨ n % 24 = 17 ∨ n % 24 = 18 ∨ n % 24 = 19 ∨ n % 24 = 20 ∨ n % 24 = 21 ∨ n % 24 = 22 ∨ n % 24 = 23 := by omega
      rcases this with h | h | h | h | h | h | h | h | h | h | h | h | h | h | h | h | h | h | h | h | h | h | h | h <;> simp [Int.mul_emod, Int.sub_emod, h]
    rw [Int.one_mul, Int.sub_zero] at f2 f3 f4
    refine ⟨f0, f1, ?_, ?_, ?_⟩
    · rw [f2]
      generalize n * (n - 1) = z at d2
      omega
    · rw [f3]
      generalize n * (n - 1) * (n - 2) = z at d3
      omega
    · rw [f4]
      generalize n * (n - 1) * (n - 2) * (n - 3) = z at d4
      omega
/-- how many words a ranking has -/
def wordsOf (h : Int) (p : List Int × Int) : Int := cmb h p.2 * cmb h (((srt p.1).length : Int) - p.2)
def shape (p : List Int × Int) : Nat × Nat := (p.2.toNat, (((srt p.1).length : Int) - p.2).toNat)
def cnt {α : Type} [DecidableEq α] (l : List α) (x : α) : Nat := l.count x
theorem sum_count {α : Type} [DecidableEq α] (f : α → Int) : ∀ (l s : List α), s.Nodup → (∀ x ∈ l, x ∈ s) → (l.map f).sum = (s.map fun x => ((cnt l x : Nat) : Int) * f x).sum
  | [], s, _, _ => by
    have : (s.map fun x => ((cnt ([] : List α) x : Nat) : Int) * f x) = s.map fun _ => (0 : Int) := List.map_congr_left fun x _ => by simp [cnt]
    rw [this]
    have z : ∀ s : List α, (s.map fun _ => (0 : Int)).sum = 0 := fun s => by
      induction s with
      | nil => rfl
      | cons x s ih => rw [List.map_cons, List.sum_cons, ih]; rfl
    rw [z]
    rfl
  | y :: l, s, nd, h => by
    have ih := sum_count f l s nd fun x hx => h x (List.mem_cons_of_mem _ hx)
    have my := h y List.mem_cons_self
    rw [List.map_cons, List.sum_cons, ih]
    have g : ∀ (t : List α), t.Nodup → (t.map fun x => ((cnt (y :: l) x : Nat) : Int) * f x).sum = (if y ∈ t then f y else 0) + (t.map fun x => ((cnt l x : Nat) : Int) * f x).sum := by
      unfold cnt
      intro t
      induction t with
      | nil => intro _; rfl
      | cons x t iht =>
        intro ndt
        obtain ⟨nx, nt⟩ := List.nodup_cons.mp ndt
        rw [List.map_cons, List.sum_cons, List.map_cons, List.sum_cons, iht nt]
        by_cases e : y = x
        · subst e
          rw [if_neg nx, if_pos List.mem_cons_self, List.count_cons_self]
          have : (((l.count y + 1 : Nat) : Int)) * f y = f y + ((l.count y : Nat) : Int) * f y := by
            rw [Int.natCast_add, Int.add_mul]
            omega
          rw [this]
          omega
        · rw [List.count_cons_of_ne e]
          have m : (y ∈ x :: t) ↔ y ∈ t := by simp [e]
          by_cases q : y ∈ t
          · rw [if_pos q, if_pos (m.mpr q)]
            omega
          · rw [if_neg q, if_neg (fun z => q (m.mp z))]
            omega
    rw [g s nd, if_pos my]
theorem words_shape (h : Int) (p : List Int × Int) (c0 : 0 ≤ p.2) (cm : p.2 ≤ ((srt p.1).length : Int)) : wordsOf h p = cmb h ((shape p).1 : Int) * cmb h ((shape p).2 : Int) := by
  unfold wordsOf shape
  rw [Int.toNat_of_nonneg c0, Int.toNat_of_nonneg (by omega)]
def keys (n : Nat) : List (Nat × Nat) := (List.range (n + 1)).flatMap fun i => (List.range (n + 1 - i)).map fun j => (i, j)
theorem shape_in : ∀ n ∈ ([1, 2, 3, 4] : List Nat), (keys n).Nodup ∧ ∀ x ∈ (allRk n).map shape, x ∈ keys n := by decide +kernel
theorem ok_at {n : Nat} (h1 : 1 ≤ n) (h2 : n ≤ 5) {p : List Int × Int} (m : p ∈ allRk n) : p.1.length = n ∧ IsRk p.1 (srt p.1).length ∧ 0 ≤ p.2 ∧ p.2 ≤ ((srt p.1).length : Int) := by
  have o := List.all_eq_true.mp (all_ok n (five h1 h2)) p m
  unfold okRk at o
  simp only [Bool.and_eq_true, decide_eq_true_eq] at o
  obtain ⟨⟨⟨a, b⟩, c⟩, d⟩ := o
  refine ⟨a, fun k => ?_, c, d⟩
  rw [← srt_mem (l := p.1), b, rg_len, rg_mem]
theorem sum_all {h : Int} (h0 : 0 ≤ h) {n : Nat} (h1 : 1 ≤ n) (h4 : n ≤ 4) : ((allRk n).map (wordsOf h)).sum = (2 * h) ^ n := by
  have e : (allRk n).map (wordsOf h) = ((allRk n).map shape).map fun s => cmb h (s.1 : Int) * cmb h (s.2 : Int) := by
    rw [List.map_map]
    refine List.map_congr_left fun p m => ?_
    obtain ⟨_, _, c0, cm⟩ := ok_at h1 (by omega) m
    exact words_shape h p c0 cm
  obtain ⟨b0, b1, b2, b3, b4⟩ := cmb_polys h0
  have m4 : n ∈ ([1, 2, 3, 4] : List Nat) := by
    have : n = 1 ∨ n = 2 ∨ n = 3 ∨ n = 4 := by omega
    simpa using this
  obtain ⟨k1, k2⟩ := shape_in n m4
  rw [e, sum_count _ _ _ k1 k2]
  have : n = 1 ∨ n = 2 ∨ n = 3 ∨ n = 4 := by omega
  rcases this with rfl | rfl | rfl | rfl
  · have q : ((keys 1).map fun x => (x, cnt ((allRk 1).map shape) x)) = [((0, 0), 0), ((0, 1), 1), ((1, 0), 1)] := by decide +kernel
    have q2 := congrArg (List.map fun y : (Nat × Nat) × Nat => ((y.2 : Nat) : Int) * (cmb h (y.1.1 : Int) * cmb h (y.1.2 : Int))) q
    rw [List.map_map] at q2
    rw [show (keys 1).map (fun x => ((cnt ((allRk 1).map shape) x : Nat) : Int) * (cmb h (x.1 : Int) * cmb h (x.2 : Int))) = _ from q2]
    show 0 * (cmb h 0 * cmb h 0) + (1 * (cmb h 0 * cmb h 1) + (1 * (cmb h 1 * cmb h 0) + 0)) = (2 * h) ^ 1
    rw [b0, b1]
    grind
  · have q : ((keys 2).map fun x => (x, cnt ((allRk 2).map shape) x)) = [((0, 0), 0), ((0, 1), 1), ((0, 2), 2), ((1, 0), 1), ((1, 1), 2), ((2, 0), 2)] := by decide +kernel
    have q2 := congrArg (List.map fun y : (Nat × Nat) × Nat => ((y.2 : Nat) : Int) * (cmb h (y.1.1 : Int) * cmb h (y.1.2 : Int))) q
    rw [List.map_map] at q2
    rw [show (keys 2).map (fun x => ((cnt ((allRk 2).map shape) x : Nat) : Int) * (cmb h (x.1 : Int) * cmb h (x.2 : Int))) = _ from q2]
    show 0 * (cmb h 0 * cmb h 0) + (1 * (cmb h 0 * cmb h 1) + (2 * (cmb h 0 * cmb h 2) + (1 * (cmb h 1 * cmb h 0) + (2 * (cmb h 1 * cmb h 1) + (2 * (cmb h 2 * cmb h 0) + 0))))) = (2 * h) ^ 2
    rw [b0, b1]
    grind
  · have q : ((keys 3).map fun x => (x, cnt ((allRk 3).map shape) x)) = [((0, 0), 0), ((0, 1), 1), ((0, 2), 6), ((0, 3), 6), ((1, 0), 1), ((1, 1), 6), ((1, 2), 6), ((2, 0), 6), ((2, 1), 6), ((3, 0), 6)] := by decide +kernel
    have q2 := congrArg (List.map fun y : (Nat × Nat) × Nat => ((y.2 : Nat) : Int) * (cmb h (y.1.1 : Int) * cmb h (y.1.2 : Int))) q
    rw [List.map_map] at q2
    rw [show (keys 3).map (fun x => ((cnt ((allRk 3).map shape) x : Nat) : Int) * (cmb h (x.1 : Int) * cmb h (x.2 : Int))) = _ from q2]
    show 0 * (cmb h 0 * cmb h 0) + (1 * (cmb h 0 * cmb h 1) + (6 * (cmb h 0 * cmb h 2) + (6 * (cmb h 0 * cmb h 3) + (1 * (cmb h 1 * cmb h 0) + (6 * (cmb h 1 * cmb h 1) + (6 * (cmb h 1 * cmb h 2) + (6 * (cmb h 2 * cmb h 0) + (6 * (cmb h 2 * cmb h 1) + (6 * (cmb h 3 * cmb h 0) + 0))))))))) = (2 * h) ^ 3
    rw [b0, b1]
    grind
  · have q : ((keys 4).map fun x => (x, cnt ((allRk 4).map shape) x)) = [((0, 0), 0), ((0, 1), 1), ((0, 2), 14), ((0, 3), 36), ((0, 4), 24), ((1, 0), 1), ((1, 1), 14), ((1, 2), 36), ((1, 3), 24), ((2, 0), 14), ((2, 1), 36), ((2, 2), 24), ((3, 0), 36), ((3, 1), 24), ((4, 0), 24)] := by decide +kernel
    have q2 := congrArg (List.map fun y : (Nat × Nat) × Nat => ((y.2 : Nat) : Int) * (cmb h (y.1.1 : Int) * cmb h (y.1.2 : Int))) q
    rw [List.map_map] at q2
    rw [show (keys 4).map (fun x => ((cnt ((allRk 4).map shape) x : Nat) : Int) * (cmb h (x.1 : Int) * cmb h (x.2 : Int))) = _ from q2]
    show 0 * (cmb h 0 * cmb h 0) + (1 * (cmb h 0 * cmb h 1) + (14 * (cmb h 0 * cmb h 2) + (36 * (cmb h 0 * cmb h 3) + (24 * (cmb h 0 * cmb h 4) + (1 * (cmb h 1 * cmb h 0) + (14 * (cmb h 1 * cmb h 1) + (36 * (cmb h 1 * cmb h 2) + (24 * (cmb h 1 * cmb h 3) + (14 * (cmb h 2 * cmb h 0) + (36 * (cmb h 2 * cmb h 1) + (24 * (cmb h 2 * cmb h 2) + (36 * (cmb h 3 * cmb h 0) + (24 * (cmb h 3 * cmb h 1) + (24 * (cmb h 4 * cmb h 0) + 0)))))))))))))) = (2 * h) ^ 4
    rw [b0, b1]
    grind
end BR

/-! ### ranks of turned words; outcomes tell rankings -/
namespace BR
open PySem PySem.Spec PyProof.Rows L2
/-- ranks of f's values: how many different words have less -/
theorem rk_image {f : Int → Int} {xs : List Int} (inj : ∀ x ∈ xs, ∀ y ∈ xs, f x = f y → x = y) (z : Int) : rk (srt (xs.map f)) z = ((srt xs).filter fun y => decide (f y < z)).length := by
  have nd : (((srt xs).filter fun y => decide (f y < z)).map f).Nodup := by
    rw [List.Nodup, List.pairwise_map]
    have n0 : ((srt xs).filter fun y => decide (f y < z)).Nodup := (up_nodup (srt_up xs)).filter _
    have : ((srt xs).filter fun y => decide (f y < z)).Pairwise fun a b => a ∈ xs ∧ b ∈ xs ∧ a ≠ b := by
      refine List.Pairwise.imp_of_mem ?_ n0
      intro a b ha hb ne
      exact ⟨srt_mem.mp (List.mem_filter.mp ha).1, srt_mem.mp (List.mem_filter.mp hb).1, ne⟩
    exact this.imp fun h e => h.2.2 (inj _ h.1 _ h.2.1 e)
  have e := card_one nd ((up_nodup (srt_up (xs.map f))).filter fun y => decide (y < z)) fun k => by
    rw [List.mem_map, List.mem_filter, srt_mem, List.mem_map, decide_eq_true_eq]
    constructor
    · rintro ⟨x, hx, rfl⟩
      obtain ⟨h1, h2⟩ := List.mem_filter.mp hx
      exact ⟨⟨x, srt_mem.mp h1, rfl⟩, of_decide_eq_true h2⟩
    · rintro ⟨⟨x, hx, rfl⟩, h2⟩
      exact ⟨x, List.mem_filter.mpr ⟨srt_mem.mpr hx, decide_eq_true h2⟩, rfl⟩
  rw [List.length_map] at e
  unfold rk
  rw [← e]
theorem filt_congr {l : List Int} {p q : Int → Bool} (h : ∀ y ∈ l, p y = q y) : (l.filter p).length = (l.filter q).length := by
  rw [List.filter_congr h]
theorem filt_not (l : List Int) (p : Int → Bool) : (l.filter p).length + (l.filter fun y => !p y).length = l.length := by
  induction l with
  | nil => rfl
  | cons y l ih =>
    rw [List.filter_cons, List.filter_cons]
    cases p y <;> simp <;> omega
/-- between two bounds -/
theorem filt_between {l : List Int} {a b : Int} (h : a ≤ b) : (l.filter fun y => decide (a ≤ y) && decide (y < b)).length + rk l a = rk l b := by
  induction l with
  | nil => rfl
  | cons y l ih =>
    rw [rk_cons, rk_cons, List.filter_cons]
    by_cases c : a ≤ y <;> by_cases d : y < b <;> simp [c, d] <;> split <;> omega
theorem filt_above (l : List Int) (a : Int) : (l.filter fun y => decide (a ≤ y)).length + rk l a = l.length := by
  have := filt_not l fun y => decide (y < a)
  have e := filt_congr (l := l) (p := fun y => !decide (y < a)) (q := fun y => decide (a ≤ y)) fun y _ => by
    by_cases c : a ≤ y
    · simp [c]
    · simp [c]
      omega
  unfold rk
  omega
theorem filt_above2 {l : List Int} (nd : l.Nodup) {x : Int} (hx : x ∈ l) : (l.filter fun y => decide (x < y)).length + rk l x + 1 = l.length := by
  have h1 := filt_above l x
  have e : ∀ l : List Int, l.Nodup → (l.filter fun y => decide (x ≤ y)).length = (l.filter fun y => decide (x < y)).length + if x ∈ l then 1 else 0 := by
    intro l
    induction l with
    | nil => intro _; rfl
    | cons y l ih =>
      intro nd
      obtain ⟨ny, nl⟩ := List.nodup_cons.mp nd
      have i := ih nl
      rw [List.filter_cons, List.filter_cons]
      by_cases c : y = x
      · subst c
        rw [if_neg ny] at i
        simp [i]
      · have m : (x ∈ y :: l) ↔ x ∈ l := by rw [List.mem_cons]; exact ⟨fun z => z.resolve_left (fun e => c e.symm), .inr⟩
        by_cases d : x ≤ y
        · have d2 : x < y := by omega
          by_cases q : x ∈ l
          · rw [if_pos q] at i
            rw [if_pos (m.mpr q)]
            simp [d, d2]
            omega
          · rw [if_neg q] at i
            rw [if_neg (fun z => q (m.mp z))]
            simp [d, d2]
            omega
        · have d2 : ¬ x < y := by omega
          by_cases q : x ∈ l
          · rw [if_pos q] at i
            rw [if_pos (m.mpr q)]
            simp [d, d2]
            omega
          · rw [if_neg q] at i
            rw [if_neg (fun z => q (m.mp z))]
            simp [d, d2]
            omega
  have := e l nd
  rw [if_pos hx] at this
  omega
/-- what stands after a turn -/
def turnR (c m r : Int) : Int := if c ≤ r then r - c else r + m - c
theorem rks_flip {wd : Int} {xs : List Int} (h1 : 1 ≤ wd) (w : ∀ x ∈ xs, 0 ≤ x ∧ x < 2 ^ wd.toNat) :
    rks (xs.map (fl wd)) = (rks xs).map (turnR (ct xs (2 ^ (wd - 1).toNat)) ((srt xs).length : Int)) ∧ ct (xs.map (fl wd)) (2 ^ (wd - 1).toNat) = ((srt xs).length : Int) - ct xs (2 ^ (wd - 1).toNat) := by
  have e2 := two_half h1
  have inj : ∀ x ∈ xs, ∀ y ∈ xs, fl wd x = fl wd y → x = y := fun x hx y hy e => by
    rw [← fl_fl h1 (w x hx), ← fl_fl h1 (w y hy), e]
  refine ⟨?_, ?_⟩
  · unfold rks
    rw [List.map_map, List.map_map]
    refine List.map_congr_left fun x hx => ?_
    show ((rk (srt (xs.map (fl wd))) (fl wd x) : Nat) : Int) = turnR _ _ ((rk (srt xs) x : Nat) : Int)
    rw [rk_image inj]
    have mx := srt_mem.mpr hx
    have cc := rk_cut (h := (2 : Int) ^ (wd - 1).toNat) mx
    have wx := w x hx
    unfold turnR ct
    by_cases c : x < 2 ^ (wd - 1).toNat
    · have lt := cc.mp c
      rw [if_neg (by omega)]
      have q := filt_congr (l := srt xs) (p := fun y => decide (fl wd y < fl wd x)) (q := fun y => !(decide (x ≤ y) && decide (y < 2 ^ (wd - 1).toNat))) fun y hy => by
        have wy := w y (srt_mem.mp hy)
        have : (fl wd y < fl wd x) ↔ ¬ (x ≤ y ∧ y < 2 ^ (wd - 1).toNat) := by
          unfold fl
          rw [if_pos c]
          split <;> omega
        rw [← Bool.decide_and, ← decide_not]
        exact decide_eq_decide.mpr this
      have n := filt_not (srt xs) fun y => (decide (x ≤ y) && decide (y < 2 ^ (wd - 1).toNat))
      have b := filt_between (l := srt xs) (show x ≤ 2 ^ (wd - 1).toNat by omega)
      rw [q]
      omega
    · have ge : ¬ rk (srt xs) x < rk (srt xs) (2 ^ (wd - 1).toNat) := fun z => c (cc.mpr z)
      rw [if_pos (by omega)]
      have q := filt_congr (l := srt xs) (p := fun y => decide (fl wd y < fl wd x)) (q := fun y => (decide (2 ^ (wd - 1).toNat ≤ y) && decide (y < x))) fun y hy => by
        have wy := w y (srt_mem.mp hy)
        have : (fl wd y < fl wd x) ↔ (2 ^ (wd - 1).toNat ≤ y ∧ y < x) := by
          unfold fl
          rw [if_neg c]
          split <;> omega
        rw [← Bool.decide_and]
        exact decide_eq_decide.mpr this
      have b := filt_between (l := srt xs) (show (2 : Int) ^ (wd - 1).toNat ≤ x by omega)
      rw [q]
      omega
  · unfold ct
    rw [rk_image inj]
    have q := filt_congr (l := srt xs) (p := fun y => decide (fl wd y < 2 ^ (wd - 1).toNat)) (q := fun y => decide (2 ^ (wd - 1).toNat ≤ y)) fun y hy => by
      have wy := w y (srt_mem.mp hy)
      refine decide_eq_decide.mpr ?_
      unfold fl
      split <;> omega
    have a := filt_above (srt xs) (2 ^ (wd - 1).toNat)
    rw [q]
    omega
theorem rks_inv {wd : Int} {xs : List Int} (h1 : 1 ≤ wd) (w : ∀ x ∈ xs, 0 ≤ x ∧ x < 2 ^ wd.toNat) :
    rks (xs.map (iv wd)) = (rks xs).map (fun r => ((srt xs).length : Int) - 1 - r) ∧ ct (xs.map (iv wd)) (2 ^ (wd - 1).toNat) = ((srt xs).length : Int) - ct xs (2 ^ (wd - 1).toNat) := by
  have e2 := two_half h1
  have inj : ∀ x ∈ xs, ∀ y ∈ xs, iv wd x = iv wd y → x = y := fun x hx y hy e => by
    rw [← iv_iv wd x, ← iv_iv wd y, e]
  refine ⟨?_, ?_⟩
  · unfold rks
    rw [List.map_map, List.map_map]
    refine List.map_congr_left fun x hx => ?_
    show ((rk (srt (xs.map (iv wd))) (iv wd x) : Nat) : Int) = ((srt xs).length : Int) - 1 - ((rk (srt xs) x : Nat) : Int)
    rw [rk_image inj]
    have q := filt_congr (l := srt xs) (p := fun y => decide (iv wd y < iv wd x)) (q := fun y => decide (x < y)) fun y hy => by
      refine decide_eq_decide.mpr ?_
      unfold iv
      omega
    have a := filt_above2 (up_nodup (srt_up xs)) (srt_mem.mpr hx)
    rw [q]
    omega
  · unfold ct
    rw [rk_image inj]
    have q := filt_congr (l := srt xs) (p := fun y => decide (iv wd y < 2 ^ (wd - 1).toNat)) (q := fun y => decide (2 ^ (wd - 1).toNat ≤ y)) fun y hy => by
      refine decide_eq_decide.mpr ?_
      unfold iv
      omega
    have a := filt_above (srt xs) (2 ^ (wd - 1).toNat)
    rw [q]
    omega
theorem rks_ext {wd wi : Int} {xs : List Int} (h1 : 1 ≤ wd) (h2 : wd ≤ wi) (w : ∀ x ∈ xs, 0 ≤ x ∧ x < 2 ^ wd.toNat) :
    rks (xs.map (ex wd wi)) = rks xs ∧ ct (xs.map (ex wd wi)) (2 ^ (wi - 1).toNat) = ct xs (2 ^ (wd - 1).toNat) := by
  have e2 := two_half h1
  have e3 := two_half (show 1 ≤ wi by omega)
  have le := pow_le (a := (wd - 1).toNat) (b := (wi - 1).toNat) (by omega)
  have mono : ∀ x ∈ xs, ∀ y ∈ xs, (ex wd wi x < ex wd wi y ↔ x < y) := fun x hx y hy => by
    have wx := w x hx
    have wy := w y hy
    unfold ex
    split <;> split <;> constructor <;> intro _ <;> omega
  have inj : ∀ x ∈ xs, ∀ y ∈ xs, ex wd wi x = ex wd wi y → x = y := fun x hx y hy e => by
    have a := mono x hx y hy
    have b := mono y hy x hx
    omega
  refine ⟨?_, ?_⟩
  · unfold rks
    rw [List.map_map]
    refine List.map_congr_left fun x hx => ?_
    show ((rk (srt (xs.map (ex wd wi))) (ex wd wi x) : Nat) : Int) = ((rk (srt xs) x : Nat) : Int)
    rw [rk_image inj]
    unfold rk
    rw [filt_congr (l := srt xs) (p := fun y => decide (ex wd wi y < ex wd wi x)) (q := fun y => decide (y < x)) fun y hy => decide_eq_decide.mpr (mono y (srt_mem.mp hy) x hx)]
  · unfold ct
    rw [rk_image inj]
    unfold rk
    rw [filt_congr (l := srt xs) (p := fun y => decide (ex wd wi y < 2 ^ (wi - 1).toNat)) (q := fun y => decide (y < 2 ^ (wd - 1).toNat)) fun y hy => by
      have wy := w y (srt_mem.mp hy)
      refine decide_eq_decide.mpr ?_
      unfold ex
      split <;> constructor <;> intro _ <;> omega]
theorem ct_all {xs : List Int} {h : Int} (w : ∀ x ∈ xs, x < h) : ct xs h = ((srt xs).length : Int) := by
  unfold ct rk
  rw [List.filter_eq_self.mpr fun y hy => decide_eq_true (w y (srt_mem.mp hy))]
theorem mx_is {rs : List Int} {m : Nat} (hm : 0 < m) (is : IsRk rs m) : mx rs = (m : Int) - 1 := by
  have g : ∀ (l : List Int) (z : Int), (l.foldl (fun a y => if a < y then y else a) z ∈ z :: l) ∧ ∀ y ∈ z :: l, y ≤ l.foldl (fun a y => if a < y then y else a) z := by
    intro l
    induction l with
    | nil => exact fun z => ⟨List.mem_cons_self, fun y hy => by rw [List.mem_singleton.mp hy]; exact Int.le_refl _⟩
    | cons y l ih =>
      intro z
      rw [List.foldl_cons]
      obtain ⟨a, b⟩ := ih (if z < y then y else z)
      refine ⟨?_, fun k hk => ?_⟩
      · rcases List.mem_cons.mp a with e | e
        · rw [e]
          split
          · exact List.mem_cons_of_mem _ List.mem_cons_self
          · exact List.mem_cons_self
        · exact List.mem_cons_of_mem _ (List.mem_cons_of_mem _ e)
      · have hz := b _ List.mem_cons_self
        rcases List.mem_cons.mp hk with rfl | hk
        · exact Int.le_trans (show k ≤ if k < y then y else k by split <;> omega) hz
        · rcases List.mem_cons.mp hk with rfl | hk
          · exact Int.le_trans (show k ≤ if z < k then k else z by split <;> omega) hz
          · exact b k (List.mem_cons_of_mem _ hk)
  cases rs with
  | nil => exact absurd ((is 0).mpr ⟨by omega, by omega⟩) (by simp)
  | cons x l =>
    obtain ⟨a, b⟩ := g l x
    have h1 := (is _).mp a
    have h2 := b ((m : Int) - 1) ((is _).mpr ⟨by omega, by omega⟩)
    show l.foldl (fun a y => if a < y then y else a) x = (m : Int) - 1
    omega
theorem srt_pos {xs : List Int} (h : xs ≠ []) : 0 < (srt xs).length := by
  cases xs with
  | nil => exact absurd rfl h
  | cons x l =>
    refine List.length_pos_of_mem (a := x) (srt_mem.mpr List.mem_cons_self)
/-! outcomes of all pairs -/
def shownR (rs : List Int) (c : Int) : List Str := rs.flatMap fun a => rs.map fun b => ocut c a b
def single (rs : List Int) (c : Int) : Bool := decide (c = 0) || decide (c = mx rs + 1)
theorem oc_facts {c a b : Int} : (ocut c a b = "E" ↔ a = b) ∧ ((ocut c a b = "LB" ∨ ocut c a b = "GB") ↔ a < b) ∧ ((ocut c a b = "LA" ∨ ocut c a b = "GB") ↔ a ≠ b ∧ ((a < c) ↔ ¬ (b < c))) := by
  unfold ocut
  by_cases e : a = b
  · subst e
    rw [if_pos rfl]
    refine ⟨by simp, ⟨fun z => absurd z (by decide +kernel), fun z => absurd z (Int.lt_irrefl _)⟩, ?_⟩
    constructor
    · intro z
      exact absurd z (by decide +kernel)
    · intro z
      exact absurd rfl z.1
  · rw [if_neg e]
    by_cases l : a < b
    · rw [if_pos l]
      by_cases x : a < c <;> by_cases y : b < c <;> simp [x, y, l, e] <;> decide +kernel
    · rw [if_neg l]
      by_cases x : a < c <;> by_cases y : b < c <;> simp [x, y, l, e] <;> decide +kernel
theorem rks_same {xs ys : List Int} (hl : xs.length = ys.length) (h : ∀ (i j : Nat) (a b c d : Int), xs[i]? = some a → xs[j]? = some b → ys[i]? = some c → ys[j]? = some d → (a < b ↔ c < d)) : rks xs = rks ys := by
  let f : Int → Int := fun x => ys.getD (xs.idxOf x) 0
  have at_f : ∀ (i : Nat) (a c : Int), xs[i]? = some a → ys[i]? = some c → f a = c := fun i a c ha hc => by
    have m := List.mem_of_getElem? ha
    have hi : xs.idxOf a < xs.length := List.idxOf_lt_length_of_mem m
    have ea : xs[xs.idxOf a]? = some a := by
      rw [List.getElem?_eq_getElem hi]
      exact congrArg some (List.getElem_idxOf hi)
    have ec : ys[xs.idxOf a]? = some (ys[xs.idxOf a]'(by omega)) := List.getElem?_eq_getElem (by omega)
    have h1 := h _ _ _ _ _ _ ea ha ec hc
    have h2 := h _ _ _ _ _ _ ha ea hc ec
    have e : f a = ys[xs.idxOf a]'(by omega) := by
      show ys.getD (xs.idxOf a) 0 = _
      rw [List.getD_eq_getElem?_getD, ec]
      rfl
    rw [e]
    omega
  have both : ∀ x ∈ xs, ∃ (i : Nat) (c : Int), xs[i]? = some x ∧ ys[i]? = some c ∧ f x = c := fun x hx => by
    obtain ⟨i, hi, e⟩ := List.mem_iff_getElem.mp hx
    have ex : xs[i]? = some x := by rw [List.getElem?_eq_getElem hi, e]
    have ec : ys[i]? = some (ys[i]'(by omega)) := List.getElem?_eq_getElem (by omega)
    exact ⟨i, _, ex, ec, at_f i x _ ex ec⟩
  have mono : ∀ x ∈ xs, ∀ y ∈ xs, (f x < f y ↔ x < y) := fun x hx y hy => by
    obtain ⟨i, c, h1, h2, rfl⟩ := both x hx
    obtain ⟨j, d, h3, h4, rfl⟩ := both y hy
    exact (h i j _ _ _ _ h1 h3 h2 h4).symm
  have e : ys = xs.map f := by
    apply List.ext_getElem?
    intro i
    rw [List.getElem?_map]
    by_cases hi : i < xs.length
    · have ex : xs[i]? = some xs[i] := List.getElem?_eq_getElem hi
      have ec : ys[i]? = some (ys[i]'(by omega)) := List.getElem?_eq_getElem (by omega)
      rw [ex, ec, Option.map_some, at_f i _ _ ex ec]
    · rw [List.getElem?_eq_none (by omega), List.getElem?_eq_none (by omega)]
      rfl
  rw [e]
  unfold rks
  rw [List.map_map]
  refine List.map_congr_left fun x hx => ?_
  show _ = ((rk (srt (xs.map f)) (f x) : Nat) : Int)
  rw [rk_image fun a ha b hb q => by
    have h1 := mono a ha b hb
    have h2 := mono b hb a ha
    omega]
  unfold rk
  rw [filt_congr (l := srt xs) (p := fun y => decide (f y < f x)) (q := fun y => decide (y < x)) fun y hy => decide_eq_decide.mpr (mono y (srt_mem.mp hy) x hx)]
theorem srt_isRk {rs : List Int} {m : Nat} (is : IsRk rs m) : srt rs = rg m := isRk_srt is (srt_up rs) fun k => srt_mem
theorem rks_id {rs : List Int} {m : Nat} (is : IsRk rs m) : rks rs = rs := by
  unfold rks
  rw [srt_isRk is]
  have : ∀ r ∈ rs, ((rk (rg m) r : Nat) : Int) = r := fun r hr => by
    obtain ⟨a, b⟩ := (is r).mp hr
    exact rk_rg a (by omega)
  rw [List.map_congr_left this, List.map_id']
theorem flat_inj {α β : Type} {f g : α → List β} {n : Nat} : ∀ {as bs : List α}, as.length = bs.length → (∀ a ∈ as, (f a).length = n) → (∀ b ∈ bs, (g b).length = n) → as.flatMap f = bs.flatMap g → ∀ (i : Nat) (a b : α), as[i]? = some a → bs[i]? = some b → f a = g b
  | [], _, _, _, _, _, i, a, b, e, _ => by cases i <;> cases e
  | _ :: _, [], h, _, _, _, _, _, _, _, _ => by cases h
  | x :: as, y :: bs, h, hf, hg, e, i, a, b, ea, eb => by
    rw [List.flatMap_cons, List.flatMap_cons] at e
    obtain ⟨e1, e2⟩ := List.append_inj e (by rw [hf x List.mem_cons_self, hg y List.mem_cons_self])
    cases i with
    | zero =>
      cases ea
      cases eb
      exact e1
    | succ i => exact flat_inj (Nat.succ.inj h) (fun a m => hf a (List.mem_cons_of_mem _ m)) (fun b m => hg b (List.mem_cons_of_mem _ m)) e2 i a b ea eb
theorem shown_tell {rs rt : List Int} {c d : Int} {m k : Nat} (hl : rs.length = rt.length) (i1 : IsRk rs m) (i2 : IsRk rt k) (c0 : 0 ≤ c) (cm : c ≤ (m : Int)) (d0 : 0 ≤ d) (dk : d ≤ (k : Int)) (hm : 0 < m) (hk : 0 < k) :
    decide (shownR rs c = shownR rt d) = (decide (rs = rt ∧ c = d) || (decide (rs = rt) && (single rs c && single rt d))) := by
  have s1 : single rs c = (decide (c = 0) || decide (c = (m : Int))) := by unfold single; rw [mx_is hm i1, show (m : Int) - 1 + 1 = m by omega]
  have s2 : single rt d = (decide (d = 0) || decide (d = (k : Int))) := by unfold single; rw [mx_is hk i2, show (k : Int) - 1 + 1 = k by omega]
  rw [s1, s2, ← Bool.decide_or, ← Bool.decide_or, ← Bool.decide_and, ← Bool.decide_and, ← Bool.decide_or]
  refine decide_eq_decide.mpr ⟨fun e => ?_, fun h => ?_⟩
  · have pt : ∀ (i j : Nat) (a b x y : Int), rs[i]? = some a → rs[j]? = some b → rt[i]? = some x → rt[j]? = some y → ocut c a b = ocut d x y := fun i j a b x y ha hb hx hy => by
      have g := flat_inj (n := rs.length) hl (fun a _ => List.length_map ..) (fun b _ => by rw [List.length_map, hl]) e i a x ha hx
      have q := congrArg (fun l : List Str => l[j]?) g
      rw [List.getElem?_map, List.getElem?_map, hb, hy] at q
      exact Option.some.inj q
    have er : rs = rt := by
      rw [← rks_id i1, ← rks_id i2]
      refine rks_same hl fun i j a b x y ha hb hx hy => ?_
      have p := pt i j a b x y ha hb hx hy
      have f1 := (oc_facts (c := c) (a := a) (b := b)).2.1
      have f2 := (oc_facts (c := d) (a := x) (b := y)).2.1
      rw [← f1, ← f2, p]
    subst er
    have mk : m = k := by
      have := congrArg List.length ((srt_isRk i1).symm.trans (srt_isRk i2))
      rwa [rg_len, rg_len] at this
    subst mk
    by_cases cd : c = d
    · exact .inl ⟨rfl, cd⟩
    · refine .inr ⟨rfl, ?_⟩
      have mixed : ∀ u v : Int, u ∈ rs → v ∈ rs → (u ≠ v ∧ ((u < c) ↔ ¬ (v < c)) ↔ u ≠ v ∧ ((u < d) ↔ ¬ (v < d))) := fun u v hu hv => by
        obtain ⟨i, hi, e1⟩ := List.mem_iff_getElem.mp hu
        obtain ⟨j, hj, e2⟩ := List.mem_iff_getElem.mp hv
        have a1 : rs[i]? = some u := by rw [List.getElem?_eq_getElem hi, e1]
        have a2 : rs[j]? = some v := by rw [List.getElem?_eq_getElem hj, e2]
        have p := pt i j u v u v a1 a2 a1 a2
        rw [← (oc_facts (c := c) (a := u) (b := v)).2.2, ← (oc_facts (c := d) (a := u) (b := v)).2.2, p]
      refine ⟨?_, ?_⟩
      · refine Decidable.byContradiction fun n => ?_
        have := mixed (c - 1) c ((i1 _).mpr ⟨by omega, by omega⟩) ((i1 _).mpr ⟨by omega, by omega⟩)
        omega
      · refine Decidable.byContradiction fun n => ?_
        have := mixed (d - 1) d ((i1 _).mpr ⟨by omega, by omega⟩) ((i1 _).mpr ⟨by omega, by omega⟩)
        omega
  · rcases h with ⟨rfl, rfl⟩ | ⟨rfl, h1, h2⟩
    · rfl
    · have mk : m = k := by
        have := congrArg List.length ((srt_isRk i1).symm.trans (srt_isRk i2))
        rwa [rg_len, rg_len] at this
      subst mk
      have same : ∀ u ∈ rs, ∀ v ∈ rs, ocut c u v = ocut d u v := fun u hu v hv => by
        obtain ⟨u0, u1⟩ := (i1 u).mp hu
        obtain ⟨v0, v1⟩ := (i1 v).mp hv
        have mc : (decide (u < c) != decide (v < c)) = false := by
          rcases h1 with h | h
          · rw [decide_eq_false (show ¬ u < c by omega), decide_eq_false (show ¬ v < c by omega)]
            rfl
          · rw [decide_eq_true (show u < c by omega), decide_eq_true (show v < c by omega)]
            rfl
        have md : (decide (u < d) != decide (v < d)) = false := by
          rcases h2 with h | h
          · rw [decide_eq_false (show ¬ u < d by omega), decide_eq_false (show ¬ v < d by omega)]
            rfl
          · rw [decide_eq_true (show u < d by omega), decide_eq_true (show v < d by omega)]
            rfl
        unfold ocut
        rw [mc, md]
      unfold shownR
      have fm : ∀ l : List Int, (∀ u ∈ l, u ∈ rs) → l.flatMap (fun a => rs.map fun b => ocut c a b) = l.flatMap fun a => rs.map fun b => ocut d a b := by
        intro l
        induction l with
        | nil => exact fun _ => rfl
        | cons u l ih =>
          intro hs
          rw [List.flatMap_cons, List.flatMap_cons, ih fun u m => hs u (List.mem_cons_of_mem _ m)]
          rw [List.map_congr_left fun v hv => same u (hs u List.mem_cons_self) v hv]
      exact fm rs fun u m => m
end BR
namespace BR
open PySem PySem.Spec PyProof.Rows L2
theorem fall_le {n : Int} {a : Nat} (h0 : 0 ≤ n) (h1 : n ≤ 2 ^ a) (k : Nat) (hk : (k : Int) ≤ n) : Builtin.Math.fallingProduct n k ≤ 2 ^ (a * k) := by
  induction k with
  | zero => exact (by decide : (1 : Int) ≤ 1)
  | succ k ih =>
    have i := ih (by omega)
    have nn := fall_nn (n := n) k (by omega)
    have e : Builtin.Math.fallingProduct n (k + 1) = Builtin.Math.fallingProduct n k * (n - (k : Int)) := by
      unfold Builtin.Math.fallingProduct
      rw [List.range_succ, List.foldl_append]
      rfl
    rw [e, Nat.mul_succ, Int.pow_add]
    exact Int.mul_le_mul i (by omega) (by omega) (Int.le_of_lt (pow_pos _))
theorem cmb_log {n k : Int} (h0 : 0 ≤ n) (h1 : n ≤ 2 ^ 1000) (k0 : 0 ≤ k) (k8 : k ≤ 8) : (n < k ∨ (Builtin.Math.fallingProduct n (min k (n - k)).toNat / Builtin.Math.fallingProduct (min k (n - k)) (min k (n - k)).toNat).natAbs.log2 < bitsLine) ∧ (cmb n k).natAbs.log2 < 10000 := by
  by_cases c : n < k
  · refine ⟨.inl c, ?_⟩
    unfold cmb
    rw [if_pos c]
    decide
  · have key : (Builtin.Math.fallingProduct n (min k (n - k)).toNat / Builtin.Math.fallingProduct (min k (n - k)) (min k (n - k)).toNat).natAbs.log2 < 10000 := by
      have a := fall_nn (n := n) (min k (n - k)).toNat (by omega)
      have b := fall_le h0 h1 (min k (n - k)).toNat (by omega)
      have d := fall_nn (n := min k (n - k)) (min k (n - k)).toNat (by omega)
      have q0 : 0 ≤ Builtin.Math.fallingProduct n (min k (n - k)).toNat / Builtin.Math.fallingProduct (min k (n - k)) (min k (n - k)).toNat := Int.ediv_nonneg a d
      have q1 := Int.ediv_le_self (Builtin.Math.fallingProduct (min k (n - k)) (min k (n - k)).toNat) a
      have b2 : (2 : Int) ^ (1000 * (min k (n - k)).toNat) ≤ 2 ^ 9000 := pow_le (by omega)
      have b3 : (2 : Int) ^ 9000 < 2 ^ 9001 := pow_lt (by decide)
      have e : ((2 : Int) ^ 9001) = ((2 ^ 9001 : Nat) : Int) := nat_cast_pow 9001
      rw [e] at b3
      refine Nat.lt_of_lt_of_le (PySem.Flt.log2_lt_of (k := 9001) (by decide) ?_) (by decide)
      omega
    refine ⟨.inr (Nat.lt_trans key (by decide)), ?_⟩
    unfold cmb
    rw [if_neg c]
    exact key
end BR

/-! ### rankings as a law lists them -/
namespace BR
open PySem PySem.Spec PyProof.Rows L2
def lawRows (n : Nat) : Nat → List (List Int)
  | 0 => [[]]
  | k + 1 => (lawRows n k).flatMap (addR n)
def lawCuts (r : List Int) : List (List Int × Int) := if ((srt r).length : Int) = mx r + 1 then cutsR r else []
theorem law_all : ∀ n ∈ ([1, 2, 3, 4] : List Nat), (lawRows n n).flatMap lawCuts = allRk n := by decide +kernel
theorem law_rows : ∀ n ∈ ([1, 2, 3, 4] : List Nat), ∀ k ∈ List.range (n + 1), (lawRows n k).length ≤ 256 ∧ ∀ r ∈ lawRows n k, r.length = k ∧ 0 ≤ mx r ∧ mx r ≤ 3 := by decide +kernel
theorem four {n : Nat} (h1 : 1 ≤ n) (h2 : n ≤ 4) : n ∈ ([1, 2, 3, 4] : List Nat) := by
  have : n = 1 ∨ n = 2 ∨ n = 3 ∨ n = 4 := by omega
  simpa using this
theorem all_len4 {n : Nat} (h1 : 1 ≤ n) (h2 : n ≤ 4) : 0 < (allRk n).length ∧ (allRk n).length ≤ 308 := by
  have := all_len
  have e : ∀ n ∈ ([1, 2, 3, 4] : List Nat), 0 < (allRk n).length ∧ (allRk n).length ≤ 308 := by decide +kernel
  exact e n (four h1 h2)
/-- refs to lists of ints -/
def LL (H : Hp) (as : List Addr) (rows : List (List Int)) : Prop := Paired (fun a row => H a = some (.lst (row.map V.int))) as rows
theorem LL.but {H H' : Hp} {D : Addr} : ∀ {as : List Addr} {rows : List (List Int)}, LL H as rows → But D H H' → (∀ a ∈ as, a ≠ D) → LL H' as rows
  | _, _, .nil, _, _ => .nil
  | _, _, .cons h t, b, n => .cons (b _ _ (n _ List.mem_cons_self) h) (LL.but t b fun a m => n a (List.mem_cons_of_mem _ m))
theorem LL.same {H H' : Hp} {as : List Addr} {rows : List (List Int)} (h : LL H as rows) (s : Same H H') : LL H' as rows := pr_mono h fun a r e => s _ _ e
theorem pr_app {α β : Type} {R : α → β → Prop} : ∀ {as : List α} {bs : List β} {cs : List α} {ds : List β}, Paired R as bs → Paired R cs ds → Paired R (as ++ cs) (bs ++ ds)
  | _, _, _, _, .nil, r => r
  | _, _, _, _, .cons h t, r => .cons h (pr_app t r)
theorem mx_one {ns : List Int} {m : Int} (hm : m ∈ ns) (h : ∀ y ∈ ns, y ≤ m) : m = mx ns := by
  have g : ∀ (l : List Int) (z : Int), (l.foldl (fun a y => if a < y then y else a) z ∈ z :: l) ∧ ∀ y ∈ z :: l, y ≤ l.foldl (fun a y => if a < y then y else a) z := by
    intro l
    induction l with
    | nil => exact fun z => ⟨List.mem_cons_self, fun y hy => by rw [List.mem_singleton.mp hy]; exact Int.le_refl _⟩
    | cons y l ih =>
      intro z
      rw [List.foldl_cons]
      obtain ⟨a, b⟩ := ih (if z < y then y else z)
      refine ⟨?_, fun k hk => ?_⟩
      · rcases List.mem_cons.mp a with e | e
        · rw [e]
          split
          · exact List.mem_cons_of_mem _ List.mem_cons_self
          · exact List.mem_cons_self
        · exact List.mem_cons_of_mem _ (List.mem_cons_of_mem _ e)
      · have hz := b _ List.mem_cons_self
        rcases List.mem_cons.mp hk with rfl | hk
        · exact Int.le_trans (show k ≤ if k < y then y else k by split <;> omega) hz
        · rcases List.mem_cons.mp hk with rfl | hk
          · exact Int.le_trans (show k ≤ if z < k then k else z by split <;> omega) hz
          · exact b k (List.mem_cons_of_mem _ hk)
  cases ns with
  | nil => exact absurd hm (by simp)
  | cons x l =>
    obtain ⟨a, b⟩ := g l x
    have h1 := h _ a
    have h2 := b m hm
    show m = l.foldl (fun a y => if a < y then y else a) x
    omega
theorem addR_len (n : Nat) (r : List Int) : (addR n r).length = n := by unfold addR; rw [List.length_map, List.length_range]
end BR
namespace BR
open PySem PySem.Spec PyProof.Rows L2
theorem CMulW_small {i j : Int} (hi : i.natAbs < 2 ^ 20) (hj : j.natAbs < 2 ^ 20) : CMulW i j := by
  have a := PySem.Flt.log2_lt_of (k := 20) (by decide) hi
  have b := PySem.Flt.log2_lt_of (k := 20) (by decide) hj
  show _ + _ < 1000000
  omega
end BR

/-! ### data compared: outcomes, rankings, bools -/
namespace BR
open PySem PySem.Spec PyProof.Rows L2
theorem strs_shapedL {xs : List Str} (ok : ∀ x ∈ xs, PyData.strOk x = true) : SeqAt.shaped (.list (xs.map PyData.str)) = true := by
  obtain ⟨h1, h2⟩ := strs_lay xs ok
  unfold SeqAt.shaped
  show (PyData.canLayAll0 (xs.map PyData.str) && decide (PyData.depthAll (xs.map PyData.str) + 1 ≤ 64)) = true
  rw [h1, h2]
  rfl
theorem strs_eqvL (xs ys : List Str) : PyData.eqv (.list (xs.map PyData.str)) (.list (ys.map PyData.str)) = decide (xs = ys) := strs_eqvA xs ys
theorem dp_strsL {K : PySem.W.Frag} {H : Hp} {a : Addr} {xs : List Str} (h : H a = some (.lst (xs.map V.str))) : Dp K H (.ref a) (.list (xs.map PyData.str)) := .lst (SqL.of h) (strs_all xs)
theorem ints_eqvA : ∀ xs ys : List Int, PyData.eqvAll (xs.map PyData.int) (ys.map PyData.int) = decide (xs = ys)
  | [], [] => rfl
  | [], _ :: _ => rfl
  | _ :: _, [] => rfl
  | x :: xs, y :: ys => by
    show (x == y && PyData.eqvAll (xs.map PyData.int) (ys.map PyData.int)) = decide (x :: xs = y :: ys)
    rw [ints_eqvA xs ys]
    by_cases h : x = y
    · by_cases g : xs = ys <;> simp [h, g]
    · simp [h]
theorem ints_eqvT (xs ys : List Int) : PyData.eqv (.tuple (xs.map PyData.int)) (.tuple (ys.map PyData.int)) = decide (xs = ys) := ints_eqvA xs ys
theorem rkD_eqv (rs rt : List Int) (c d : Int) : PyData.eqv (rkD rs c) (rkD rt d) = decide (rs = rt ∧ c = d) := by
  show (PyData.eqvAll (rs.map PyData.int) (rt.map PyData.int) && ((c == d) && true)) = _
  rw [ints_eqvA]
  by_cases h : rs = rt <;> by_cases g : c = d <;> simp [h, g]
theorem rkD_sh {rs : List Int} {c : Int} : SeqAt.shaped (rkD rs c) = true := by
  obtain ⟨l1, l2⟩ := ints_lay rs
  unfold SeqAt.shaped
  show ((PyData.canLayAll0 (rs.map PyData.int) && (true && true)) && decide (max (PyData.depthAll (rs.map PyData.int) + 1) (max 0 0) + 1 ≤ 64)) = true
  rw [l1, l2]
  rfl
theorem ocut_ok (c a b : Int) : PyData.strOk (ocut c a b) = true := by
  unfold ocut
  split
  · decide +kernel
  · split <;> split <;> decide +kernel
theorem shown_okS (rs : List Int) (c : Int) : ∀ x ∈ shownR rs c, PyData.strOk x = true := fun x m => by
  obtain ⟨a, _, h⟩ := List.mem_flatMap.mp m
  obtain ⟨b, _, rfl⟩ := List.mem_map.mp h
  exact ocut_ok c a b
theorem two_bools (a b : Bool) : PyData.eqv (.list [.bool a, .bool b]) (.list [.bool true, .bool true]) = (a && b) := by
  cases a <;> cases b <;> decide +kernel
theorem single_in (rs : List Int) (c : Int) : inV (.int c) [.int 0, .int (mx rs + 1)] = single rs c := by
  unfold inV single
  show ((0 == c) || ((mx rs + 1 == c) || false)) = _
  have e1 : ((0 : Int) == c) = decide (c = 0) := by
    by_cases h : c = 0
    · subst h
      rfl
    · rw [decide_eq_false h]
      exact beq_eq_false_iff_ne.mpr fun z => h z.symm
  have e2 : (mx rs + 1 == c) = decide (c = mx rs + 1) := by
    by_cases h : c = mx rs + 1
    · rw [decide_eq_true h, h]
      exact beq_self_eq_true _
    · rw [decide_eq_false h]
      exact beq_eq_false_iff_ne.mpr fun z => h z.symm
  rw [e1, e2, Bool.or_false]
theorem turn_in {c m r : Int} (c0 : 0 ≤ c) (cm : c ≤ m) (r0 : 0 ≤ r) (r1 : r < m) : 0 ≤ turnR c m r ∧ turnR c m r < m := by
  unfold turnR
  split <;> omega
/-- the first words of the next width -/
theorem lw_grown {h c r : Int} (h0 : 0 ≤ h) (hc : c ≤ h) (r0 : 0 ≤ r) : lw (2 * h) c r = if h ≤ lw h c r then lw h c r + h else lw h c r := by
  unfold lw
  by_cases q : r < c
  · rw [if_pos q, if_pos q, if_neg (by omega)]
  · rw [if_neg q, if_neg q, if_pos (by omega)]
    omega
theorem map_take_one {α β : Type} {f : α → β} {l : List α} {i : Nat} {x : α} (h : l[i]? = some x) : (l.take (i + 1)).map f = (l.take i).map f ++ [f x] := by
  rw [List.take_add_one, h, List.map_append]
  rfl
end BR

/-! ### rankings in their order: sorted(xs) of rankings that stand in order; the place of one -/
namespace BR
open PySem PySem.Spec PyProof.Rows L2
def cd : List Int → Int
  | [] => 0
  | x :: xs => x * 8 ^ xs.length + cd xs
def cdk (p : List Int × Int) : Int := cd p.1 * 8 + p.2
def Dig (ns : List Int) : Prop := ∀ x ∈ ns, 0 ≤ x ∧ x < 8
theorem pos8 : ∀ n : Nat, (0 : Int) < 8 ^ n
  | 0 => by decide
  | n + 1 => by
    have := pos8 n
    rw [Int.pow_succ]
    omega
theorem cd_rng : ∀ {ns : List Int}, Dig ns → 0 ≤ cd ns ∧ cd ns < 8 ^ ns.length
  | [], _ => by decide
  | x :: xs, h => by
    obtain ⟨a, b⟩ := cd_rng (ns := xs) fun y m => h y (List.mem_cons_of_mem _ m)
    obtain ⟨c, d⟩ := h x List.mem_cons_self
    have p := pos8 xs.length
    have e1 : 0 ≤ x * 8 ^ xs.length := Int.mul_nonneg c (Int.le_of_lt p)
    have e2 : x * 8 ^ xs.length ≤ 7 * 8 ^ xs.length := Int.mul_le_mul_of_nonneg_right (by omega) (Int.le_of_lt p)
    show 0 ≤ x * 8 ^ xs.length + cd xs ∧ x * 8 ^ xs.length + cd xs < 8 ^ (xs.length + 1)
    rw [Int.pow_succ]
    generalize (8 : Int) ^ xs.length = P at *
    omega
theorem lexAt_shift {e r : Nat → Bool} {z : Bool} : ∀ k i : Nat, Ob.lexAt (fun j => e (j + 1)) (fun j => r (j + 1)) z i k = Ob.lexAt e r z (i + 1) k
  | 0, _ => rfl
  | k + 1, i => by
    rw [Ob.lexAt_succ, Ob.lexAt_succ, lexAt_shift k (i + 1)]
theorem lex_cd : ∀ {ns ms : List Int}, Dig ns → Dig ms → ns.length = ms.length →
    Ob.lexAt (fun j => decide (ns.getD j 0 = ms.getD j 0)) (fun j => decide (ns.getD j 0 < ms.getD j 0)) false 0 ns.length = decide (cd ns < cd ms)
  | [], [], _, _, _ => rfl
  | [], _ :: _, _, _, e => nomatch e
  | _ :: _, [], _, _, e => nomatch e
  | x :: xs, y :: ys, h1, h2, e => by
    have e' : xs.length = ys.length := Nat.succ.inj e
    have d1 : Dig xs := fun z m => h1 z (List.mem_cons_of_mem _ m)
    have d2 : Dig ys := fun z m => h2 z (List.mem_cons_of_mem _ m)
    have ih := lex_cd d1 d2 e'
    obtain ⟨a1, a2⟩ := cd_rng d1
    obtain ⟨b1, b2⟩ := cd_rng d2
    have p := pos8 xs.length
    rw [show (x :: xs).length = xs.length + 1 from rfl, Ob.lexAt_succ, ← lexAt_shift]
    show (if decide (x = y) = true then Ob.lexAt (fun j => decide (xs.getD j 0 = ys.getD j 0)) (fun j => decide (xs.getD j 0 < ys.getD j 0)) false 0 xs.length else decide (x < y)) = decide (x * 8 ^ xs.length + cd xs < y * 8 ^ ys.length + cd ys)
    rw [ih, ← e']
    rw [← e'] at b2
    by_cases c : x = y
    · subst c
      rw [if_pos (decide_eq_true rfl)]
      exact decide_eq_decide.mpr (by omega)
    · rw [if_neg (by simp [c])]
      refine decide_eq_decide.mpr ⟨fun l => ?_, fun l => ?_⟩
      · have : (x + 1) * 8 ^ xs.length ≤ y * 8 ^ xs.length := Int.mul_le_mul_of_nonneg_right (by omega) (Int.le_of_lt p)
        rw [Int.add_mul] at this
        omega
      · rcases Int.lt_or_lt_of_ne c with g | g
        · exact g
        · have : (y + 1) * 8 ^ xs.length ≤ x * 8 ^ xs.length := Int.mul_le_mul_of_nonneg_right (by omega) (Int.le_of_lt p)
          rw [Int.add_mul] at this
          omega
theorem cd_inj : ∀ {ns ms : List Int}, Dig ns → Dig ms → ns.length = ms.length → cd ns = cd ms → ns = ms
  | [], [], _, _, _, _ => rfl
  | [], _ :: _, _, _, e, _ => nomatch e
  | _ :: _, [], _, _, e, _ => nomatch e
  | x :: xs, y :: ys, h1, h2, e, c => by
    have e' : xs.length = ys.length := Nat.succ.inj e
    have d1 : Dig xs := fun z m => h1 z (List.mem_cons_of_mem _ m)
    have d2 : Dig ys := fun z m => h2 z (List.mem_cons_of_mem _ m)
    obtain ⟨a1, a2⟩ := cd_rng d1
    obtain ⟨b1, b2⟩ := cd_rng d2
    have p := pos8 xs.length
    change x * 8 ^ xs.length + cd xs = y * 8 ^ ys.length + cd ys at c
    rw [← e'] at b2 c
    have exy : x = y := by
      by_cases g : x = y
      · exact g
      rcases Int.lt_or_lt_of_ne g with g | g
      · have : (x + 1) * 8 ^ xs.length ≤ y * 8 ^ xs.length := Int.mul_le_mul_of_nonneg_right (by omega) (Int.le_of_lt p)
        rw [Int.add_mul] at this
        omega
      · have : (y + 1) * 8 ^ xs.length ≤ x * 8 ^ xs.length := Int.mul_le_mul_of_nonneg_right (by omega) (Int.le_of_lt p)
        rw [Int.add_mul] at this
        omega
    subst exy
    rw [cd_inj d1 d2 e' (by omega)]
/-- a value that is a ranking -/
def RkV (h : Heap) (v : Value) (ns : List Int) (c : Int) : Prop := ∃ (q rt : Addr) (t : Tok) (its : List Value), v = .ref q ∧ h.IsTuple q #[.ref rt, .int c t] ∧ h.IsTuple rt its.toArray ∧ IntsAre its ns
theorem RkV.keeps {h h' : Heap} {v : Value} {ns : List Int} {c : Int} (r : RkV h v ns c) (k : ∀ b o, h.get? b = some o → h'.get? b = some o) : RkV h' v ns c := by
  obtain ⟨q, rt, t, its, e, ⟨o, ho, hc, n, hd⟩, ⟨o', ho', hc', n', hd'⟩, hi⟩ := r
  exact ⟨q, rt, t, its, e, ⟨o, k _ _ ho, hc, n, hd⟩, ⟨o', k _ _ ho', hc', n', hd'⟩, hi⟩
section
variable {prog : Program} {w : World} {A : Around} {s : Shared}
theorem rkv_cmp {v u : Value} {ns ms : List Int} {c d : Int} (hv : RkV s.heap v ns c) (hu : RkV s.heap u ms d) (h1 : Dig ns) (h2 : Dig ms) (he : ns.length = ms.length) (hc : 0 ≤ c ∧ c < 8) (hd : 0 ≤ d ∧ d < 8) (hA : A.units + 8 < cLine) :
    wpAny (model prog w) A (keyLt' (tuples' false) v u) (fun r s' => s' = s ∧ r = decide (cdk (ns, c) < cdk (ms, d))) (fun _ _ => False) s := by
  obtain ⟨q, rt, t, its, rfl, ⟨o, ho, hcl, n, hda⟩, hrt, hi⟩ := hv
  obtain ⟨q', rt', t', its', rfl, ⟨o', ho', hcl', n', hda'⟩, hrt', hi'⟩ := hu
  have e1 : its.toArray.size = ns.length := by rw [List.size_toArray]; exact hi.length
  have e2 : its'.toArray.size = ms.length := by rw [List.size_toArray]; exact hi'.length
  refine PySem.W.kat_lt ho hda ho' hda' ?_
  show PySem.W.KatLex prog w A false (decide (2 < 2)) _ [(.ref rt, .ref rt'), (.int c t, .int d t')] 0 s
  have R1 : Reads s.heap (.ref rt) (.tuple (ns.map .int)) [] := reads_tuple_ints hrt hi
  have R2 : Reads s.heap (.ref rt') (.tuple (ms.map .int)) [] := reads_tuple_ints hrt' hi'
  obtain ⟨l1, p1⟩ := ints_lay ns
  obtain ⟨l2, p2⟩ := ints_lay ms
  have EQ := SeqAt.eqAt_reads (.tuple (ns.map .int)) (.tuple (ms.map .int)) A s _ _ _ _ R1 R2 l1 l2 (by
    show A.units + min (PyData.depthAll (ns.map PyData.int) + 1) (PyData.depthAll (ms.map PyData.int) + 1) < cLine
    rw [p1, p2]
    show A.units + 1 < cLine
    omega)
  rw [ints_eqvT] at EQ
  have one : ∀ {a b : Int}, cdk (ns, a) < cdk (ms, b) ↔ cd ns * 8 + a < cd ms * 8 + b := Iff.rfl
  refine PySem.W.kat_cons (EQ prog w _ _ ?_)
  refine PySem.W.kat_go (fun c1 => ?_) (fun c1 => ?_)
  · have en : ns = ms := of_decide_eq_true c1
    subst en
    refine PySem.W.kat_yes (PySem.W.kat_cons (SeqAt.EqAt.int_int c t d t' prog w _ _ ?_))
    refine PySem.W.kat_go (fun c2 => ?_) (fun c2 => ?_)
    · have ec : c = d := by simpa using c2
      refine PySem.W.kat_yes (PySem.W.kat_nil ⟨rfl, ?_⟩)
      rw [ec]
      exact (decide_eq_false (Int.lt_irrefl _)).symm
    · refine PySem.W.kat_no (PySem.W.kat_one _ _ (PyProof.Rows.lt_int ?_))
      refine (show s = s ∧ decide (c < d) = decide (cdk (ns, c) < cdk (ns, d)) from ⟨rfl, decide_eq_decide.mpr ?_⟩)
      rw [one]
      omega
  · have en : ¬ ns = ms := of_decide_eq_false c1
    have nc : cd ns ≠ cd ms := fun z => en (cd_inj h1 h2 he z)
    have at1 : ∀ j (h1 : j < its.toArray.size), ∃ t, its.toArray[j] = .int (ns.getD j 0) t := fun j h1 => PyProof.Rows.IntsAre.int_at hi _ _ (by simp at h1; simp [h1])
    have at2 : ∀ j (h1 : j < its'.toArray.size), ∃ t, its'.toArray[j] = .int (ms.getD j 0) t := fun j h1 => PyProof.Rows.IntsAre.int_at hi' _ _ (by simp at h1; simp [h1])
    have R := Ob.RcOp.tuples_lt (A := A) (s := s) (e := fun j => decide (ns.getD j 0 = ms.getD j 0)) (r := fun j => decide (ns.getD j 0 < ms.getD j 0)) hrt hrt' (by omega) (fun j h1 h2 => by
      obtain ⟨t, et⟩ := at1 j h1
      obtain ⟨t', et'⟩ := at2 j h2
      rw [et, et']
      have z : (ns.getD j 0 == ms.getD j 0) = decide (ns.getD j 0 = ms.getD j 0) := by
        by_cases q : ns.getD j 0 = ms.getD j 0
        · rw [decide_eq_true q]; exact beq_iff_eq.mpr q
        · rw [decide_eq_false q]; exact beq_eq_false_iff_ne.mpr q
      rw [← z]
      exact SeqAt.EqAt.int_int _ _ _ _) (fun j h1 h2 _ => by
      obtain ⟨t, et⟩ := at1 j h1
      obtain ⟨t', et'⟩ := at2 j h2
      rw [et, et']
      exact Ob.RcOp.lt_int _ _ _ _)
    rw [e1, e2, he, Nat.min_self, decide_eq_false (Nat.lt_irrefl _), ← he, lex_cd h1 h2 he] at R
    refine PySem.W.kat_no (PySem.W.kat_one _ _ ?_)
    refine (show wpAny (model prog w) A (richCompare .Lt (.ref rt) (.ref rt')) _ _ s from R prog w _ _ ?_)
    refine (show s = s ∧ decide (cd ns < cd ms) = decide (cdk (ns, c) < cdk (ms, d)) from ⟨rfl, decide_eq_decide.mpr ?_⟩)
    rw [one]
    omega
end
def intV : V → Int
  | .int i => i
  | _ => 0
/-- the code of a ranking that stands in H -/
def kfH (H : Hp) : V → Int
  | .ref q => match H q with
    | some (.tup [.ref rt, .int c]) => match H rt with
      | some (.tup xs) => cdk (xs.map intV, c)
      | _ => 0
    | _ => 0
  | _ => 0
theorem kfH_at {H : Hp} {q rt : Addr} {ns : List Int} {c : Int} (h : RkAt H q rt ns c) : kfH H (.ref q) = cdk (ns, c) := by
  have e : (ns.map V.int).map intV = ns := by
    rw [List.map_map]
    exact List.map_id' _
  simp only [kfH, h.1, h.2, e]
theorem kfH_swo (H : Hp) : SrtO.Swo (fun v u : Value => decide (kfH H (backV v) < kfH H (backV u))) := by
  refine ⟨fun x y h => ?_, fun x y z h1 h2 => ?_⟩
  · have a := of_decide_eq_true h
    exact decide_eq_false (by omega)
  · have a := of_decide_eq_false h1
    have b := of_decide_eq_false h2
    exact decide_eq_false (by omega)
/-- sorted(xs), xs a list of rankings in their order: a new list of the same ones -/
def rSortedRk (K : PySem.W.Frag) : List V → Hp → VK → Prop := fun vs H Q => ∃ (a : Addr) (qs : List Addr) (ps : List (List Int × Int)) (n : Nat), vs = [V.ref a] ∧ SqL K H a (qs.map V.ref) ∧ RL H qs ps ∧
  (∀ p ∈ ps, Dig p.1 ∧ p.1.length = n ∧ 0 ≤ p.2 ∧ p.2 < 8) ∧ ps.Pairwise (fun p r => cdk p < cdk r) ∧ ∀ p, H p = none → Q (.ref p) (L2.upd H p (.lst (qs.map V.ref)))
theorem pr_pair {α β : Type} {R : α → β → Prop} {S : β → β → Prop} {T : α → α → Prop} : ∀ {as : List α} {bs : List β}, Paired R as bs → bs.Pairwise S → (∀ a b a' b', R a b → R a' b' → S b b' → T a a') → as.Pairwise T
  | _, _, .nil, _, _ => .nil
  | _, _, .cons h t, p, m => by
    obtain ⟨p1, p2⟩ := List.pairwise_cons.mp p
    refine List.pairwise_cons.mpr ⟨fun a' ha => ?_, pr_pair t p2 m⟩
    obtain ⟨i, hi, e⟩ := List.mem_iff_getElem.mp ha
    obtain ⟨b', hb, r⟩ := pr_at t (i := i) (by rw [List.getElem?_eq_getElem hi, e])
    exact m _ _ _ _ h r (p1 _ (List.mem_of_getElem? hb))
theorem rkv_firsts {h : Heap} : ∀ {vs : List Value}, (∀ v ∈ vs, ∃ ns c, RkV h v ns c) → ∃ fs : List Value, PySem.W.KatTups h vs fs ∧ fs.length = vs.length ∧ ∀ f ∈ fs, ∃ rt o, f = Value.ref rt ∧ h.get? rt = some o ∧ o.cls = .type "tuple"
  | [], _ => ⟨[], True.intro, rfl, fun f m => by cases m⟩
  | v :: vs, hv => by
    obtain ⟨fs, h1, h2, h3⟩ := rkv_firsts (vs := vs) fun u m => hv u (List.mem_cons_of_mem _ m)
    obtain ⟨ns, c, q, rt, t, its, rfl, ⟨o, ho, hc, n, hd⟩, ⟨o', ho', hc', n', hd'⟩, hi⟩ := hv v List.mem_cons_self
    refine ⟨.ref rt :: fs, PySem.W.KatTups.cons ho hc hd rfl h1, by rw [List.length_cons, List.length_cons, h2], fun f m => ?_⟩
    rcases List.mem_cons.mp m with rfl | m
    · exact ⟨rt, o', rfl, ho', hc'⟩
    · exact h3 f m
section
variable {X : Cx}
theorem cr_sortedRk (hu : X.A.units + 64 < cLine) : CallR X (.builtin "sorted") (rSortedRk X.K) := by
  intro pins s σ H vs us Q I r h
  obtain ⟨a, qs, ps, n, rfl, hs, hx, hp, hso, q⟩ := h
  obtain ⟨its, rv, hl, hz⟩ := I.list hs
  obtain ⟨u, rfl, ru⟩ := vals1 r
  obtain rfl : u = Value.ref a := ru
  obtain ⟨e1, e2⟩ := refs_back rv fun x m => by
    obtain ⟨t, _, rfl⟩ := List.mem_map.mp m
    exact ⟨t, rfl⟩
  have old : ∀ v ∈ its, ∃ ns c, RkV s.heap v ns c ∧ Dig ns ∧ ns.length = n ∧ (0 ≤ c ∧ c < 8) ∧ kfH H (backV v) = cdk (ns, c) := fun v hv => by
    obtain ⟨t, rfl⟩ := e2 v hv
    have hm : V.ref t ∈ qs.map V.ref := by rw [e1]; exact List.mem_map.mpr ⟨_, hv, rfl⟩
    obtain ⟨t', ht, e⟩ := List.mem_map.mp hm
    cases e
    obtain ⟨i, hi, ei⟩ := List.mem_iff_getElem.mp ht
    obtain ⟨p, hpi, rt, hr⟩ := pr_at hx (i := i) (a := t) (by rw [List.getElem?_eq_getElem hi, ei])
    obtain ⟨d1, d2, d3, d4⟩ := hp p (List.mem_of_getElem? hpi)
    obtain ⟨_, its2, r2, o, ho, hc, n2, hd⟩ := I.hok _ _ hr.1
    obtain ⟨_, its3, r3, o3, ho3, hc3, n3, hd3⟩ := I.hok _ _ hr.2
    obtain ⟨u1, u2, rfl, ri, rj⟩ := vals2 r2
    obtain rfl : u1 = Value.ref rt := ri
    obtain ⟨t2, rfl⟩ := rj
    exact ⟨p.1, p.2, ⟨t, rt, t2, its3, rfl, ⟨o, ho, hc, n2, hd⟩, ⟨o3, ho3, hc3, n3, hd3⟩, Vals.ints r3⟩, d1, d2, ⟨d3, d4⟩, kfH_at hr⟩
  refine SrtO.sorted_ord (kfH_swo H) hl.isList (by rw [← rv.length]; exact hz) (fun h2 h₁ a' ha kk => ?_) fun out h1 h2 => ?_
  · intro h' keep
    have kS : ∀ b o, s.heap.get? b = some o → h'.get? b = some o := fun b o e => keep b o (kk b o e).1 (kk b o e).2
    refine ⟨tuples' false, fun Q E hq => ?_, fun p r hm hm' => ?_⟩
    · obtain ⟨fs, g1, g2, g3⟩ := rkv_firsts (h := h') (vs := its) fun v hv => by
        obtain ⟨ns, c, k1, _⟩ := old v hv
        exact ⟨ns, c, k1.keeps kS⟩
      refine PySem.W.kat_kind (s := { s with heap := h' }) (T := .type "tuple") g1 (by omega) (fun f hm => ?_) (by rfl) ?_
      · obtain ⟨rt, o, rfl, ho, hc⟩ := g3 f hm
        rw [← hc]
        exact (PySem.W.Looks.ld ho).andThen .now
      · have e : (Value.type "tuple" != Value.type "tuple") = false := by first | decide +kernel | rfl | decide
        rw [e]
        exact hq
    · obtain ⟨ns, c, k1, d1, l1, c1, f1⟩ := old p.1 hm
      obtain ⟨ms, d, k2, d2, l2, c2, f2⟩ := old r.1 hm'
      have C := rkv_cmp (prog := X.prog) (w := X.w) (A := X.A.in1.in1) (s := { s with heap := h' }) (k1.keeps kS) (k2.keeps kS) d1 d2 (l1.trans l2.symm) c1 c2 (by show X.A.units + 1 + 1 + 8 < cLine; omega)
      have e : SrtO.lt2 (fun v u : Value => decide (kfH H (backV v) < kfH H (backV u))) p r = decide (cdk (ns, c) < cdk (ms, d)) := by
        show decide (kfH H (backV p.1) < kfH H (backV r.1)) = _
        rw [f1, f2]
      rw [e]
      exact C
  · have so : SrtO.Srtd (fun v u : Value => decide (kfH H (backV v) < kfH H (backV u))) its := by
      have p1 : (qs.map V.ref).Pairwise fun x y => kfH H x < kfH H y := List.pairwise_map.mpr (pr_pair hx hso fun q p q' p' r r' l => by
        obtain ⟨_, r⟩ := r
        obtain ⟨_, r'⟩ := r'
        rw [kfH_at r, kfH_at r']
        exact l)
      rw [e1] at p1
      exact (List.pairwise_map.mp p1).imp fun l => decide_eq_false (by omega)
    obtain rfl := SrtO.stb_uniq (kfH_swo H) h1 so h2
    obtain ⟨n9, hn⟩ := sortedAll_at s.heap out out.toArray
    refine ⟨.ref (s.heap.objs.size + 1), L2.upd H (s.heap.objs.size + 1) (.lst (qs.map V.ref)), I.laid (t' := s.toks) (fun b o e => sortedAll_old (vs := out) (out := out.toArray) e) (Nat.le_succ _) ⟨?_, out, n9, by rw [e1]; exact vals_back e2, hn⟩, rfl, q _ (I.hok.fresh (Nat.le_succ _))⟩
    rw [List.length_map] at hz ⊢
    exact hz
end
end BR

/-! ### all rankings: in order, each of them once; found by all rows of ranks -/
namespace BR
open PySem PySem.Spec PyProof.Rows L2
def ascB : List Int → Bool
  | x :: y :: r => decide (x < y) && ascB (y :: r)
  | _ => true
theorem ascB_pw : ∀ {l : List Int}, ascB l = true → l.Pairwise (· < ·)
  | [], _ => .nil
  | [x], _ => List.pairwise_singleton _ _
  | x :: y :: r, h => by
    obtain ⟨h1, h2⟩ := Bool.and_eq_true_iff.mp h
    have p := ascB_pw (l := y :: r) h2
    have xy : x < y := of_decide_eq_true h1
    refine List.pairwise_cons.mpr ⟨fun z m => ?_, p⟩
    rcases List.mem_cons.mp m with rfl | m
    · exact xy
    · exact Int.lt_trans xy ((List.pairwise_cons.mp p).1 z m)
def digB (n : Nat) (p : List Int × Int) : Bool := p.1.all (fun x => decide (0 ≤ x) && decide (x < 8)) && decide (p.1.length = n) && decide (0 ≤ p.2) && decide (p.2 < 8)
theorem all_asc : ∀ n ∈ ([1, 2, 3, 4, 5] : List Nat), ascB ((allRk n).map cdk) = true := by decide +kernel
theorem all_dig : ∀ n ∈ ([1, 2, 3, 4, 5] : List Nat), (allRk n).all (digB n) = true := by decide +kernel
theorem law_all5 : ∀ n ∈ ([1, 2, 3, 4, 5] : List Nat), (lawRows n n).flatMap lawCuts = allRk n := by decide +kernel
theorem law_rows5 : ∀ n ∈ ([1, 2, 3, 4, 5] : List Nat), ∀ k ∈ List.range (n + 1), (lawRows n k).length ≤ 3125 ∧ ∀ r ∈ lawRows n k, r.length = k ∧ 0 ≤ mx r ∧ mx r ≤ 4 := by decide +kernel
theorem all_pw {n : Nat} (m : n ∈ ([1, 2, 3, 4, 5] : List Nat)) : (allRk n).Pairwise fun p r => cdk p < cdk r := List.pairwise_map.mp (ascB_pw (all_asc n m))
theorem all_dg {n : Nat} (m : n ∈ ([1, 2, 3, 4, 5] : List Nat)) : ∀ p ∈ allRk n, Dig p.1 ∧ p.1.length = n ∧ 0 ≤ p.2 ∧ p.2 < 8 := fun p hp => by
  have h := List.all_eq_true.mp (all_dig n m) p hp
  obtain ⟨h, h4⟩ := Bool.and_eq_true_iff.mp h
  obtain ⟨h, h3⟩ := Bool.and_eq_true_iff.mp h
  obtain ⟨h1, h2⟩ := Bool.and_eq_true_iff.mp h
  refine ⟨fun x hx => ?_, of_decide_eq_true h2, of_decide_eq_true h3, of_decide_eq_true h4⟩
  obtain ⟨a, b⟩ := Bool.and_eq_true_iff.mp (List.all_eq_true.mp h1 x hx)
  exact ⟨of_decide_eq_true a, of_decide_eq_true b⟩
theorem all_once {n : Nat} (m : n ∈ ([1, 2, 3, 4, 5] : List Nat)) {i j : Nat} {p r : List Int × Int} (hi : (allRk n)[i]? = some p) (hj : (allRk n)[j]? = some r) (l : i < j) : p ≠ r := fun e => by
  obtain ⟨i1, i2⟩ := List.getElem?_eq_some_iff.mp hi
  obtain ⟨j1, j2⟩ := List.getElem?_eq_some_iff.mp hj
  have h := List.pairwise_iff_getElem.mp (all_pw m) i j i1 j1 l
  rw [i2, j2, e] at h
  exact Int.lt_irrefl _ h
theorem units1 {k : Nat} {A : Around} (r : Room k A) : A.units + 65 < cLine := by have := r.un; omega
theorem small20000 {n : Nat} (h : n ≤ 20000) : n < sizeLine := by rw [sizeLine_eq]; omega
def rksD (ps : List (List Int × Int)) : List PyData := ps.map fun p => rkD p.1 p.2
theorem rks_all {K : PySem.W.Frag} {H : Hp} : ∀ {qs : List Addr} {ps : List (List Int × Int)}, RL H qs ps → DpAll K H (qs.map V.ref) (rksD ps)
  | _, _, .nil => .nil
  | _, _, .cons h t => let ⟨_, r⟩ := h; .cons r.dp (rks_all t)
theorem rkD_lay (p : List Int × Int) : (rkD p.1 p.2).canLay0 = true ∧ (rkD p.1 p.2).depth = 2 := by
  obtain ⟨l1, l2⟩ := ints_lay p.1
  refine ⟨?_, ?_⟩
  · show (PyData.canLayAll0 (p.1.map PyData.int) && (true && true)) = true
    rw [l1]
    rfl
  · show max (PyData.depthAll (p.1.map PyData.int) + 1) (max 0 0) + 1 = 2
    rw [l2]
    rfl
theorem rks_lay : ∀ ps : List (List Int × Int), PyData.canLayAll0 (rksD ps) = true ∧ PyData.depthAll (rksD ps) ≤ 2
  | [] => ⟨rfl, Nat.zero_le _⟩
  | p :: ps => by
    obtain ⟨h1, h2⟩ := rks_lay ps
    obtain ⟨g1, g2⟩ := rkD_lay p
    refine ⟨?_, ?_⟩
    · show ((rkD p.1 p.2).canLay0 && PyData.canLayAll0 (rksD ps)) = true
      rw [g1, h1]
      rfl
    · show max (rkD p.1 p.2).depth (PyData.depthAll (rksD ps)) ≤ 2
      rw [g2]
      omega
theorem rks_shaped (ps : List (List Int × Int)) : SeqAt.shaped (.list (rksD ps)) = true := by
  obtain ⟨h1, h2⟩ := rks_lay ps
  unfold SeqAt.shaped
  show (PyData.canLayAll0 (rksD ps) && decide (PyData.depthAll (rksD ps) + 1 ≤ 64)) = true
  rw [h1, decide_eq_true (by omega)]
  rfl
theorem ints_shapedL (xs : List Int) : SeqAt.shaped (.list (xs.map PyData.int)) = true := by
  obtain ⟨h1, h2⟩ := ints_lay xs
  unfold SeqAt.shaped
  show (PyData.canLayAll0 (xs.map PyData.int) && decide (PyData.depthAll (xs.map PyData.int) + 1 ≤ 64)) = true
  rw [h1, h2]
  rfl
theorem all_cnt {n : Nat} : n ∈ ([1, 2, 3, 4, 5] : List Nat) → ((allRk n).length : Int) = ([2, 8, 44, 308, 2612] : List Int).getD (n - 1) 0 ∧ 2 ≤ (allRk n).length ∧ (allRk n).length ≤ 2612 := by
  have h : ∀ n ∈ ([1, 2, 3, 4, 5] : List Nat), ((allRk n).length : Int) = ([2, 8, 44, 308, 2612] : List Int).getD (n - 1) 0 ∧ 2 ≤ (allRk n).length ∧ (allRk n).length ≤ 2612 := by decide +kernel
  exact h n
theorem rg_of {n : Nat} {L : Int} (n1 : 1 ≤ n) (n4 : n ≤ 4) (e : L = ([2, 8, 44, 308, 2612] : List Int).getD (n - 1) 0) :
    ∃ (st : Int) (cnt : Nat), atI [V.int 1, V.int 1, V.int 1, V.int 7] ((n : Int) - 1) = some (.int st) ∧ RgC 0 L st cnt ∧ 0 ≤ st ∧ ∀ i : Nat, i < cnt → 0 ≤ (i : Int) * st ∧ (i : Int) * st < L := by
  have : n = 1 ∨ n = 2 ∨ n = 3 ∨ n = 4 := by omega
  rcases this with rfl | rfl | rfl | rfl
  · obtain rfl : L = 2 := e
    exact ⟨1, 2, rfl, ⟨by decide, by decide, by decide +kernel, by decide +kernel⟩, by decide, fun i h => by omega⟩
  · obtain rfl : L = 8 := e
    exact ⟨1, 8, rfl, ⟨by decide, by decide, by decide +kernel, by decide +kernel⟩, by decide, fun i h => by omega⟩
  · obtain rfl : L = 44 := e
    exact ⟨1, 44, rfl, ⟨by decide, by decide, by decide +kernel, by decide +kernel⟩, by decide, fun i h => by omega⟩
  · obtain rfl : L = 308 := e
    exact ⟨7, 44, rfl, ⟨by decide, by decide, by decide +kernel, by decide +kernel⟩, by decide, fun i h => by omega⟩
end BR

/-! ### lists of bools: count; errors let out; tuples that are rankings or not -/
namespace BR
open PySem PySem.Spec PyProof.Rows L2
theorem bools_of_vals : ∀ {bs : List Bool} {us : List Value}, Vals (bs.map V.bl) us → us = bs.map Value.bool
  | [], us, r => by
    rw [List.map_nil] at r
    cases r
    rfl
  | b :: bs, us, r => by
    rw [List.map_cons] at r
    cases r with
    | cons h t =>
      rw [bools_of_vals t]
      cases h
      rfl
def eqB (k : Bool) : Value → Bool
  | .bool b => b == k
  | _ => false
def cntB (k : Bool) (bs : List Bool) : Nat := bs.countP fun b => b == k
def rCntB (K : PySem.W.Frag) : V → List V → Hp → VK → Prop := fun x xs H Q => ∃ (p : Addr) (bs : List Bool) (k : Bool), x = V.ref p ∧ xs = [V.bl k] ∧ SqL K H p (bs.map V.bl) ∧ Q (.int ((cntB k bs : Nat) : Int)) H
theorem mt_lcountB {X : Cx} : MtR X "list.count" (rCntB X.K) := by
  intro pins s σ H x xs v us Q I rx rxs h
  obtain ⟨p, bs, k, rfl, rfl, hs, q⟩ := h
  cases rx
  obtain ⟨u, rfl, ru⟩ := rxs.one
  obtain rfl : u = Value.bool k := ru
  obtain ⟨its, rv, ⟨⟨cls, dd, data, sl⟩, n, ho, hc, hdn, hd⟩, hlen⟩ := I.list hs
  simp only at hc hd
  subst hc hd
  have hi := bools_of_vals rv
  refine call_meets PySem.F.slot_list_count ⟨_, ho, rfl⟩ PySem.F.entry_list_count (PySem.F.args_list_count_2 _ _)
    (SeqAt.list_countAt p its.toArray n dd sl (.bool k) (eqB k)) ⟨ho, fun y hy => ?_, ?_⟩
  · have hy' : y ∈ its := by simpa using hy
    rw [hi] at hy'
    obtain ⟨b, _, rfl⟩ := List.mem_map.mp hy'
    exact SeqAt.EqAt.bool_bool b k
  · have ec : its.toArray.toList.countP (eqB k) = cntB k bs := by
      rw [hi]
      show (bs.map Value.bool).countP (eqB k) = _
      rw [List.countP_map]
      rfl
    refine ⟨.int ((cntB k bs : Nat) : Int), H, I.tok _, ⟨s.toks, ?_⟩, q⟩
    show Value.int ((its.toArray.toList.countP (eqB k) : Nat) : Int) s.toks = Value.int ((cntB k bs : Nat) : Int) s.toks
    rw [ec]
/-- whether (rs, c) is a ranking -/
def okR (rs : List Int) (c : Int) : Bool := decide (srt rs = rg (srt rs).length) && (decide (0 ≤ c) && decide (c ≤ ((srt rs).length : Int)))
theorem isRk_of {rs : List Int} (h : srt rs = rg (srt rs).length) : IsRk rs (srt rs).length := fun k => by
  have e : k ∈ srt rs ↔ k ∈ rg (srt rs).length := by rw [← h]
  exact srt_mem.symm.trans (e.trans rg_mem)
theorem okR_is {rs : List Int} {c : Int} (h : okR rs c = true) : IsRk rs (srt rs).length ∧ 0 ≤ c ∧ c ≤ ((srt rs).length : Int) := by
  obtain ⟨h1, h2⟩ := Bool.and_eq_true_iff.mp h
  obtain ⟨h2, h3⟩ := Bool.and_eq_true_iff.mp h2
  exact ⟨isRk_of (of_decide_eq_true h1), of_decide_eq_true h2, of_decide_eq_true h3⟩
def kindName (j : Nat) : Str := (["wide", "words", "outcome", "cond", "ranking", "odd", "program", "row", "odd", "odd", "odd", "number", "unlike", "odd", "odd"] : List Str).getD j "odd"
theorem rows_has {n : Nat} : ∀ (k : Nat) (r : List Int), r.length = k → (∀ x ∈ r, 0 ≤ x ∧ x < (n : Int)) → r ∈ lawRows n k
  | 0, r, e, _ => by
    rw [List.length_eq_zero_iff.mp e]
    exact List.mem_singleton.mpr rfl
  | k + 1, r, e, h => by
    rcases List.eq_nil_or_concat r with z | ⟨r', x, z⟩
    · rw [z] at e
      exact absurd e (by simp)
    rw [z] at e h ⊢
    rw [List.concat_eq_append] at e h ⊢
    rw [List.length_append] at e
    obtain ⟨x0, x1⟩ := h x (by simp)
    refine List.mem_flatMap.mpr ⟨r', rows_has k r' (Nat.succ.inj e) fun y m => h y (List.mem_append_left _ m), ?_⟩
    refine List.mem_map.mpr ⟨x.toNat, List.mem_range.mpr (by omega), ?_⟩
    rw [Int.toNat_of_nonneg x0]
def kindsAt : List Nat := [0, 1, 2, 3, 4, 6, 7, 11, 12]
def kindNames : List Str := ["wide", "words", "outcome", "cond", "ranking", "program", "row", "number", "unlike"]
def bsOf (j : Nat) : List Bool := kindsAt.map fun i => decide (j = i)
def kindOk (j : Nat) : Bool := decide (kindName j = "odd") || ([5, 8, 9, 10, 13, 14].all (fun i => decide (j ≠ i)) && decide (cntB true (bsOf j) = 1) && (List.range 9).any fun i => decide ((bsOf j)[i]? = some true) && decide (kindNames[i]? = some (kindName j)) && (List.range i).all fun m => decide ((bsOf j)[m]? = some false))
theorem kinds15 : (List.range 15).all kindOk = true := by decide +kernel
theorem kind_of {j : Nat} (kn : kindName j ≠ "odd") (jl : j < 15) : (∀ i ∈ ([5, 8, 9, 10, 13, 14] : List Nat), j ≠ i) ∧ cntB true (bsOf j) = 1 ∧ ∃ i, i < 9 ∧ (bsOf j)[i]? = some true ∧ kindNames[i]? = some (kindName j) ∧ ∀ m, m < i → (bsOf j)[m]? = some false := by
  have h := List.all_eq_true.mp kinds15 j (List.mem_range.mpr jl)
  rcases Bool.or_eq_true_iff.mp h with h | h
  · exact absurd (of_decide_eq_true h) kn
  obtain ⟨h, h3⟩ := Bool.and_eq_true_iff.mp h
  obtain ⟨h1, h2⟩ := Bool.and_eq_true_iff.mp h
  obtain ⟨i, hi, h3⟩ := List.any_eq_true.mp h3
  obtain ⟨h3, h5⟩ := Bool.and_eq_true_iff.mp h3
  obtain ⟨h3, h4⟩ := Bool.and_eq_true_iff.mp h3
  refine ⟨fun i hi => of_decide_eq_true (List.all_eq_true.mp h1 i hi), of_decide_eq_true h2, i, List.mem_range.mp hi, of_decide_eq_true h3, of_decide_eq_true h4, fun m hm => of_decide_eq_true (List.all_eq_true.mp h5 m (List.mem_range.mpr hm))⟩
theorem kindSplit : Txt.split "wide words outcome cond ranking program row number unlike" " " = kindNames := by decide +kernel
theorem kitAny_no {K : PySem.W.Frag} {t : Value} : ∀ {us : List Value}, (∀ u ∈ us, PySem.W.kitOne K t u = some false) → PySem.W.kitAny K t us = some false
  | [], _ => rfl
  | u :: us, h => by
    show (match PySem.W.kitOne K t u with | some true => some true | some false => PySem.W.kitAny K t us | none => none) = some false
    rw [h u List.mem_cons_self]
    exact kitAny_no fun y m => h y (List.mem_cons_of_mem _ m)
theorem mx_in {rs : List Int} (ne : rs ≠ []) : mx rs ∈ rs ∧ ∀ y ∈ rs, y ≤ mx rs := by
  obtain ⟨m, hm, hx⟩ : ∃ m ∈ rs, ∀ y ∈ rs, y ≤ m := by
    induction rs with
    | nil => exact absurd rfl ne
    | cons x l ih =>
      by_cases e : l = []
      · subst e
        exact ⟨x, List.mem_cons_self, fun y hy => by rw [List.mem_singleton.mp hy]; exact Int.le_refl _⟩
      obtain ⟨m, hm, hx⟩ := ih e
      by_cases c : m < x
      · exact ⟨x, List.mem_cons_self, fun y hy => by
          rcases List.mem_cons.mp hy with rfl | hy
          · exact Int.le_refl _
          · have := hx y hy
            omega⟩
      · exact ⟨m, List.mem_cons_of_mem _ hm, fun y hy => by
          rcases List.mem_cons.mp hy with rfl | hy
          · omega
          · exact hx y hy⟩
  rw [← mx_one hm hx]
  exact ⟨hm, hx⟩
/-- asked by the greatest rank -/
theorem okR_mx {rs : List Int} {c : Int} {m : Nat} (ne : rs ≠ []) (em : mx rs + 1 = (m : Int)) : okR rs c = (decide (srt rs = rg m) && (decide (0 ≤ c) && decide (c ≤ (m : Int)))) := by
  by_cases h : srt rs = rg m
  · have l : (srt rs).length = m := by rw [h, rg_len]
    unfold okR
    rw [l]
  · have h2 : ¬ srt rs = rg (srt rs).length := fun z => by
      have := mx_is (srt_pos ne) (isRk_of z)
      have e : (srt rs).length = m := by omega
      rw [e] at z
      exact h z
    unfold okR
    rw [decide_eq_false h, decide_eq_false h2, Bool.false_and, Bool.false_and]
/-- all that are rankings stand among all rankings -/
theorem all_has {rs : List Int} {c : Int} (n1 : 1 ≤ rs.length) (n5 : rs.length ≤ 5) (o : okR rs c = true) : ∃ j : Nat, (allRk rs.length)[j]? = some (rs, c) := by
  obtain ⟨is, c0, cm⟩ := okR_is o
  have ls := srt_len rs
  have ne : rs ≠ [] := fun e => by rw [e] at n1; exact absurd n1 (by decide)
  have em := mx_is (srt_pos ne) is
  have mem : (rs, c) ∈ allRk rs.length := by
    rw [← law_all5 rs.length (five n1 n5)]
    refine List.mem_flatMap.mpr ⟨rs, rows_has _ rs rfl fun x m => ?_, ?_⟩
    · have := (is x).mp m
      omega
    · unfold lawCuts
      rw [if_pos (by omega)]
      refine List.mem_map.mpr ⟨c.toNat, List.mem_range.mpr (by omega), ?_⟩
      rw [Int.toNat_of_nonneg c0]
  obtain ⟨j, hj, e⟩ := List.mem_iff_getElem.mp mem
  exact ⟨j, by rw [List.getElem?_eq_getElem hj, e]⟩
/-- an error of the class at C that carries v is let out -/
def Lets (C : Addr) (v : V) (H : Hp) (E : XK) : Prop := ∀ d H', H d = none → Same H H' → H' d = some (.xd [("value", v)]) → E (.ref C) (some d) H'
theorem Lets.now {C : Addr} {v : V} {H : Hp} {E : XK} (h : Lets C v H E) : ∀ d, H d = none → E (.ref C) (some d) (L2.upd H d (.xd [("value", v)])) := fun d hd => h d _ hd (sameNew hd) upd_same
theorem Lets.later {C : Addr} {v : V} {H H1 : Hp} {E : XK} (h : Lets C v H E) (s : Same H H1) : Lets C v H1 E := fun d H' hd s2 e => h d H' (s.free hd) (s.trans s2) e
def Word (wd x : Int) : Prop := 0 ≤ x ∧ x < 2 ^ wd.toNat
/-- the first integer that is no word stands at i -/
def BadAt (wd : Int) (xs : List Int) (i : Nat) : Prop := ∃ z, xs[i]? = some z ∧ ¬ Word wd z ∧ ∀ (j : Nat) (y : Int), j < i → xs[j]? = some y → Word wd y
theorem bad_or {wd : Int} : ∀ xs : List Int, (∀ x ∈ xs, Word wd x) ∨ ∃ i, BadAt wd xs i
  | [] => .inl fun x m => absurd m (by simp)
  | x :: xs => by
    by_cases h : Word wd x
    · rcases bad_or (wd := wd) xs with a | ⟨i, z, e, nz, pre⟩
      · exact .inl fun y m => by
          rcases List.mem_cons.mp m with rfl | m
          · exact h
          · exact a y m
      · refine .inr ⟨i + 1, z, e, nz, fun j y hj hy => ?_⟩
        cases j with
        | zero =>
          cases hy
          exact h
        | succ j => exact pre j y (by omega) hy
    · exact .inr ⟨0, x, rfl, h, fun j y hj => absurd hj (Nat.not_lt_zero j)⟩
end BR

/-! ### [e for x in l], l a list of ints, e an int of x alone -/
namespace BR
open PySem PySem.Spec PyProof.Rows L2
theorem lc_intsL {K : PySem.W.Frag} {a : Addr} {xs : List Int} {j : Nat} {te : TE} {vs : List Nat} {σ : L2.St} {H1 : Hp} {D : Addr} {Qd : Hp → Prop} (f : Int → Int) (hL : SqL K H1 a (xs.map V.int)) (hz : xs.length ≤ 1000) (hD : H1 D = none)
    (hw : ∀ x : V, wipe ((wipe σ vs).set j (some x)) vs = wipe σ vs)
    (he : ∀ (x : Int) (H2 : Hp) (Q : VK), x ∈ xs → Same H1 H2 → (∀ H3, Same H2 H3 → Q (.int (f x)) H3) → te ((wipe σ vs).set j (some (.int x))) H2 Q)
    (hd : ∀ H, Same H1 H → H D = some (.lst ((xs.map f).map V.int)) → Qd H) :
    ∃ W : Nat → Nat → Hp → Prop, (∃ m, W 0 m (L2.upd H1 D (.lst []))) ∧ ∀ i m H, W i m H →
      ((Itl K a).stop i H ∧ Qd H) ∨ ((Itl K a).go i H ∧ ∃ Nx : Hp → Prop, (∀ H', Nx H' → ∃ m', m' < m ∧ W (i + 1) m' H') ∧ ∀ x H', (Itl K a).yld i H x H' → gName j x (wipe σ vs) H' fun σ2 H2 => wipe σ2 vs = wipe σ vs ∧ tYes σ2 H2 fun b H3 =>
        if b = true then te σ2 H3 fun y H4 => ∃ acc, H4 D = some (.lst acc) ∧ acc.length < sizeLine ∧ Nx (L2.upd H4 D (.lst (acc ++ [y]))) else Nx H3) := by
  refine lc_list (xs := xs.map V.int) (fun i H => Same H1 H ∧ H D = some (.lst (((xs.take i).map f).map V.int))) ⟨sameNew hD, upd_same⟩ (fun i H _ p => p.1.seq hL) ?_ ?_
  · rintro i x H hx ⟨s, hH⟩
    obtain ⟨z, hz1, rfl⟩ := map_at hx
    refine ⟨hw _, ?_⟩
    show te ((wipe σ vs).set j (some (V.int z))) H _
    refine he z H _ (List.mem_of_getElem? hz1) s fun H3 s3 => ?_
    refine ⟨_, s3 _ _ hH, small1000 (by rw [List.length_map, List.length_map, List.length_take]; omega), ?_, ?_⟩
    · intro b o e
      rw [upd_ne (ne_of_none e hD)]
      exact s3 _ _ (s _ _ e)
    · rw [upd_same, map_take_succ hz1]
  · rintro H ⟨s, hH⟩
    rw [List.length_map, List.take_length] at hH
    exact hd H s hH
theorem ite_by {K : PySem.W.Frag} {H0 : Hp} {Qd : Hp → Prop} {B : V → Hp → (Hp → Prop) → Prop} {a : Addr} {xs : List V} (Pv : Nat → Hp → Prop) (h0 : Pv 0 H0) (hl : ∀ i H, i ≤ xs.length → Pv i H → SqL K H a xs)
    (hs : ∀ i x H T, xs[i]? = some x → Pv i H → H T = none → B (.ref T) (L2.upd H T (.tup [.int (i : Nat), x])) (Pv (i + 1))) (hd : ∀ H, Pv xs.length H → Qd H) :
    ∃ W : Nat → Nat → Hp → Prop, (∃ m, W 0 m H0) ∧ ∀ i m H, W i m H → ((Ite K a).stop i H ∧ Qd H) ∨ ((Ite K a).go i H ∧ ∃ Nx : Hp → Prop, (∀ H', Nx H' → ∃ m', m' < m ∧ W (i + 1) m' H') ∧ ∀ x H', (Ite K a).yld i H x H' → B x H' Nx) := by
  refine ⟨fun i m H => m = xs.length - i ∧ i ≤ xs.length ∧ Pv i H, ⟨xs.length, by simp, Nat.zero_le _, h0⟩, fun i m H => ?_⟩
  rintro ⟨rfl, hi, p⟩
  have q := hl i H hi p
  rcases Nat.lt_or_eq_of_le hi with c | c
  · refine .inr ⟨⟨xs, xs[i], q, by simp [c]⟩, Pv (i + 1), fun H' p' => ⟨xs.length - (i + 1), by omega, rfl, c, p'⟩, fun x H' y => ?_⟩
    obtain ⟨T, x1, e1, e2, e3, y⟩ := y
    subst e1 e3
    exact hs i x1 _ T (y xs q) p e2
  · subst c
    exact .inl ⟨⟨xs, q, Nat.le_refl _⟩, hd H p⟩
theorem rep_if (b : Bool) (x : V) : (List.replicate (if b = true then (1 : Int) else 0).toNat [x]).flatten = if b = true then [x] else [] := by cases b <;> rfl
/-- [[word, value]] * int(test) -/
theorem flagL {σ : L2.St} {H : Hp} {Q : VK} {wd : Str} {i : Nat} {v : V} {tb : TE} {b : Bool} (hv : σ[i]? = some (some v)) (hb : ∀ (H' : Hp) (Q' : VK), Same H H' → (∀ H'', Same H' H'' → Q' (.bl b) H'') → tb σ H' Q')
    (k : ∀ g0 g2 H', Same H H' → H' g0 = some (.lst [.str wd, v]) → H' g2 = some (.lst (if b = true then [.ref g0] else [])) → Q (.ref g2) H') :
    tOp rRep (tLst (tCons (tLst (tCons (tC (.str wd)) (tCons (tVar i) tNil))) tNil)) (tCB (fun xs H Q => (∃ i, xs = [V.int i] ∧ Q (V.int i) H) ∨ ∃ k, xs = [V.bl k] ∧ Q (V.int (if k = true then 1 else 0)) H) (tCons tb tNil)) σ H Q := by
  refine ⟨_, hv, (by show 2 ≤ sizeLine; decide), fun g0 hg0 => ⟨(by show 1 ≤ sizeLine; decide), fun g1 hg1 => ?_⟩⟩
  refine hb _ _ ((sameNew hg0).trans (sameNew hg1)) fun H2 s2 => ?_
  refine .inr ⟨_, rfl, ?_⟩
  refine ⟨g1, _, [.ref g0], rfl, rfl, s2 _ _ upd_same, by split <;> decide, by split <;> decide, (by show 1 * _ ≤ sizeLine; split <;> decide), fun g2 hg2 => ?_⟩
  rw [rep_if]
  exact k g0 g2 _ (((sameNew hg0).trans (sameNew hg1)).trans (s2.trans (sameNew hg2))) ((sameNew hg2) _ _ (s2 _ _ ((sameNew hg1) _ _ upd_same))) upd_same
end BR

/-! ### the conditions and the outcomes of words -/
namespace BR
open PySem PySem.Spec PyProof.Rows L2
def outs : List Str := ["E", "LB", "GA", "GB", "LA"]
def tabC : List (Str × List Str) := [("e", ["E"]), ("ne", ["LB", "GA", "GB", "LA"]), ("l", ["LB", "LA"]), ("le", ["E", "LB", "LA"]), ("g", ["GA", "GB"]), ("ge", ["E", "GA", "GB"]), ("b", ["LB", "GB"]), ("be", ["E", "LB", "GB"]), ("a", ["GA", "LA"]), ("ae", ["E", "GA", "LA"]), ("same", ["E", "LB", "GA"]), ("mixed", ["GB", "LA"])]
def mixedO (z : Str) : Bool := decide (z ∈ (["GB", "LA"] : List Str))
def compOuts (a b : Str) : List Str := if a = "E" then [b] else if b = "E" then [a] else if mixedO a != mixedO b then (if mixedO a then [a] else [b]) else if a ≠ b then ["E", "LB", "GA"] else if mixedO a then [] else [a]
def Wd (wd x : Int) : Prop := 0 ≤ x ∧ x < 2 ^ wd.toNat
/-- how two words stand -/
inductive Ord5 (wd x y : Int) : Str → Prop
  | e : x = y → sv wd x = sv wd y → (sv wd x < 0 ↔ sv wd y < 0) → Ord5 wd x y "E"
  | lb : x < y → sv wd x < sv wd y → (sv wd x < 0 ↔ sv wd y < 0) → Ord5 wd x y "LB"
  | ga : y < x → sv wd y < sv wd x → (sv wd x < 0 ↔ sv wd y < 0) → Ord5 wd x y "GA"
  | gb : x < y → sv wd y < sv wd x → ¬ sv wd x < 0 → sv wd y < 0 → Ord5 wd x y "GB"
  | la : y < x → sv wd x < sv wd y → sv wd x < 0 → ¬ sv wd y < 0 → Ord5 wd x y "LA"
theorem ord5 {wd x y : Int} (h : 1 ≤ wd) (hx : Wd wd x) (hy : Wd wd y) : Ord5 wd x y (oc wd x y) := by
  have e := two_half h
  have p := pow_pos (wd - 1).toNat
  obtain ⟨x0, x1⟩ := hx
  obtain ⟨y0, y1⟩ := hy
  unfold oc
  by_cases c : x = y
  · rw [if_pos c]
    subst c
    exact .e rfl rfl Iff.rfl
  rw [if_neg c]
  by_cases d : sv wd x < sv wd y
  · rw [if_pos d]
    by_cases f : x < y
    · rw [if_pos f]
      refine .lb f d ?_
      unfold sv at d ⊢
      split at d <;> split at d <;> constructor <;> intro _ <;> omega
    · rw [if_neg f]
      refine .la (by omega) d ?_ ?_ <;> (unfold sv at d ⊢; split at d <;> split at d <;> omega)
  · rw [if_neg d]
    by_cases f : x < y
    · rw [if_pos f]
      refine .gb f ?_ ?_ ?_ <;> (unfold sv at d ⊢; split at d <;> split at d <;> omega)
    · rw [if_neg f]
      refine .ga (by omega) ?_ ?_
      · unfold sv at d ⊢; split at d <;> split at d <;> omega
      · unfold sv at d ⊢; split at d <;> split at d <;> constructor <;> intro _ <;> omega
theorem oc_in {wd x y : Int} (h : 1 ≤ wd) (hx : Wd wd x) (hy : Wd wd y) : oc wd x y ∈ outs := by
  have o := ord5 h hx hy
  generalize oc wd x y = z at o
  cases o <;> decide +kernel
theorem comp_ok {wd x y z : Int} (h : 1 ≤ wd) (hx : Wd wd x) (hy : Wd wd y) (hz : Wd wd z) : oc wd x z ∈ compOuts (oc wd x y) (oc wd y z) := by
  have o1 := ord5 h hx hy
  have o2 := ord5 h hy hz
  have o3 := ord5 h hx hz
  generalize oc wd x y = a at o1
  generalize oc wd y z = b at o2
  generalize oc wd x z = c at o3
  cases o1 <;> cases o2 <;> cases o3 <;> first | decide +kernel | (exfalso; omega)
/-- the truth of a condition by its meaning -/
def truV (wd x y : Int) : List (Str × Bool) := [("e", decide (x = y)), ("ne", !decide (x = y)), ("l", decide (sv wd x < sv wd y)), ("le", decide (sv wd x ≤ sv wd y)), ("g", decide (sv wd x > sv wd y)),
  ("ge", decide (sv wd x ≥ sv wd y)), ("b", decide (x < y)), ("be", decide (x ≤ y)), ("a", decide (x > y)), ("ae", decide (x ≥ y)), ("same", decide (decide (sv wd x < 0) = decide (sv wd y < 0))), ("mixed", !decide (decide (sv wd x < 0) = decide (sv wd y < 0)))]
theorem tab_cases {z : Str} {os : List Str} (h : tabC.lookup z = some os) : (z = "e" ∧ os = (["E"] : List Str)) ∨ (z = "ne" ∧ os = (["LB", "GA", "GB", "LA"] : List Str)) ∨ (z = "l" ∧ os = (["LB", "LA"] : List Str)) ∨ (z = "le" ∧ os = (["E", "LB", "LA"] : List Str)) ∨ (z = "g" ∧ os = (["GA", "GB"] : List Str)) ∨ (z = "ge" ∧ os = (["E", "GA", "GB"] : List Str)) ∨ (z = "b" ∧ os = (["LB", "GB"] : List Str)) ∨ (z = "be" ∧ os = (["E", "LB", "GB"] : List Str)) ∨ (z = "a" ∧ os = (["GA", "LA"] : List Str)) ∨ (z = "ae" ∧ os = (["E", "GA", "LA"] : List Str)) ∨ (z = "same" ∧ os = (["E", "LB", "GA"] : List Str)) ∨ (z = "mixed" ∧ os = (["GB", "LA"] : List Str)) := by
  have key : ∀ {l : List (Str × List Str)}, l.lookup z = some os → (z, os) ∈ l := by
    intro l
    induction l with
    | nil => intro h; cases h
    | cons p l ih =>
      obtain ⟨k, v⟩ := p
      intro h
      by_cases c : z = k
      · subst c
        simp [List.lookup] at h
        subst h
        exact List.mem_cons_self
      · have e : (z == k) = false := by simpa using c
        simp only [List.lookup, e] at h
        exact List.mem_cons_of_mem _ (ih h)
  have m := key h
  simpa [tabC] using m
theorem truV_ok {wd x y : Int} {z : Str} {os : List Str} (h : 1 ≤ wd) (hx : Wd wd x) (hy : Wd wd y) (hz : tabC.lookup z = some os) : (truV wd x y).lookup z = some (decide (oc wd x y ∈ os)) := by
  have o1 := ord5 h hx hy
  generalize oc wd x y = a at o1
  have tr : ∀ {p : Prop} [Decidable p] {b : Bool}, (p ↔ b = true) → decide p = b := fun {p} _ {b} h => by
    cases b
    · exact decide_eq_false fun q => absurd (h.mp q) (by decide)
    · exact decide_eq_true (h.mpr rfl)
  rcases tab_cases hz with ⟨rfl, rfl⟩ | ⟨rfl, rfl⟩ | ⟨rfl, rfl⟩ | ⟨rfl, rfl⟩ | ⟨rfl, rfl⟩ | ⟨rfl, rfl⟩ | ⟨rfl, rfl⟩ | ⟨rfl, rfl⟩ | ⟨rfl, rfl⟩ | ⟨rfl, rfl⟩ | ⟨rfl, rfl⟩ | ⟨rfl, rfl⟩
  · refine congrArg some ((?_ : decide (x = y) = _)); cases o1 <;> first | exact (decide_eq_true (by omega)).trans (by decide +kernel) | exact (decide_eq_false (by omega)).trans (by decide +kernel)
  · refine congrArg some ((?_ : (!decide (x = y)) = _)); cases o1 <;> first | exact (congrArg not (decide_eq_true (by omega))).trans (by decide +kernel) | exact (congrArg not (decide_eq_false (by omega))).trans (by decide +kernel)
  · refine congrArg some ((?_ : decide (sv wd x < sv wd y) = _)); cases o1 <;> first | exact (decide_eq_true (by omega)).trans (by decide +kernel) | exact (decide_eq_false (by omega)).trans (by decide +kernel)
  · refine congrArg some ((?_ : decide (sv wd x ≤ sv wd y) = _)); cases o1 <;> first | exact (decide_eq_true (by omega)).trans (by decide +kernel) | exact (decide_eq_false (by omega)).trans (by decide +kernel)
  · refine congrArg some ((?_ : decide (sv wd x > sv wd y) = _)); cases o1 <;> first | exact (decide_eq_true (by omega)).trans (by decide +kernel) | exact (decide_eq_false (by omega)).trans (by decide +kernel)
  · refine congrArg some ((?_ : decide (sv wd x ≥ sv wd y) = _)); cases o1 <;> first | exact (decide_eq_true (by omega)).trans (by decide +kernel) | exact (decide_eq_false (by omega)).trans (by decide +kernel)
  · refine congrArg some ((?_ : decide (x < y) = _)); cases o1 <;> first | exact (decide_eq_true (by omega)).trans (by decide +kernel) | exact (decide_eq_false (by omega)).trans (by decide +kernel)
  · refine congrArg some ((?_ : decide (x ≤ y) = _)); cases o1 <;> first | exact (decide_eq_true (by omega)).trans (by decide +kernel) | exact (decide_eq_false (by omega)).trans (by decide +kernel)
  · refine congrArg some ((?_ : decide (x > y) = _)); cases o1 <;> first | exact (decide_eq_true (by omega)).trans (by decide +kernel) | exact (decide_eq_false (by omega)).trans (by decide +kernel)
  · refine congrArg some ((?_ : decide (x ≥ y) = _)); cases o1 <;> first | exact (decide_eq_true (by omega)).trans (by decide +kernel) | exact (decide_eq_false (by omega)).trans (by decide +kernel)
  · have g : ∀ b, ((sv wd x < 0 ↔ sv wd y < 0) ↔ b = true) → decide (decide (sv wd x < 0) = decide (sv wd y < 0)) = b := fun b hb => tr ⟨fun q => hb.mp (decide_eq_decide.mp q), fun q => decide_eq_decide.mpr (hb.mpr q)⟩
    refine congrArg some ((?_ : decide (decide (sv wd x < 0) = decide (sv wd y < 0)) = _))
    refine g _ ?_
    cases o1 <;> first | exact ⟨fun _ => by decide +kernel, fun _ => by omega⟩ | exact ⟨fun q => by exfalso; omega, fun q => absurd q (by decide +kernel)⟩
  · have g : ∀ b, ((sv wd x < 0 ↔ sv wd y < 0) ↔ b = false) → (!decide (decide (sv wd x < 0) = decide (sv wd y < 0))) = b := fun b hb => by
      cases b
      · rw [tr (b := true) ⟨fun q => rfl, fun q => decide_eq_decide.mpr (hb.mpr rfl)⟩]
        rfl
      · rw [tr (b := false) ⟨fun q => absurd (hb.mp (decide_eq_decide.mp q)) (by decide), fun q => absurd q (by decide)⟩]
        rfl
    refine congrArg some ((?_ : (!decide (decide (sv wd x < 0) = decide (sv wd y < 0))) = _))
    refine g _ ?_
    cases o1 <;> first | exact ⟨fun _ => by decide +kernel, fun _ => by omega⟩ | exact ⟨fun q => by exfalso; omega, fun q => absurd q (by decide +kernel)⟩
/-! sets of outcomes -/
def allSets : List (List Str) := outs.foldr (fun x r => r.map (x :: ·) ++ r) [[]]
theorem pick_mem (f : Str → Bool) : outs.filter f ∈ allSets := by
  have g : ∀ l : List Str, l.filter f ∈ l.foldr (fun x r => r.map (x :: ·) ++ r) [[]] := by
    intro l
    induction l with
    | nil => exact List.mem_singleton.mpr rfl
    | cons x l ih =>
      rw [List.foldr_cons, List.filter_cons]
      cases f x
      · exact List.mem_append_right _ ih
      · exact List.mem_append_left _ (List.mem_map.mpr ⟨_, ih, rfl⟩)
  exact g outs
def conds : List Str := ["e", "ne", "l", "le", "g", "ge", "b", "be", "a", "ae", "same", "mixed"]
def outsOf (z : Str) : List Str := (tabC.lookup z).getD []
def dueOf (s : List Str) : List Str := conds.filter fun c => decide (outsOf c = s)
theorem due_ok (f : Str → Bool) : (dueOf (outs.filter f)).length ≤ 1 ∧ (tabC.find? fun q => decide (q.2 = outs.filter f)).map (·.1) = (dueOf (outs.filter f)).head? := by
  have : ∀ s ∈ allSets, (dueOf s).length ≤ 1 ∧ (tabC.find? fun q => decide (q.2 = s)).map (·.1) = (dueOf s).head? := by decide +kernel
  exact this _ (pick_mem f)
theorem cond_back : ∀ c ∈ conds, ((tabC.find? fun q => decide (q.2 = outs.filter fun o => decide (o ∈ outsOf c))).isSome = true) ∧ tabC.lookup c = some (outsOf c) ∧ (∀ z ∈ outsOf c, z ∈ outs) ∧ (outsOf c).length ≤ 5 := by decide +kernel
/-! all triples of words of three bits -/
def lsOf (n : Nat) (a b : Str) : List Str := (List.range n).filterMap fun i => if oc 3 ((i / 64 : Nat) : Int) ((i / 8 % 8 : Nat) : Int) = a ∧ oc 3 ((i / 8 % 8 : Nat) : Int) ((i % 8 : Nat) : Int) = b then some (oc 3 ((i / 64 : Nat) : Int) ((i % 8 : Nat) : Int)) else none
theorem ls_all : ∀ a ∈ outs, ∀ b ∈ outs, (outs.filter fun o => decide (o ∈ lsOf 512 a b)) = compOuts a b := by decide +kernel
theorem ls_len (n : Nat) (a b : Str) : (lsOf n a b).length ≤ n := by
  unfold lsOf
  exact Nat.le_trans (List.length_filterMap_le _ _) (by simp)
theorem idx_ok : ∀ z ∈ outs, (outs.map V.str)[outs.idxOf z]? = some (.str z) ∧ ∀ (m : Nat) (z' : V), m < outs.idxOf z → (outs.map V.str)[m]? = some z' → eqV z' (.str z) = false := by
  intro z hz
  have : z = "E" ∨ z = "LB" ∨ z = "GA" ∨ z = "GB" ∨ z = "LA" := by simpa [outs] using hz
  rcases this with rfl | rfl | rfl | rfl | rfl
  · exact ⟨rfl, fun m z' h => absurd h (Nat.not_lt_zero m)⟩
  · refine ⟨rfl, fun m z' h e => ?_⟩
    have h' : m < 1 := h
    obtain rfl : m = 0 := by omega
    cases e
    decide +kernel
  · refine ⟨rfl, fun m z' h e => ?_⟩
    have h' : m < 2 := h
    have : m = 0 ∨ m = 1 := by omega
    rcases this with rfl | rfl <;> cases e <;> decide +kernel
  · refine ⟨rfl, fun m z' h e => ?_⟩
    have h' : m < 3 := h
    have : m = 0 ∨ m = 1 ∨ m = 2 := by omega
    rcases this with rfl | rfl | rfl <;> cases e <;> decide +kernel
  · refine ⟨rfl, fun m z' h e => ?_⟩
    have h' : m < 4 := h
    have : m = 0 ∨ m = 1 ∨ m = 2 ∨ m = 3 := by omega
    rcases this with rfl | rfl | rfl | rfl <;> cases e <;> decide +kernel
theorem spots_up : ∀ c ∈ conds, ((outsOf c).map fun z => ((outs.idxOf z : Nat) : Int)).Pairwise (· ≤ ·) := by decide +kernel
end BR

/-! ### own classes: len(o), a + b, a == b by the class's own defs -/
namespace BR
open PySem PySem.Spec PyProof.Rows L2
section
variable {X : Cx} {CX : CXT} {k : Nat} {C f : Addr} {fd : FuncData} {ps : List Str} {sp : Sp} {E : XK}
/-- the callee runs inside a built-in's call -/
theorem run_fnIn {pins : List (Addr × Obj)} {σ : L2.St} {H : Hp} {s : Shared} {Q : VK} {us : List Value} {vs : List V} (F : FnOk X.prog X.w X.K X.mg X.base CX k f fd ps sp) (hr : Room k X.A.in1) (hb : Binds X.K fd ps []) (hx : Passes CX X E)
    (I : Inv X pins σ H s) (r : Vals vs us) (h : sp vs H Q E) : wpAny (model X.prog X.w) X.A.in1 (call (.ref f) us) (EP X pins σ Q) X.xe s := by
  have hl : us.length = ps.length := by rw [← r.length]; exact F.len _ _ _ _ h
  have b := hb s us I.kIn (by simpa using hl)
  rw [List.append_nil] at b
  refine wpAny_call (codeAny_mono (F.run X.A.in1 X.stack s H ⟨us, []⟩ us vs Q E hr I.env0.in1 b r h) fun r s' hq => ?_)
  cases r with
  | error e => exact hx pins σ H s e s' I hq
  | ok fl =>
    cases fl with
    | ret u => exact I.after hq
    | next => exact False.elim hq
    | brk => exact False.elim hq
    | cont => exact False.elim hq
def rLenOwn (C : Addr) (sp : Sp) (E : XK) : List V → Hp → VK → Prop := fun xs H Q => ∃ a dx fs, xs = [V.ref a] ∧ H a = some (.ins C dx fs) ∧ sp [.ref a] H (fun z H' => ∃ n : Nat, z = .int (n : Int) ∧ n < 2 ^ 62 ∧ Q (.int (n : Int)) H') E
theorem call_lenOwn (m : Meth X.K C "__len__" f) (F : FnOk X.prog X.w X.K X.mg X.base CX k f fd ps sp) (hr : Room (k + 1) X.A) (hb : Binds X.K fd ps []) (hx : Passes CX X E) : CallR X (.builtin "len") (rLenOwn C sp E) := by
  intro pins s σ H xs us Q I r h
  obtain ⟨a, dx, fs, rfl, ha, q⟩ := h
  rw [Vals.ref1 r]
  obtain ⟨mA, O, _⟩ := ins_get I.hok ha
  obtain ⟨od, J, _⟩ := O.look
  obtain ⟨m0, hF⟩ := I.fr
  refine PySem.W.len_K hF I.ok.mod.kin J m.at_ m.fn (wpAny_mono (run_fnIn (us := [.ref a]) (vs := [.ref a]) F hr.in1 hb hx I (.cons rfl .nil) q) (fun w s' z => ?_) fun _ _ x => x)
  obtain ⟨z', H', I', rz, n, e, hn, qz⟩ := z
  subst e
  obtain ⟨t, rfl⟩ := (show ∃ t, w = Value.int n t from rz)
  exact ⟨⟨by omega, by omega⟩, .int n, H', I'.tok _, ⟨_, rfl⟩, qz⟩
def rEqOwn (K : PySem.W.Frag) (C : Addr) (sp : Sp) (E : XK) : R2 := fun x y H Q => ∃ a b dx dy fs gs, x = .ref a ∧ y = .ref b ∧ H a = some (.ins C dx fs) ∧ H b = some (.ins C dy gs) ∧ sp [x, y] H Q E
theorem op_eqOwn (m : Meth X.K C "__eq__" f) (F : FnOk X.prog X.w X.K X.mg X.base CX k f fd ps sp) (hr : Room k X.A) (hb : Binds X.K fd ps []) (hx : Passes CX X E) : OpR X (compareOp .Eq) (rEqOwn X.K C sp E) := by
  intro pins s σ H x y v u Q I rx ry h
  obtain ⟨a, b, dx, dy, fs, gs, rfl, rfl, ha, hb', q⟩ := h
  cases rx
  cases ry
  obtain ⟨mA, O, _⟩ := ins_get I.hok ha
  obtain ⟨mB, O', _⟩ := ins_get I.hok hb'
  obtain ⟨od, J, _⟩ := O.look
  obtain ⟨od', J', _⟩ := O'.look
  obtain ⟨m0, hF⟩ := I.fr
  show wpAny _ _ (richCompare .Eq (.ref a) (.ref b)) _ _ _
  refine PySem.W.cmp_K (op := .Eq) (tb := .ref C) hr.units0 hF I.ok.mod.kin J J'.type (by simp [PySem.W.notFirst]) m.at_ m.fn ?_
  refine wpAny_mono (run_fn (us := [.ref a, .ref b]) (vs := [.ref a, .ref b]) F hr hb .nil hx I (.cons rfl (.cons rfl .nil)) (by simpa using q)) (fun w s' z => ?_) fun _ _ x => x
  obtain ⟨z', H', I', rz, qz⟩ := z
  exact SlX.cmpback rz ⟨z', H', I', rz, qz⟩
/-- a + b, by the class's own def, which may raise -/
def tAddOwnS (C : Addr) (sp : Sp) (E : L2.St → XK) (ta tb : TE) : TE := fun σ H Q => ta σ H fun x H1 => tb σ H1 fun y H2 => ∃ a b dx dy fs gs, x = .ref a ∧ y = .ref b ∧ H2 a = some (.ins C dx fs) ∧ H2 b = some (.ins C dy gs) ∧ sp [x, y] H2 Q (E σ)
theorem pe_addOwnS {e1 e2 : Expr} {ta tb : TE} {pos : Pos} {Ef : L2.St → XK} (m : Meth X.K C "__add__" f) (sf : PySem.W.selfFirst X.K C = true) (F : FnOk X.prog X.w X.K X.mg X.base CX k f fd ps sp) (hr : Room k X.A) (hb : Binds X.K fd ps []) (hx : ∀ σ, PassesAt CX X σ (Ef σ)) (h1 : PE X e1 ta) (h2 : PE X e2 tb) :
    PE X (.BinOp e1 .Add e2 pos) (tAddOwnS C sp Ef ta tb) := by
  refine ⟨fun pins s σ H Q I h => ?_⟩
  refine wpAny_BinOp (binT h1 h2 I h fun v u s2 x y H2 I2 rx ry q => ?_)
  obtain ⟨a, b, dx, dy, fs, gs, rfl, rfl, ha, hb', q⟩ := q
  cases rx
  cases ry
  obtain ⟨mA, O, _⟩ := ins_get I2.hok ha
  obtain ⟨mB, O', _⟩ := ins_get I2.hok hb'
  obtain ⟨od, J, _⟩ := O.look
  obtain ⟨od', J', _⟩ := O'.look
  obtain ⟨m0, hF⟩ := I2.fr
  refine PySem.W.binop_K (op := .Add) hF I2.ok.mod.kin J J'.type sf m.at_ m.fn ?_
  refine wpAny_mono (run_fnS (us := [.ref a, .ref b]) (vs := [.ref a, .ref b]) F hr hb (hx σ) I2 (.cons rfl (.cons rfl .nil)) q) (fun w s' z => ?_) fun _ _ x => x
  obtain ⟨z', H', I', rz, qz⟩ := z
  exact SlX.cmpback rz ⟨z', H', I', rz, qz⟩
end
end BR

/-! ### own classes where something may be raised: C(..), o.m(..) -/
namespace BR
open PySem PySem.Spec PyProof.Rows L2
def tMakeS (C : Addr) (sp : Sp) (E : L2.St → XK) (t : TA) : TE := fun σ H Q => t σ H fun vs H1 => ∀ x dx, H1 x = none → H1 dx = none → dx ≠ x → sp (.ref x :: vs) (upd (upd H1 dx (.own x)) x (.ins C dx [])) (fun v H2 => v = .non ∧ Q (.ref x) H2) (E σ)
def tMethS (C : Addr) (m : Str) (sp : Sp) (E : L2.St → XK) (ta : TE) (t : TA) : TE := fun σ H Q => ta σ H fun x H1 => ∃ a dx fs, x = .ref a ∧ H1 a = some (.ins C dx fs) ∧ fs.lookup m = none ∧ t σ H1 fun vs H2 => sp (x :: vs) H2 Q (E σ)
section
variable {X : Cx} {CX : CXT} {k : Nat} {f C : Addr} {fd : FuncData} {ps : List Str} {sp : Sp} {E : L2.St → XK} {x m : Str} {p pos apos : Pos} {e o : Expr} {es : List Expr} {ta : TE} {t : TA}
theorem pe_makeS (M : Mk X.K C f) (F : FnOk X.prog X.w X.K X.mg X.base CX k f fd ps sp) (room : Room (k + 1) X.A) (hg : Gl X x) (hm : X.mg x = some (.ref C)) (b : Binds X.K fd ps []) (hx : ∀ σ, PassesAt CX X σ (E σ)) (args : PA X (e :: es) t)
    (nodb : (x == ("__debug__" : Str)) = false := by decide) (st1 : starEach (e :: es) X.env = (false, eval e X.env) :: starEach es X.env := by rfl) (st2 : (backTo pos (starEach es X.env)).any (·.1) = false := by rfl) : PE X (.Call (.Name x p) (e :: es) [] pos) (tMakeS C sp E t) := by
  refine ⟨fun pins s σ H Q I0 hh => ?_⟩
  refine wpAny_Call_Name_kw (ld_glob I0 hg hm ?_ nodb)
  refine PySem.W.callWith_K (h₀ := X.base) I0.ok.mod.kin M.kp (thn (args.run pos pins s σ H _ I0 hh) fun us s1 ⟨vs, H1, I, r, q⟩ => ⟨I.kIn, ?_⟩) st1 st2
  have hq := q (s1.heap.objs.size + 1) s1.heap.objs.size (I.hok.fresh (Nat.le_succ _)) (I.hok.fresh (Nat.le_refl _)) (Nat.ne_of_lt (Nat.lt_succ_self _))
  have I2 := Inv.made (C := C) I
  have r2 : Vals (V.ref (s1.heap.objs.size + 1) :: vs) (Value.ref (s1.heap.objs.size + 1) :: us) := .cons rfl r
  have hl : (Value.ref (s1.heap.objs.size + 1) :: us).length = ps.length := r2.length.symm.trans (F.len _ _ _ _ hq)
  have bd := b _ (Value.ref (s1.heap.objs.size + 1) :: us) I2.kIn (by rw [List.append_nil]; exact hl)
  rw [List.append_nil] at bd
  refine wpAny_call (make_map (f := f) I.kIn M.makes M.init (beq_iff_eq.mp M.fn) (codeAny_mono (F.run _ X.stack _ _ ⟨Value.ref (s1.heap.objs.size + 1) :: us, []⟩ _ _ _ (E σ) (room.make C us []) (I2.env0.make C us []) bd r2 hq) fun r s' hq' => ?_))
  cases r with
  | error er => exact hx σ pins _ _ er s' I2 hq'
  | ok fl =>
    cases fl with
    | ret u =>
      obtain ⟨v, H2, I3, rv, ev, q3⟩ := I2.after hq'
      subst ev
      exact ⟨rv, ⟨V.ref (s1.heap.objs.size + 1), H2, I3, rfl, q3⟩⟩
    | next => exact hq'.elim
    | brk => exact hq'.elim
    | cont => exact hq'.elim
theorem pe_methO {pl : Sem Bool} (he : PE X o ta) (c : Cls X.K C) (hm : Meth X.K C m f) (F : FnOk X.prog X.w X.K X.mg X.base CX k f fd ps sp) (room : Room k X.A) (b : Binds X.K fd ps []) (hx : ∀ σ, PassesAt CX X σ (E σ)) (args : PA X (e :: es) t)
    (st1 : starEach (e :: es) X.env = (false, eval e X.env) :: starEach es X.env := by rfl) (st2 : (backTo pos (starEach es X.env)).any (·.1) = false := by rfl)
    (tree : eval (.Call (.Attribute o m apos) (e :: es) [] pos) X.env = (do let ov ← eval o X.env; standAt apos.atName; let (f, first) ← holding [ov] (getMethod ov m pl); callWith pos f first (backTo pos (starEach (e :: es) X.env)) (backToKw pos (keywordEach [] X.env))) := by rfl) :
    PE X (.Call (.Attribute o m apos) (e :: es) [] pos) (tMethS C m sp E ta t) := by
  refine ⟨fun pins s σ H Q I0 hh => ?_⟩
  refine PySem.W.methodCall_KW (pl := pl) (thn (he.run pins s σ H _ I0 hh) fun u s1 ⟨x, H1, I1, rx, a, dx, fs, ex, ea, l, q⟩ => ?_) tree
  subst ex
  obtain rfl : u = Value.ref a := rx
  refine getmeth_ok I1 ea c hm l ?_
  exact PySem.W.callWith_K (first := [.ref a]) (h₀ := X.base) I0.ok.mod.kin hm.kp (thn (args.run pos pins s1 σ H1 _ I1 q) fun us s2 ⟨vs, H2, I2, r, q2⟩ => ⟨I2.kIn, run_fnS (us := .ref a :: us) (vs := .ref a :: vs) F room b (hx σ) I2 (.cons rfl r) q2⟩) st1 st2
end
end BR

/-! ### a dict display whose keys are tuples -/
namespace BR
open PySem PySem.Spec PyProof.Rows L2
section
variable {X : Cx} {pins : List (Addr × Obj)} {σ : L2.St} {H : Hp} {s : Shared} {a b : Addr} {v : V} {r : Value} {A : Around} {E : Value → Shared → Prop}
theorem d_dictSetT {kvs : List (List L2.Key × V)} {k : List L2.Key} {Q : Unit → Shared → Prop} (hu : A.units < cLine) (I : Inv X pins σ H s) (e : H a = some (.dT kvs)) (eb : H b = some (.tup (k.map kV))) (hl : kvs.length < sizeLine) (rv : RelV v r)
    (h : ∀ s', Inv X pins σ (upd H a (.dT (putK kvs k v))) s' → Q () s') : wpAny (model X.prog X.w) A (dictSet a (.ref b) r) Q E s := by
  obtain ⟨z, hd, xs, rel, dd⟩ := dt_of I.hok e
  have hz : xs.length ≤ sizeLine := by rw [← Paired.length rel]; exact z
  have hl : (putK kvs k v).length ≤ sizeLine := by have := length_putK kvs k v; omega
  refine wpAny_dictSet_heap (hsz := hz) (knd := tupleKind (mixKind X.prog X.w)) hu (key_of I.hok eb) dd fun h' dd' hs => h _ ?_
  obtain ⟨q, es, ep, hq, h2, h3, h4, _, h5⟩ := dd'
  refine d_write I (by rw [e]; exact True.intro) hs ⟨q, hq⟩ ⟨hl, hd, _, (rel.put k eb rv).keeps fun c ys ec => ?_, q, es, ep, hq, h2, h3, h4, h5⟩
  rw [upd_ne (ne_of ec e (fun z => nomatch z))]
  exact ec
/-- the entries of the display: key, the tuple that carries it, value -/
abbrev TEs := List (List L2.Key × Addr × V)
def putAll (acc : List (List L2.Key × V)) (l : TEs) : List (List L2.Key × V) := l.foldl (fun acc e => putK acc e.1 e.2.2) acc
theorem d_storeAllT : ∀ (l : TEs) {ws : List (Value × Value)} {kvs : List (List L2.Key × V)} {H : Hp} {s : Shared} {Q : PUnit → Shared → Prop}, A.units < cLine → Inv X pins σ H s → H a = some (.dT kvs) →
    (∀ e ∈ l, H e.2.1 = some (.tup (e.1.map kV))) → kvs.length + l.length < sizeLine → VV (l.map fun e => (.ref e.2.1, e.2.2)) ws →
    (∀ s', Inv X pins σ (upd H a (.dT (putAll kvs l))) s' → Q PUnit.unit s') → wpAny (model X.prog X.w) A (storeAll a ws) Q E s
  | [], ws, kvs, H, s, Q, hu, I, e, _, _, r, h => by
    cases r
    unfold storeAll
    rw [List.forIn_nil]
    refine wpAny_pure (h s ?_)
    rw [show putAll kvs [] = kvs from rfl, show upd H a (.dT kvs) = H from by funext b; unfold upd; split <;> simp_all]
    exact I
  | x :: l, ws, kvs, H, s, Q, hu, I, e, hk, hl, r, h => by
    rw [List.map_cons] at r
    cases r with
    | @cons p q ps qs h1 t =>
      obtain ⟨q1, q2⟩ := q
      obtain rfl : q1 = Value.ref x.2.1 := h1.1
      unfold storeAll
      rw [List.forIn_cons]
      have hx := hk x List.mem_cons_self
      rw [List.length_cons] at hl
      refine wpAny_bind (wpAny_bind (d_dictSetT (k := x.1) hu I e hx (by omega) h1.2 fun s' I' => wpAny_pure ?_))
      refine d_storeAllT l (kvs := putK kvs x.1 x.2.2) hu I' upd_same (fun y m => ?_) (by have := length_putK kvs x.1 x.2.2; omega) t fun s2 I2 => h s2 ?_
      · rw [upd_ne (ne_of (hk y (List.mem_cons_of_mem x m)) e (fun z => nomatch z))]
        exact hk y (List.mem_cons_of_mem x m)
      · rw [upd_upd] at I2
        exact I2
end
/-- {k: v, ..} with tuples of ints and texts as keys -/
def tDispT (trs : List (TE × TE)) : TE := fun σ H Q => ∀ p, H p = none → tPairs trs σ (upd H p (.dT [])) fun ps H2 => H2 p = some (.dT []) ∧ ∃ l : TEs, ps = l.map (fun e => (.ref e.2.1, e.2.2)) ∧ (∀ e ∈ l, H2 e.2.1 = some (.tup (e.1.map kV))) ∧ l.length ≤ 15 ∧ Q (.ref p) (upd H2 p (.dT (putAll [] l)))
theorem pe_dispT {X : Cx} {pos : Pos} {keys : List (Option Expr)} {values : List Expr} {trs : List (TE × TE)} (hu : X.A.units < cLine) (h : PPs X pos keys values trs) (hall : keys.all (·.isSome) = true) (hl : keys.length = values.length) (h0 : keys ≠ [])
    (h15 : keys.length ≤ 15) : PE X (.Dict keys values pos) (tDispT trs) := by
  refine ⟨fun pins s σ H Q I q => ?_⟩
  have hn := I.hok.fresh (Nat.le_refl s.heap.objs.size)
  have I1 := I.laid (a := s.heap.objs.size) (o := .dT []) (h' := s.heap.push { cls := .type "dict", data := .dict #[] }) (t' := s.toks) (fun _ _ q => Heap.get?_push_of_some _ q) (Nat.le_refl _) (dt_empty s.heap I.big)
  refine wpAny_Dict_any hall hl h0 h15 (thn (h.run pins _ σ _ _ I1 (q _ hn)) fun ws s2 ⟨ps, H2, I2, rel, e, l, ep, hk, lk, q2⟩ => ?_)
  subst ep
  refine d_storeAllT l hu I2 e hk (by rw [sizeLine_eq]; simp only [List.length_nil]; omega) rel fun s3 I3 => ⟨.ref s.heap.objs.size, _, I3, rfl, q2⟩
/-! ### a dict of the module, its keys walked -/
def ItY (kvs : List (Str × V)) : It := ⟨fun i _ => i < kvs.length, fun i H v H' => H' = H ∧ ∃ k x, v = .str k ∧ kvs[i]? = some (k, x), fun i _ => kvs.length ≤ i⟩
theorem turn_keysY {P : Program} {w : World} {K : PySem.W.Frag} {tg : Expr} {d : Addr} {kvs : List (Str × V)} {us : List (Str × Value)} {n : Nat} (it : Addr)
    (hm : ∀ h : Heap, K.In h → h.DictAt (strKind P w) d us n) (rel : KV kvs us) : Turn P w K tg (ItY kvs) [it] it (fun i h => h.IsKeyIter it d i us.length n) where
  mem := by simp
  obj := by
    rintro i h ⟨oi, e, c, dd⟩ b hb
    obtain rfl : b = it := by simpa using hb
    exact ⟨oi, e, fun v z => by rw [dd] at z; cases z⟩
  keep := fun i h h' st k => st.at fun oi e => k it (by simp) oi e
  item := by
    intro X hP hw hK hc i pins s σ H E I hf st hg
    subst hP hw hK
    have hi : i < kvs.length := hg
    obtain ⟨f0, f1, f2, f3, f4, f5⟩ := hf it (by simp)
    obtain ⟨⟨k, x⟩, hp⟩ : ∃ p, kvs[i]? = some p := ⟨kvs[i], List.getElem?_eq_getElem hi⟩
    obtain ⟨u, hq, ru⟩ := kv_get rel hp
    refine wpAny_pyNext_dict_item st (hm _ I.kIn) hq fun key h' hkey st' sb => ?_
    have I1 : Inv X pins σ H { s with heap := h' } := I.turned (t' := s.toks) (fun b ob hb e => (sb.2 b hb).trans e) f0 f1 f3 f4 f5
    obtain ⟨oi, e, c, dd⟩ := id st'
    obtain ⟨tk, rfl⟩ := Value.isStrOf_shape hkey
    exact ⟨_, rfl, go_of (s := { s with heap := h' }) e c dd (by decide) ⟨.str k, H, I1, ⟨_, rfl⟩, ⟨rfl, k, x, rfl, hp⟩, st', fun b hb => (hf b hb).1⟩⟩
  done := by
    intro X hP hw hK hc i pins s σ H E I hf st hg
    subst hP hw hK
    have hge : kvs.length ≤ i := hg
    have lz : kvs.length = us.length := Paired.length rel
    obtain ⟨f0, f1, f2, f3, f4, f5⟩ := hf it (by simp)
    exact wpAny_pyNext_dict_end (I.ok.hd hc) st (hm _ I.kIn) (List.getElem?_eq_none (by omega)) fun h' eb => ⟨rfl, I.turned (t' := s.toks) (fun b o hb z => eb b o hb z) f0 f1 f3 f4 f5⟩
  self := fun A i s Q E st h => wpAny_pyIter_keyiter st h
def iKeysY (K : PySem.W.Frag) (P : Program) (w : World) (td : TE) : TI := fun σ H R => td σ H fun x H1 => ∃ d kvs, x = .ref d ∧ KTab K P w d kvs ∧ R (ItY kvs) H1
theorem pi_keysY {X : Cx} {tg e : Expr} {td : TE} (he : PE X e td) : PI X tg e (iKeysY X.K X.prog X.w td) := by
  refine ⟨fun pins s σ H R I h => ?_⟩
  refine thn (he.run pins s σ H _ I h) ?_
  rintro u s1 ⟨x, H1, I1, rx, d, kvs, rfl, T, q⟩
  obtain rfl : u = Value.ref d := rx
  obtain ⟨es, n, us, lk, lit, ps, nd, rel⟩ := T.ex
  have hm : ∀ h : Heap, X.K.In h → h.DictAt (strKind X.prog X.w) d us n := fun h XK => ⟨_, es, XK _ _ lk, ⟨rfl, rfl, rfl⟩, rfl, fun e he => by
    obtain ⟨x, t, e1, e2⟩ := lit.all e (Array.mem_toList_iff.mpr he)
    exact ⟨x, by rw [e1]; exact strKind_is X.prog X.w x t, e2⟩, ps, nd⟩
  exact wpAny_pyIter_dict T.low (hm _ I1.kIn) (pi_one (tk := s1.toks) I1 _ (turn_keysY _ hm rel) ⟨_, Heap.get?_push_size _ rfl, rfl, rfl⟩ q)
theorem walk_keysY {kvs : List (Str × V)} : L2.Walk (ItY kvs) kvs.length (fun _ => True) (fun i H v H' => H' = H ∧ ∃ k x, v = .str k ∧ kvs[i]? = some (k, x)) :=
  ⟨fun _ _ hi _ => hi, fun _ _ => Nat.le_refl _, fun _ _ _ _ _ _ h => h⟩
/-! ### a comprehension with two fors: each walk by an invariant over the heap -/
section
variable {J : It} {n : Nat} {G : Hp → Prop} {Y : Nat → Hp → V → Hp → Prop}
theorem lc2_in (w : L2.Walk J n G Y) {g1 : TG} {tt1 : TT} {te : TE} {vs1 : List Nat} {σ2 : L2.St} {H4 : Hp} {D : Addr} {Nx : Hp → Prop} (P : Nat → Hp → Prop) (h0 : P 0 H4) (hG : ∀ i H, i ≤ n → P i H → G H)
    (hs : ∀ i x H H', i < n → P i H → Y i H x H' → g1 x (wipe σ2 vs1) H' fun σ3 H5 => wipe σ3 vs1 = wipe σ2 vs1 ∧ tt1 σ3 H5 fun b H6 =>
        if b = true then te σ3 H6 fun y H7 => ∃ acc, H7 D = some (.lst acc) ∧ acc.length < sizeLine ∧ P (i + 1) (upd H7 D (.lst (acc ++ [y]))) else P (i + 1) H6) (hd : ∀ H, P n H → Nx H) :
    ∃ W1 : Nat → Nat → Hp → Prop, (∃ m, W1 0 m H4) ∧ ∀ j k H, W1 j k H →
      (J.stop j H ∧ Nx H) ∨ (J.go j H ∧ ∃ Nx1 : Hp → Prop, (∀ H', Nx1 H' → ∃ k', k' < k ∧ W1 (j + 1) k' H') ∧ ∀ x H', J.yld j H x H' → g1 x (wipe σ2 vs1) H' fun σ3 H5 => wipe σ3 vs1 = wipe σ2 vs1 ∧ tt1 σ3 H5 fun b H6 =>
        if b = true then te σ3 H6 fun y H7 => ∃ acc, H7 D = some (.lst acc) ∧ acc.length < sizeLine ∧ Nx1 (upd H7 D (.lst (acc ++ [y]))) else Nx1 H6) := by
  refine ⟨fun i m H => m = n - i ∧ i ≤ n ∧ P i H, ⟨n, by simp, Nat.zero_le _, h0⟩, ?_⟩
  rintro i m H ⟨rfl, hi, p⟩
  have q := hG i H hi p
  by_cases hlt : i < n
  · exact .inr ⟨w.goes i H hlt q, P (i + 1), fun H' p' => ⟨n - (i + 1), by omega, rfl, hlt, p'⟩, fun x H' y => hs i x H H' hlt p (w.yields i H x H' hlt q y)⟩
  · have e : i = n := by omega
    subst e
    exact .inl ⟨w.stops H q, hd H p⟩
theorem lc2_it (w : L2.Walk J n G Y) {g g1 : TG} {tt tt1 : TT} {wi1 : TI} {te : TE} {vs vs1 : List Nat} {σ : L2.St} {H1 : Hp} {D : Addr} {Qd : Hp → Prop} (P : Nat → Hp → Prop) (h0 : P 0 (upd H1 D (.lst []))) (hG : ∀ i H, i ≤ n → P i H → G H)
    (hs : ∀ i x H H', i < n → P i H → Y i H x H' → g x (wipe σ vs) H' fun σ2 H2 => wipe σ2 vs = wipe σ vs ∧ tt σ2 H2 fun b H3 =>
      if b = true then wi1 σ2 H3 fun J1 H4 => ∃ W1 : Nat → Nat → Hp → Prop, (∃ m, W1 0 m H4) ∧ ∀ j k H, W1 j k H →
        (J1.stop j H ∧ P (i + 1) H) ∨ (J1.go j H ∧ ∃ Nx1 : Hp → Prop, (∀ H', Nx1 H' → ∃ k', k' < k ∧ W1 (j + 1) k' H') ∧ ∀ x H', J1.yld j H x H' → g1 x (wipe σ2 vs1) H' fun σ3 H5 => wipe σ3 vs1 = wipe σ2 vs1 ∧ tt1 σ3 H5 fun b H6 =>
          if b = true then te σ3 H6 fun y H7 => ∃ acc, H7 D = some (.lst acc) ∧ acc.length < sizeLine ∧ Nx1 (upd H7 D (.lst (acc ++ [y]))) else Nx1 H6)
      else P (i + 1) H3) (hd : ∀ H, P n H → Qd H) :
    ∃ W : Nat → Nat → Hp → Prop, (∃ m, W 0 m (upd H1 D (.lst []))) ∧ ∀ i m H, W i m H →
      (J.stop i H ∧ Qd H) ∨ (J.go i H ∧ ∃ Nx : Hp → Prop, (∀ H', Nx H' → ∃ m', m' < m ∧ W (i + 1) m' H') ∧ ∀ x H', J.yld i H x H' → g x (wipe σ vs) H' fun σ2 H2 => wipe σ2 vs = wipe σ vs ∧ tt σ2 H2 fun b H3 =>
        if b = true then wi1 σ2 H3 fun J1 H4 => ∃ W1 : Nat → Nat → Hp → Prop, (∃ m, W1 0 m H4) ∧ ∀ j k H, W1 j k H →
          (J1.stop j H ∧ Nx H) ∨ (J1.go j H ∧ ∃ Nx1 : Hp → Prop, (∀ H', Nx1 H' → ∃ k', k' < k ∧ W1 (j + 1) k' H') ∧ ∀ x H', J1.yld j H x H' → g1 x (wipe σ2 vs1) H' fun σ3 H5 => wipe σ3 vs1 = wipe σ2 vs1 ∧ tt1 σ3 H5 fun b H6 =>
            if b = true then te σ3 H6 fun y H7 => ∃ acc, H7 D = some (.lst acc) ∧ acc.length < sizeLine ∧ Nx1 (upd H7 D (.lst (acc ++ [y]))) else Nx1 H6)
        else Nx H3) := by
  refine ⟨fun i m H => m = n - i ∧ i ≤ n ∧ P i H, ⟨n, by simp, Nat.zero_le _, h0⟩, ?_⟩
  rintro i m H ⟨rfl, hi, p⟩
  have q := hG i H hi p
  by_cases hlt : i < n
  · exact .inr ⟨w.goes i H hlt q, P (i + 1), fun H' p' => ⟨n - (i + 1), by omega, rfl, hlt, p'⟩, fun x H' y => hs i x H H' hlt p (w.yields i H x H' hlt q y)⟩
  · have e : i = n := by omega
    subst e
    exact .inl ⟨w.stops H q, hd H p⟩
end
/-! ### a if t else b as a test -/
def tIfT (tc t1 t2 : TT) : TT := fun σ H Q => tc σ H fun c H1 => if c = true then t1 σ H1 Q else t2 σ H1 Q
theorem pt_ifExp {X : Cx} {c a b : Expr} {pos : Pos} {tc t1 t2 : TT} (hc : PT X c tc) (ha : PT X a t1) (hb : PT X b t2) : PT X (.IfExp c a b pos) (tIfT tc t1 t2) := by
  refine ⟨fun pins s σ H Q I h => ?_⟩
  refine isTrue_IfExp (thn (hc.run pins s σ H _ I h) fun d s1 ⟨H1, I1, q1⟩ => ?_)
  cases d with
  | true => exact ha.run pins s1 σ H1 Q I1 q1
  | false => exact hb.run pins s1 σ H1 Q I1 q1
theorem prm {α β : Type} {R S : α → β → Prop} : ∀ {as : List α} {bs : List β}, Paired R as bs → (∀ a b, R a b → S a b) → Paired S as bs
  | _, _, .nil, _ => .nil
  | _, _, .cons h t, m => .cons (m _ _ h) (prm t m)
theorem pra {α β : Type} {R : α → β → Prop} : ∀ {as : List α} {bs : List β} {cs : List α} {ds : List β}, Paired R as bs → Paired R cs ds → Paired R (as ++ cs) (bs ++ ds)
  | _, _, _, _, .nil, q => q
  | _, _, _, _, .cons h t, q => .cons h (pra t q)
end BR

/-! ### list(zip(a, b)): a zip whose last tuple is kept by somebody else; what list makes of it -/
namespace PySem
namespace BRZ
open PySem.W PySem.Calls PyProof.Rows
/-- the zip behind a turn: the tuple at a was handed out -/
abbrev ZipO (h : Heap) (z TI TO a : Addr) (f : Bool) : Prop := h.get? z = some { cls := .type "zip", dict := none, data := .fields #[rawInt a, .bool f, .bool false, .ref TI, .ref TO], slots := #[] }
section
variable {prog : Program} {w : World} {A : Around} {E : Value → Shared → Prop} {s : Shared} {z TI TO i1 i2 a : Addr} {fp1 fp2 : List Addr} {n1 n2 i : Nat} {P1 P2 : Nat → Value → Prop} {St1 St2 : Nat → Heap → Prop} {f : Bool} {oa : Obj}
theorem zo_free {Q : Bool → Shared → Prop} (hz : ZipO s.heap z TI TO a f) (ha : s.heap.get? a = some oa) (go : ∀ h2, ZipO h2 z TI TO a true → Heap.SameBut z s.heap h2 → Q false { s with heap := h2 }) : wpAny (model prog w) A (Builtin.SmallTypes.ownedTupleIsFree (.ref z)) Q E s := by
  unfold Builtin.SmallTypes.ownedTupleIsFree
  refine wpAny_bind (wpAny_field hz rfl (x := rawInt a) rfl ?_)
  show wpAny _ _ (loadIfAlive ((a : Int).toNat) >>= _) _ _ _
  rw [Int.toNat_natCast]
  refine wpAny_bind (kdx_alive ha ?_)
  simp only [Option.isNone_some, Bool.false_eq_true, if_false]
  refine wpAny_bind (wpAny_field hz rfl (x := .bool f) rfl ?_)
  cases f with
  | true =>
    rw [if_neg (show ¬ ((Value.bool true != Value.bool true) = true) from Bool.false_ne_true)]
    exact wpAny_pure (go _ hz (Heap.SameBut.refl _ _))
  | false =>
    rw [if_pos (show (Value.bool false != Value.bool true) = true from rfl)]
    exact wpAny_bind (wpAny_setField_rec hz (by simp) fun h3 e3 s3 => wpAny_pure (go h3 e3 s3))
theorem zo_item {Q : Option Value → Shared → Prop} (D : ZipSep2 z TI TO i1 i2 fp1 fp2) (D1 : Draws prog w A.in1 i1 fp1 n1 P1 St1) (D2 : Draws prog w A.in1 i2 fp2 n2 P2 St2) (hz : ZipO s.heap z TI TO a f) (ha : s.heap.get? a = some oa)
    (hTI : IsTupOf2 s.heap TI (.ref i1) (.ref i2)) (st1 : St1 i s.heap) (st2 : St2 i s.heap) (l1 : i < n1) (l2 : i < n2)
    (go : ∀ x1 x2 h' tk, P1 i x1 → P2 i x2 → ZipO h' z TI TO a true → St1 (i + 1) h' → St2 (i + 1) h' → IsTupOf2 h' s.heap.objs.size x1 x2 → h'.objs.size = s.heap.objs.size + 1 →
      (∀ c o, c ≠ z → c ≠ i1 → c ≠ i2 → s.heap.get? c = some o → h'.get? c = some o) → Q (some (.ref s.heap.objs.size)) { s with heap := h', toks := tk }) : wpAny (model prog w) A (pyNext (.ref z)) Q E s := by
  have hT : s.TypeIs (.ref z) "zip" := ⟨_, hz, rfl⟩
  unfold pyNext
  refine wpAny_bind (wpAny_attempt (wpAny_callSpecial?_slot (name := Str.ofString "__next__") hT F.slot_zip_next (wpAny_call_entry F.slot_zip_next hT F.entry_zip_next ?_ (F.args_zip_next_1 _))))
  obtain ⟨hp, g, d, tk0, os⟩ := s
  show wpAny _ _ (field (.ref z) 2 >>= _) _ _ _
  refine wpAny_bind (wpAny_field hz rfl (x := .bool false) rfl ?_)
  show wpAny _ _ (field (.ref z) 3 >>= _) _ _ _
  refine wpAny_bind (wpAny_field hz rfl (x := .ref TI) rfl ?_)
  refine wpAny_bind (wpAny_seqItems hTI rfl ?_)
  show wpAny _ _ (Builtin.SmallTypes.ownedTupleIsFree (.ref z) >>= _) _ _ _
  refine wpAny_bind (zo_free hz ha fun h2 hz2 sb2 => ?_)
  replace sb2 : Heap.SameBut z hp h2 := sb2
  simp only [Bool.false_eq_true, if_false]
  refine wpAny_bind ?_
  first | rw [List.forIn_toArray] | (rw [← Array.forIn_toList]; simp only [List.toList_toArray]) | rw [← Array.forIn_toList]
  simp only [List.forIn_cons, List.forIn_nil]
  refine wpAny_bind (wpAny_bind (wpAny_holding ?_))
  show wpAny _ _ (Builtin.SmallTypes.nextOf (.ref i1) >>= _) _ _ ⟨h2, g, d, tk0, os⟩
  refine wpAny_bind (D1.item i _ _ _ l1 (D1.over st1 sb2 D.zf1) fun x1 h3 tk1 e1 n1' sb3 => wpAny_pure ?_)
  replace sb3 : Heap.SameBut i1 h2 h3 := sb3
  refine wpAny_pure ?_
  dsimp only
  refine wpAny_bind (wpAny_bind (wpAny_holding ?_))
  show wpAny _ _ (Builtin.SmallTypes.nextOf (.ref i2) >>= _) _ _ ⟨h3, g, d, tk1, os⟩
  refine wpAny_bind (D2.item i _ _ _ l2 (D2.over (D2.over st2 sb2 D.zf2) sb3 D.sep1_2) fun x2 h4 tk2 e2 n2' sb4 => wpAny_pure ?_)
  replace sb4 : Heap.SameBut i2 h3 h4 := sb4
  refine wpAny_pure ?_
  dsimp only
  refine wpAny_pure ?_
  dsimp only
  refine wpAny_bind (wpAny_newTuple ?_ (by show 2 ≤ sizeLine; decide))
  refine wpAny_pure ⟨_, rfl, wpAny_pure ?_⟩
  show Q (some (.ref h4.objs.size)) ⟨h4.push { cls := .type "tuple", data := .seq #[x1, x2] }, g, d, tk2, os⟩
  have sz : h4.objs.size = hp.objs.size := by rw [sb4.1, sb3.1, sb2.1]
  have new : IsTupOf2 (h4.push { cls := .type "tuple", data := .seq #[x1, x2] }) h4.objs.size x1 x2 := Heap.get?_push_size _ rfl
  rw [sz] at new ⊢
  refine go x1 x2 _ tk2 e1 e2 (Heap.get?_push_of_some _ (sb4.extBut _ _ D.zi2 (sb3.extBut _ _ D.zi1 hz2))) (D1.frame _ _ _ (D1.over n1' sb4 D.sep2_1) fun b _ o e => Heap.get?_push_of_some _ e) (D2.frame _ _ _ n2' fun b _ o e => Heap.get?_push_of_some _ e) new ?_ fun c o c0 c1 c2 e => ?_
  · show (h4.push _).objs.size = hp.objs.size + 1
    rw [Heap.size_push, sz]
  · exact Heap.get?_push_of_some _ (sb4.extBut _ _ c2 (sb3.extBut _ _ c1 (sb2.extBut _ _ c0 e)))
theorem zo_end {Q : Option Value → Shared → Prop} (D : ZipSep2 z TI TO i1 i2 fp1 fp2) (D1 : Draws prog w A.in1 i1 fp1 n1 P1 St1) (hz : ZipO s.heap z TI TO a f) (ha : s.heap.get? a = some oa) (hTI : IsTupOf2 s.heap TI (.ref i1) (.ref i2)) (st1 : St1 n1 s.heap)
    (go : ∀ h' tk, (∀ c o, c ≠ z → c ≠ i1 → s.heap.get? c = some o → h'.get? c = some o) → Q none { s with heap := h', toks := tk }) : wpAny (model prog w) A (pyNext (.ref z)) Q E s := by
  have hT : s.TypeIs (.ref z) "zip" := ⟨_, hz, rfl⟩
  unfold pyNext
  refine wpAny_bind (wpAny_attempt (wpAny_callSpecial?_slot (name := Str.ofString "__next__") hT F.slot_zip_next (wpAny_call_entry F.slot_zip_next hT F.entry_zip_next ?_ (F.args_zip_next_1 _))))
  obtain ⟨hp, g, d, tk0, os⟩ := s
  show wpAny _ _ (field (.ref z) 2 >>= _) _ _ _
  refine wpAny_bind (wpAny_field hz rfl (x := .bool false) rfl ?_)
  show wpAny _ _ (field (.ref z) 3 >>= _) _ _ _
  refine wpAny_bind (wpAny_field hz rfl (x := .ref TI) rfl ?_)
  refine wpAny_bind (wpAny_seqItems hTI rfl ?_)
  show wpAny _ _ (Builtin.SmallTypes.ownedTupleIsFree (.ref z) >>= _) _ _ _
  refine wpAny_bind (zo_free hz ha fun h2 hz2 sb2 => ?_)
  replace sb2 : Heap.SameBut z hp h2 := sb2
  simp only [Bool.false_eq_true, if_false]
  refine wpAny_bind ?_
  first | rw [List.forIn_toArray] | (rw [← Array.forIn_toList]; simp only [List.toList_toArray]) | rw [← Array.forIn_toList]
  simp only [List.forIn_cons, List.forIn_nil]
  refine wpAny_bind (wpAny_bind (wpAny_holding ?_))
  show wpAny _ _ (Builtin.SmallTypes.nextOf (.ref i1) >>= _) _ _ ⟨h2, g, d, tk0, os⟩
  refine wpAny_bind (D1.done ⟨h2, g, d, tk0, os⟩ _ _ (D1.over st1 sb2 D.zf1) fun h3 e hx he => ?_)
  replace hx : Heap.ExtBut i1 h2 h3 := hx
  obtain ⟨o, ho, hc⟩ := he
  refine wpAny_bind (wpAny_isInstance (T := "StopIteration") (b := true) ⟨o, ho, hc⟩ isSubtype_stop ?_)
  exact wpAny_pure (go h3 tk0 fun c o c0 c1 e => hx _ _ c1 (sb2.extBut _ _ c0 e))
/-- the zip as it stands between two turns of list's loop -/
def ZSt (h : Heap) (z TI TO i1 i2 S : Addr) : Prop := IsTupOf2 h TI (.ref i1) (.ref i2) ∧ ((IsZip h z TI TO .none ∧ ∃ a1 a2, IsTupOf2 h TO a1 a2) ∨ ∃ a f oa, ZipO h z TI TO a f ∧ h.get? a = some oa ∧ a ≠ z ∧ a ≠ i1 ∧ a ≠ i2 ∧ a ≠ S)
theorem ZSt.keep {h h' : Heap} {S : Addr} (x : ZSt h z TI TO i1 i2 S) (hk : ∀ b o, b ≠ S → h.get? b = some o → h'.get? b = some o) (n1 : TI ≠ S) (n2 : z ≠ S) (n3 : TO ≠ S) : ZSt h' z TI TO i1 i2 S := by
  obtain ⟨hT, x⟩ := x
  refine ⟨hk _ _ n1 hT, ?_⟩
  rcases x with ⟨a, b, c, e⟩ | ⟨a, f, oa, e1, e2, e3, e4, e5, e6⟩
  · exact .inl ⟨hk _ _ n2 a, b, c, hk _ _ n3 e⟩
  · exact .inr ⟨a, f, oa, hk _ _ n2 e1, hk _ _ e6 e2, e3, e4, e5, e6⟩
theorem zs_item {Q : Option Value → Shared → Prop} {S : Addr} (D : ZipSep2 z TI TO i1 i2 fp1 fp2) (D1 : Draws prog w A.in1 i1 fp1 n1 P1 St1) (D2 : Draws prog w A.in1 i2 fp2 n2 P2 St2) (hz : ZSt s.heap z TI TO i1 i2 S) (hS : S < s.heap.objs.size) (hi1 : i1 < s.heap.objs.size) (hi2 : i2 < s.heap.objs.size) (hzl : z < s.heap.objs.size)
    (st1 : St1 i s.heap) (st2 : St2 i s.heap) (l1 : i < n1) (l2 : i < n2)
    (go : ∀ x1 x2 h' tk, P1 i x1 → P2 i x2 → ZSt h' z TI TO i1 i2 S → St1 (i + 1) h' → St2 (i + 1) h' → IsTupOf2 h' s.heap.objs.size x1 x2 → h'.objs.size = s.heap.objs.size + 1 →
      (∀ c o, c ≠ z → c ≠ TO → c ≠ i1 → c ≠ i2 → s.heap.get? c = some o → h'.get? c = some o) → Q (some (.ref s.heap.objs.size)) { s with heap := h', toks := tk }) : wpAny (model prog w) A (pyNext (.ref z)) Q E s := by
  obtain ⟨hT, x⟩ := hz
  rcases x with ⟨a, b, c, e⟩ | ⟨a, f, oa, e1, e2, e3, e4, e5, e6⟩
  · refine wpAny_pyNext_zipD2_item D D1 D2 a hT e st1 st2 l1 l2 fun x1 x2 h' tk y1 y2 b1 b2 d1 d2 b5 b6 hk => ?_
    refine go x1 x2 h' tk y1 y2 ⟨hk _ _ D.TIz D.TITO D.TIi1 D.TIi2 hT, .inr ⟨_, false, _, b1, b5, Nat.ne_of_gt hzl, Nat.ne_of_gt hi1, Nat.ne_of_gt hi2, Nat.ne_of_gt hS⟩⟩ d1 d2 b5 b6 hk
  · refine zo_item D D1 D2 e1 e2 hT st1 st2 l1 l2 fun x1 x2 h' tk y1 y2 b1 d1 d2 b5 b6 hk => ?_
    exact go x1 x2 h' tk y1 y2 ⟨hk _ _ D.TIz D.TIi1 D.TIi2 hT, .inr ⟨a, true, oa, b1, hk _ _ e3 e4 e5 e2, e3, e4, e5, e6⟩⟩ d1 d2 b5 b6 fun c o c0 _ c1 c2 e => hk c o c0 c1 c2 e
theorem zs_end {Q : Option Value → Shared → Prop} {S : Addr} (D : ZipSep2 z TI TO i1 i2 fp1 fp2) (D1 : Draws prog w A.in1 i1 fp1 n1 P1 St1) (D2 : Draws prog w A.in1 i2 fp2 n2 P2 St2) (hz : ZSt s.heap z TI TO i1 i2 S) (st1 : St1 n1 s.heap) (st2 : St2 n1 s.heap) (hn : n1 ≤ n2)
    (go : ∀ h' tk, (∀ c o, c ≠ z → c ≠ TO → c ≠ i1 → c ≠ i2 → s.heap.get? c = some o → h'.get? c = some o) → Q none { s with heap := h', toks := tk }) : wpAny (model prog w) A (pyNext (.ref z)) Q E s := by
  obtain ⟨hT, x⟩ := hz
  rcases x with ⟨a, b, c, e⟩ | ⟨a, f, oa, e1, e2, e3, e4, e5, e6⟩
  · exact wpAny_pyNext_zipD2_end D D1 D2 a hT e st1 st2 (Nat.le_refl _) hn (.inl rfl) go
  · exact zo_end D D1 e1 e2 hT st1 fun h' tk hk => go h' tk fun c o c0 _ c1 _ e => hk c o c0 c1 e
end
/-- the tuples that were handed out, in rising order -/
structure ZG (P1 P2 : Nat → Value → Prop) (lo : Addr) (h : Heap) (as : List Addr) : Prop where
  rise : as.Pairwise (· < ·)
  above : ∀ a ∈ as, lo < a
  pairs : ∀ (j : Nat) (a : Addr), as[j]? = some a → ∃ x y, P1 j x ∧ P2 j y ∧ IsTupOf2 h a x y
theorem ZG.there {P1 P2 : Nat → Value → Prop} {lo : Addr} {h : Heap} {as : List Addr} (g : ZG P1 P2 lo h as) {a : Addr} (ha : a ∈ as) : a < h.objs.size := by
  obtain ⟨j, hj⟩ := List.mem_iff_getElem?.mp ha
  obtain ⟨_, _, _, _, e⟩ := g.pairs j a hj
  exact Heap.lt_size e
theorem ZG.low {P1 P2 : Nat → Value → Prop} {lo lo' : Addr} {h : Heap} {as : List Addr} (g : ZG P1 P2 lo h as) (hl : lo' ≤ lo) : ZG P1 P2 lo' h as := ⟨g.rise, fun a ha => Nat.lt_of_le_of_lt hl (g.above a ha), g.pairs⟩
section
variable {prog : Program} {w : World} {A : Around} {s : Shared} {R : Result → Shared → Prop} {z TI TO i1 i2 : Addr} {fp1 fp2 : List Addr} {n1 n2 : Nat} {P1 P2 : Nat → Value → Prop} {St1 St2 : Nat → Heap → Prop}
/-! what stands low: the zip's own cells and those of its sources lie below top, apart from the list at S -/
theorem low_ne {t b c : Nat} (h1 : t - 1 < b) (h2 : c < t) : b ≠ c := by omega
theorem top_lt {t s : Nat} (h : t ≤ s) (h0 : 0 < t) : t - 1 < s := by omega
structure ZLow (z TI TO i1 i2 S top : Addr) (fp1 fp2 : List Addr) : Prop where
  lz : z < top
  lTI : TI < top
  lTO : TO < top
  l1 : i1 < top
  l2 : i2 < top
  lS : S < top
  zS : z ≠ S
  TIS : TI ≠ S
  TOS : TO ≠ S
  f1 : S ∉ fp1
  f2 : S ∉ fp2
theorem lz_loop {S top : Addr} (D : ZipSep2 z TI TO i1 i2 fp1 fp2) (L : ZLow z TI TO i1 i2 S top fp1 fp2) (D1 : Draws prog w A.in1.in1 i1 fp1 n1 P1 St1) (D2 : Draws prog w A.in1.in1 i2 fp2 n2 P2 St2) (hn : n1 ≤ n2) (hsz : n1 ≤ sizeLine) (res : Value) {h0 : Heap}
    (hR : ∀ h' tk acc c as, (∀ b o, b ≠ S → b ≠ z → b ≠ TO → b ≠ i1 → b ≠ i2 → h0.get? b = some o → h'.get? b = some o) → h'.get? S = some { cls := .type "list", dict := none, data := .seq acc c, slots := #[] } → as.length = n1 → ZG P1 P2 (top - 1) h' as →
      acc.toList = as.map Value.ref → R (.ok (.ret res)) { s with heap := h', toks := tk }) :
    ∀ (k i : Nat) (h : Heap) (tk c : Nat) (acc : Array Value) (as : List Addr), n1 - i = k → i ≤ n1 → ZSt h z TI TO i1 i2 S → St1 i h → St2 i h → (∀ b o, b ≠ S → b ≠ z → b ≠ TO → b ≠ i1 → b ≠ i2 → h0.get? b = some o → h.get? b = some o) →
      h.get? S = some { cls := .type "list", dict := none, data := .seq acc c, slots := #[] } → acc.toList = as.map Value.ref → as.length = i → ZG P1 P2 (top - 1) h as → top ≤ h.objs.size →
      codeAny (model prog w) A (.builtin "list.extend.loop" ⟨[.ref S, .ref z, res], []⟩) R { s with heap := h, toks := tk } := by
  have lowN : ∀ {h : Heap} {as : List Addr}, ZG P1 P2 (top - 1) h as → ∀ {b : Addr}, b ∈ as → ∀ {c : Addr}, c < top → b ≠ c := fun {h as} g {b} m {c} l => low_ne (g.above b m) l
  intro k
  induction k with
  | zero =>
    intro i h tk c acc as hk hi hst s1 s2 kp hS hacc hal hG htop
    obtain rfl : i = n1 := by omega
    refine codeAny_builtin PySem.F.entry_extend_loop ?_
    rw [Around.under_plainId PySem.F.plain_extend_loop _]
    show wpAny _ A.in1 (pyNext (.ref z) >>= _) _ _ _
    refine wpAny_bind (zs_end (s := { s with heap := h, toks := tk }) (A := A.in1) D D1 D2 hst s1 s2 hn fun h' tk' he => ?_)
    refine wpAny_pure (hR h' tk' acc c as (fun b o b0 b1 b2 b3 b4 e => he b o b1 b2 b3 b4 (kp b o b0 b1 b2 b3 b4 e)) (he S _ (Ne.symm L.zS) (Ne.symm L.TOS) (fun e => L.f1 (e ▸ D.mem1)) (fun e => L.f2 (e ▸ D.mem2)) hS) hal ⟨hG.rise, hG.above, fun j a hj => ?_⟩ hacc)
    obtain ⟨x, y, p1, p2, e⟩ := hG.pairs j a hj
    have m := List.mem_of_getElem? hj
    exact ⟨x, y, p1, p2, he a _ (lowN hG m L.lz) (lowN hG m L.lTO) (lowN hG m L.l1) (lowN hG m L.l2) e⟩
  | succ k ih =>
    intro i h tk c acc as hk hi hst s1 s2 kp hS hacc hal hG htop
    have hlt : i < n1 := by omega
    have hsz' : acc.size = i := by rw [← Array.length_toList, hacc, List.length_map, hal]
    have lt : ∀ {c : Addr}, c < top → c < h.objs.size := fun {c} l => Nat.lt_of_lt_of_le l htop
    refine codeAny_builtin PySem.F.entry_extend_loop ?_
    rw [Around.under_plainId PySem.F.plain_extend_loop _]
    show wpAny _ A.in1 (pyNext (.ref z) >>= _) _ _ _
    refine wpAny_bind (zs_item (s := { s with heap := h, toks := tk }) (S := S) D D1 D2 hst (lt L.lS) (lt L.l1) (lt L.l2) (lt L.lz) s1 s2 hlt (by omega) fun x y h' tk' p1 p2 hst' n1' n2' ht hz hkp => ?_)
    dsimp only at ht hz hkp ⊢
    have hS' := hkp S _ (Ne.symm L.zS) (Ne.symm L.TOS) (fun e => L.f1 (e ▸ D.mem1)) (fun e => L.f2 (e ▸ D.mem2)) hS
    have up : ∀ b o, b ≠ S → h'.get? b = some o → (h'.update S (Obj.mapSeq (·.push (Value.ref h.objs.size)))).get? b = some o := fun b o hb e => (Heap.get?_update_other _ _ (Ne.symm hb)).trans e
    have hSl : S < h.objs.size := lt L.lS
    have upE : ∀ {fp : List Addr}, S ∉ fp → ∀ b ∈ fp, ∀ o, h'.get? b = some o → (h'.update S (Obj.mapSeq (·.push (Value.ref h.objs.size)))).get? b = some o := fun nf b m o e => up b o (fun q => nf (q ▸ m)) e
    show wpAny _ A.in1 (updateSeq S (·.push (Value.ref h.objs.size)) >>= _) _ _ _
    refine wpAny_bind ?_
    refine wpAny_updateSeq hS' rfl (wpAny_pure ⟨plainId_quiet PySem.F.plain_extend_loop _, ih (i + 1) _ tk' _ (acc.push (Value.ref h.objs.size)) (as ++ [h.objs.size]) (by omega) hlt (hst'.keep up L.TIS L.zS L.TOS) (D1.frame _ _ _ n1' (upE L.f1)) (D2.frame _ _ _ n2' (upE L.f2))
      (fun b o b0 b1 b2 b3 b4 e => up b o b0 (hkp b o b1 b2 b3 b4 (kp b o b0 b1 b2 b3 b4 e))) (Heap.get?_update_self _ hS' rfl) (by rw [Array.toList_push, hacc, List.map_append]; rfl) (by rw [List.length_append, hal]; rfl) ⟨?_, ?_, ?_⟩ ?_⟩) (by rw [hsz']; omega) (by show (acc.push (Value.ref h.objs.size)).size ≤ sizeLine + 1; rw [Array.size_push, hsz']; omega)
    · refine List.pairwise_append.mpr ⟨hG.rise, List.pairwise_singleton _ _, fun a ha b hb => ?_⟩
      rw [List.mem_singleton.mp hb]
      exact hG.there ha
    · intro a ha
      rcases List.mem_append.mp ha with ha | ha
      · exact hG.above a ha
      · rw [List.mem_singleton.mp ha]
        exact top_lt htop (Nat.lt_of_le_of_lt (Nat.zero_le _) L.lS)
    · intro j b hj
      rcases Nat.lt_trichotomy j as.length with q | q | q
      · rw [List.getElem?_append_left q] at hj
        obtain ⟨x', y', p1', p2', e⟩ := hG.pairs j b hj
        have m := List.mem_of_getElem? hj
        exact ⟨x', y', p1', p2', up b _ (lowN hG m L.lS) (hkp b _ (lowN hG m L.lz) (lowN hG m L.lTO) (lowN hG m L.l1) (lowN hG m L.l2) e)⟩
      · subst q
        have hb : h.objs.size = b := by simpa using hj
        subst hb
        rw [hal]
        exact ⟨x, y, p1, p2, up _ _ (Nat.ne_of_gt hSl) ht⟩
      · have hnone : (as ++ [h.objs.size])[j]? = none := List.getElem?_eq_none (by rw [List.length_append, List.length_singleton]; omega)
        rw [hnone] at hj; cases hj
    · have e : (h'.update S (Obj.mapSeq (·.push (Value.ref h.objs.size)))).get? h.objs.size = _ := up _ _ (Nat.ne_of_gt hSl) ht
      exact Nat.le_trans htop (Nat.le_of_lt (Heap.lt_size e))
theorem nolen_zip : typeLookup (.type "zip") "__len__" = pure none := by rw [typeLookup_type, builtinLookup_eq_fast]; kernel_rfl
theorem nohint_zip : typeLookup (.type "zip") "__length_hint__" = pure none := by rw [typeLookup_type, builtinLookup_eq_fast]; kernel_rfl
theorem lz_extend {S top : Addr} (D : ZipSep2 z TI TO i1 i2 fp1 fp2) (L : ZLow z TI TO i1 i2 S top fp1 fp2) (D1 : Draws prog w A.in1.in1 i1 fp1 n1 P1 St1) (D2 : Draws prog w A.in1.in1 i2 fp2 n2 P2 St2) (hn : n1 ≤ n2) (hsz : n1 ≤ sizeLine) (res : Value) {c0 : Nat}
    (hS : s.heap.get? S = some { cls := .type "list", data := .seq #[] c0 }) (hz : IsZip s.heap z TI TO .none) (hTI : IsTupOf2 s.heap TI (.ref i1) (.ref i2)) (hTO : ∃ a1 a2, IsTupOf2 s.heap TO a1 a2) (s1 : St1 0 s.heap) (s2 : St2 0 s.heap) (htop : top ≤ s.heap.objs.size)
    (hR : ∀ h' tk acc c as, (∀ b o, b ≠ S → b ≠ z → b ≠ TO → b ≠ i1 → b ≠ i2 → s.heap.get? b = some o → h'.get? b = some o) → h'.get? S = some { cls := .type "list", dict := none, data := .seq acc c, slots := #[] } → as.length = n1 → ZG P1 P2 (top - 1) h' as →
      acc.toList = as.map Value.ref → R (.ok (.ret res)) { s with heap := h', toks := tk }) :
    wpAny (model prog w) A.in1 (Builtin.List.listExtendWith (.ref S) (.ref z) res)
      (fun fin s' => match fin with | .done f => R (.ok f) s' | .again c' => c'.quiet = true ∧ codeAny (model prog w) A c' R s') (fun e s' => R (.error e) s') s := by
  have hT : s.TypeIs (.ref z) "zip" := ⟨_, hz, rfl⟩
  unfold Builtin.List.listExtendWith
  refine wpAny_bind (wpAny_typeOf (T := "zip") hT ?_)
  have h1 : Builtin.List.listSameRef (.ref S) (.ref z) = false := by simp [Builtin.List.listSameRef, Ne.symm L.zS]
  have h2 : (Value.type "zip" == Value.type "list") = false := by decide
  have h3 : (Value.type "zip" == Value.type "tuple") = false := by decide
  simp only [h1, h2, h3, Bool.or_false, Bool.false_eq_true, if_false]
  refine wpAny_bind (wpAny_pyIter_zip hz ?_)
  refine wpAny_bind (wpAny_holding ?_)
  unfold Builtin.List.listLengthHint
  refine wpAny_bind (wpAny_specialOf hT nolen_zip ?_)
  show wpAny _ A.in1 (specialOf (Value.ref z) (Str.ofString "__length_hint__") >>= _) _ _ _
  refine wpAny_bind (wpAny_specialOf hT nohint_zip ?_)
  refine wpAny_pure ?_
  show wpAny _ A.in1 (rule "list.extend.makes-room" >>= fun _ => Builtin.List.listTouch (.ref S) >>= fun _ => again (.builtin "list.extend.loop" ⟨[.ref S, .ref z, res], []⟩)) _ _ _
  refine wpAny_bind (wpAny_rule ?_)
  refine wpAny_bind ?_
  show wpAny _ A.in1 (updateSeq S (·.push .none) >>= fun _ => updateSeq S (·.pop)) _ _ _
  refine wpAny_bind (wpAny_updateSeq hS rfl ?_)
  have e2 := Heap.get?_update_self (Obj.mapSeq (·.push Value.none)) hS rfl
  refine wpAny_updateSeq (hz := by seq_fits) e2 rfl ?_
  have e3 := Heap.get?_update_self (Obj.mapSeq (·.pop)) e2 rfl
  have oth : ∀ b o, b ≠ S → s.heap.get? b = some o → ((s.heap.update S (Obj.mapSeq (·.push Value.none))).update S (Obj.mapSeq (·.pop))).get? b = some o := fun b o hb e => (Heap.get?_update_other _ _ (Ne.symm hb)).trans ((Heap.get?_update_other _ _ (Ne.symm hb)).trans e)
  obtain ⟨b1, b2, hTO⟩ := hTO
  have upE : ∀ {fp : List Addr}, S ∉ fp → ∀ b ∈ fp, ∀ o, s.heap.get? b = some o → ((s.heap.update S (Obj.mapSeq (·.push Value.none))).update S (Obj.mapSeq (·.pop))).get? b = some o := fun nf b m o e => oth b o (fun q => nf (q ▸ m)) e
  refine wpAny_pure ⟨plainId_quiet PySem.F.plain_extend_loop _, ?_⟩
  refine lz_loop (s := s) (h0 := s.heap) D L D1 D2 hn hsz res hR n1 0 _ s.toks _ #[] [] (Nat.sub_zero _) (Nat.zero_le _) ⟨oth _ _ L.TIS hTI, .inl ⟨oth _ _ L.zS hz, b1, b2, oth _ _ L.TOS hTO⟩⟩ (D1.frame _ _ _ s1 (upE L.f1)) (D2.frame _ _ _ s2 (upE L.f2)) (fun b o hb _ _ _ _ e => oth b o hb e) e3 rfl rfl ⟨List.Pairwise.nil, (fun _ ha => nomatch ha), (fun j a hj => by simp at hj)⟩ ?_
  refine Nat.le_trans htop (Nat.le_of_eq ?_)
  rw [Heap.size_update, Heap.size_update]
theorem lz_init {S top : Addr} (D : ZipSep2 z TI TO i1 i2 fp1 fp2) (L : ZLow z TI TO i1 i2 S top fp1 fp2) (D1 : Draws prog w A.in1.in1 i1 fp1 n1 P1 St1) (D2 : Draws prog w A.in1.in1 i2 fp2 n2 P2 St2) (hn : n1 ≤ n2) (hsz : n1 ≤ sizeLine)
    (hS : s.heap.get? S = some { cls := .type "list", data := .seq #[] }) (hz : IsZip s.heap z TI TO .none) (hTI : IsTupOf2 s.heap TI (.ref i1) (.ref i2)) (hTO : ∃ a1 a2, IsTupOf2 s.heap TO a1 a2) (s1 : St1 0 s.heap) (s2 : St2 0 s.heap) (htop : top ≤ s.heap.objs.size)
    (hR : ∀ h' tk acc c as, (∀ b o, b ≠ S → b ≠ z → b ≠ TO → b ≠ i1 → b ≠ i2 → s.heap.get? b = some o → h'.get? b = some o) → h'.get? S = some { cls := .type "list", dict := none, data := .seq acc c, slots := #[] } → as.length = n1 → ZG P1 P2 (top - 1) h' as →
      acc.toList = as.map Value.ref → R (.ok (.ret .none)) { s with heap := h', toks := tk }) :
    wpAny (model prog w) A.in1 (Builtin.«list.__init__» ⟨[.ref S, .ref z], []⟩)
      (fun fin s' => match fin with | .done f => R (.ok f) s' | .again c' => c'.quiet = true ∧ codeAny (model prog w) A c' R s') (fun e s' => R (.error e) s') s := by
  show wpAny _ _ (do let old ← Builtin.List.listItems (.ref S); Builtin.List.listUpdate (.ref S) (fun _ => #[]); letGo old.toList.reverse; Builtin.List.listExtendWith (.ref S) (.ref z) .none) _ _ s
  refine wpAny_bind ?_
  unfold Builtin.List.listItems
  refine wpAny_bind (wpAny_seqItems hS rfl (wpAny_pure ?_))
  show wpAny _ _ (updateSeq S (fun _ => #[]) >>= fun _ => letGo (#[] : Array Value).toList.reverse >>= fun _ => Builtin.List.listExtendWith (.ref S) (.ref z) .none) _ _ s
  refine wpAny_bind (wpAny_updateSeq hS rfl ?_)
  have e2 := Heap.get?_update_self (Obj.mapSeq (fun _ => (#[] : Array Value))) hS rfl
  have oth : ∀ b o, b ≠ S → s.heap.get? b = some o → (s.heap.update S (Obj.mapSeq (fun _ => (#[] : Array Value)))).get? b = some o := fun b o hb e => (Heap.get?_update_other _ _ (Ne.symm hb)).trans e
  have upE : ∀ {fp : List Addr}, S ∉ fp → ∀ b ∈ fp, ∀ o, s.heap.get? b = some o → (s.heap.update S (Obj.mapSeq (fun _ => (#[] : Array Value)))).get? b = some o := fun nf b m o e => oth b o (fun q => nf (q ▸ m)) e
  obtain ⟨b1, b2, hTO⟩ := hTO
  refine wpAny_bind (wpAny_letGo ?_)
  refine lz_extend D L D1 D2 hn hsz .none e2 (oth _ _ L.zS hz) (oth _ _ L.TIS hTI) ⟨b1, b2, oth _ _ L.TOS hTO⟩ (D1.frame _ _ _ s1 (upE L.f1)) (D2.frame _ _ _ s2 (upE L.f2)) (by show top ≤ (s.heap.update S _).objs.size; rw [Heap.size_update]; exact htop) fun h' tk acc c as hk hS' hl hG hacc => ?_
  exact hR h' tk acc c as (fun b o n0 n1 n2 n3 n4 e => hk b o n0 n1 n2 n3 n4 (oth b o n0 e)) hS' hl hG hacc
theorem lz_call {E : Value → Shared → Prop} {Q : Value → Shared → Prop} (D : ZipSep2 z TI TO i1 i2 fp1 fp2) (D1 : Draws prog w A.in1.in1.in1 i1 fp1 n1 P1 St1) (D2 : Draws prog w A.in1.in1.in1 i2 fp2 n2 P2 St2) (hn : n1 ≤ n2) (hsz : n1 ≤ sizeLine)
    (hz : IsZip s.heap z TI TO .none) (hTI : IsTupOf2 s.heap TI (.ref i1) (.ref i2)) (hTO : ∃ a1 a2, IsTupOf2 s.heap TO a1 a2) (s1 : St1 0 s.heap) (s2 : St2 0 s.heap) (li1 : i1 < s.heap.objs.size) (li2 : i2 < s.heap.objs.size) (f1 : ∀ b ∈ fp1, b < s.heap.objs.size) (f2 : ∀ b ∈ fp2, b < s.heap.objs.size)
    (hQ : ∀ h' tk acc c as, (∀ b o, b ≠ z → b ≠ TO → b ≠ i1 → b ≠ i2 → s.heap.get? b = some o → h'.get? b = some o) → h'.get? s.heap.objs.size = some { cls := .type "list", dict := none, data := .seq acc c, slots := #[] } → as.length = n1 → ZG P1 P2 s.heap.objs.size h' as →
      acc.toList = as.map Value.ref → Q (.ref s.heap.objs.size) { s with heap := h', toks := tk }) :
    wpAny (model prog w) A (call (.type "list") [.ref z]) Q E s := by
  refine callType_codes (Q₁ := fun obj s₁ => obj = .ref s.heap.objs.size ∧ s₁ = { s with heap := s.heap.push { cls := .type "list", data := .seq #[] } }) PySem.F.called_list (PySem.F.typeCall_list_1 _) PySem.F.entry_list_init
    (code_list_new _ ⟨rfl, rfl⟩) fun obj s₁ h₁ => ?_
  obtain ⟨rfl, rfl⟩ := h₁
  have hS : (s.heap.push { cls := .type "list", data := .seq #[] }).get? s.heap.objs.size = some { cls := .type "list", data := .seq #[] } := Heap.get?_push_size _ rfl
  have up : ∀ b o, s.heap.get? b = some o → (s.heap.push { cls := .type "list", data := .seq #[] }).get? b = some o := fun b o e => Heap.get?_push_of_some _ e
  have lz := Heap.lt_size hz
  have lTI := Heap.lt_size hTI
  obtain ⟨b1, b2, hTO⟩ := hTO
  have lTO := Heap.lt_size hTO
  have L : ZLow z TI TO i1 i2 s.heap.objs.size (s.heap.objs.size + 1) fp1 fp2 := ⟨Nat.lt_succ_of_lt lz, Nat.lt_succ_of_lt lTI, Nat.lt_succ_of_lt lTO, Nat.lt_succ_of_lt li1, Nat.lt_succ_of_lt li2, Nat.lt_succ_self _, Nat.ne_of_lt lz, Nat.ne_of_lt lTI, Nat.ne_of_lt lTO, fun m => Nat.lt_irrefl _ (f1 _ m), fun m => Nat.lt_irrefl _ (f2 _ m)⟩
  refine ⟨⟨_, hS, rfl⟩, PySem.F.args_list_init_2 _ _, lz_init (A := A.in1) D L D1 D2 hn hsz hS (up _ _ hz) (up _ _ hTI) ⟨b1, b2, up _ _ hTO⟩ (D1.frame _ _ _ s1 fun b _ o e => up b o e) (D2.frame _ _ _ s2 fun b _ o e => up b o e) (Nat.le_of_eq (Heap.size_push _ _).symm) fun h' tk acc c as hk hS' hl hG hacc => ?_⟩
  exact ⟨rfl, hQ h' tk acc c as (fun b o n1 n2 n3 n4 e => hk b o (Nat.ne_of_lt (Heap.lt_size e)) n1 n2 n3 n4 (up b o e)) hS' hl hG hacc⟩
end
end BRZ
end PySem
namespace BR
open PySem PySem.Spec PyProof.Rows L2
/-- the pairs tracked at their addresses -/
def putP : Hp → List Addr → List (V × V) → Hp
  | H, a :: as, q :: qs => putP (upd H a (.tup [q.1, q.2])) as qs
  | H, _, _ => H
theorem putP_off {b : Addr} : ∀ (as : List Addr) (qs : List (V × V)) (H : Hp), b ∉ as → putP H as qs b = H b
  | [], _, _, _ => rfl
  | _ :: _, [], _, _ => rfl
  | a :: as, q :: qs, H, h => by
    show putP (upd H a (.tup [q.1, q.2])) as qs b = H b
    rw [putP_off as qs _ (fun z => h (List.mem_cons_of_mem _ z)), upd_ne (fun z => h (by rw [z]; exact List.mem_cons_self))]
theorem putP_at : ∀ (as : List Addr) (qs : List (V × V)) (H : Hp), as.length = qs.length → as.Nodup → Paired (fun (t : Addr) (q : V × V) => putP H as qs t = some (.tup [q.1, q.2])) as qs
  | [], [], _, _, _ => .nil
  | [], _ :: _, _, h, _ => by cases h
  | _ :: _, [], _, h, _ => by cases h
  | a :: as, q :: qs, H, h, hn => by
    have hn' := List.nodup_cons.mp hn
    refine .cons ?_ (putP_at as qs (upd H a (.tup [q.1, q.2])) (Nat.succ.inj h) hn'.2)
    show putP (upd H a (.tup [q.1, q.2])) as qs a = some (.tup [q.1, q.2])
    rw [putP_off as qs _ hn'.1, upd_same]
section
variable {X : Cx} {pins : List (Addr × Obj)} {σ : L2.St} {H : Hp} {s : Shared}
theorem pairs_laid {h' : Heap} {tk : Nat} {S : Addr} {acc : Array Value} {c : Nat} {as : List Addr} {qs : List (V × V)} (I : Inv X pins σ H s) (hz : qs.length ≤ sizeLine) (hk : ∀ b o, s.heap.get? b = some o → h'.get? b = some o) (lS : s.heap.objs.size ≤ S) (hS : h'.get? S = some { cls := .type "list", dict := none, data := .seq acc c, slots := #[] })
    (hl : as.length = qs.length) (rise : as.Pairwise (· < ·)) (above : ∀ a ∈ as, S < a) (hp : ∀ (j : Nat) (a : Addr) (q : V × V), as[j]? = some a → qs[j]? = some q → ∃ x y, RelV q.1 x ∧ RelV q.2 y ∧ IsTupOf2 h' a x y) (hacc : acc.toList = as.map Value.ref) :
    ∃ H' : Hp, Same H H' ∧ H S = none ∧ H' S = some (.lst (as.map V.ref)) ∧ Paired (fun (t : Addr) (q : V × V) => H' t = some (.tup [q.1, q.2])) as qs ∧ Inv X pins σ H' { s with heap := h', toks := tk } := by
  have hSn : S ∉ as := fun z => Nat.lt_irrefl _ (above _ z)
  have nd : as.Nodup := List.Pairwise.imp (fun {a b} (h : a < b) => Nat.ne_of_lt h) rise
  have big : ∀ t ∈ as, s.heap.objs.size ≤ t := fun t ht => Nat.le_of_lt (Nat.lt_of_le_of_lt lS (above t ht))
  have new : ∀ t ∈ as, H t = none := fun t ht => I.hok.fresh (big t ht)
  have newS : H S = none := I.hok.fresh lS
  have atP := putP_at as qs (upd H S (.lst (as.map V.ref))) hl nd
  have off : ∀ b, b ∉ as → b ≠ S → putP (upd H S (.lst (as.map V.ref))) as qs b = H b := fun b h1 h2 => by rw [putP_off as qs _ h1, upd_ne h2]
  have low : ∀ b o, s.heap.get? b = some o → b ∉ as ∧ b ≠ S := fun b o e => ⟨fun z => absurd (Heap.lt_size e) (Nat.not_lt.mpr (big b z)), fun z => absurd (Heap.lt_size e) (Nat.not_lt.mpr (z ▸ lS))⟩
  have kp : ∀ b u, H b = some u → (putP (upd H S (.lst (as.map V.ref))) as qs) b = some u := fun b u e => by
    rw [off b (fun z => by rw [new b z] at e; cases e) (fun z => by rw [z, newS] at e; cases e)]
    exact e
  have eS : putP (upd H S (.lst (as.map V.ref))) as qs S = some (.lst (as.map V.ref)) := by rw [putP_off as qs _ hSn, upd_same]
  refine ⟨putP (upd H S (.lst (as.map V.ref))) as qs, kp, newS, eS, atP, ?_⟩
  refine I.call' (ch := []) rfl ⟨fun b o q _ _ _ => hk b o q, fun b o q _ _ _ => ⟨o.slots, hk b o q⟩, fun b o q n _ => ?_, fun b o q _ => ⟨o, hk b o q⟩, fun b xs q => kp b _ q, fun b o u q => kp b _ q, fun b ps q => ⟨#[], by rw [kp b _ q]; simp⟩⟩ (fun b u q => ?_) I.bare fun b z => by simp at z
  · obtain ⟨z1, z2⟩ := low b o q
    rw [off b z1 z2]
    exact n
  · by_cases hb : b ∈ as
    · obtain ⟨j, pk, e1, e2, e3⟩ := LiI.paired_ix atP hb
      rw [e3] at q
      cases q
      obtain ⟨x, y, r1, r2, f3⟩ := hp j b pk e1 e2
      exact ⟨by show 2 ≤ sizeLine; decide, [x, y], .cons r1 (.cons r2 .nil), ⟨_, f3, rfl, _, rfl⟩⟩
    · by_cases hb2 : b = S
      · rw [hb2] at q ⊢
        rw [eS] at q
        cases q
        refine ⟨by rw [List.length_map]; omega, acc.toList, c, by rw [hacc]; exact LiI.vals_refs as, ?_⟩
        rw [Array.toArray_toList]
        exact hS
      · rw [off b hb hb2] at q
        exact (I.hok b u q).stay (fun d v _ y => hk d v y) (fun d y => kp d _ y) fun d xs y => kp d _ y
end
theorem small1000' {n : Nat} (h : n ≤ 1000) : n ≤ sizeLine := by rw [sizeLine_eq]; omega
/-- the signs of a text -/
def sgn (x : Str) : List V := x.cps.toList.map fun c => V.str ⟨#[c]⟩
/-- list(zip(a text, a tuple)), as long as each other -/
def tLZ (K : PySem.W.Frag) (ta : TA) : TE := fun σ H Q => ta σ H fun vs H1 => ∃ (x : Str) (b : Addr) (ys : List V), vs = [.str x, .ref b] ∧ SqT K H1 b ys ∧ x.cps.size = ys.length ∧ ys.length ≤ 1000 ∧
  ∀ (p : Addr) (ts : List Addr) (H' : Hp), Same H1 H' → H1 p = none → H' p = some (.lst (ts.map V.ref)) → Paired (fun (t : Addr) (q : V × V) => H' t = some (.tup [q.1, q.2])) ts ((sgn x).zip ys) → Q (.ref p) H'
theorem pe_listZip {X : Cx} {e1 e2 : Expr} {ta : TA} {p p2 pos pos2 : Pos} (hc : X.calm = true) (hg : Gl X "list") (hm : X.mg "list" = none) (hg2 : Gl X "zip") (hm2 : X.mg "zip" = none) (ha : PA X [e1, e2] ta)
    (hs : starEach [.Call (.Name "zip" p2) [e1, e2] [] pos2] X.env = (false, eval (.Call (.Name "zip" p2) [e1, e2] [] pos2) X.env) :: starEach [] X.env := by rfl)
    (hs2 : starEach [e1, e2] X.env = (false, eval e1 X.env) :: starEach [e2] X.env := by rfl) (hpl2 : (backTo pos2 (starEach [e2] X.env)).any (·.1) = false := by rfl) :
    PE X (.Call (.Name "list" p) [.Call (.Name "zip" p2) [e1, e2] [] pos2] [] pos) (tLZ X.K ta) := by
  refine ⟨fun pins s σ H Q I h => ?_⟩
  refine wpAny_Call_Name_kw (ld_blt I hg hm (show bootBuiltins "list" = some (.type "list") by decide +kernel) ?_)
  refine PyProof.Rows.callWith_type1 ?_ hs rfl
  rw [hs]
  show wpAny _ _ (spliced ((false, eval (.Call (.Name "zip" p2) [e1, e2] [] pos2) X.env) :: backTo pos (starEach [] X.env))) _ _ s
  refine Calls.spliced_cons ?_
  refine Call_ (ld_blt I hg2 hm2 PyProof.Rows.boot_zip (PyProof.Rows.callWith_type1 (thn (ha.run pos2 pins s σ H _ I h) fun us s1 ⟨vs, H1, I1, r1, x, b, ys, ev, hq, hxy, hy, k⟩ => ?_) hs2 hpl2))
  subst ev
  cases r1 with
  | @cons _ u1 _ _ ra rr =>
  cases rr with
  | @cons _ u2 _ _ rb rr =>
  cases rr
  obtain ⟨t, rfl⟩ := (show ∃ t, u1 = Value.str x t from ra)
  obtain rfl : u2 = Value.ref b := rb
  obtain ⟨its, rv, isT, hz⟩ := I1.tuple hq
  have li := rv.length
  refine zip_begins2 (begins_text x t) (begins_tuple b its.toArray) trivial isT fun h' ez eTI eTO g1 g2 hsz hk => ?_
  refine Calls.spliced_nil ?_
  have hb : b < s1.heap.objs.size := by obtain ⟨o, e, _⟩ := isT; exact Heap.lt_size e
  have hh : X.A.in1.in1.in1.handled = none := I1.ok.hd hc
  have D1 := Draws.text (prog := X.prog) (w := X.w) hh s1.heap.objs.size x t
  have D2 := Draws.tuple (prog := X.prog) (w := X.w) hh (s1.heap.objs.size + 1) b (Nat.ne_of_lt (Nat.lt_succ_of_lt hb)) its.toArray
  have nn : x.cps.size ≤ its.toArray.size := by rw [hxy, li, List.size_toArray]; exact Nat.le_refl _
  refine BRZ.lz_call (zip_sep2 (N := s1.heap.objs.size) (fp1 := []) (fp2 := [b]) (fun _ m => nomatch m) (fun c m => by rw [List.mem_singleton.mp m]; exact hb)) D1 D2 nn (small1000' (by rw [hxy]; exact hy)) ez eTI ⟨_, _, eTO⟩ ⟨_, g1, rfl, rfl⟩ ⟨⟨_, g2, rfl, rfl⟩, Heap.IsTuple.at isT fun o e => hk b o e⟩ ?_ ?_ (fun c m => ?_) (fun c m => ?_) fun h2 tk acc c as hk2 hS hl hG hacc => ?_
  · show s1.heap.objs.size < h'.objs.size
    omega
  · show s1.heap.objs.size + 1 < h'.objs.size
    omega
  · rw [List.mem_singleton.mp m]
    show s1.heap.objs.size < h'.objs.size
    omega
  · have q : c = s1.heap.objs.size + 1 ∨ c = b := by simpa using m
    show c < h'.objs.size
    rcases q with q | q
    · rw [q]
      show s1.heap.objs.size + 1 < h'.objs.size
      omega
    · rw [q, hsz]; exact Nat.lt_of_lt_of_le hb (Nat.le_add_right _ _)
  have up : ∀ c o, s1.heap.get? c = some o → h2.get? c = some o := fun c o e => by
    have l := Heap.lt_size e
    have ne : ∀ j : Nat, c ≠ s1.heap.objs.size + j := fun j => Nat.ne_of_lt (Nat.lt_of_lt_of_le l (Nat.le_add_right _ _))
    exact hk2 c o (ne 4) (ne 3) (ne 0) (ne 1) (hk c o e)
  have ln : ((sgn x).zip ys).length = x.cps.size := by
    rw [List.length_zip, sgn, List.length_map, Array.length_toList, hxy, Nat.min_self]
  have hp : ∀ (j : Nat) (a : Addr) (q : V × V), as[j]? = some a → ((sgn x).zip ys)[j]? = some q → ∃ x y, RelV q.1 x ∧ RelV q.2 y ∧ IsTupOf2 h2 a x y := fun j a q ea eq => by
    obtain ⟨v1, v2, ⟨cc, u, ec, rfl⟩, p2, et⟩ := hG.pairs j a ea
    obtain ⟨q1, q2⟩ := List.getElem?_zip_eq_some.mp eq
    obtain ⟨u2, h1, h2'⟩ := rv.get q2
    have p2' : its[j]? = some v2 := by simpa using p2
    rw [h1] at p2'
    cases p2'
    refine ⟨_, _, ?_, h2', et⟩
    have e1 : (sgn x)[j]? = some (.str ⟨#[cc]⟩) := by
      rw [sgn, List.getElem?_map, Array.getElem?_toList, ec]
      rfl
    rw [e1] at q1
    rw [← Option.some.inj q1]
    exact ⟨u, rfl⟩
  obtain ⟨H2, a1, a2, a3, a4, J⟩ := pairs_laid (tk := tk) (S := h'.objs.size) (qs := (sgn x).zip ys) I1 (small1000' (by rw [ln, hxy]; exact hy)) up (by omega) hS (by rw [hl, ln]) hG.rise hG.above hp hacc
  exact ⟨.ref _, H2, J, rfl, k _ as H2 a1 a2 a3 a4⟩
end BR

/-! ### a new tuple of texts whose very object is known: its index -/
namespace BR
open PySem PySem.Spec PyProof.Rows L2
def rCatZ (K : PySem.W.Frag) : R2 := fun x y H Q => ∃ a b xs ys, x = .ref a ∧ y = .ref b ∧ SqT K H a xs ∧ SqT K H b ys ∧ xs ≠ [] ∧ ys ≠ [] ∧ xs.length + ys.length ≤ sizeLine ∧
  ∀ (p : Addr) (o : Obj), H p = none → o.cls = .type "tuple" → o.dict = none → Q (.ref p) (upd H p (.frz o (.tup (xs ++ ys))))
theorem op_catZ {X : Cx} : OpR X (binaryOp .Add) (rCatZ X.K) := by
  intro pins s σ H x y v u Q I rx ry h
  obtain ⟨a, b, xs, ys, rfl, rfl, ha, hb, hx, hy, hz, q⟩ := h
  cases rx
  cases ry
  obtain ⟨its, r1, p1, _⟩ := I.tuple ha
  obtain ⟨its2, r2, p2, _⟩ := I.tuple hb
  refine HT.cat_tup p1 p2 (fun z => hx (r1.nil_iff.mp z)) (fun z => absurd (r2.nil_iff.mp z) hy) (fun z => ?_) (by rw [← r1.length, ← r2.length]; exact hz)
  refine ⟨.ref s.heap.objs.size, _, I.laid (t' := s.toks) (o := .frz _ (.tup (xs ++ ys))) (fun b ob q => Heap.get?_push_of_some _ q) (Nat.le_refl _) ⟨Heap.get?_push_size _ rfl, ?_⟩, rfl, q _ _ (I.hok.fresh (Nat.le_refl _)) rfl rfl⟩
  exact ⟨by rw [List.length_append]; exact hz, _, r1.append r2, IsTup.new _ _⟩
/-- a tuple of texts, its object known -/
def NmAt (H : Hp) (t : Addr) (ns : List Str) : Prop := ∃ o : Obj, H t = some (.frz o (.tup (ns.map V.str))) ∧ o.cls = .type "tuple" ∧ o.dict = none
theorem NmAt.same {H H' : Hp} {t : Addr} {ns : List Str} (h : NmAt H t ns) (s : Same H H') : NmAt H' t ns := let ⟨o, e, r⟩ := h; ⟨o, s _ _ e, r⟩
theorem NmAt.sq {K : PySem.W.Frag} {H : Hp} {t : Addr} {ns : List Str} (h : NmAt H t ns) : SqT K H t (ns.map V.str) := let ⟨o, e, _⟩ := h; .inl (.inr ⟨o, e⟩)
def tTIx (K : PySem.W.Frag) (to : TE) (ta : TA) : TE := fun σ H Q => to σ H fun x H1 => ∃ (p : Addr) (ns : List Str), x = .ref p ∧ NmAt H1 p ns ∧ ta σ H1 fun vs H2 => ∃ (z : Str) (j : Nat), vs = [.str z] ∧ NmAt H2 p ns ∧ ns[j]? = some z ∧ (∀ m, m < j → ns[m]? ≠ some z) ∧ Q (.int (j : Nat)) H2
theorem pe_tupIx {X : Cx} {o e : Expr} {to : TE} {ta : TA} {apos cpos : Pos} (ho : PE X o to) (ha : PA X [e] ta)
    (c1 : attributeBase o "index" X.env (eval o X.env) = eval o X.env := by rfl)
    (c2 : ((backTo cpos (starEach [e] X.env)).all (fun x => !x.1) && (backToKw cpos (keywordEach [] X.env)).all (fun x => x.1.isSome) && decide ([e].length + ([] : List Keyword).length + (if ([] : List Keyword).isEmpty then 0 else 1) < 30)) = true := by rfl)
    (c3 : (apos.endLine == cpos.line) = true := by rfl) (c4 : starEach [e] X.env = (false, eval e X.env) :: starEach [] X.env := by rfl) (c5 : (backTo cpos (starEach [] X.env)).any (·.1) = false := by rfl) :
    PE X (.Call (.Attribute o "index" apos) [e] [] cpos) (tTIx X.K to ta) := by
  refine ⟨fun pins s σ H Q I h => ?_⟩
  refine wpAny_Call_method_late c1 c2 c3 rfl (thn (ho.run pins s σ H _ I h) fun v s1 ⟨x, H1, I1, r1, p, ns, ex, hn, q1⟩ => ?_)
  subst ex
  obtain rfl : v = Value.ref p := r1
  obtain ⟨ob, e1, e2, e3⟩ := id hn
  have there : s1.heap.get? p = some ob := (show s1.heap.get? p = some ob ∧ _ from I1.hok p _ e1).1
  refine ⟨"tuple", "tuple.index", PySem.F.plainAttrs_tuple, PySem.F.slot_tuple_index, PySem.F.type_tuple_index, ⟨ob, there, e2⟩, fun a ea => by cases ea; exact ⟨ob, there, e3⟩, ?_⟩
  have hA := ha.run cpos pins s1 σ H1 _ I1 q1
  rw [c4] at hA ⊢
  refine Calls.callWith_builtin (by show (false || (backTo cpos (starEach [] X.env)).any (·.1)) = false; rw [c5] <;> rfl) (Calls.evalArgs_plain ?_)
  refine thn hA fun us s2 ⟨vs, H2, I2, r2, z, j, ev, hn2, h1, h2, q2⟩ => ?_
  subst ev
  exact mt_tup_index pins s2 σ H2 (.ref p) [.str z] (.ref p) us Q I2 rfl r2 ⟨p, ns, z, j, rfl, rfl, hn2.sq, h1, h2, q2⟩
end BR

/-! ### for a, b in zip(text, tuple) -/
namespace BR
open PySem PySem.Spec PyProof.Rows L2
/-- a text and the tuple at b, the items in new pairs -/
def ItzS (K : PySem.W.Frag) (x : Str) (b : Addr) : It :=
  ⟨fun i H => ∃ (ys : List V) (y : V), SqT K H b ys ∧ ys[i]? = some y ∧ i < x.cps.size,
    fun i H v H' => ∃ (T : Addr) (k y : V), v = .ref T ∧ H T = none ∧ H' = upd H T (.tup [k, y]) ∧ (sgn x)[i]? = some k ∧ ∀ ys, SqT K H b ys → ys[i]? = some y,
    fun i H => ∃ ys : List V, SqT K H b ys ∧ i ≤ x.cps.size ∧ i ≤ ys.length ∧ (i = x.cps.size ∨ i = ys.length)⟩
theorem fiveOf {c z TI TO i1 i2 : Addr} (h : c ∈ [z, TI, TO, i1, i2]) : c = z ∨ c = TI ∨ c = TO ∨ c = i1 ∨ c = i2 := by simpa using h
theorem turn_zipS {P : Program} {w : World} {K : PySem.W.Frag} {elts : List Expr} {kk : Nat} {tpos : Pos} {x : Str} {t : Tok} {b z TI TO i1 i2 : Addr} (D : ZipSep2 z TI TO i1 i2 [i1] [i2, b]) (hb : b ≠ i2) :
    Turn P w K (.Tuple elts kk tpos) (ItzS K x b) [z, TI, TO, i1, i2] z (fun i h => IsZip h z TI TO .none ∧ IsTupOf2 h TI (.ref i1) (.ref i2) ∧ (∃ x y, IsTupOf2 h TO x y) ∧ h.IsStrIter i1 (strIterType x) x t i ∧ h.IsTupleIter i2 b i) where
  mem := by simp
  obj := fun i h st c hc => by
    obtain ⟨hz, hTI, ⟨x, y, hTO⟩, ⟨o1, e1, _, d1⟩, ⟨o2, e2, _, d2⟩⟩ := st
    rcases fiveOf hc with q | q | q | q | q
    · rw [q]; exact ⟨_, hz, fun v q => nomatch q⟩
    · rw [q]; exact ⟨_, hTI, fun v q => nomatch q⟩
    · rw [q]; exact ⟨_, hTO, fun v q => nomatch q⟩
    · rw [q]; exact ⟨o1, e1, fun v q => by rw [d1] at q; cases q⟩
    · rw [q]; exact ⟨o2, e2, fun v q => by rw [d2] at q; cases q⟩
  keep := fun i h h' st k => by
    obtain ⟨hz, hTI, ⟨x, y, hTO⟩, ⟨o1, e1, r1⟩, h2⟩ := st
    exact ⟨k z (by simp) _ hz, k TI (by simp) _ hTI, ⟨x, y, k TO (by simp) _ hTO⟩, ⟨o1, k i1 (by simp) _ e1, r1⟩, h2.at fun o q => k i2 (by simp) o q⟩
  item := by
    intro X hP hw hK hc i pins s σ H E I hf st hg
    subst hP hw hK
    obtain ⟨hz, hTI, ⟨x0, y0, hTO⟩, h1, h2⟩ := st
    obtain ⟨ys, y, hqy, hy, hi⟩ := hg
    obtain ⟨its, rv, isT, _⟩ := I.tuple hqy
    obtain ⟨u2, hu2, ru2⟩ := rv.get hy
    have hh : X.A.in1.handled = none := I.ok.hd hc
    have hzl : z < s.heap.objs.size := Heap.lt_size hz
    have D1 := Draws.text (prog := X.prog) (w := X.w) hh i1 x t
    have D2 := Draws.tuple (prog := X.prog) (w := X.w) hh i2 b hb its.toArray
    refine wpAny_pyNext_zipD2_item D D1 D2 hz hTI hTO h1 ⟨h2, isT⟩ hi (by rw [List.size_toArray]; exact (List.getElem?_eq_some_iff.mp hu2).1) fun x1 x2 h' tk p1 p2 z' TO' n1' n2' hT hsz hk => ?_
    obtain ⟨c, u, ec, rfl⟩ := p1
    have p2' : its[i]? = some x2 := by simpa using p2
    rw [hu2] at p2'
    cases p2'
    have ek : (sgn x)[i]? = some (.str ⟨#[c]⟩) := by
      rw [sgn, List.getElem?_map, Array.getElem?_toList, ec]
      rfl
    refine ⟨_, rfl, wpAny_letOwnedTupleGo_zip (s := { s with heap := h', toks := tk }) z' fun h'' z'' sb => ?_⟩
    have hT2 : h''.get? s.heap.objs.size = some { cls := .type "tuple", data := .seq #[.str ⟨#[c]⟩ u, u2] } := (sb.2 _ (Nat.ne_of_gt hzl)).trans hT
    have rc : RelV (.str ⟨#[c]⟩) (.str ⟨#[c]⟩ u) := ⟨u, rfl⟩
    have new : ObjOk X.prog X.w (upd H s.heap.objs.size (.tup [.str ⟨#[c]⟩, y])) h'' s.heap.objs.size (.tup [.str ⟨#[c]⟩, y]) :=
      ⟨by show 2 ≤ sizeLine; decide, [.str ⟨#[c]⟩ u, u2], .cons rc (.cons ru2 .nil), ⟨_, hT2, rfl, _, rfl⟩⟩
    have I1 : Inv X pins σ (upd H s.heap.objs.size (.tup [.str ⟨#[c]⟩, y])) { s with heap := h'', toks := tk } :=
      I.turnedNew (t' := tk) (ch := [z, TI, TO, i1, i2]) (fun c o hb q => (sb.2 c (fun q' => hb (by simp [q']))).trans (hk c o (fun q' => hb (by simp [q'])) (fun q' => hb (by simp [q'])) (fun q' => hb (by simp [q'])) (fun q' => hb (by simp [q'])) q)) hf (Nat.le_refl _) new
    have zi1 := D.zi1
    have zi2 := D.zi2
    refine ⟨.ref s.heap.objs.size, _, I1, rfl, ⟨_, .str ⟨#[c]⟩, y, rfl, I.hok.fresh (Nat.le_refl _), rfl, ek, fun l hl => by rw [I.tuple_inj hl hqy]; exact hy⟩, ⟨z'', ?_, ⟨.str ⟨#[c]⟩ u, u2, ?_⟩, ?_, ?_⟩, fun c hcm => ?_⟩
    · exact (sb.2 _ D.TIz).trans (hk _ _ D.TIz D.TITO D.TIi1 D.TIi2 hTI)
    · exact (sb.2 _ D.TOz).trans TO'
    · obtain ⟨o1, e1, r1⟩ := n1'
      exact ⟨o1, (sb.2 _ (Ne.symm zi1)).trans e1, r1⟩
    · exact n2'.1.at fun o q => (sb.2 _ (Ne.symm zi2)).trans q
    · have hlt : c < s.heap.objs.size := by
        rcases fiveOf hcm with q | q | q | q | q
        · rw [q]; exact hzl
        · rw [q]; exact Heap.lt_size hTI
        · rw [q]; exact Heap.lt_size hTO
        · rw [q]; obtain ⟨_, e1, _⟩ := h1; exact Heap.lt_size e1
        · rw [q]; obtain ⟨_, e2, _⟩ := h2; exact Heap.lt_size e2
      rw [upd_ne (Nat.ne_of_lt hlt)]
      exact (hf c hcm).1
  done := by
    intro X hP hw hK hc i pins s σ H E I hf st hg
    subst hP hw hK
    obtain ⟨hz, hTI, ⟨x0, y0, hTO⟩, h1, h2⟩ := st
    obtain ⟨ys, hqy, l1, l2, hend⟩ := hg
    obtain ⟨its, rv, isT, _⟩ := I.tuple hqy
    have ly := rv.length
    have le : its.toArray.size = ys.length := (List.size_toArray (as := its)).trans ly.symm
    have hh : X.A.in1.handled = none := I.ok.hd hc
    have D1 := Draws.text (prog := X.prog) (w := X.w) hh i1 x t
    have D2 := Draws.tuple (prog := X.prog) (w := X.w) hh i2 b hb its.toArray
    refine wpAny_pyNext_zipD2_end D D1 D2 hz hTI hTO h1 ⟨h2, isT⟩ l1 (by rw [le]; exact l2) (by rw [le]; exact hend) fun h' tk hk => ⟨rfl, I.turnedL (t' := tk) (ch := [z, TI, TO, i1, i2]) (fun c o hb q =>
      hk c o (fun q' => hb (by simp [q'])) (fun q' => hb (by simp [q'])) (fun q' => hb (by simp [q'])) (fun q' => hb (by simp [q'])) q) hf⟩
  self := fun A i s Q E st h => wpAny_pyIter_zip st.1 h
def iZS (K : PySem.W.Frag) (ta : TA) : TI := fun σ H R => ta σ H fun vs H1 => ∃ (x : Str) (b : Addr) (ys : List V), vs = [.str x, .ref b] ∧ SqT K H1 b ys ∧ R (ItzS K x b) H1
theorem pi_zipS {X : Cx} {e e2 : Expr} {ta : TA} {p pos tpos : Pos} {elts : List Expr} {kk : Nat} (hg : Gl X "zip") (hm : X.mg "zip" = none) (ha : PA X [e, e2] ta)
    (hs : starEach [e, e2] X.env = (false, eval e X.env) :: starEach [e2] X.env := by rfl) (hpl : (backTo pos (starEach [e2] X.env)).any (·.1) = false := by rfl) :
    PI X (.Tuple elts kk tpos) (.Call (.Name "zip" p) [e, e2] [] pos) (iZS X.K ta) := by
  refine ⟨fun pins s σ H R I h => ?_⟩
  refine Call_ (ld_blt I hg hm PyProof.Rows.boot_zip (PyProof.Rows.callWith_type1 (thn (ha.run pos pins s σ H _ I h) fun us s1 ⟨vs, H1, I1, r1, x, b, ys, ev, hq, k⟩ => ?_) hs hpl))
  subst ev
  cases r1 with
  | @cons _ u1 _ _ ra rr =>
  cases rr with
  | @cons _ u2 _ _ rb rr =>
  cases rr
  obtain ⟨t, rfl⟩ := (show ∃ t, u1 = Value.str x t from ra)
  obtain rfl : u2 = Value.ref b := rb
  obtain ⟨its, rv, isT, hz⟩ := I1.tuple hq
  refine zip_begins2 (begins_text x t) (begins_tuple b its.toArray) trivial isT fun h' ez eTI eTO g1 g2 hsz hk => wpAny_pyIter_zip ez ?_
  have hb : b < s1.heap.objs.size := by obtain ⟨o, e, _⟩ := isT; exact Heap.lt_size e
  have I2 : Inv X pins σ H1 { s1 with heap := h' } := I1.kept (t' := s1.toks) hk
  refine ⟨s1.heap.objs.size + 4, [s1.heap.objs.size + 4, s1.heap.objs.size + 2, s1.heap.objs.size + 3, s1.heap.objs.size, s1.heap.objs.size + 1], _, _, H1, rfl, I2, turn_zipS (t := t) (zip_sep2 (N := s1.heap.objs.size) (fp1 := []) (fp2 := [b]) (fun _ m => nomatch m) (fun c m => by rw [List.mem_singleton.mp m]; exact hb)) (Nat.ne_of_lt (Nat.lt_succ_of_lt hb)), ⟨ez, eTI, ⟨_, _, eTO⟩, ⟨_, g1, rfl, rfl⟩, ⟨_, g2, rfl, rfl⟩⟩, fun c hcm => ?_, k⟩
  have hle : s1.heap.objs.size ≤ c := by
    rcases fiveOf hcm with z | z | z | z | z
    · rw [z]; exact Nat.le_add_right _ _
    · rw [z]; exact Nat.le_add_right _ _
    · rw [z]; exact Nat.le_add_right _ _
    · rw [z]; exact Nat.le_refl _
    · rw [z]; exact Nat.le_add_right _ _
  exact I1.fpOk hle (I1.hok.fresh hle)
/-- a loop over zip of a text and a tuple of its length -/
theorem for_zipS {K : PySem.W.Frag} {x : Str} {b : Addr} {ys : List V} {g : TG} {tb : TS} {D : Ends} {σ : L2.St} {H : Hp} (hl : x.cps.size = ys.length) (Pv : Nat → L2.St → Hp → Prop) (h0 : Pv 0 σ H) (hq : ∀ i σ H, Pv i σ H → SqT K H b ys)
    (hs : ∀ (i : Nat) (k y : V) (T : Addr) (σ : L2.St) (H : Hp), (sgn x)[i]? = some k → ys[i]? = some y → Pv i σ H → H T = none → g (.ref T) σ (upd H T (.tup [k, y])) fun σ2 H2 => tb { D with nx := Pv (i + 1), ct := Pv (i + 1), bk := D.nx } σ2 H2) (hd : ∀ σ H, Pv ys.length σ H → D.nx σ H) :
    ∃ W : Nat → Nat → L2.St → Hp → Prop, (∃ m, W 0 m σ H) ∧ ∀ i m σ H, W i m σ H →
      ((ItzS K x b).stop i H ∧ D.nx σ H) ∨ ((ItzS K x b).go i H ∧ ∃ N : L2.St → Hp → Prop, (∀ σ' H', N σ' H' → ∃ m', m' < m ∧ W (i + 1) m' σ' H') ∧ ∀ v H', (ItzS K x b).yld i H v H' → g v σ H' fun σ2 H2 => tb { D with nx := N, ct := N, bk := D.nx } σ2 H2) := by
  refine ⟨fun i m σ H => m = ys.length - i ∧ i ≤ ys.length ∧ Pv i σ H, ⟨ys.length, rfl, Nat.zero_le _, h0⟩, ?_⟩
  rintro i m σ H ⟨rfl, hi, p⟩
  have qy := hq i σ H p
  by_cases hlt : i < ys.length
  · have hy : ys[i]? = some ys[i] := List.getElem?_eq_getElem hlt
    refine .inr ⟨⟨ys, _, qy, hy, by omega⟩, Pv (i + 1), fun σ' H' p' => ⟨ys.length - (i + 1), by omega, rfl, hlt, p'⟩, fun v H' y => ?_⟩
    obtain ⟨T, k, y', rfl, hT, rfl, f1, f2⟩ := y
    exact hs i k y' T σ H f1 (f2 ys qy) p hT
  · have e : i = ys.length := by omega
    subst e
    exact .inl ⟨⟨ys, qy, by omega, Nat.le_refl _, Or.inr rfl⟩, hd σ H p⟩
end BR

/-! ### list(text) -/
namespace PySem
namespace BRL
open PySem.W PySem.Calls PyProof.Rows
section
variable {prog : Program} {w : World} {A : Around} {E : Value → Shared → Prop} {s : Shared}
theorem room_str {z : Str} {t : Tok} {Q : Bool → Shared → Prop} (q : Q false s) : wpAny (model prog w) A (Builtin.List.listLengthHint (.str z t)) Q E s := by
  have ty := typeIs_str s z t
  unfold Builtin.List.listLengthHint
  refine wpAny_bind (wpAny_specialOf ty PySem.F.slot_str_len.lookup ?_)
  generalize ei : ("str.__len__" : String) = i0
  wp_delta
  rw [show splitId i0 = some ("str", "__len__") from by subst ei; decide +kernel]
  subst ei
  refine wpAny_bind (wpAny_isInstance (T := "str") (b := true) ty (by rw [isSubtype_type]; kernel_rfl) ?_)
  refine wpAny_ite_split (fun c => absurd c (by decide)) fun _ => ?_
  exact wpAny_ite_split (fun _ => wpAny_bind (wpAny_typeOf ty (wpAny_pure q))) fun c => absurd (by decide +kernel) c
theorem grow_str {R : Result → Shared → Prop} (hh : A.handled = none) {z : Str} {t : Tok} {L : Addr} {r : Value} {c0 : Nat} (eL : s.heap.get? L = some { cls := .type "list", data := .seq #[] c0 }) (hz : z.cps.size ≤ sizeLine)
    (go : ∀ h2 tk ac c, (∀ b o, b ≠ L → s.heap.get? b = some o → h2.get? b = some o) → h2.get? L = some { cls := .type "list", dict := none, data := .seq ac c, slots := #[] } → ItemsOf (SignAt z) ac z.cps.size → R (.ok (.ret r)) { s with heap := h2, toks := tk }) :
    wpAny (model prog w) A.in1 (Builtin.List.listExtendWith (.ref L) (.str z t) r)
      (fun f s2 => match f with | .done f => R (.ok f) s2 | .again c' => c'.quiet = true ∧ codeAny (model prog w) A c' R s2) (fun e s2 => R (.error e) s2) s := by
  have nI : L ≠ s.heap.objs.size := Nat.ne_of_lt (Heap.lt_size eL)
  unfold Builtin.List.listExtendWith
  refine wpAny_bind (wpAny_typeOf (T := "str") (typeIs_str s z t) ?_)
  have k1 : Builtin.List.listSameRef (.ref L) (.str z t) = false := rfl
  have k2 : (Value.type "str" == Value.type "list") = false := by decide
  have k3 : (Value.type "str" == Value.type "tuple") = false := by decide
  simp only [k1, k2, k3, Bool.or_false, Bool.false_eq_true, if_false]
  refine wpAny_bind (wpAny_pyIter_str fun o St W st => ?_)
  refine wpAny_bind (wpAny_holding (room_str ?_))
  rw [if_neg (by first | decide | decide +kernel)]
  refine wpAny_pure ⟨plainId_quiet PySem.F.plain_extend_loop _, codeAny_extend_loopS (W A.in1 hh).toS hz _ (fun m => nI (List.mem_singleton.mp m)) _ z.cps.size 0 _ _ _ rfl (Nat.zero_le _) st (Heap.get?_push_of_some _ eL) (ItemsOf.nil _) fun s2 ac c mv e2 it => ?_⟩
  rw [Moved.eq_with mv]
  refine go s2.heap s2.toks ac c (fun b o nb e => mv.heap b o (fun m => ?_) (Heap.get?_push_of_some _ e)) e2 it
  rcases List.mem_cons.mp m with q | m
  · exact nb q
  · exact Nat.lt_irrefl _ (show s.heap.objs.size < s.heap.objs.size from by have := Heap.lt_size e; rw [List.mem_singleton.mp m] at this; exact this)
theorem init_str {R : Result → Shared → Prop} (hh : A.handled = none) {z : Str} {t : Tok} {L : Addr} (eL : s.heap.get? L = some { cls := .type "list", data := .seq #[] }) (hz : z.cps.size ≤ sizeLine)
    (go : ∀ h2 tk ac c, (∀ b o, b ≠ L → s.heap.get? b = some o → h2.get? b = some o) → h2.get? L = some { cls := .type "list", dict := none, data := .seq ac c, slots := #[] } → ItemsOf (SignAt z) ac z.cps.size → R (.ok (.ret .none)) { s with heap := h2, toks := tk }) :
    wpAny (model prog w) A.in1 (Builtin.«list.__init__» ⟨[.ref L, .str z t], []⟩)
      (fun f s2 => match f with | .done f => R (.ok f) s2 | .again c' => c'.quiet = true ∧ codeAny (model prog w) A c' R s2) (fun e s2 => R (.error e) s2) s := by
  show wpAny _ _ (do let old ← Builtin.List.listItems (.ref L); Builtin.List.listUpdate (.ref L) (fun _ => #[]); letGo old.toList.reverse; Builtin.List.listExtendWith (.ref L) (.str z t) .none) _ _ s
  refine wpAny_bind ?_
  unfold Builtin.List.listItems
  refine wpAny_bind (wpAny_seqItems eL rfl (wpAny_pure ?_))
  show wpAny _ _ (updateSeq L (fun _ => #[]) >>= fun _ => letGo (#[] : Array Value).toList.reverse >>= fun _ => Builtin.List.listExtendWith (.ref L) (.str z t) .none) _ _ s
  refine wpAny_bind (wpAny_updateSeq eL rfl (wpAny_bind (wpAny_letGo ?_)))
  refine grow_str hh (Heap.get?_update_self (Obj.mapSeq (fun _ => (#[] : Array Value))) eL rfl) hz fun h2 tk ac c kp e2 it => go h2 tk ac c (fun b o nb e => kp b o nb ((Heap.get?_update_other _ _ (Ne.symm nb)).trans e)) e2 it
theorem make_str {Q : Value → Shared → Prop} (hh : A.in1.handled = none) {z : Str} {t : Tok} (hz : z.cps.size ≤ sizeLine)
    (go : ∀ h2 tk ac c, (∀ b o, s.heap.get? b = some o → h2.get? b = some o) → h2.get? s.heap.objs.size = some { cls := .type "list", dict := none, data := .seq ac c, slots := #[] } → ItemsOf (SignAt z) ac z.cps.size → Q (.ref s.heap.objs.size) { s with heap := h2, toks := tk }) :
    wpAny (model prog w) A (call (.type "list") [.str z t]) Q E s := by
  refine callType_codes (Q₁ := fun v s1 => v = .ref s.heap.objs.size ∧ s1 = { s with heap := s.heap.push { cls := .type "list", data := .seq #[] } }) PySem.F.called_list (PySem.F.typeCall_list_1 _) PySem.F.entry_list_init
    (code_list_new _ ⟨rfl, rfl⟩) fun v s1 q => ?_
  obtain ⟨rfl, rfl⟩ := q
  have e1 : (s.heap.push { cls := .type "list", data := .seq #[] }).get? s.heap.objs.size = some { cls := .type "list", data := .seq #[] } := Heap.get?_push_size _ rfl
  exact ⟨⟨_, e1, rfl⟩, PySem.F.args_list_init_2 _ _, init_str (A := A.in1) hh e1 hz fun h2 tk ac c kp e2 it => ⟨rfl, go h2 tk ac c (fun b o e => kp b o (Nat.ne_of_lt (Heap.lt_size e)) (Heap.get?_push_of_some _ e)) e2 it⟩⟩
end
end BRL
end PySem
namespace BR
open PySem PySem.Spec PyProof.Rows L2
theorem signs_vals {z : Str} {ac : Array Value} (it : ItemsOf (SignAt z) ac z.cps.size) : Vals (sgn z) ac.toList := by
  have ln : (sgn z).length = ac.toList.length := by rw [sgn, List.length_map, Array.length_toList, Array.length_toList, it.1]
  have gen : ∀ (xs : List V) (us : List Value), xs.length = us.length → (∀ (i : Nat) (x : V) (u : Value), xs[i]? = some x → us[i]? = some u → RelV x u) → Vals xs us := fun xs => by
    induction xs with
    | nil =>
      intro us h _
      cases us with
      | nil => exact .nil
      | cons _ _ => cases h
    | cons x xs ih =>
      intro us h k
      cases us with
      | nil => cases h
      | cons u us => exact .cons (k 0 x u rfl rfl) (ih us (Nat.succ.inj h) fun i a b e1 e2 => k (i + 1) a b e1 e2)
  refine gen _ _ ln fun i x u e1 e2 => ?_
  obtain ⟨c, tk, ec, rfl⟩ := it.2 i u (by rw [← Array.getElem?_toList]; exact e2)
  rw [sgn, List.getElem?_map, Array.getElem?_toList, ec] at e1
  rw [← Option.some.inj e1]
  exact ⟨tk, rfl⟩
def rLstS : List V → Hp → VK → Prop := fun xs H Q => ∃ z : Str, xs = [.str z] ∧ z.cps.size ≤ 1000 ∧ ∀ l, H l = none → Q (.ref l) (upd H l (.lst (sgn z)))
theorem call_list_txt {X : Cx} (hc : X.calm = true) : CallR X (.type "list") rLstS := by
  intro pins s σ H xs us Q I r h
  obtain ⟨z, rfl, hz, k⟩ := h
  obtain ⟨u, rfl, ru⟩ := vals1 r
  obtain ⟨t, rfl⟩ := ru
  refine BRL.make_str (I.ok.hd hc) (Nat.le_of_lt (small1000 (by omega))) fun h2 tk ac c kp e it => ?_
  refine ⟨.ref s.heap.objs.size, upd H s.heap.objs.size (.lst (sgn z)), I.laid kp (Nat.le_refl _) ⟨by rw [sgn, List.length_map, Array.length_toList]; exact Nat.le_of_lt (small1000 (by omega)), ac.toList, c, signs_vals it, by rw [Array.toArray_toList]; exact e⟩, rfl, k _ (I.hok.fresh (Nat.le_refl _))⟩
end BR

/-! ### programs: their rows as lists of values -/
namespace BR
open PySem PySem.Spec PyProof.Rows L2
def fmT : List (Str × Str) := [("cmp", "RR"), ("mov", "RR"), ("swap", "RR"), ("cmov", "CRR"), ("jump", "T"), ("jif", "CT"), ("out", "R"), ("stop", "")]
def regs (n : Nat) : List Str := (["p", "q", "r", "s"] : List Str).take n ++ (["x", "y"] : List Str)
theorem regs_len (n : Nat) : (regs n).length ≤ 6 := by
  unfold regs
  rw [List.length_append, List.length_take]
  show min n 4 + 2 ≤ 6
  omega
/-- an item of a row: a text or an int -/
inductive Atom : V → Prop
  | s (z : Str) : Atom (.str z)
  | i (n : Int) : Atom (.int n)
theorem Atom.flat {x : V} (h : Atom x) : flatV x = true := by cases h <;> rfl
def itemOk (k x : V) (ns : List Str) (size : Int) : Bool :=
  if k = .str "R" then (match x with | .str z => decide (z ∈ ns) | _ => false)
  else if k = .str "C" then (match x with | .str z => decide (z ∈ conds) | _ => false)
  else (match x with | .int i => decide (0 ≤ i) && decide (i ≤ size) | _ => false)
def rowOk (ns : List Str) (size : Int) : List V → Bool
  | .str w :: xs => (match fmT.lookup w with | some f => decide (xs.length = f.cps.size) && ((sgn f).zip xs).all (fun q => itemOk q.1 q.2 ns size) | none => false)
  | _ => false
theorem sgn_len (f : Str) : (sgn f).length = f.cps.size := by rw [sgn, List.length_map, Array.length_toList]
def isKd (k : V) : Prop := k = .str "R" ∨ k = .str "C" ∨ k = .str "T"
instance (k : V) : Decidable (isKd k) := by unfold isKd; infer_instance
theorem fm_all : ∀ q ∈ fmT, (∀ v ∈ sgn q.2, isKd v) ∧ q.2.cps.size ≤ 3 ∧ q.2.length = q.2.cps.size := by decide +kernel
theorem lookup_mem {α : Type} {l : List (Str × α)} {w : Str} {f : α} (h : l.lookup w = some f) : (w, f) ∈ l := by
  induction l with
  | nil => cases h
  | cons p l ih =>
    obtain ⟨a, b⟩ := p
    rw [List.lookup_cons] at h
    cases c : w == a with
    | true =>
      rw [c] at h
      cases h
      rw [eq_of_beq c]
      exact List.mem_cons_self
    | false =>
      rw [c] at h
      exact List.mem_cons_of_mem _ (ih h)
/-- the items of conditions are texts -/
def CStr (r : List V) : Prop := ∀ (w : Str) (xs : List V) (f : Str), r = .str w :: xs → fmT.lookup w = some f → xs.length = f.cps.size → ∀ q ∈ (sgn f).zip xs, q.1 = .str "C" → ∃ z, q.2 = .str z
/-- a row as Python hands it in -/
structure RowIs (r : List V) : Prop where
  wd : r = [] ∨ ∃ w xs, r = .str w :: xs
  at' : ∀ x ∈ r, Atom x
  cs : CStr r
  few : r.length ≤ 10
theorem inV_int {i : Int} (ns : List Str) : inV (.int i) (ns.map V.str) = false := by
  unfold inV
  rw [List.any_eq_false]
  intro y m
  obtain ⟨z, _, rfl⟩ := List.mem_map.mp m
  show ¬ (false = true)
  decide
theorem at0v {x : V} {l : List V} : atI (x :: l) 0 = some x := by
  unfold atI ixN
  simp
theorem sIx1 {x : V} {l : List V} : HT.sIx (x :: l).length 0 (some 1) = 1 := (HT.sIx_nat _ 0 1).trans (by rw [List.length_cons]; omega)
theorem cut_tail {x : V} {l : List V} : cutV (x :: l) (some 1) none = l := by
  unfold cutV
  rw [sIx1]
  show ((x :: l).drop 1).take ((x :: l).length - 1) = l
  rw [List.drop_one, List.tail_cons, List.length_cons, Nat.add_sub_cancel, List.take_length]
theorem item_R (x : V) (ns : List Str) (size : Int) : itemOk (.str "R") x ns size = (match x with | .str z => decide (z ∈ ns) | _ => false) := if_pos rfl
theorem item_C (x : V) (ns : List Str) (size : Int) : itemOk (.str "C") x ns size = (match x with | .str z => decide (z ∈ conds) | _ => false) := by
  unfold itemOk
  rw [if_neg (by decide +kernel), if_pos rfl]
theorem item_T (x : V) (ns : List Str) (size : Int) : itemOk (.str "T") x ns size = (match x with | .int i => decide (0 ≤ i) && decide (i ≤ size) | _ => false) := by
  unfold itemOk
  rw [if_neg (by decide +kernel), if_neg (by decide +kernel)]
theorem cond_is (z : Str) : (tabC.lookup z).isSome = decide (z ∈ conds) := by
  by_cases h : z ∈ conds
  · rw [(cond_back z h).2.1, decide_eq_true h]
    rfl
  · rw [decide_eq_false h]
    cases e : tabC.lookup z with
    | none => rfl
    | some os => exact absurd (List.mem_map.mpr ⟨_, lookup_mem e, rfl⟩ : z ∈ tabC.map (·.1)) h
theorem rowOk_none {w : Str} {xs : List V} {ns : List Str} {size : Int} (h : fmT.lookup w = none) : rowOk ns size (.str w :: xs) = false := by simp only [rowOk, h]
theorem rowOk_some {w f : Str} {xs : List V} {ns : List Str} {size : Int} (h : fmT.lookup w = some f) : rowOk ns size (.str w :: xs) = (decide (xs.length = f.cps.size) && ((sgn f).zip xs).all fun q => itemOk q.1 q.2 ns size) := by simp only [rowOk, h]
theorem prG {α β : Type} {R : α → β → Prop} : ∀ {as : List α} {bs : List β} {i : Nat} {a : α}, Paired R as bs → as[i]? = some a → ∃ b, bs[i]? = some b ∧ R a b
  | _, _, 0, _, .cons h _, e => by cases e; exact ⟨_, rfl, h⟩
  | _, _, i + 1, _, .cons _ t, e => prG (i := i) t e
  | _, _, _, _, .nil, e => nomatch e
theorem prH {α β : Type} {R : α → β → Prop} : ∀ {as : List α} {bs : List β} {i : Nat} {b : β}, Paired R as bs → bs[i]? = some b → ∃ a, as[i]? = some a ∧ R a b
  | _, _, 0, _, .cons h _, e => by cases e; exact ⟨_, rfl, h⟩
  | _, _, i + 1, _, .cons _ t, e => prH (i := i) t e
  | _, _, _, _, .nil, e => nomatch e
theorem refAt {bs : List Addr} {i : Nat} {x : V} (h : (bs.map V.ref)[i]? = some x) : ∃ b, bs[i]? = some b ∧ x = .ref b := by
  rw [List.getElem?_map] at h
  obtain ⟨b, e, r⟩ := Option.map_eq_some_iff.mp h
  exact ⟨b, e, r.symm⟩
theorem tkS {α : Type} {l : List α} {n : Nat} {r : α} (h : l[n]? = some r) : l.take (n + 1) = l.take n ++ [r] := by rw [List.take_succ, h, Option.toList_some]
theorem map_at' {α β : Type} {f : α → β} {l : List α} {i : Nat} {a : α} (h : l[i]? = some a) : (l.map f)[i]? = some (f a) := by rw [List.getElem?_map, h]; rfl
theorem first_at {z : Str} : ∀ {ns : List Str}, z ∈ ns → ∃ j : Nat, ns[j]? = some z ∧ ∀ m : Nat, m < j → ns[m]? ≠ some z
  | x :: l, h => by
    by_cases c : x = z
    · exact ⟨0, by rw [c]; rfl, fun m q => absurd q (Nat.not_lt_zero m)⟩
    · rcases List.mem_cons.mp h with e | h
      · exact absurd e.symm c
      · obtain ⟨j, h1, h2⟩ := first_at h
        refine ⟨j + 1, h1, fun m q => ?_⟩
        cases m with
        | zero => exact fun e => c (Option.some.inj e)
        | succ m => exact h2 m (by omega)
/-- what stands in place of an item, by its kind -/
def PlRel (K : PySem.W.Frag) (ns : List Str) (k x p : V) : Prop :=
  (k = .str "R" ∧ ∃ (z : Str) (j : Nat), x = .str z ∧ ns[j]? = some z ∧ (∀ m, m < j → ns[m]? ≠ some z) ∧ p = .int (j : Nat)) ∨ (k = .str "C" ∧ ∃ (z : Str) (b : Addr), x = .str z ∧ z ∈ conds ∧ p = .ref b ∧ TupK K b (outsOf z)) ∨ (k = .str "T" ∧ p = x)
def PlAt (K : PySem.W.Frag) (H : Hp) (ns : List Str) (p : Addr) (r : List V) : Prop :=
  ∃ (w : Str) (xs : List V) (f : Str) (ps : List V), r = .str w :: xs ∧ fmT.lookup w = some f ∧ H p = some (.tup (.str w :: ps)) ∧ Paired (fun (q : V × V) p => PlRel K ns q.1 q.2 p) ((sgn f).zip xs) ps
theorem PlAt.same {K : PySem.W.Frag} {H H' : Hp} {ns : List Str} {p : Addr} {r : List V} (h : PlAt K H ns p r) (s : Same H H') : PlAt K H' ns p r :=
  let ⟨w, xs, f, ps, a, b, c, d⟩ := h
  ⟨w, xs, f, ps, a, b, s _ _ c, d⟩
/-- the first place with a given answer, or none -/
theorem first_bad {α : Type} (p : α → Bool) : ∀ l : List α, (∀ x ∈ l, p x = true) ∨ ∃ (i : Nat) (x : α), l[i]? = some x ∧ p x = false ∧ ∀ (j : Nat) (y : α), j < i → l[j]? = some y → p y = true
  | [] => .inl fun _ m => nomatch m
  | x :: l => by
    cases c : p x with
    | false => exact .inr ⟨0, x, rfl, c, fun j y q => absurd q (Nat.not_lt_zero j)⟩
    | true =>
      rcases first_bad p l with h | ⟨i, y, h1, h2, h3⟩
      · exact .inl fun y m => by
          rcases List.mem_cons.mp m with rfl | m
          · exact c
          · exact h y m
      · refine .inr ⟨i + 1, y, h1, h2, fun j z hj hz => ?_⟩
        cases j with
        | zero => cases hz; exact c
        | succ j => exact h3 j z (by omega) hz
theorem rowOk_shape {ns : List Str} {size : Int} {r : List V} (h : rowOk ns size r = true) : ∃ w xs f, r = .str w :: xs ∧ fmT.lookup w = some f := by
  match r, h with
  | [], h => exact absurd (show false = true from h) (by decide)
  | .str w :: xs, h =>
    cases e : fmT.lookup w with
    | none =>
      rw [rowOk_none e] at h
      exact absurd h (by decide)
    | some f => exact ⟨w, xs, f, rfl, e⟩
  | .non :: _, h => exact absurd (show false = true from h) (by decide)
  | .bl _ :: _, h => exact absurd (show false = true from h) (by decide)
  | .int _ :: _, h => exact absurd (show false = true from h) (by decide)
  | .byt _ :: _, h => exact absurd (show false = true from h) (by decide)
  | .flt _ :: _, h => exact absurd (show false = true from h) (by decide)
  | .ref _ :: _, h => exact absurd (show false = true from h) (by decide)
  | .ty _ :: _, h => exact absurd (show false = true from h) (by decide)
theorem PlAt.up {K : PySem.W.Frag} {H : Hp} {ns : List Str} {p D : Addr} {r : List V} {o : HO} {ys : List V} (h : PlAt K H ns p r) (e : H D = some (.lst ys)) : PlAt K (upd H D o) ns p r :=
  let ⟨w, xs, f, ps, a, b, c, d⟩ := h
  ⟨w, xs, f, ps, a, b, by rw [upd_ne (fun z => by rw [z, e] at c; cases c)]; exact c, d⟩
theorem PlAt.tp {K : PySem.W.Frag} {H H' : Hp} {ns : List Str} {p : Addr} {r : List V} (h : PlAt K H ns p r) (s : ∀ b xs, H b = some (.tup xs) → H' b = some (.tup xs)) : PlAt K H' ns p r :=
  let ⟨w, xs, f, ps, a, b, c, d⟩ := h
  ⟨w, xs, f, ps, a, b, s _ _ c, d⟩
/-- rows at their addresses -/
def RowsAt (H : Hp) (as : List Addr) (rs : List (List V)) : Prop := Paired (fun a r => H a = some (.tup r)) as rs
theorem RowsAt.same {H H' : Hp} {as : List Addr} {rs : List (List V)} (h : RowsAt H as rs) (s : Same H H') : RowsAt H' as rs := prm h fun _ _ e => s _ _ e
/-- a program stands at a -/
def ProgAt (K : PySem.W.Frag) (H : Hp) (C a : Addr) (n : Int) (as : List Addr) (rs : List (List V)) : Prop :=
  ∃ (dx l t : Addr) (ps : List Addr), H a = some (.ins C dx [("_inputs", .int n), ("_rows", .ref l), ("_placed", .ref t)]) ∧ H l = some (.lst (as.map V.ref)) ∧ RowsAt H as rs ∧ H t = some (.tup (ps.map V.ref)) ∧ Paired (PlAt K H (regs n.toNat)) ps rs ∧ 1 ≤ n ∧ n ≤ 4 ∧ rs.length ≤ 900 ∧ (∀ r ∈ rs, RowIs r) ∧ ∀ r ∈ rs, rowOk (regs n.toNat) rs.length r = true
theorem ProgAt.same {K : PySem.W.Frag} {H H' : Hp} {C a : Addr} {n : Int} {as : List Addr} {rs : List (List V)} (h : ProgAt K H C a n as rs) (s : Same H H') : ProgAt K H' C a n as rs :=
  let ⟨dx, l, t, ps, e1, e2, e3, e4, e5, r⟩ := h
  ⟨dx, l, t, ps, s _ _ e1, s _ _ e2, e3.same s, s _ _ e4, prm e5 fun _ _ q => q.same s, r⟩
theorem fld3 (x y z : V) : putF "_placed" z (putF "_rows" y (putF "_inputs" x [])) = ([("_inputs", x), ("_rows", y), ("_placed", z)] : List (Str × V)) := by
  have n1 : ¬ (("_inputs" : Str) = "_rows") := by decide +kernel
  have n2 : ¬ (("_inputs" : Str) = "_placed") := by decide +kernel
  have n3 : ¬ (("_rows" : Str) = "_placed") := by decide +kernel
  show putF "_placed" z (if ("_inputs" : Str) = "_rows" then _ else (("_inputs" : Str), x) :: putF "_rows" y []) = _
  rw [if_neg n1]
  show (if ("_inputs" : Str) = "_placed" then _ else (("_inputs" : Str), x) :: (if ("_rows" : Str) = "_placed" then _ else (("_rows" : Str), y) :: putF "_placed" z [])) = _
  rw [if_neg n2, if_neg n3]
  rfl
end BR

/-! ### programs that are changed: their rows -/
namespace BR
open PySem PySem.Spec PyProof.Rows L2
section
variable {x y z : V}
theorem lk_in : ([("_inputs", x), ("_rows", y), ("_placed", z)] : List (Str × V)).lookup ("_inputs" : Str) = some x := rfl
theorem lk_rows : ([("_inputs", x), ("_rows", y), ("_placed", z)] : List (Str × V)).lookup ("_rows" : Str) = some y := by
  rw [List.lookup_cons, show (("_rows" : Str) == "_inputs") = false by decide +kernel]
  rfl
theorem lk_placed : ([("_inputs", x), ("_rows", y), ("_placed", z)] : List (Str × V)).lookup ("_placed" : Str) = some z := by
  rw [List.lookup_cons, show (("_placed" : Str) == "_inputs") = false by decide +kernel]
  show List.lookup ("_placed" : Str) _ = _
  rw [List.lookup_cons, show (("_placed" : Str) == "_rows") = false by decide +kernel]
  rfl
theorem lk_no {m : Str} (h1 : (m == "_inputs") = false) (h2 : (m == "_rows") = false) (h3 : (m == "_placed") = false) : ([("_inputs", x), ("_rows", y), ("_placed", z)] : List (Str × V)).lookup m = none := by
  rw [List.lookup_cons, h1]
  show List.lookup m _ = _
  rw [List.lookup_cons, h2]
  show List.lookup m _ = _
  rw [List.lookup_cons, h3]
  rfl
end
def mvZ (ls by' i : Int) : Int := if ls ≤ i then i + by' else i
def mvI (ls by' : Int) (q : V × V) : V := if q.1 = .str "T" then (match q.2 with | .int i => .int (mvZ ls by' i) | v => v) else q.2
theorem mvI_R {ls by' : Int} {x : V} : mvI ls by' (.str "R", x) = x := by
  unfold mvI
  exact if_neg (show ¬ (V.str "R" = V.str "T") by decide +kernel)
theorem mvI_C {ls by' : Int} {x : V} : mvI ls by' (.str "C", x) = x := by
  unfold mvI
  exact if_neg (show ¬ (V.str "C" = V.str "T") by decide +kernel)
theorem mvI_T {ls by' i : Int} : mvI ls by' (.str "T", .int i) = .int (mvZ ls by' i) := by
  unfold mvI
  exact if_pos rfl
def mvRow (ls by' : Int) (r : List V) : List V := match r with
  | .str w :: xs => (match fmT.lookup w with | some f => .str w :: ((sgn f).zip xs).map (mvI ls by') | none => .str w :: xs)
  | r => r
theorem mvRow_some {ls by' : Int} {w f : Str} {xs : List V} (h : fmT.lookup w = some f) : mvRow ls by' (.str w :: xs) = .str w :: ((sgn f).zip xs).map (mvI ls by') := by simp only [mvRow, h]
section
variable {ns : List Str} {size size' : Int}
theorem item_mv {k x : V} {ls by' : Int} (hk : isKd k) (h : itemOk k x ns size = true) (hm : ∀ i, 0 ≤ i → i ≤ size → 0 ≤ mvZ ls by' i ∧ mvZ ls by' i ≤ size') : itemOk k (mvI ls by' (k, x)) ns size' = true := by
  rcases hk with rfl | rfl | rfl
  · rw [mvI_R]
    rw [item_R] at h ⊢
    exact h
  · rw [mvI_C]
    rw [item_C] at h ⊢
    exact h
  · rw [item_T] at h
    cases x with
    | int i =>
      rw [mvI_T, item_T]
      dsimp only at h ⊢
      obtain ⟨a, b⟩ := Bool.and_eq_true_iff.mp h
      obtain ⟨c, d⟩ := hm i (of_decide_eq_true a) (of_decide_eq_true b)
      rw [decide_eq_true c, decide_eq_true d]
      rfl
    | _ => exact absurd (show false = true from h) (by decide)
theorem all_mv {ls by' : Int} (hm : ∀ i, 0 ≤ i → i ≤ size → 0 ≤ mvZ ls by' i ∧ mvZ ls by' i ≤ size') : ∀ (ks xs : List V), (∀ k ∈ ks, isKd k) → ((ks.zip xs).all fun q => itemOk q.1 q.2 ns size) = true → ((ks.zip ((ks.zip xs).map (mvI ls by'))).all fun q => itemOk q.1 q.2 ns size') = true
  | [], _, _, _ => rfl
  | _ :: _, [], _, _ => rfl
  | k :: ks, x :: xs, hk, h => by
    rw [List.zip_cons_cons, List.all_cons] at h
    obtain ⟨a, b⟩ := Bool.and_eq_true_iff.mp h
    rw [List.zip_cons_cons, List.map_cons, List.zip_cons_cons, List.all_cons]
    rw [item_mv (hk k List.mem_cons_self) a hm, all_mv hm ks xs (fun k m => hk k (List.mem_cons_of_mem _ m)) b]
    rfl
theorem rowOk_mv {ls by' : Int} {r : List V} (hm : ∀ i, 0 ≤ i → i ≤ size → 0 ≤ mvZ ls by' i ∧ mvZ ls by' i ≤ size') (h : rowOk ns size r = true) : rowOk ns size' (mvRow ls by' r) = true := by
  obtain ⟨w, xs, f, rfl, fl⟩ := rowOk_shape h
  rw [rowOk_some fl] at h
  obtain ⟨a, b⟩ := Bool.and_eq_true_iff.mp h
  have a := of_decide_eq_true a
  rw [mvRow_some fl, rowOk_some fl, all_mv hm _ _ (fm_all _ (lookup_mem fl)).1 b, decide_eq_true (by rw [List.length_map, List.length_zip, sgn_len, a, Nat.min_self])]
  rfl
theorem rowOk_le {r : List V} (hs : size ≤ size') (h : rowOk ns size r = true) : rowOk ns size' r = true := by
  obtain ⟨w, xs, f, rfl, fl⟩ := rowOk_shape h
  rw [rowOk_some fl] at h ⊢
  obtain ⟨a, b⟩ := Bool.and_eq_true_iff.mp h
  rw [a, Bool.true_and]
  rw [List.all_eq_true] at b ⊢
  intro q m
  have c := b q m
  obtain ⟨k, x⟩ := q
  have hk := (fm_all _ (lookup_mem fl)).1 k (List.of_mem_zip m).1
  have e := item_mv (size' := size') (ls := size + 1) (by' := 0) hk c fun i i0 i1 => by unfold mvZ; rw [if_neg (by omega)]; exact ⟨i0, by omega⟩
  rcases hk with rfl | rfl | rfl
  · rw [mvI_R] at e
    exact e
  · rw [mvI_C] at e
    exact e
  · rw [item_T] at c ⊢
    cases x with
    | int i =>
      dsimp only at c ⊢
      obtain ⟨c1, c2⟩ := Bool.and_eq_true_iff.mp c
      rw [c1, decide_eq_true (by have := of_decide_eq_true c2; omega)]
      rfl
    | _ => exact absurd (show false = true from c) (by decide)
theorem atom_ok {k x : V} (hk : isKd k) (h : itemOk k x ns size = true) : Atom x ∧ (k = .str "C" → ∃ z, x = .str z) := by
  rcases hk with rfl | rfl | rfl
  · rw [item_R] at h
    cases x with
    | str z => exact ⟨.s z, fun _ => ⟨z, rfl⟩⟩
    | _ => exact absurd (show false = true from h) (by decide)
  · rw [item_C] at h
    cases x with
    | str z => exact ⟨.s z, fun _ => ⟨z, rfl⟩⟩
    | _ => exact absurd (show false = true from h) (by decide)
  · rw [item_T] at h
    cases x with
    | int i => exact ⟨.i i, fun e => absurd e (by decide +kernel)⟩
    | _ => exact absurd (show false = true from h) (by decide)
theorem zip_all : ∀ {ks xs : List V}, xs.length = ks.length → ∀ x ∈ xs, ∃ k ∈ ks, (k, x) ∈ ks.zip xs
  | [], [], _, x, m => nomatch m
  | k :: ks, y :: ys, h, x, m => by
    rcases List.mem_cons.mp m with rfl | m
    · exact ⟨k, List.mem_cons_self, by rw [List.zip_cons_cons]; exact List.mem_cons_self⟩
    · obtain ⟨k', a, b⟩ := zip_all (ks := ks) (xs := ys) (Nat.succ.inj h) x m
      exact ⟨k', List.mem_cons_of_mem _ a, by rw [List.zip_cons_cons]; exact List.mem_cons_of_mem _ b⟩
  | [], _ :: _, h, _, _ => nomatch h
theorem rowIs_ok {r : List V} (h : rowOk ns size r = true) : RowIs r := by
  obtain ⟨w, xs, f, rfl, fl⟩ := rowOk_shape h
  rw [rowOk_some fl] at h
  obtain ⟨a, b⟩ := Bool.and_eq_true_iff.mp h
  have a := of_decide_eq_true a
  obtain ⟨f1, f2, _⟩ := fm_all _ (lookup_mem fl)
  have f2 : f.cps.size ≤ 3 := f2
  have al := List.all_eq_true.mp b
  refine ⟨.inr ⟨w, xs, rfl⟩, fun x m => ?_, fun w2 xs2 f2 e e2 e3 q m ek => ?_, by rw [List.length_cons]; omega⟩
  · rcases List.mem_cons.mp m with rfl | m
    · exact .s w
    · obtain ⟨k, hk, mz⟩ := zip_all (ks := sgn f) (xs := xs) (by rw [sgn_len, a]) x m
      exact (atom_ok (f1 k hk) (al _ mz)).1
  · cases e
    rw [fl] at e2
    cases e2
    obtain ⟨k, x⟩ := q
    exact (atom_ok (f1 k (List.of_mem_zip m).1) (al _ m)).2 ek
end
theorem cut_pre {xs : List V} {j : Nat} (h : j ≤ xs.length) : cutV xs none (some (j : Int)) = xs.take j := by
  unfold cutV
  rw [HT.sIx_nat, HT.sIx_none, Nat.min_eq_left h, Nat.sub_zero]
  rfl
theorem cut_post {xs : List V} {j : Nat} (h : j ≤ xs.length) : cutV xs (some (j : Int)) none = xs.drop j := by
  unfold cutV
  rw [HT.sIx_nat, HT.sIx_none, Nat.min_eq_left h, List.take_of_length_le]
  rw [List.length_drop]
  exact Nat.le_refl _
theorem cut_out {as : List Addr} {j : Nat} (h : j < as.length) : cutV (as.map V.ref) none (some (j : Int)) ++ cutV (as.map V.ref) (some ((j : Int) + 1)) none = (as.eraseIdx j).map V.ref := by
  rw [cut_pre (by rw [List.length_map]; omega), show ((j : Int) + 1) = ((j + 1 : Nat) : Int) from rfl, cut_post (by rw [List.length_map]; omega), List.eraseIdx_eq_take_drop_succ, List.map_append, List.map_take, List.map_drop]
theorem pr_erase {α β : Type} {R : α → β → Prop} : ∀ {as : List α} {bs : List β} (j : Nat), Paired R as bs → Paired R (as.eraseIdx j) (bs.eraseIdx j)
  | _, _, _, .nil => .nil
  | _, _, 0, .cons _ t => t
  | _, _, j + 1, .cons h t => .cons h (pr_erase j t)
theorem RowsAt.up {H : Hp} {D : Addr} {o : HO} {ys : List V} {as : List Addr} {rs : List (List V)} (h : RowsAt H as rs) (e : H D = some (.lst ys)) : RowsAt (upd H D o) as rs := prm h fun a r q => by
  rw [upd_ne (fun z => by rw [z, e] at q; cases q)]
  exact q
end BR

/-! ### rows as the laws draw them -/
namespace BR
open PySem PySem.Spec PyProof.Rows L2
theorem rows_add {H H' : Hp} {as : List Addr} {rs : List (List V)} {t : Addr} {r : List V} (h : RowsAt H as rs) (s : Same H H') (e : H' t = some (.tup r)) : RowsAt H' (as ++ [t]) (rs ++ [r]) := pra (h.same s) (.cons e .nil)
theorem rowIs_strs (z : Str) (zs : List Str) (h : zs.length ≤ 9) : RowIs (.str z :: zs.map V.str) := by
  refine ⟨.inr ⟨_, _, rfl⟩, fun x m => ?_, fun w xs f e _ _ q hq _ => ?_, by rw [List.length_cons, List.length_map]; omega⟩
  · rcases List.mem_cons.mp m with rfl | m
    · exact .s _
    · obtain ⟨y, _, rfl⟩ := List.mem_map.mp m
      exact .s _
  · have ex := (List.cons.inj e).2
    subst ex
    obtain ⟨y, _, ey⟩ := List.mem_map.mp (List.of_mem_zip (show (q.1, q.2) ∈ (sgn f).zip (zs.map V.str) from hq)).2
    exact ⟨y, ey.symm⟩
theorem rowIs_jump (g : Int) : RowIs [.str "jump", .int g] := by
  refine ⟨.inr ⟨_, _, rfl⟩, fun x m => ?_, fun w xs f e lk _ q hq hc => ?_, by show _ + 1 ≤ 10; simp⟩
  · simp only [List.mem_cons, List.not_mem_nil, or_false] at m
    rcases m with rfl | rfl
    · exact .s _
    · exact .i _
  · obtain ⟨e1, e2⟩ := List.cons.inj e
    obtain rfl := V.str.inj e1
    rw [show fmT.lookup ("jump" : Str) = some ("T" : Str) by decide +kernel] at lk
    cases lk
    have m := (List.of_mem_zip (show (q.1, q.2) ∈ (sgn "T").zip xs from hq)).1
    rw [hc] at m
    exact absurd m (by decide +kernel)
theorem rowIs_jif (c : Str) (g : Int) : RowIs [.str "jif", .str c, .int g] := by
  refine ⟨.inr ⟨_, _, rfl⟩, fun x m => ?_, fun w xs f e lk _ q hq hc => ?_, by show _ + 1 ≤ 10; simp⟩
  · simp only [List.mem_cons, List.not_mem_nil, or_false] at m
    rcases m with rfl | rfl | rfl
    · exact .s _
    · exact .s _
    · exact .i _
  · obtain ⟨e1, e2⟩ := List.cons.inj e
    obtain rfl := V.str.inj e1
    rw [show fmT.lookup ("jif" : Str) = some ("CT" : Str) by decide +kernel] at lk
    cases lk
    subst e2
    rw [show sgn "CT" = [.str "C", .str "T"] by decide +kernel] at hq
    simp only [List.zip_cons_cons, List.zip_nil_left, List.mem_cons, List.not_mem_nil, or_false] at hq
    rcases hq with rfl | rfl
    · exact ⟨_, rfl⟩
    · exact absurd (show V.str "T" = V.str "C" from hc) (by decide +kernel)
theorem rowIs_jif1 (g : Int) : RowIs [.str "jif", .int g] := by
  refine ⟨.inr ⟨_, _, rfl⟩, fun x m => ?_, fun w xs f e lk l q hq hc => ?_, by show _ + 1 ≤ 10; simp⟩
  · simp only [List.mem_cons, List.not_mem_nil, or_false] at m
    rcases m with rfl | rfl
    · exact .s _
    · exact .i _
  · obtain ⟨e1, e2⟩ := List.cons.inj e
    obtain rfl := V.str.inj e1
    rw [show fmT.lookup ("jif" : Str) = some ("CT" : Str) by decide +kernel] at lk
    cases lk
    subst e2
    exact absurd (show 1 = ("CT" : Str).cps.size from l) (by decide +kernel)
section
variable {ns : List Str} {size : Int} {a b c w : Str} {g : Int}
theorem it_R (h : a ∈ ns) : itemOk (.str "R") (.str a) ns size = true := by
  rw [item_R]
  exact decide_eq_true h
theorem it_C (h : c ∈ conds) : itemOk (.str "C") (.str c) ns size = true := by
  rw [item_C]
  exact decide_eq_true h
theorem it_T (h : 0 ≤ g ∧ g ≤ size) : itemOk (.str "T") (.int g) ns size = true := by
  rw [item_T]
  show (decide (0 ≤ g) && decide (g ≤ size)) = true
  rw [decide_eq_true h.1, decide_eq_true h.2]
  rfl
theorem ok_RR (hw : fmT.lookup w = some ("RR" : Str)) (ha : a ∈ ns) (hb : b ∈ ns) : rowOk ns size [.str w, .str a, .str b] = true := by
  rw [rowOk_some hw, show sgn "RR" = [.str "R", .str "R"] by decide +kernel]
  show (true && (itemOk (.str "R") (.str a) ns size && (itemOk (.str "R") (.str b) ns size && true))) = true
  rw [it_R ha, it_R hb]
  rfl
theorem ok_CRR (hc : c ∈ conds) (ha : a ∈ ns) (hb : b ∈ ns) : rowOk ns size [.str "cmov", .str c, .str a, .str b] = true := by
  rw [rowOk_some (show fmT.lookup ("cmov" : Str) = some ("CRR" : Str) by decide +kernel), show sgn "CRR" = [.str "C", .str "R", .str "R"] by decide +kernel]
  show (true && (itemOk (.str "C") (.str c) ns size && (itemOk (.str "R") (.str a) ns size && (itemOk (.str "R") (.str b) ns size && true)))) = true
  rw [it_C hc, it_R ha, it_R hb]
  rfl
theorem ok_T (h : 0 ≤ g ∧ g ≤ size) : rowOk ns size [.str "jump", .int g] = true := by
  rw [rowOk_some (show fmT.lookup ("jump" : Str) = some ("T" : Str) by decide +kernel), show sgn "T" = [.str "T"] by decide +kernel]
  show (true && (itemOk (.str "T") (.int g) ns size && true)) = true
  rw [it_T h]
  rfl
theorem ok_CT (hc : c ∈ conds) (h : 0 ≤ g ∧ g ≤ size) : rowOk ns size [.str "jif", .str c, .int g] = true := by
  rw [rowOk_some (show fmT.lookup ("jif" : Str) = some ("CT" : Str) by decide +kernel), show sgn "CT" = [.str "C", .str "T"] by decide +kernel]
  show (true && (itemOk (.str "C") (.str c) ns size && (itemOk (.str "T") (.int g) ns size && true))) = true
  rw [it_C hc, it_T h]
  rfl
theorem ok_R (ha : a ∈ ns) : rowOk ns size [.str "out", .str a] = true := by
  rw [rowOk_some (show fmT.lookup ("out" : Str) = some ("R" : Str) by decide +kernel), show sgn "R" = [.str "R"] by decide +kernel]
  show (true && (itemOk (.str "R") (.str a) ns size && true)) = true
  rw [it_R ha]
  rfl
theorem ok_0 : rowOk ns size [.str "stop"] = true := by
  rw [rowOk_some (show fmT.lookup ("stop" : Str) = some ("" : Str) by decide +kernel), show sgn "" = [] by decide +kernel]
  rfl
end
/-- a list of names at one address, one of them drawn -/
theorem at_str {zs : List Str} {d : Int} (h0 : 0 ≤ d) (h1 : d < (zs.length : Int)) : ∃ z ∈ zs, atI (zs.map V.str) d = some (.str z) := by
  have h : d.toNat < zs.length := by omega
  exact ⟨zs[d.toNat], List.getElem_mem h, at_of (j := d.toNat) (by omega) (by rw [List.getElem?_map, List.getElem?_eq_getElem h]; rfl)⟩
theorem at_int {zs : List Int} {d : Int} (h0 : 0 ≤ d) (h1 : d < (zs.length : Int)) : ∃ z ∈ zs, atI (zs.map V.int) d = some (.int z) := by
  have h : d.toNat < zs.length := by omega
  exact ⟨zs[d.toNat], List.getElem_mem h, at_of (j := d.toNat) (by omega) (by rw [List.getElem?_map, List.getElem?_eq_getElem h]; rfl)⟩
theorem Pool.nl {H : Hp} {p x : Addr} {n : Nat} {xs : List Str} (pl : Pool H p n) (e : H x = some (.lst (xs.map V.str))) : x ≠ p := fun z => by
  obtain ⟨_, _, _, ep, _⟩ := pl
  rw [z, ep] at e
  cases xs with
  | nil => cases e
  | cons y ys => exact nomatch (List.cons.inj (HO.lst.inj (Option.some.inj e))).1
theorem Pool.nr {H : Hp} {p x : Addr} {n : Nat} {xs : List Addr} (pl : Pool H p n) (e : H x = some (.lst (xs.map V.ref))) : x ≠ p := fun z => by
  obtain ⟨_, _, _, ep, _⟩ := pl
  rw [z, ep] at e
  cases xs with
  | nil => cases e
  | cons y ys => exact nomatch (List.cons.inj (HO.lst.inj (Option.some.inj e))).1
theorem Pool.nt {H : Hp} {p x : Addr} {n : Nat} {xs : List V} (pl : Pool H p n) (e : H x = some (.tup xs)) : x ≠ p := fun z => by
  obtain ⟨_, _, _, ep, _⟩ := pl
  rw [z, ep] at e
  cases e
theorem row_eq {w : Str} {xs r : List V} (h : RowIs (.str w :: xs)) (e : r = .str w :: xs) : (∃ w xs, r = .str w :: xs) ∧ RowIs r := by
  subst e
  exact ⟨⟨_, _, rfl⟩, h⟩
theorem at_row {H : Hp} {as : List Addr} {rs : List (List V)} {d : Int} (h : RowsAt H as rs) (h0 : 0 ≤ d) (h1 : d < (rs.length : Int)) : ∃ t r, r ∈ rs ∧ H t = some (.tup r) ∧ atI (as.map V.ref) d = some (.ref t) := by
  have l := Paired.length h
  have k : d.toNat < as.length := by omega
  obtain ⟨r, hr, e⟩ := prG h (List.getElem?_eq_getElem k)
  exact ⟨_, r, List.mem_of_getElem? hr, e, at_of (j := d.toNat) (by omega) (by rw [List.getElem?_map, List.getElem?_eq_getElem k]; rfl)⟩
theorem RowsAt.but {H H' : Hp} {p : Addr} {n : Nat} {as : List Addr} {rs : List (List V)} (h : RowsAt H as rs) (b : But p H H') (pl : Pool H p n) : RowsAt H' as rs := prm h fun a r e => b a _ (fun z => by
  obtain ⟨_, _, _, ep, _⟩ := pl
  rw [z, ep] at e
  cases e) e
theorem regs_all (n : Nat) : (regs n).map V.str = sgn (cutS "pqrs" none (some (n : Int))) ++ [.str "x", .str "y"] ∨ ¬ (1 ≤ n ∧ n ≤ 4) := by
  by_cases h : 1 ≤ n ∧ n ≤ 4
  · refine .inl ?_
    have : n = 1 ∨ n = 2 ∨ n = 3 ∨ n = 4 := by omega
    rcases this with rfl | rfl | rfl | rfl <;> decide +kernel
  · exact .inr h
end BR
namespace BR
open PySem PySem.Spec PyProof.Rows L2
/-- items that are read and change nothing -/
def TupOf (A : TA) (σ : L2.St) (xs : List V) : Prop := ∀ (H : Hp) (Q : List V → Hp → Prop), Q xs H → A σ H Q
theorem TupOf.nil {σ : L2.St} : TupOf tNil σ [] := fun _ _ q => q
theorem TupOf.con {σ : L2.St} {v : V} {A : TA} {xs : List V} (h : TupOf A σ xs) : TupOf (tCons (tC v) A) σ (v :: xs) := fun H Q q => h H _ q
theorem TupOf.var {σ : L2.St} {i : Nat} {v : V} {A : TA} {xs : List V} (e : σ[i]? = some (some v)) (h : TupOf A σ xs) : TupOf (tCons (tVar i) A) σ (v :: xs) := fun H Q q => ⟨v, e, h H _ q⟩
/-- a list of new tuples -/
def LstOf (B : TA) (σ : L2.St) (rs : List (List V)) : Prop := ∀ (H : Hp) (Q : List V → Hp → Prop), (∀ (ts : List Addr) (H' : Hp), Same H H' → RowsAt H' ts rs → Q (ts.map V.ref) H') → B σ H Q
theorem LstOf.nil {σ : L2.St} : LstOf tNil σ [] := fun H _ q => q [] H (Same.refl H) .nil
theorem LstOf.cons {σ : L2.St} {A B : TA} {xs : List V} {rs : List (List V)} (h : TupOf A σ xs) (hl : xs.length ≤ 1000) (hs : LstOf B σ rs) : LstOf (tCons (tTup A) B) σ (xs :: rs) := fun H Q q =>
  h H _ ⟨Nat.le_of_lt (small1000 (by omega)), fun t ht => hs _ _ fun ts H' s r => q (t :: ts) H' ((sameNew ht).trans s) (.cons (s _ _ upd_same) r)⟩
theorem lst_of {B : TA} {σ : L2.St} {H : Hp} {Q : VK} {rs : List (List V)} (h : LstOf B σ rs) (hl : rs.length ≤ 1000) (k : ∀ (l : Addr) (ts : List Addr) (H' : Hp), H l = none → Same H H' → H' l = some (.lst (ts.map V.ref)) → RowsAt H' ts rs → Q (.ref l) H') : tLst B σ H Q :=
  h H _ fun ts H' s r => ⟨Nat.le_of_lt (small1000 (by rw [List.length_map, Paired.length r]; omega)), fun l hl' => k l ts _ (s.free hl') (s.trans (sameNew hl')) upd_same (r.same (sameNew hl'))⟩
theorem lstc_of {B : TA} {σ : L2.St} {H : Hp} {Q : VK} {xs : List V} (h : TupOf B σ xs) (hl : xs.length ≤ 1000) (k : ∀ (l : Addr) (H' : Hp), H l = none → Same H H' → H' l = some (.lst xs) → Q (.ref l) H') : tLst B σ H Q :=
  h H _ ⟨Nat.le_of_lt (small1000 (by omega)), fun l hl' => k l _ hl' (sameNew hl') upd_same⟩
theorem cat_of {H : Hp} {Q : VK} {a b : Addr} {xs ys : List V} (ea : H a = some (.lst xs)) (eb : H b = some (.lst ys)) (hl : xs.length + ys.length ≤ 1000) (k : ∀ (p : Addr) (H' : Hp), H p = none → Same H H' → H' p = some (.lst (xs ++ ys)) → Q (.ref p) H') : rCat (.ref a) (.ref b) H Q :=
  ⟨a, b, xs, ys, rfl, rfl, ea, eb, Nat.le_of_lt (small1000 (by omega)), fun p hp => k p _ hp (sameNew hp) upd_same⟩
/-- rows in two lists, put together -/
theorem cat_rows {H : Hp} {Q : VK} {a b : Addr} {as bs : List Addr} {rs qs : List (List V)} (ea : H a = some (.lst (as.map V.ref))) (eb : H b = some (.lst (bs.map V.ref))) (ra : RowsAt H as rs) (rb : RowsAt H bs qs) (hl : rs.length + qs.length ≤ 1000) (k : ∀ (p : Addr) (H' : Hp), H p = none → Same H H' → H' p = some (.lst ((as ++ bs).map V.ref)) → RowsAt H' (as ++ bs) (rs ++ qs) → Q (.ref p) H') : rCat (.ref a) (.ref b) H Q :=
  cat_of ea eb (by rw [List.length_map, List.length_map, Paired.length ra, Paired.length rb]; exact hl) fun p H' hp s e => k p H' hp s (by rw [List.map_append]; exact e) (pra (ra.same s) (rb.same s))
theorem len_ok {α : Type} {xs : List α} (h : xs.length.ble 1000 = true) : xs.length ≤ 1000 := Nat.le_of_ble_eq_true h
theorem sa_of {te : TE} {g : TG} {S : TS} {D : Ends} {σ : L2.St} {H : Hp} (h : te σ H fun x H1 => g x σ H1 fun σ2 H2 => S D σ2 H2) : tSeq (tAsg te g) S D σ H := h
theorem gn_of {i : Nat} {v : V} {σ : L2.St} {H : Hp} {k : L2.St → Hp → Prop} (h : k (σ.set i (some v)) H) : gName i v σ H k := h
end BR
namespace BR
open PySem PySem.Spec PyProof.Rows L2
/-- the forms as the laws write them -/
def shT : List (Str × Str) := [("cmp", "rr"), ("mov", "rr"), ("swap", "rr"), ("cmov", "crr"), ("jump", "t"), ("jif", "ct"), ("out", "r"), ("stop", "")]
def lowV (k : V) : V := if k = .str "R" then .str "r" else if k = .str "C" then .str "c" else .str "t"
theorem sh_all : ∀ q ∈ fmT, (match shT.lookup q.1 with | some g => decide (g.cps.size = q.2.cps.size) && decide (sgn g = (sgn q.2).map lowV) && decide (g.length = g.cps.size) | none => false) = true := by decide +kernel
theorem sh_some {w f : Str} (h : fmT.lookup w = some f) : ∃ g, shT.lookup w = some g ∧ g.cps.size = f.cps.size ∧ sgn g = (sgn f).map lowV ∧ g.length = g.cps.size := by
  have q := sh_all _ (lookup_mem h)
  dsimp only at q
  cases e : shT.lookup w with
  | none =>
    rw [e] at q
    exact absurd (show false = true from q) (by decide)
  | some g =>
    rw [e] at q
    dsimp only at q
    rw [Bool.and_eq_true, Bool.and_eq_true, decide_eq_true_eq, decide_eq_true_eq, decide_eq_true_eq] at q
    exact ⟨g, rfl, q.1.1, q.1.2, q.2⟩
theorem sh_back : ∀ q ∈ shT, (fmT.lookup q.1).isSome = true := by decide +kernel
theorem sh_none {w : Str} (h : fmT.lookup w = none) : shT.lookup w = none := by
  cases e : shT.lookup w with
  | none => rfl
  | some g =>
    have q := sh_back _ (lookup_mem e)
    rw [h] at q
    exact absurd q (by decide)
theorem val_str : ∀ (l : List (Str × Str)) (w : Str), valV (l.map fun q => ((Sum.inr q.1 : Key), V.str q.2)) (Sum.inr w) = (l.lookup w).map V.str
  | [], _ => rfl
  | (a, b) :: l, w => by
    have ih := val_str l w
    unfold valV at ih ⊢
    rw [List.map_cons, List.find?_cons, List.lookup_cons]
    by_cases c : a = w
    · subst c
      rw [decide_eq_true rfl, beq_self_eq_true]
      rfl
    · rw [decide_eq_false (show ¬ (Sum.inr a : Key) = Sum.inr w from fun z => c (Sum.inr.inj z)), show (w == a) = false from beq_eq_false_iff_ne.mpr (Ne.symm c)]
      exact ih
theorem it_inR {y : V} (h : Atom y) (ns : List Str) (size : Int) : itemOk (.str "R") y ns size = inV y (ns.map V.str) := by
  rw [item_R]
  cases h with
  | s z => exact (inV_str).symm
  | i n => exact (inV_int _).symm
theorem it_inC {y : V} (h : Atom y) (ns : List Str) (size : Int) : itemOk (.str "C") y ns size = inV y (conds.map V.str) := by
  rw [item_C]
  cases h with
  | s z => exact (inV_str).symm
  | i n => exact (inV_int _).symm
end BR
namespace BR
open PySem PySem.Spec PyProof.Rows L2
/-- a list against the empty one -/
def rNeNil : R2 := fun x y H Q => ∃ (a b : Addr) (xs : List V), x = .ref a ∧ y = .ref b ∧ H a = some (.lst xs) ∧ H b = some (.lst []) ∧ Q (.bl (!xs.isEmpty)) H
theorem op_neNil {X : Cx} (hu : X.A.units + 64 < cLine) : OpR X (compareOp .NotEq) rNeNil := by
  intro pins s σ H x y v u Q I rx ry h
  obtain ⟨a, b, xs, ex, ey, ha, hb, q⟩ := h
  cases xs with
  | nil => exact op_neD hu pins s σ H x y v u Q I rx ry ⟨.list [], .list [], ex ▸ .lst (SqL.of ha) .nil, ey ▸ .lst (SqL.of hb) .nil, rfl, rfl, q⟩
  | cons z zs =>
    subst ex ey
    obtain rfl : v = Value.ref a := rx
    obtain rfl : u = Value.ref b := ry
    obtain ⟨its, rv, p, _⟩ := I.list (SqL.of ha)
    obtain ⟨its2, rv2, p2, _⟩ := I.list (SqL.of hb)
    have l1 := rv.length
    have l2 := rv2.length
    have sz : (its.toArray.size != its2.toArray.size) = true := by
      rw [List.size_toArray, List.size_toArray, ← l1, ← l2]
      rfl
    exact PySem.SeqAt.RcNeAt.lists_lengths p.isList p2.isList sz (by omega) X.prog X.w _ _ ⟨.bl true, H, I, rfl, q⟩
end BR
namespace BR
open PySem PySem.Spec PyProof.Rows L2
theorem prog_keep {K : PySem.W.Frag} {H H' : Hp} {C a dx l t p q : Addr} {n : Int} {m : Nat} {as : List Addr} {rs : List (List V)} {xs : List V} (h : ProgAt K H C a n as rs) (ea : H a = some (.ins C dx [("_inputs", .int n), ("_rows", .ref l), ("_placed", .ref t)])) (nl : l ≠ q) (pl : Pool H p m) (hq : H q = some (.lst xs))
    (k : ∀ b o, b ≠ p → b ≠ q → H b = some o → H' b = some o) : ProgAt K H' C a n as rs ∧ H' a = some (.ins C dx [("_inputs", .int n), ("_rows", .ref l), ("_placed", .ref t)]) := by
  obtain ⟨_, _, _, ep, _⟩ := pl
  obtain ⟨dx', l', t', ps, e1, e2, e3, e4, e5, r⟩ := h
  have q0 := e1.symm.trans ea
  injection q0 with q0
  injection q0 with _ q1 q0
  injection q0 with _ q0
  injection q0 with q0 q2
  injection q0 with _ q0
  injection q0 with q0
  have tp : ∀ b ys, H b = some (.tup ys) → H' b = some (.tup ys) := fun b ys e => k b _ (fun z => by rw [z, ep] at e; cases e) (fun z => by rw [z, hq] at e; cases e) e
  have ia : ∀ o, H a = some o → H' a = some o := fun o e => k a o (fun z => by rw [z, ep] at ea; cases ea) (fun z => by rw [z, hq] at ea; cases ea) e
  refine ⟨⟨dx', l', t', ps, ia _ e1, k l' _ (fun z => ?_) (fun z => nl (q0 ▸ z)) e2, prm e3 fun a r e => tp a r e, tp _ _ e4, prm e5 fun a r e => e.tp tp, r⟩, ia _ ea⟩
  rw [z, ep] at e2
  cases as with
  | nil => cases e2
  | cons y ys => exact nomatch (List.cons.inj (HO.lst.inj (Option.some.inj e2))).1
theorem pr_set {α β : Type} {R : α → β → Prop} {a : α} {b : β} (h : R a b) : ∀ {as : List α} {bs : List β} {i : Nat}, Paired R as bs → Paired R (as.set i a) (bs.set i b)
  | _, _, _, .nil => .nil
  | _, _, 0, .cons _ t => .cons h t
  | _, _, i + 1, .cons x t => .cons x (pr_set h t)
theorem flagC {σ : L2.St} {H : Hp} {Q : VK} {wd : Str} {v : V} {tb : TE} {b : Bool} (hb : ∀ (H' : Hp) (Q' : VK), Same H H' → (∀ H'', Same H' H'' → Q' (.bl b) H'') → tb σ H' Q')
    (k : ∀ g0 g2 H', Same H H' → H' g0 = some (.lst [.str wd, v]) → H' g2 = some (.lst (if b = true then [.ref g0] else [])) → Q (.ref g2) H') :
    tOp rRep (tLst (tCons (tLst (tCons (tC (.str wd)) (tCons (tC v) tNil))) tNil)) (tCB (fun xs H Q => (∃ i, xs = [V.int i] ∧ Q (V.int i) H) ∨ ∃ k, xs = [V.bl k] ∧ Q (V.int (if k = true then 1 else 0)) H) (tCons tb tNil)) σ H Q := by
  refine ⟨(by show 2 ≤ sizeLine; decide), fun g0 hg0 => ⟨(by show 1 ≤ sizeLine; decide), fun g1 hg1 => ?_⟩⟩
  refine hb _ _ ((sameNew hg0).trans (sameNew hg1)) fun H2 s2 => .inr ⟨_, rfl, g1, _, [.ref g0], rfl, rfl, s2 _ _ upd_same, by split <;> decide, by split <;> decide, (by show 1 * _ ≤ sizeLine; split <;> decide), fun g2 hg2 => ?_⟩
  rw [rep_if]
  exact k g0 g2 _ (((sameNew hg0).trans (sameNew hg1)).trans (s2.trans (sameNew hg2))) ((sameNew hg2) _ _ (s2 _ _ ((sameNew hg1) _ _ upd_same))) upd_same
end BR
namespace BR
open PySem PySem.Spec PyProof.Rows L2
theorem ProgAt.but {K : PySem.W.Frag} {H H' : Hp} {C a p : Addr} {n : Int} {m : Nat} {as : List Addr} {rs : List (List V)} (h : ProgAt K H C a n as rs) (b : But p H H') (pl : Pool H p m) : ProgAt K H' C a n as rs := by
  obtain ⟨dx', l', t', ps, e1, e2, e3, e4, e5, r⟩ := h
  have tp : ∀ c ys, H c = some (.tup ys) → H' c = some (.tup ys) := fun c ys e => b c _ (pl.nt e) e
  have na : a ≠ p := fun z => by
    obtain ⟨_, _, _, ep, _⟩ := pl
    rw [z, ep] at e1
    cases e1
  exact ⟨dx', l', t', ps, b _ _ na e1, b _ _ (pl.nr e2) e2, prm e3 fun a r e => tp a r e, tp _ _ e4, prm e5 fun a r e => e.tp tp, r⟩
end BR
namespace BR
open PySem PySem.Spec PyProof.Rows L2
theorem opl {r : R2} {A B : TE} {σ : L2.St} {H : Hp} {Q : VK} (h : A σ H fun x H1 => B σ H1 fun y H2 => r x y H2 Q) : tOp r A B σ H Q := h
theorem le1k (b : Bool) (x : V) : (if b = true then [x] else []).length + [x].length ≤ 1000 := by cases b <;> simp
theorem rowIs_nil : RowIs [] := ⟨.inl rfl, fun x m => (nomatch m), fun w xs f e => (nomatch e), by decide⟩
theorem lst_in {B : TA} {σ : L2.St} {H : Hp} {Q : VK} (h : B σ H fun xs H1 => xs.length ≤ sizeLine ∧ ∀ p, H1 p = none → Q (.ref p) (upd H1 p (.lst xs))) : tLst B σ H Q := h
theorem cons_in {ta : TE} {tr : TA} {σ : L2.St} {H : Hp} {Q : List V → Hp → Prop} (h : ta σ H fun x H1 => tr σ H1 fun xs H2 => Q (x :: xs) H2) : tCons ta tr σ H Q := h
theorem con_in {v : V} {tr : TA} {σ : L2.St} {H : Hp} {Q : List V → Hp → Prop} (h : tr σ H fun xs H2 => Q (v :: xs) H2) : tCons (tC v) tr σ H Q := h
theorem call_in {sp : Sp} {dvs : List V} {E : XK} {t : TA} {σ : L2.St} {H : Hp} {Q : VK} (h : t σ H fun vs H1 => sp (vs ++ dvs) H1 Q E) : tCall sp dvs E t σ H Q := h
end BR

namespace BR
open PySem PySem.Spec PyProof.Rows L2
/-! ### the text by places -/
def top (i : Nat) : Stmt := PySem.Challenge.pw_branchorders_k17_errors_of_programs.main.body.getD i (.Pass ⟨0, 0, 0, 0⟩)
abbrev s_register_names : Stmt := top 23
abbrev s_parts_of : Stmt := top 24
abbrev s_Program___init : Stmt := inClass (top 25) 0
abbrev s_Program___len : Stmt := inClass (top 25) 4
abbrev s_Program___add : Stmt := inClass (top 25) 6
abbrev s_Program_without : Stmt := inClass (top 25) 7
abbrev s_is_row : Stmt := top 26
abbrev s_is_item : Stmt := top 27
abbrev s_placed_row : Stmt := top 28
abbrev s_placed_item : Stmt := top 29
abbrev s_with_moved_target : Stmt := top 30
abbrev s_law_pool : Stmt := top 32
abbrev s_law_draw : Stmt := top 33
abbrev s_law_conds : Stmt := top 34
abbrev s_law_code : Stmt := top 35
abbrev s_law_kind : Stmt := top 36
abbrev s_law_told : Stmt := top 37
abbrev s_law_wrong_row : Stmt := top 38
abbrev s_law_is_row : Stmt := top 39
abbrev s_law_right : Stmt := top 40
abbrev s_law : Stmt := top 41
abbrev s_InvalidWidth : Stmt := inClass (top 3) 0
abbrev s_InvalidWords : Stmt := inClass (top 4) 0
abbrev s_InvalidOutcome : Stmt := inClass (top 5) 0
abbrev s_InvalidCondition : Stmt := inClass (top 6) 0
abbrev s_InvalidRanking : Stmt := inClass (top 7) 0
abbrev s_InvalidKnowledge : Stmt := inClass (top 8) 0
abbrev s_InvalidProgram : Stmt := inClass (top 9) 0
abbrev s_InvalidRow : Stmt := inClass (top 10) 0
abbrev s_InvalidRegister : Stmt := inClass (top 11) 0
abbrev s_InvalidQuery : Stmt := inClass (top 12) 0
abbrev s_InvalidTable : Stmt := inClass (top 13) 0
abbrev s_InvalidNumber : Stmt := inClass (top 14) 0
abbrev s_UnlikeInputs : Stmt := inClass (top 15) 0
abbrev s_NothingToUndo : Stmt := inClass (top 16) 0
abbrev s_Unreadable : Stmt := inClass (top 17) 0
structure Ad where
  v_CONDITIONS : Addr
  p_CONDITIONS_0 : Addr
  p_CONDITIONS_1 : Addr
  p_CONDITIONS_2 : Addr
  p_CONDITIONS_3 : Addr
  p_CONDITIONS_4 : Addr
  p_CONDITIONS_5 : Addr
  p_CONDITIONS_6 : Addr
  p_CONDITIONS_7 : Addr
  p_CONDITIONS_8 : Addr
  p_CONDITIONS_9 : Addr
  p_CONDITIONS_10 : Addr
  p_CONDITIONS_11 : Addr
  v_INPUT_NAMES : Addr
  v_OTHER_NAMES : Addr
  v_FORMS : Addr
  c_InvalidWidth : Addr
  c_InvalidWords : Addr
  c_InvalidOutcome : Addr
  c_InvalidCondition : Addr
  c_InvalidRanking : Addr
  c_InvalidKnowledge : Addr
  c_InvalidProgram : Addr
  c_InvalidRow : Addr
  c_InvalidRegister : Addr
  c_InvalidQuery : Addr
  c_InvalidTable : Addr
  c_InvalidNumber : Addr
  c_UnlikeInputs : Addr
  c_NothingToUndo : Addr
  c_Unreadable : Addr
  c_BranchError : Addr
  i_InvalidWidth : Addr
  di_InvalidWidth : FuncData
  i_InvalidWords : Addr
  di_InvalidWords : FuncData
  i_InvalidOutcome : Addr
  di_InvalidOutcome : FuncData
  i_InvalidCondition : Addr
  di_InvalidCondition : FuncData
  i_InvalidRanking : Addr
  di_InvalidRanking : FuncData
  i_InvalidKnowledge : Addr
  di_InvalidKnowledge : FuncData
  i_InvalidProgram : Addr
  di_InvalidProgram : FuncData
  i_InvalidRow : Addr
  di_InvalidRow : FuncData
  i_InvalidRegister : Addr
  di_InvalidRegister : FuncData
  i_InvalidQuery : Addr
  di_InvalidQuery : FuncData
  i_InvalidTable : Addr
  di_InvalidTable : FuncData
  i_InvalidNumber : Addr
  di_InvalidNumber : FuncData
  i_UnlikeInputs : Addr
  di_UnlikeInputs : FuncData
  i_NothingToUndo : Addr
  di_NothingToUndo : FuncData
  i_Unreadable : Addr
  di_Unreadable : FuncData
  c_Program : Addr
  a_register_names : Addr
  d_register_names : FuncData
  a_parts_of : Addr
  d_parts_of : FuncData
  a_Program___init : Addr
  d_Program___init : FuncData
  a_Program___len : Addr
  d_Program___len : FuncData
  a_Program___add : Addr
  d_Program___add : FuncData
  a_Program_without : Addr
  d_Program_without : FuncData
  a_is_row : Addr
  d_is_row : FuncData
  a_is_item : Addr
  d_is_item : FuncData
  a_placed_row : Addr
  d_placed_row : FuncData
  a_placed_item : Addr
  d_placed_item : FuncData
  a_with_moved_target : Addr
  d_with_moved_target : FuncData
  a_law_pool : Addr
  d_law_pool : FuncData
  a_law_draw : Addr
  d_law_draw : FuncData
  a_law_conds : Addr
  d_law_conds : FuncData
  a_law_code : Addr
  d_law_code : FuncData
  a_law_kind : Addr
  d_law_kind : FuncData
  a_law_told : Addr
  d_law_told : FuncData
  a_law_wrong_row : Addr
  d_law_wrong_row : FuncData
  a_law_is_row : Addr
  d_law_is_row : FuncData
  a_law_right : Addr
  d_law_right : FuncData
  a_law : Addr
  d_law : FuncData
structure TyFacts (K : PySem.W.Frag) (C : Addr) : Prop where
  ha : PySem.W.findIn K (.ref C) "__class__" = some (some (.builtin "object.__class__"))
  hn : PySem.W.specialIn K (.builtin "object.__class__") "__get__" = some (some (.builtin "getset_descriptor.__get__"))
  ht : PySem.W.takesIn K (.builtin "object.__class__") = some true
  hm : PySem.W.mroIn K C (.type "object") = some true
  one : PySem.W.kitOne K (.ref C) (.ref C) = some true
structure Txt (w : World) (K : PySem.W.Frag) (mg : Str → Option Value) (A0 : Ad) : Prop where
  g_register_names : mg "register_names" = some (.ref A0.a_register_names)
  F_register_names : Fun K "register_names" "register_names" s_register_names A0.a_register_names A0.d_register_names
  g_parts_of : mg "parts_of" = some (.ref A0.a_parts_of)
  F_parts_of : Fun K "parts_of" "parts_of" s_parts_of A0.a_parts_of A0.d_parts_of
  me_Program___init : Meth K A0.c_Program "__init__" A0.a_Program___init
  F_Program___init : Fun K "__init__" "Program.__init__" s_Program___init A0.a_Program___init A0.d_Program___init
  me_Program___len : Meth K A0.c_Program "__len__" A0.a_Program___len
  F_Program___len : Fun K "__len__" "Program.__len__" s_Program___len A0.a_Program___len A0.d_Program___len
  me_Program___add : Meth K A0.c_Program "__add__" A0.a_Program___add
  F_Program___add : Fun K "__add__" "Program.__add__" s_Program___add A0.a_Program___add A0.d_Program___add
  me_Program_without : Meth K A0.c_Program "without" A0.a_Program_without
  F_Program_without : Fun K "without" "Program.without" s_Program_without A0.a_Program_without A0.d_Program_without
  g_is_row : mg "_is_row" = some (.ref A0.a_is_row)
  F_is_row : Fun K "_is_row" "_is_row" s_is_row A0.a_is_row A0.d_is_row
  g_is_item : mg "_is_item" = some (.ref A0.a_is_item)
  F_is_item : Fun K "_is_item" "_is_item" s_is_item A0.a_is_item A0.d_is_item
  g_placed_row : mg "_placed_row" = some (.ref A0.a_placed_row)
  F_placed_row : Fun K "_placed_row" "_placed_row" s_placed_row A0.a_placed_row A0.d_placed_row
  g_placed_item : mg "_placed_item" = some (.ref A0.a_placed_item)
  F_placed_item : Fun K "_placed_item" "_placed_item" s_placed_item A0.a_placed_item A0.d_placed_item
  g_with_moved_target : mg "_with_moved_target" = some (.ref A0.a_with_moved_target)
  F_with_moved_target : Fun K "_with_moved_target" "_with_moved_target" s_with_moved_target A0.a_with_moved_target A0.d_with_moved_target
  g_law_pool : mg "_law_pool" = some (.ref A0.a_law_pool)
  F_law_pool : Fun K "_law_pool" "_law_pool" s_law_pool A0.a_law_pool A0.d_law_pool
  g_law_draw : mg "_law_draw" = some (.ref A0.a_law_draw)
  F_law_draw : Fun K "_law_draw" "_law_draw" s_law_draw A0.a_law_draw A0.d_law_draw
  g_law_conds : mg "_law_conds" = some (.ref A0.a_law_conds)
  F_law_conds : Fun K "_law_conds" "_law_conds" s_law_conds A0.a_law_conds A0.d_law_conds
  g_law_code : mg "_law_code" = some (.ref A0.a_law_code)
  F_law_code : Fun K "_law_code" "_law_code" s_law_code A0.a_law_code A0.d_law_code
  g_law_kind : mg "_law_kind" = some (.ref A0.a_law_kind)
  F_law_kind : Fun K "_law_kind" "_law_kind" s_law_kind A0.a_law_kind A0.d_law_kind
  g_law_told : mg "_law_told" = some (.ref A0.a_law_told)
  F_law_told : Fun K "_law_told" "_law_told" s_law_told A0.a_law_told A0.d_law_told
  g_law_wrong_row : mg "_law_wrong_row" = some (.ref A0.a_law_wrong_row)
  F_law_wrong_row : Fun K "_law_wrong_row" "_law_wrong_row" s_law_wrong_row A0.a_law_wrong_row A0.d_law_wrong_row
  g_law_is_row : mg "_law_is_row" = some (.ref A0.a_law_is_row)
  F_law_is_row : Fun K "_law_is_row" "_law_is_row" s_law_is_row A0.a_law_is_row A0.d_law_is_row
  g_law_right : mg "_law_right" = some (.ref A0.a_law_right)
  F_law_right : Fun K "_law_right" "_law_right" s_law_right A0.a_law_right A0.d_law_right
  g_law : mg "law" = some (.ref A0.a_law)
  F_law : Fun K "law" "law" s_law A0.a_law A0.d_law
  gc_Program : mg "Program" = some (.ref A0.c_Program)
  cl_Program : Cls K A0.c_Program
  mk_Program : Mk K A0.c_Program A0.a_Program___init
  nf_Program__inputs : NoAttr K A0.c_Program "_inputs"
  nf_Program__rows : NoAttr K A0.c_Program "_rows"
  nf_Program__placed : NoAttr K A0.c_Program "_placed"
  ty_Program : TyFacts K A0.c_Program
  sf_Program : PySem.W.selfFirst K A0.c_Program = true
  b_ValueError : mg "ValueError" = none
  b_abs : mg "abs" = none
  b_all : mg "all" = none
  b_enumerate : mg "enumerate" = none
  b_int : mg "int" = none
  b_isinstance : mg "isinstance" = none
  b_len : mg "len" = none
  b_list : mg "list" = none
  b_max : mg "max" = none
  b_min : mg "min" = none
  b_range : mg "range" = none
  b_str : mg "str" = none
  b_tuple : mg "tuple" = none
  b_type : mg "type" = none
  b_zip : mg "zip" = none
  gv_CONDITIONS : mg "CONDITIONS" = some (.ref A0.v_CONDITIONS)
  kt_CONDITIONS : ∀ P : Program, KTab K P w A0.v_CONDITIONS [("e", .ref A0.p_CONDITIONS_0), ("ne", .ref A0.p_CONDITIONS_1), ("l", .ref A0.p_CONDITIONS_2), ("le", .ref A0.p_CONDITIONS_3), ("g", .ref A0.p_CONDITIONS_4), ("ge", .ref A0.p_CONDITIONS_5), ("b", .ref A0.p_CONDITIONS_6), ("be", .ref A0.p_CONDITIONS_7), ("a", .ref A0.p_CONDITIONS_8), ("ae", .ref A0.p_CONDITIONS_9), ("same", .ref A0.p_CONDITIONS_10), ("mixed", .ref A0.p_CONDITIONS_11)]
  tv_CONDITIONS_0 : TupK K A0.p_CONDITIONS_0 ["E"]
  tv_CONDITIONS_1 : TupK K A0.p_CONDITIONS_1 ["LB", "GA", "GB", "LA"]
  tv_CONDITIONS_2 : TupK K A0.p_CONDITIONS_2 ["LB", "LA"]
  tv_CONDITIONS_3 : TupK K A0.p_CONDITIONS_3 ["E", "LB", "LA"]
  tv_CONDITIONS_4 : TupK K A0.p_CONDITIONS_4 ["GA", "GB"]
  tv_CONDITIONS_5 : TupK K A0.p_CONDITIONS_5 ["E", "GA", "GB"]
  tv_CONDITIONS_6 : TupK K A0.p_CONDITIONS_6 ["LB", "GB"]
  tv_CONDITIONS_7 : TupK K A0.p_CONDITIONS_7 ["E", "LB", "GB"]
  tv_CONDITIONS_8 : TupK K A0.p_CONDITIONS_8 ["GA", "LA"]
  tv_CONDITIONS_9 : TupK K A0.p_CONDITIONS_9 ["E", "GA", "LA"]
  tv_CONDITIONS_10 : TupK K A0.p_CONDITIONS_10 ["E", "LB", "GA"]
  tv_CONDITIONS_11 : TupK K A0.p_CONDITIONS_11 ["GB", "LA"]
  gv_INPUT_NAMES : mg "INPUT_NAMES" = some (.ref A0.v_INPUT_NAMES)
  tv_INPUT_NAMES : TupK K A0.v_INPUT_NAMES ["p", "q", "r", "s"]
  gv_OTHER_NAMES : mg "OTHER_NAMES" = some (.ref A0.v_OTHER_NAMES)
  tv_OTHER_NAMES : TupK K A0.v_OTHER_NAMES ["x", "y"]
  gv_FORMS : mg "FORMS" = some (.ref A0.v_FORMS)
  kt_FORMS : ∀ P : Program, KTab K P w A0.v_FORMS [("cmp", .str "RR"), ("mov", .str "RR"), ("swap", .str "RR"), ("cmov", .str "CRR"), ("jump", .str "T"), ("jif", .str "CT"), ("out", .str "R"), ("stop", .str "")]
  gc_InvalidWidth : mg "InvalidWidth" = some (.ref A0.c_InvalidWidth)
  er_InvalidWidth : ErrTxt K A0.c_InvalidWidth A0.i_InvalidWidth
  FI_InvalidWidth : Fun K "__init__" "InvalidWidth.__init__" s_InvalidWidth A0.i_InvalidWidth A0.di_InvalidWidth
  xm_InvalidWidth : PySem.W.exmOne K (.ref A0.c_InvalidWidth) (.ref A0.c_BranchError) = some true
  gc_InvalidWords : mg "InvalidWords" = some (.ref A0.c_InvalidWords)
  er_InvalidWords : ErrTxt K A0.c_InvalidWords A0.i_InvalidWords
  FI_InvalidWords : Fun K "__init__" "InvalidWords.__init__" s_InvalidWords A0.i_InvalidWords A0.di_InvalidWords
  xm_InvalidWords : PySem.W.exmOne K (.ref A0.c_InvalidWords) (.ref A0.c_BranchError) = some true
  gc_InvalidOutcome : mg "InvalidOutcome" = some (.ref A0.c_InvalidOutcome)
  er_InvalidOutcome : ErrTxt K A0.c_InvalidOutcome A0.i_InvalidOutcome
  FI_InvalidOutcome : Fun K "__init__" "InvalidOutcome.__init__" s_InvalidOutcome A0.i_InvalidOutcome A0.di_InvalidOutcome
  xm_InvalidOutcome : PySem.W.exmOne K (.ref A0.c_InvalidOutcome) (.ref A0.c_BranchError) = some true
  gc_InvalidCondition : mg "InvalidCondition" = some (.ref A0.c_InvalidCondition)
  er_InvalidCondition : ErrTxt K A0.c_InvalidCondition A0.i_InvalidCondition
  FI_InvalidCondition : Fun K "__init__" "InvalidCondition.__init__" s_InvalidCondition A0.i_InvalidCondition A0.di_InvalidCondition
  xm_InvalidCondition : PySem.W.exmOne K (.ref A0.c_InvalidCondition) (.ref A0.c_BranchError) = some true
  gc_InvalidRanking : mg "InvalidRanking" = some (.ref A0.c_InvalidRanking)
  er_InvalidRanking : ErrTxt K A0.c_InvalidRanking A0.i_InvalidRanking
  FI_InvalidRanking : Fun K "__init__" "InvalidRanking.__init__" s_InvalidRanking A0.i_InvalidRanking A0.di_InvalidRanking
  xm_InvalidRanking : PySem.W.exmOne K (.ref A0.c_InvalidRanking) (.ref A0.c_BranchError) = some true
  gc_InvalidKnowledge : mg "InvalidKnowledge" = some (.ref A0.c_InvalidKnowledge)
  er_InvalidKnowledge : ErrTxt K A0.c_InvalidKnowledge A0.i_InvalidKnowledge
  FI_InvalidKnowledge : Fun K "__init__" "InvalidKnowledge.__init__" s_InvalidKnowledge A0.i_InvalidKnowledge A0.di_InvalidKnowledge
  xm_InvalidKnowledge : PySem.W.exmOne K (.ref A0.c_InvalidKnowledge) (.ref A0.c_BranchError) = some true
  gc_InvalidProgram : mg "InvalidProgram" = some (.ref A0.c_InvalidProgram)
  er_InvalidProgram : ErrTxt K A0.c_InvalidProgram A0.i_InvalidProgram
  FI_InvalidProgram : Fun K "__init__" "InvalidProgram.__init__" s_InvalidProgram A0.i_InvalidProgram A0.di_InvalidProgram
  xm_InvalidProgram : PySem.W.exmOne K (.ref A0.c_InvalidProgram) (.ref A0.c_BranchError) = some true
  gc_InvalidRow : mg "InvalidRow" = some (.ref A0.c_InvalidRow)
  er_InvalidRow : ErrTxt K A0.c_InvalidRow A0.i_InvalidRow
  FI_InvalidRow : Fun K "__init__" "InvalidRow.__init__" s_InvalidRow A0.i_InvalidRow A0.di_InvalidRow
  xm_InvalidRow : PySem.W.exmOne K (.ref A0.c_InvalidRow) (.ref A0.c_BranchError) = some true
  gc_InvalidRegister : mg "InvalidRegister" = some (.ref A0.c_InvalidRegister)
  er_InvalidRegister : ErrTxt K A0.c_InvalidRegister A0.i_InvalidRegister
  FI_InvalidRegister : Fun K "__init__" "InvalidRegister.__init__" s_InvalidRegister A0.i_InvalidRegister A0.di_InvalidRegister
  xm_InvalidRegister : PySem.W.exmOne K (.ref A0.c_InvalidRegister) (.ref A0.c_BranchError) = some true
  gc_InvalidQuery : mg "InvalidQuery" = some (.ref A0.c_InvalidQuery)
  er_InvalidQuery : ErrTxt K A0.c_InvalidQuery A0.i_InvalidQuery
  FI_InvalidQuery : Fun K "__init__" "InvalidQuery.__init__" s_InvalidQuery A0.i_InvalidQuery A0.di_InvalidQuery
  xm_InvalidQuery : PySem.W.exmOne K (.ref A0.c_InvalidQuery) (.ref A0.c_BranchError) = some true
  gc_InvalidTable : mg "InvalidTable" = some (.ref A0.c_InvalidTable)
  er_InvalidTable : ErrTxt K A0.c_InvalidTable A0.i_InvalidTable
  FI_InvalidTable : Fun K "__init__" "InvalidTable.__init__" s_InvalidTable A0.i_InvalidTable A0.di_InvalidTable
  xm_InvalidTable : PySem.W.exmOne K (.ref A0.c_InvalidTable) (.ref A0.c_BranchError) = some true
  gc_InvalidNumber : mg "InvalidNumber" = some (.ref A0.c_InvalidNumber)
  er_InvalidNumber : ErrTxt K A0.c_InvalidNumber A0.i_InvalidNumber
  FI_InvalidNumber : Fun K "__init__" "InvalidNumber.__init__" s_InvalidNumber A0.i_InvalidNumber A0.di_InvalidNumber
  xm_InvalidNumber : PySem.W.exmOne K (.ref A0.c_InvalidNumber) (.ref A0.c_BranchError) = some true
  gc_UnlikeInputs : mg "UnlikeInputs" = some (.ref A0.c_UnlikeInputs)
  er_UnlikeInputs : ErrTxt K A0.c_UnlikeInputs A0.i_UnlikeInputs
  FI_UnlikeInputs : Fun K "__init__" "UnlikeInputs.__init__" s_UnlikeInputs A0.i_UnlikeInputs A0.di_UnlikeInputs
  xm_UnlikeInputs : PySem.W.exmOne K (.ref A0.c_UnlikeInputs) (.ref A0.c_BranchError) = some true
  gc_NothingToUndo : mg "NothingToUndo" = some (.ref A0.c_NothingToUndo)
  er_NothingToUndo : ErrTxt K A0.c_NothingToUndo A0.i_NothingToUndo
  FI_NothingToUndo : Fun K "__init__" "NothingToUndo.__init__" s_NothingToUndo A0.i_NothingToUndo A0.di_NothingToUndo
  xm_NothingToUndo : PySem.W.exmOne K (.ref A0.c_NothingToUndo) (.ref A0.c_BranchError) = some true
  gc_Unreadable : mg "Unreadable" = some (.ref A0.c_Unreadable)
  er_Unreadable : ErrTxt K A0.c_Unreadable A0.i_Unreadable
  FI_Unreadable : Fun K "__init__" "Unreadable.__init__" s_Unreadable A0.i_Unreadable A0.di_Unreadable
  xm_Unreadable : PySem.W.exmOne K (.ref A0.c_Unreadable) (.ref A0.c_BranchError) = some true
  gc_BranchError : mg "BranchError" = some (.ref A0.c_BranchError)
  xb : PySem.W.excIn K A0.c_BranchError [.type "ValueError", .type "Exception", .type "BaseException", .type "object"] "ValueError.__new__" = true
  kb : PySem.W.keepIn K (.ref A0.c_BranchError) = true
  eb : ExcC K A0.c_BranchError
  tab : kitTab K [A0.c_InvalidWidth, A0.c_InvalidWords, A0.c_InvalidOutcome, A0.c_InvalidCondition, A0.c_InvalidRanking, A0.c_InvalidKnowledge, A0.c_InvalidProgram, A0.c_InvalidRow, A0.c_InvalidRegister, A0.c_InvalidQuery, A0.c_InvalidTable, A0.c_InvalidNumber, A0.c_UnlikeInputs, A0.c_NothingToUndo, A0.c_Unreadable] A0.c_BranchError = true
/-- what a door lets out: the number of the class, the value -/
def inR (rs : List Int) (i : Int) : Bool := decide (0 ≤ i) && decide (i < (rs.length : Int))
def resRk (q : Addr) (rs : List Int) (c : Int) (r : Option (Nat × V)) : Option (Nat × V) := if okR rs c = true then r else some (4, .ref q)
def resW (wd : Int) (r : Option (Nat × V)) : Option (Nat × V) := if 1 ≤ wd then r else some (0, .int wd)
def resN (n : Int) (r : Option (Nat × V)) : Option (Nat × V) := if 1 ≤ n ∧ n ≤ 5 then r else some (11, .int n)
def resP (rs : List Int) (i j : Int) : Option (Nat × V) := if inR rs i = true then (if inR rs j = true then none else some (11, .int j)) else some (11, .int i)
def toldL (r : Option (Nat × V)) : List V := match r with | some (j, v) => [.str (kindName j), v] | none => [.str "none", .non]
/-- behind a try: what was caught -/
def MidK (H : Hp) (CS : List Addr) (l : L2.St) (r : Option (Nat × V)) (σ : L2.St) (H1 : Hp) : Prop := ∃ caught, σ = l ++ [some caught, none] ∧ Same H H1 ∧ ((caught = .non ∧ r = none) ∨ ∃ (a C : Addr) (j : Nat) (v : V), caught = .ref a ∧ ErrK H1 a C "value" v ∧ CS[j]? = some C ∧ kindName j ≠ "odd" ∧ r = some (j, v))
theorem MidK.bad {H : Hp} {CS : List Addr} {l : L2.St} {r : Option (Nat × V)} {j : Nat} {v : V} {C e a : Addr} {H' : Hp} (hc : CS[j]? = some C) (ho : kindName j ≠ "odd") (hr : r = some (j, v)) (s : Same H H') (he : H' e = some (.xd [("value", v)])) (n : H' a = none) :
    MidK H CS l r (l ++ [some (.ref a), none]) (upd H' a (exk a (.ref C) (some e))) :=
  ⟨_, rfl, s.trans (sameNew n), .inr ⟨a, C, j, v, rfl, ⟨e, upd_same, by rw [upd_ne (ne_of_none he n)]; exact he⟩, hc, ho, hr⟩⟩
theorem MidK.free {H : Hp} {CS : List Addr} {l : L2.St} {r : Option (Nat × V)} {H' : Hp} (hr : r = none) (s : Same H H') : MidK H CS l r (l ++ [some .non, none]) H' := ⟨_, rfl, s, .inl ⟨rfl, hr⟩⟩
theorem inR_yes {rs : List Int} {i : Int} (h : 0 ≤ i ∧ i < (rs.length : Int)) : inR rs i = true := by unfold inR; rw [← Bool.decide_and]; exact decide_eq_true h
theorem inR_no {rs : List Int} {i : Int} (h : ¬ (0 ≤ i ∧ i < (rs.length : Int))) : inR rs i = false := by unfold inR; rw [← Bool.decide_and]; exact decide_eq_false h
inductive Door (K : PySem.W.Frag) (H : Hp) : Int → V → V → V → Option (Nat × V) → Prop
  | d0 {q rt : Addr} {rs : List Int} {c i j : Int} : RkAt H q rt rs c → rs.length ≤ 5 → Door K H 0 (.ref q) (.int i) (.int j) (resRk q rs c (resP rs i j))
  | d1 {q rt : Addr} {rs : List Int} {c : Int} {x2 x3 : V} : RkAt H q rt rs c → rs.length ≤ 5 → Door K H 1 (.ref q) x2 x3 (resRk q rs c none)
  | d2 {q rt : Addr} {rs : List Int} {c wd : Int} {x3 : V} : RkAt H q rt rs c → rs.length ≤ 5 → wd ≤ 1000 → Door K H 2 (.ref q) (.int wd) x3 (resRk q rs c (resW wd none))
  | d3 {q rt : Addr} {rs : List Int} {c wd : Int} {x3 : V} : RkAt H q rt rs c → rs.length ≤ 5 → wd ≤ 1000 → Door K H 3 (.ref q) (.int wd) x3 (resRk q rs c (resW wd none))
  | d4 {q rt : Addr} {rs : List Int} {c : Int} {x2 x3 : V} : RkAt H q rt rs c → 1 ≤ rs.length → rs.length ≤ 5 → Door K H 4 (.ref q) x2 x3 (resRk q rs c none)
  | d5 {t : Addr} {xs : List Int} {wd : Int} {x3 : V} {r : Option (Nat × V)} : SqT K H t (xs.map V.int) → xs.length ≤ 60 → wd ≤ 1000 → ((∀ x ∈ xs, Word wd x) → r = none) → (∀ i, BadAt wd xs i → r = some (1, .int (i : Nat))) → Door K H 5 (.int wd) (.ref t) x3 (resW wd r)
  | d6 {n : Int} {x2 x3 : V} : Door K H 6 (.int n) x2 x3 (resN n none)
  | d7 {n j : Int} {x3 : V} : Door K H 7 (.int n) (.int j) x3 (resN n (if 0 ≤ j ∧ j < ((allRk n.toNat).length : Int) then none else some (11, .int j)))
def dOf (rs : List Int) (c : Int) : V → PyData
  | .int z => .int z
  | _ => rkD rs c
def toldD (rs : List Int) (c : Int) : Option (Nat × V) → PyData
  | none => .list [.str "none", .none]
  | some (j, v) => .list [.str (kindName j), dOf rs c v]
def Fit (q : Addr) : Option (Nat × V) → Prop
  | none => True
  | some (_, v) => v = .ref q ∨ ∃ z, v = .int z
theorem told_dp {K : PySem.W.Frag} {H : Hp} {d q rt : Addr} {rs : List Int} {c : Int} {r : Option (Nat × V)} (h : H d = some (.lst (toldL r))) (hr : RkAt H q rt rs c) (f : Fit q r) : Dp K H (.ref d) (toldD rs c r) := by
  match r, h, f with
  | none, h, _ => exact .lst (SqL.of h) (.cons (.str _) (.cons .non .nil))
  | some (j, v), h, .inl e => subst e; exact .lst (SqL.of h) (.cons (.str _) (.cons hr.dp .nil))
  | some (j, v), h, .inr ⟨z, e⟩ => subst e; exact .lst (SqL.of h) (.cons (.str _) (.cons (.int z) .nil))
theorem kind_lay (j : Nat) : (PyData.str (kindName j)).canLay0 = true := by
  by_cases h : j < 15
  · exact (show ∀ j ∈ List.range 15, (PyData.str (kindName j)).canLay0 = true by decide +kernel) j (List.mem_range.mpr h)
  · have e : kindName j = "odd" := by
      unfold kindName
      rw [List.getD_eq_getElem?_getD, List.getElem?_eq_none (by show 15 ≤ j; omega)]
      rfl
    rw [e]
    decide +kernel
theorem told_lay {q : Addr} {rs : List Int} {c : Int} {r : Option (Nat × V)} (f : Fit q r) : (toldD rs c r).canLay0 = true ∧ (toldD rs c r).depth ≤ 3 := by
  obtain ⟨l1, l2⟩ := rkD_lay (rs, c)
  match r, f with
  | none, _ => exact ⟨(by show PyData.canLay0 (.list [.str "none", .none]) = true; decide +kernel), (by show PyData.depth (.list [.str "none", .none]) ≤ 3; decide +kernel)⟩
  | some (j, v), .inl e =>
    subst e
    refine ⟨?_, ?_⟩
    · show (PyData.canLay0 (.str (kindName j)) && ((rkD rs c).canLay0 && true)) = true
      rw [show (rkD rs c).canLay0 = true from l1, kind_lay]
      rfl
    · show max 0 (max (rkD rs c).depth 0) + 1 ≤ 3
      rw [show (rkD rs c).depth = 2 from l2]
      decide
  | some (j, v), .inr ⟨z, e⟩ =>
    subst e
    refine ⟨?_, (by show max 0 (max 0 0) + 1 ≤ 3; decide)⟩
    show (PyData.canLay0 (.str (kindName j)) && (true && true)) = true
    rw [kind_lay]
    rfl
theorem told_all {q : Addr} {rs : List Int} {c : Int} : ∀ {l : List (Option (Nat × V))}, (∀ r ∈ l, Fit q r) → PyData.canLayAll0 (l.map (toldD rs c)) = true ∧ PyData.depthAll (l.map (toldD rs c)) ≤ 3
  | [], _ => ⟨rfl, Nat.zero_le _⟩
  | r :: l, h => by
    obtain ⟨a, b⟩ := told_lay (rs := rs) (c := c) (h r List.mem_cons_self)
    obtain ⟨x, y⟩ := told_all (rs := rs) (c := c) fun s m => h s (List.mem_cons_of_mem r m)
    refine ⟨?_, ?_⟩
    · show ((toldD rs c r).canLay0 && PyData.canLayAll0 (l.map (toldD rs c))) = true
      rw [a, x]
      rfl
    · show max (toldD rs c r).depth (PyData.depthAll (l.map (toldD rs c))) ≤ 3
      omega
theorem told_sh {q : Addr} {rs : List Int} {c : Int} {l : List (Option (Nat × V))} (h : ∀ r ∈ l, Fit q r) : SeqAt.shaped (.list (l.map (toldD rs c))) = true := by
  obtain ⟨a, b⟩ := told_all (rs := rs) (c := c) h
  unfold SeqAt.shaped
  show (PyData.canLayAll0 (l.map (toldD rs c)) && decide (PyData.depthAll (l.map (toldD rs c)) + 1 ≤ 64)) = true
  rw [a, decide_eq_true (by omega)]
  rfl
theorem toldAll_dp {K : PySem.W.Frag} {H : Hp} {q rt : Addr} {rs : List Int} {c : Int} (hr : RkAt H q rt rs c) : ∀ {l : List (Option (Nat × V))} {ds : List Addr}, Paired (fun d r => H d = some (.lst (toldL r)) ∧ Fit q r) ds l → DpAll K H (ds.map V.ref) (l.map (toldD rs c))
  | _, _, .nil => .nil
  | _, _, .cons h t => .cons (told_dp h.1 hr h.2) (toldAll_dp hr t)
def notPool : HO → Bool
  | .lst [.int _, .int _, .int _] => false
  | _ => true
theorem But.keep {H H' : Hp} {p x : Addr} {n : Nat} {o : HO} (b : But p H H') (pl : Pool H p n) (e : H x = some o) (ne : notPool o = true) : H' x = some o := by
  refine b x o (fun z => ?_) e
  obtain ⟨g, bb, c, ep, _⟩ := pl
  rw [z, ep] at e
  rw [← Option.some.inj e] at ne
  exact Bool.noConfusion ne
theorem RkAt.but {H H' : Hp} {p q rt : Addr} {n : Nat} {rs : List Int} {c : Int} (h : RkAt H q rt rs c) (b : But p H H') (pl : Pool H p n) : RkAt H' q rt rs c := ⟨b.keep pl h.1 rfl, b.keep pl h.2 rfl⟩
theorem refs_np (bs : List Addr) : notPool (.lst (bs.map V.ref)) = true := by cases bs <;> rfl
def Nums (H : Hp) (bs : List Addr) (zs : List Int) : Prop := Paired (fun b z => H b = some (.lst [.str "number", .int z])) bs zs
theorem Nums.same {H H' : Hp} {bs : List Addr} {zs : List Int} (h : Nums H bs zs) (s : Same H H') : Nums H' bs zs := pr_mono h fun a r e => s _ _ e
theorem Nums.but {H H' : Hp} {p : Addr} {n : Nat} {bs : List Addr} {zs : List Int} (h : Nums H bs zs) (b : But p H H') (pl : Pool H p n) : Nums H' bs zs := pr_mono h fun a r e => b.keep pl e rfl
theorem atI0 {x : V} {l : List V} : atI (x :: l) 0 = some x := by
  unfold atI ixN
  simp
/-- the first of some lists -/
theorem due_bad {H : Hp} {q : Addr} {rs : List Int} {c i j : Int} {e0 f0 : Addr} {bs : List Addr} (h1 : H e0 = some (.lst [.str "ranking", .ref q])) (h2 : H f0 = some (.lst [.str "none", .non])) (h3 : Nums H bs ([i, j].filter fun z => !inR rs z)) :
    ∃ d, atI ((if (!okR rs c) = true then [V.ref e0] else []) ++ bs.map V.ref ++ [V.ref f0]) 0 = some (.ref d) ∧ H d = some (.lst (toldL (resRk q rs c (resP rs i j)))) := by
  unfold resRk resP
  cases o : okR rs c with
  | false => exact ⟨e0, atI0, h1⟩
  | true =>
    cases yi : inR rs i with
    | false =>
      simp only [List.filter, yi, Bool.not_false] at h3
      cases h3 with
      | cons a b => exact ⟨_, atI0, a⟩
    | true =>
      cases yj : inR rs j with
      | false =>
        simp only [List.filter, yi, yj, Bool.not_false, Bool.not_true] at h3
        cases h3 with
        | cons a b => exact ⟨_, atI0, a⟩
      | true =>
        simp only [List.filter, yi, yj, Bool.not_true] at h3
        cases h3
        exact ⟨f0, atI0, h2⟩
theorem due_one {H : Hp} {q : Addr} {rs : List Int} {c : Int} {e0 f0 : Addr} (h1 : H e0 = some (.lst [.str "ranking", .ref q])) (h2 : H f0 = some (.lst [.str "none", .non])) :
    ∃ d, atI ((if (!okR rs c) = true then [V.ref e0] else []) ++ [V.ref f0]) 0 = some (.ref d) ∧ H d = some (.lst (toldL (resRk q rs c none))) := by
  unfold resRk
  cases o : okR rs c with
  | false => exact ⟨e0, atI0, h1⟩
  | true => exact ⟨f0, atI0, h2⟩
theorem due_late {H : Hp} {q : Addr} {rs : List Int} {c wd : Int} {e0 f0 g0 : Addr} (h1 : H e0 = some (.lst [.str "ranking", .ref q])) (h2 : H f0 = some (.lst [.str "none", .non])) (h3 : H g0 = some (.lst [.str "wide", .int wd])) :
    ∃ d, atI ((if (!okR rs c) = true then [V.ref e0] else []) ++ (if decide (wd < 1) = true then [V.ref g0] else []) ++ [V.ref f0]) 0 = some (.ref d) ∧ H d = some (.lst (toldL (resRk q rs c (resW wd none)))) := by
  unfold resRk resW
  cases o : okR rs c with
  | false => exact ⟨e0, atI0, h1⟩
  | true =>
    by_cases l : wd < 1
    · rw [decide_eq_true l, show (if 1 ≤ wd then none else some ((0 : Nat), V.int wd)) = some (0, V.int wd) from if_neg (by omega)]
      exact ⟨g0, atI0, h3⟩
    · rw [decide_eq_false l, show (if 1 ≤ wd then none else some ((0 : Nat), V.int wd)) = none from if_pos (by omega)]
      exact ⟨f0, atI0, h2⟩
theorem Nums.up {H : Hp} {B : Addr} {o : HO} {bs bs' : List Addr} {zs : List Int} (h : Nums H bs zs) (eB : H B = some (.lst (bs'.map V.ref))) : Nums (upd H B o) bs zs := pr_mono h fun a r e => by
  rw [upd_ne (fun z => ?_)]
  · exact e
  · rw [z, eB] at e
    cases bs' with
    | nil => exact nomatch e
    | cons b l =>
      have e2 := HO.lst.inj (Option.some.inj e)
      rw [List.map_cons] at e2
      exact nomatch (List.cons.inj e2).1
theorem cat3 {K : PySem.W.Frag} {σ : L2.St} {H : Hp} {Q : VK} {a b c : Nat} {x y z : Addr} {xs ys zs : List V} {v : V} (ha : σ[a]? = some (some (.ref x))) (hb : σ[b]? = some (some (.ref y))) (hc : σ[c]? = some (some (.ref z))) (hx : H x = some (.lst xs)) (hy : H y = some (.lst ys)) (hz : H z = some (.lst zs))
    (ln : xs.length + ys.length + zs.length ≤ 1000) (hv : atI (xs ++ ys ++ zs) 0 = some v) (k : ∀ H', Same H H' → Q v H') : tOp (rIxL K) (tOp rCat (tOp rCat (tVar a) (tVar b)) (tVar c)) (tC (.int 0)) σ H Q := by
  refine ⟨_, ha, _, hb, x, y, xs, ys, rfl, rfl, hx, hy, Nat.le_of_lt (small1000 (by omega)), fun p hp => ?_⟩
  refine ⟨_, hc, p, z, _, zs, rfl, rfl, upd_same, (sameNew hp) _ _ hz, Nat.le_of_lt (small1000 (by rw [List.length_append]; omega)), fun r hr => ?_⟩
  exact ⟨r, _, 0, v, rfl, rfl, SqL.of upd_same, hv, k _ ((sameNew hp).trans (sameNew hr))⟩
theorem cat2 {K : PySem.W.Frag} {σ : L2.St} {H : Hp} {Q : VK} {a b : Nat} {x y : Addr} {xs ys : List V} {v : V} (ha : σ[a]? = some (some (.ref x))) (hb : σ[b]? = some (some (.ref y))) (hx : H x = some (.lst xs)) (hy : H y = some (.lst ys))
    (ln : xs.length + ys.length ≤ 1000) (hv : atI (xs ++ ys) 0 = some v) (k : ∀ H', Same H H' → Q v H') : tOp (rIxL K) (tOp rCat (tVar a) (tVar b)) (tC (.int 0)) σ H Q := by
  refine ⟨_, ha, _, hb, x, y, xs, ys, rfl, rfl, hx, hy, Nat.le_of_lt (small1000 (by omega)), fun p hp => ?_⟩
  exact ⟨p, _, 0, v, rfl, rfl, SqL.of upd_same, hv, k _ (sameNew hp)⟩
theorem fitP (q : Addr) (rs : List Int) (c i j : Int) : Fit q (resRk q rs c (resP rs i j)) := by
  unfold resRk resP
  split
  · split
    · split
      · trivial
      · exact .inr ⟨_, rfl⟩
    · exact .inr ⟨_, rfl⟩
  · exact .inl rfl
theorem fitN (q : Addr) (rs : List Int) (c : Int) : Fit q (resRk q rs c none) := by
  unfold resRk
  split
  · trivial
  · exact .inl rfl
theorem fitW (q : Addr) (rs : List Int) (c wd : Int) : Fit q (resRk q rs c (resW wd none)) := by
  unfold resRk resW
  split
  · split
    · trivial
    · exact .inr ⟨_, rfl⟩
  · exact .inl rfl
def isW (wd z : Int) : Bool := decide (0 ≤ z) && decide (z < 2 ^ (if wd > 0 then wd else 0).toNat)
theorem isW_iff {wd z : Int} : isW wd z = true ↔ Word wd z := by
  have e : (if wd > 0 then wd else 0).toNat = wd.toNat := by split <;> omega
  unfold isW Word
  rw [e, ← Bool.decide_and, decide_eq_true_eq]
def badIx (wd : Int) (xs : List Int) (t : Nat) : List Nat := (List.range t).filter fun j => !isW wd (xs.getD j 0)
def WNums (H : Hp) (bs : List Addr) (js : List Nat) : Prop := Paired (fun b (j : Nat) => H b = some (.lst [.str "words", .int (j : Int)])) bs js
theorem WNums.same {H H' : Hp} {bs : List Addr} {zs : List Nat} (h : WNums H bs zs) (s : Same H H') : WNums H' bs zs := pr_mono h fun a r e => s _ _ e
theorem WNums.up {H : Hp} {B : Addr} {o : HO} {bs bs' : List Addr} {zs : List Nat} (h : WNums H bs zs) (eB : H B = some (.lst (bs'.map V.ref))) : WNums (upd H B o) bs zs := pr_mono h fun a r e => by
  rw [upd_ne (fun z => ?_)]
  · exact e
  · rw [z, eB] at e
    cases bs' with
    | nil => exact nomatch e
    | cons b l =>
      have e2 := HO.lst.inj (Option.some.inj e)
      rw [List.map_cons] at e2
      exact nomatch (List.cons.inj e2).1
def res5 (wd : Int) (xs : List Int) : Option (Nat × V) := (badIx wd xs xs.length).head?.map fun j => (1, .int (j : Nat))
theorem res5_all {wd : Int} {xs : List Int} (h : ∀ x ∈ xs, Word wd x) : res5 wd xs = none := by
  have e : badIx wd xs xs.length = [] := List.filter_eq_nil_iff.mpr fun j hj => by
    have jl := List.mem_range.mp hj
    have g : xs.getD j 0 = xs[j] := by rw [List.getD_eq_getElem?_getD, List.getElem?_eq_getElem jl]; rfl
    rw [g, isW_iff.mpr (h _ (List.getElem_mem jl))]
    decide
  unfold res5
  rw [e]
  rfl
theorem res5_bad {wd : Int} {xs : List Int} {i : Nat} (h : BadAt wd xs i) : res5 wd xs = some (1, .int (i : Nat)) := by
  obtain ⟨z, hz, nz, pre⟩ := h
  have il := (List.getElem?_eq_some_iff.mp hz).1
  have e : (badIx wd xs xs.length).head? = some i := by
    unfold badIx
    rw [List.head?_filter, List.find?_range_eq_some]
    refine ⟨?_, List.mem_range.mpr il, fun j hj => ?_⟩
    · rw [List.getD_eq_getElem?_getD, hz]
      show (!isW wd z) = true
      cases c : isW wd z with
      | false => rfl
      | true => exact absurd (isW_iff.mp c) nz
    · obtain ⟨y, hy⟩ : ∃ y, xs[j]? = some y := ⟨xs[j]'(by omega), List.getElem?_eq_getElem (by omega)⟩
      rw [List.getD_eq_getElem?_getD, hy]
      show (!!isW wd y) = true
      rw [isW_iff.mpr (pre j y hj hy)]
      rfl
  unfold res5
  rw [e]
  rfl
theorem due_words {H : Hp} {wd : Int} {xs : List Int} {g0 f0 : Addr} {bs : List Addr} (h1 : H g0 = some (.lst [.str "wide", .int wd])) (h2 : H f0 = some (.lst [.str "none", .non])) (h3 : WNums H bs (badIx wd xs xs.length)) :
    ∃ d, atI ((if decide (wd < 1) = true then [V.ref g0] else []) ++ bs.map V.ref ++ [V.ref f0]) 0 = some (.ref d) ∧ H d = some (.lst (toldL (resW wd (res5 wd xs)))) := by
  unfold resW
  by_cases l : wd < 1
  · rw [decide_eq_true l, if_neg (show ¬ 1 ≤ wd by omega)]
    exact ⟨g0, atI0, h1⟩
  · rw [decide_eq_false l, if_pos (show 1 ≤ wd by omega)]
    unfold res5
    generalize badIx wd xs xs.length = js at h3 ⊢
    cases h3 with
    | nil => exact ⟨f0, atI0, h2⟩
    | cons a b => exact ⟨_, atI0, a⟩
def in5 (n : Int) : Bool := decide (1 ≤ n) && decide (n ≤ 5)
theorem in5_iff {n : Int} : in5 n = true ↔ 1 ≤ n ∧ n ≤ 5 := by
  unfold in5
  rw [← Bool.decide_and, decide_eq_true_eq]
theorem due_n1 {H : Hp} {n : Int} {g0 f0 : Addr} (h1 : H g0 = some (.lst [.str "number", .int n])) (h2 : H f0 = some (.lst [.str "none", .non])) :
    ∃ d, atI ((if (!in5 n) = true then [V.ref g0] else []) ++ [V.ref f0]) 0 = some (.ref d) ∧ H d = some (.lst (toldL (resN n none))) := by
  unfold resN
  cases c : in5 n with
  | true =>
    rw [if_pos (in5_iff.mp c)]
    exact ⟨f0, atI0, h2⟩
  | false =>
    rw [if_neg fun q => absurd (in5_iff.mpr q) (by rw [c]; decide)]
    exact ⟨g0, atI0, h1⟩
theorem due_n2 {H : Hp} {n sp sz : Int} {g0 f0 t0 : Addr} (h1 : H g0 = some (.lst [.str "number", .int n])) (h2 : H f0 = some (.lst [.str "none", .non])) (h3 : H t0 = some (.lst [.str "number", .int sp])) (hs : 1 ≤ n ∧ n ≤ 5 → sz = ((allRk n.toNat).length : Int)) :
    ∃ d, atI ((if (!in5 n) = true then [V.ref g0] else []) ++ (if (!(decide (0 ≤ sp) && decide (sp < sz))) = true then [V.ref t0] else []) ++ [V.ref f0]) 0 = some (.ref d) ∧
      H d = some (.lst (toldL (resN n (if 0 ≤ sp ∧ sp < ((allRk n.toNat).length : Int) then none else some (11, .int sp))))) := by
  unfold resN
  cases c : in5 n with
  | false =>
    rw [if_neg fun q => absurd (in5_iff.mpr q) (by rw [c]; decide)]
    exact ⟨g0, atI0, h1⟩
  | true =>
    rw [if_pos (in5_iff.mp c), ← hs (in5_iff.mp c), ← Bool.decide_and]
    by_cases l : 0 ≤ sp ∧ sp < sz
    · rw [if_pos l, decide_eq_true l]
      exact ⟨f0, atI0, h2⟩
    · rw [if_neg l, decide_eq_false l]
      exact ⟨t0, atI0, h3⟩
def FitI : Option (Nat × V) → Prop
  | none => True
  | some (_, v) => ∃ z, v = .int z
theorem told_dpI {K : PySem.W.Frag} {H : Hp} {d : Addr} {r : Option (Nat × V)} (h : H d = some (.lst (toldL r))) (f : FitI r) : Dp K H (.ref d) (toldD [] 0 r) := by
  match r, h, f with
  | none, h, _ => exact .lst (SqL.of h) (.cons (.str _) (.cons .non .nil))
  | some (j, v), h, ⟨z, e⟩ => subst e; exact .lst (SqL.of h) (.cons (.str _) (.cons (.int z) .nil))
theorem fitI_fit {r : Option (Nat × V)} (f : FitI r) : Fit 0 r := by
  match r, f with
  | none, _ => trivial
  | some (j, v), e => exact .inr e
theorem told_sh1 {r : Option (Nat × V)} (f : FitI r) : SeqAt.shaped (toldD [] 0 r) = true := by
  obtain ⟨a, b⟩ := told_lay (rs := []) (c := 0) (fitI_fit f)
  unfold SeqAt.shaped
  rw [a, decide_eq_true (by omega)]
  rfl
theorem fitN1 (n : Int) : FitI (resN n none) := by
  unfold resN
  split
  · trivial
  · exact ⟨_, rfl⟩
theorem fitN2 (n sp : Int) (p : Prop) [Decidable p] : FitI (resN n (if p then none else some (11, .int sp))) := by
  unfold resN
  split
  · split
    · trivial
    · exact ⟨_, rfl⟩
  · exact ⟨_, rfl⟩
theorem fit5 (wd : Int) (xs : List Int) : FitI (resW wd (res5 wd xs)) := by
  unfold resW res5
  split
  · cases (badIx wd xs xs.length).head? with
    | none => trivial
    | some j => exact ⟨_, rfl⟩
  · exact ⟨_, rfl⟩
theorem len5 : ∀ n ∈ ([1, 2, 3, 4, 5] : List Nat), ([2, 8, 44, 308, 2612] : List Nat)[n - 1]? = some (allRk n).length := by decide +kernel
theorem badIx_succ {wd : Int} {xs : List Int} {t : Nat} {z : Int} (hz : xs[t]? = some z) : badIx wd xs (t + 1) = badIx wd xs t ++ (if isW wd z = true then [] else [t]) := by
  unfold badIx
  rw [List.range_succ, List.filter_append]
  congr 1
  cases c : isW wd z <;> simp [List.filter, List.getD_eq_getElem?_getD, hz, c]
theorem lens5 : (allRk 1).length = 2 ∧ (allRk 2).length = 8 ∧ (allRk 3).length = 44 ∧ (allRk 4).length = 308 ∧ (allRk 5).length = 2612 := by decide +kernel
theorem size_at (mn : Int) : ∃ sz : Int, atI [V.int 2, V.int 8, V.int 44, V.int 308, V.int 2612] (if (if mn - 1 > 0 then mn - 1 else 0) < 4 then (if mn - 1 > 0 then mn - 1 else 0) else 4) = some (.int sz) ∧ 0 < sz ∧ sz < 2 ^ 400 ∧ (1 ≤ mn ∧ mn ≤ 5 → sz = ((allRk mn.toNat).length : Int)) := by
  obtain ⟨l1, l2, l3, l4, l5⟩ := lens5
  have h : ∀ (ix : Int), ix = (if (if mn - 1 > 0 then mn - 1 else 0) < 4 then (if mn - 1 > 0 then mn - 1 else 0) else 4) → (ix = 0 ∨ ix = 1 ∨ ix = 2 ∨ ix = 3 ∨ ix = 4) ∧ (1 ≤ mn ∧ mn ≤ 5 → mn.toNat = ix.toNat + 1) := fun ix e => by
    constructor
    · split at e <;> split at e <;> omega
    · intro q
      split at e <;> split at e <;> omega
  generalize (if (if mn - 1 > 0 then mn - 1 else 0) < 4 then (if mn - 1 > 0 then mn - 1 else 0) else 4) = ix at h
  obtain ⟨c, q⟩ := h ix rfl
  rcases c with rfl | rfl | rfl | rfl | rfl
  · exact ⟨_, rfl, by decide, by decide, fun z => by rw [q z]; show (2 : Int) = ((allRk 1).length : Nat); rw [l1]; rfl⟩
  · exact ⟨_, rfl, by decide, by decide, fun z => by rw [q z]; show (8 : Int) = ((allRk 2).length : Nat); rw [l2]; rfl⟩
  · exact ⟨_, rfl, by decide, by decide, fun z => by rw [q z]; show (44 : Int) = ((allRk 3).length : Nat); rw [l3]; rfl⟩
  · exact ⟨_, rfl, by decide, by decide, fun z => by rw [q z]; show (308 : Int) = ((allRk 4).length : Nat); rw [l4]; rfl⟩
  · exact ⟨_, rfl, by decide, by decide, fun z => by rw [q z]; show (2612 : Int) = ((allRk 5).length : Nat); rw [l5]; rfl⟩
theorem all4 : ∀ n ∈ ([1, 2, 3, 4] : List Nat), ∀ p ∈ allRk n, p.1.length = n ∧ ∀ r ∈ p.1, 0 ≤ r ∧ r ≤ 4 := by decide +kernel

def badR (ns : List Str) (size : Int) (rs : List (List V)) (t : Nat) : List Nat := (List.range t).filter fun j => !rowOk ns size (rs.getD j [])
def res0 (n : Int) (rs : List (List V)) : Option (Nat × V) := if 1 ≤ n ∧ n ≤ 4 then (badR (regs n.toNat) rs.length rs rs.length).head?.map fun j => (6, .int (j : Nat)) else some (6, .non)
def res1 (len : Nat) (i : Int) : Option (Nat × V) := if 0 ≤ i ∧ i < (len : Int) then none else some (7, .int i)
def res2 (n m : Int) : Option (Nat × V) := if n = m then none else some (12, .non)
theorem res0_all {n : Int} {rs : List (List V)} (h1 : 1 ≤ n) (h2 : n ≤ 4) (h : ∀ r ∈ rs, rowOk (regs n.toNat) rs.length r = true) : res0 n rs = none := by
  have e : badR (regs n.toNat) rs.length rs rs.length = [] := List.filter_eq_nil_iff.mpr fun j hj => by
    have jl := List.mem_range.mp hj
    have g : rs.getD j [] = rs[j] := by rw [List.getD_eq_getElem?_getD, List.getElem?_eq_getElem jl]; rfl
    rw [g, h _ (List.getElem_mem jl)]
    decide
  unfold res0
  rw [if_pos ⟨h1, h2⟩, e]
  rfl
theorem res0_bad {n : Int} {rs : List (List V)} {i : Nat} {r : List V} (h1 : 1 ≤ n) (h2 : n ≤ 4) (hr : rs[i]? = some r) (nr : rowOk (regs n.toNat) rs.length r = false) (pre : ∀ (j : Nat) (y : List V), j < i → rs[j]? = some y → rowOk (regs n.toNat) rs.length y = true) : res0 n rs = some (6, .int (i : Nat)) := by
  have il := (List.getElem?_eq_some_iff.mp hr).1
  have e : (badR (regs n.toNat) rs.length rs rs.length).head? = some i := by
    unfold badR
    rw [List.head?_filter, List.find?_range_eq_some]
    refine ⟨?_, List.mem_range.mpr il, fun j hj => ?_⟩
    · rw [List.getD_eq_getElem?_getD, hr]
      show (!rowOk (regs n.toNat) rs.length r) = true
      rw [nr]
      rfl
    · obtain ⟨y, hy⟩ : ∃ y, rs[j]? = some y := ⟨rs[j]'(by omega), List.getElem?_eq_getElem (by omega)⟩
      rw [List.getD_eq_getElem?_getD, hy]
      show (!!rowOk (regs n.toNat) rs.length y) = true
      rw [pre j y hj hy]
      rfl
  unfold res0
  rw [if_pos ⟨h1, h2⟩, e]
  rfl
inductive DoorP (K : PySem.W.Frag) (C : Addr) (H : Hp) : Int → V → V → Option (Nat × V) → Prop
  | d0 {n : Int} {l : Addr} {as : List Addr} {rs : List (List V)} : H l = some (.lst (as.map V.ref)) → RowsAt H as rs → rs.length ≤ 900 → (∀ r ∈ rs, RowIs r) → DoorP K C H 0 (.int n) (.ref l) (res0 n rs)
  | d1 {a : Addr} {n i : Int} {as : List Addr} {rs : List (List V)} : ProgAt K H C a n as rs → DoorP K C H 1 (.ref a) (.int i) (res1 rs.length i)
  | d2 {a b : Addr} {n m : Int} {as bs : List Addr} {rs qs : List (List V)} : ProgAt K H C a n as rs → ProgAt K H C b m bs qs → rs.length + qs.length ≤ 900 → DoorP K C H 2 (.ref a) (.ref b) (res2 n m)
def wrongR (nm cd : Str) (gl : Int) : List (List V) := [[.str "cmp", .str "p", .str nm], [.str "cmp", .str nm, .str "x"], [.str "mov", .str "p"], [.str "mov", .str "p", .str "x", .str "y"], [.str "swap", .str nm, .str "p"], [.str "cmov", .str cd, .str "p", .str nm], [.str "cmov", .str "p", .str "x"], [.str "jump", .int gl], [.str "jump"], [.str "jump", .str "p"], [.str "jif", .str cd, .int gl], [.str "jif", .int gl], [.str "jif", .str "e", .str "e"], [.str "out", .str nm], [.str "out"], [.str "stop", .str "p"], [.str "halt"], [.str "Out", .str "p"], [.str "", .str "p"]]
theorem wrongR_ok {nm cd : Str} {gl : Int} : ∀ r ∈ wrongR nm cd gl, (∃ w xs, r = .str w :: xs) ∧ RowIs r := fun r mr => by
  unfold wrongR at mr
  simp only [List.mem_cons, List.not_mem_nil, or_false] at mr
  rcases mr with q | q | q | q | q | q | q | q | q | q | q | q | q | q | q | q | q | q | q
  · exact row_eq (rowIs_strs "cmp" ["p", nm] (by simp)) q
  · exact row_eq (rowIs_strs "cmp" [nm, "x"] (by simp)) q
  · exact row_eq (rowIs_strs "mov" ["p"] (by simp)) q
  · exact row_eq (rowIs_strs "mov" ["p", "x", "y"] (by simp)) q
  · exact row_eq (rowIs_strs "swap" [nm, "p"] (by simp)) q
  · exact row_eq (rowIs_strs "cmov" [cd, "p", nm] (by simp)) q
  · exact row_eq (rowIs_strs "cmov" ["p", "x"] (by simp)) q
  · exact row_eq (rowIs_jump gl) q
  · exact row_eq (rowIs_strs "jump" [] (by simp)) q
  · exact row_eq (rowIs_strs "jump" ["p"] (by simp)) q
  · exact row_eq (rowIs_jif cd gl) q
  · exact row_eq (rowIs_jif1 gl) q
  · exact row_eq (rowIs_strs "jif" ["e", "e"] (by simp)) q
  · exact row_eq (rowIs_strs "out" [nm] (by simp)) q
  · exact row_eq (rowIs_strs "out" [] (by simp)) q
  · exact row_eq (rowIs_strs "stop" ["p"] (by simp)) q
  · exact row_eq (rowIs_strs "halt" [] (by simp)) q
  · exact row_eq (rowIs_strs "Out" ["p"] (by simp)) q
  · exact row_eq (rowIs_strs "" ["p"] (by simp)) q
def codeR (za zb cd : Str) (gl nr : Int) : List (List V) := [[.str "cmp", .str za, .str zb], [.str "jif", .str cd, .int gl], [.str "out", .str za], [.str "cmov", .str cd, .str za, .str zb], [.str "swap", .str za, .str zb], [.str "mov", .str za, .str zb], [.str "cmp", .str zb, .str za], [.str "jif", .str cd, .int nr], [.str "out", .str zb], [.str "jump", .int gl], [.str "stop"]]
theorem codeR_ok {za zb cd : Str} {gl nr size : Int} {ns : List Str} (ha : za ∈ ns) (hb : zb ∈ ns) (hc : cd ∈ conds) (hg : 0 ≤ gl ∧ gl ≤ size) (hn : 0 ≤ nr ∧ nr ≤ size) : ∀ r ∈ codeR za zb cd gl nr, rowOk ns size r = true := fun r mr => by
  unfold codeR at mr
  simp only [List.mem_cons, List.not_mem_nil, or_false] at mr
  rcases mr with q | q | q | q | q | q | q | q | q | q | q
  · rw [q]
    exact ok_RR (by decide +kernel) ha hb
  · rw [q]
    exact ok_CT hc hg
  · rw [q]
    exact ok_R ha
  · rw [q]
    exact ok_CRR hc ha hb
  · rw [q]
    exact ok_RR (by decide +kernel) ha hb
  · rw [q]
    exact ok_RR (by decide +kernel) ha hb
  · rw [q]
    exact ok_RR (by decide +kernel) hb ha
  · rw [q]
    exact ok_CT hc hn
  · rw [q]
    exact ok_R hb
  · rw [q]
    exact ok_T hg
  · rw [q]
    exact ok_0

def in4 (n : Int) : Bool := decide (1 ≤ n) && decide (n ≤ 4)
theorem in4_iff {n : Int} : in4 n = true ↔ 1 ≤ n ∧ n ≤ 4 := by
  unfold in4
  rw [← Bool.decide_and, decide_eq_true_eq]
def PNums (H : Hp) (bs : List Addr) (js : List Nat) : Prop := Paired (fun b (j : Nat) => H b = some (.lst [.str "program", .int (j : Int)])) bs js
theorem PNums.same {H H' : Hp} {bs : List Addr} {zs : List Nat} (h : PNums H bs zs) (s : Same H H') : PNums H' bs zs := prm h fun a r e => s _ _ e
theorem PNums.up {H : Hp} {B : Addr} {o : HO} {bs bs' : List Addr} {zs : List Nat} (h : PNums H bs zs) (eB : H B = some (.lst (bs'.map V.ref))) : PNums (upd H B o) bs zs := prm h fun a r e => by
  rw [upd_ne (fun z => ?_)]
  · exact e
  · rw [z, eB] at e
    cases bs' with
    | nil => exact nomatch e
    | cons b l => exact nomatch (List.cons.inj (HO.lst.inj (Option.some.inj e))).1
theorem badR_succ {ns : List Str} {size : Int} {rs : List (List V)} {t : Nat} {r : List V} (h : rs[t]? = some r) : badR ns size rs (t + 1) = badR ns size rs t ++ (if rowOk ns size r = true then [] else [t]) := by
  unfold badR
  rw [List.range_succ, List.filter_append]
  congr 1
  rw [List.filter_cons, List.getD_eq_getElem?_getD, h]
  show (if (!rowOk ns size r) = true then [t] else []) = _
  cases rowOk ns size r <;> rfl
def vD : V → PyData
  | .int z => .int z
  | _ => .none
def toldPD : Option (Nat × V) → PyData
  | none => .list [.str "none", .none]
  | some (j, v) => .list [.str (kindName j), vD v]
def FitP : Option (Nat × V) → Prop
  | none => True
  | some (_, v) => v = .non ∨ ∃ z, v = .int z
theorem told_dpP {K : PySem.W.Frag} {H : Hp} {d : Addr} {r : Option (Nat × V)} (h : H d = some (.lst (toldL r))) (f : FitP r) : Dp K H (.ref d) (toldPD r) := by
  match r, h, f with
  | none, h, _ => exact .lst (SqL.of h) (.cons (.str _) (.cons .non .nil))
  | some (j, v), h, .inl e => subst e; exact .lst (SqL.of h) (.cons (.str _) (.cons .non .nil))
  | some (j, v), h, .inr ⟨z, e⟩ => subst e; exact .lst (SqL.of h) (.cons (.str _) (.cons (.int z) .nil))
theorem toldP_sh {r : Option (Nat × V)} (f : FitP r) : SeqAt.shaped (toldPD r) = true := by
  have lay : (toldPD r).canLay0 = true ∧ (toldPD r).depth ≤ 3 := by
    match r, f with
    | none, _ => exact ⟨(by show PyData.canLay0 (.list [.str "none", .none]) = true; decide +kernel), (by show PyData.depth (.list [.str "none", .none]) ≤ 3; decide +kernel)⟩
    | some (j, v), .inl e =>
      subst e
      refine ⟨?_, (by show max 0 (max 0 0) + 1 ≤ 3; decide)⟩
      show (PyData.canLay0 (.str (kindName j)) && (true && true)) = true
      rw [kind_lay]
      rfl
    | some (j, v), .inr ⟨z, e⟩ =>
      subst e
      refine ⟨?_, (by show max 0 (max 0 0) + 1 ≤ 3; decide)⟩
      show (PyData.canLay0 (.str (kindName j)) && (true && true)) = true
      rw [kind_lay]
      rfl
  unfold SeqAt.shaped
  rw [lay.1, decide_eq_true (by omega)]
  rfl
theorem fit0 (n : Int) (rs : List (List V)) : FitP (res0 n rs) := by
  unfold res0
  split
  · cases (badR (regs n.toNat) rs.length rs rs.length).head? with
    | none => trivial
    | some j => exact .inr ⟨_, rfl⟩
  · exact .inl rfl
theorem fit1 (n : Nat) (i : Int) : FitP (res1 n i) := by
  unfold res1
  split
  · trivial
  · exact .inr ⟨_, rfl⟩
theorem fit2 (n m : Int) : FitP (res2 n m) := by
  unfold res2
  split
  · trivial
  · exact .inl rfl
theorem due0 {H : Hp} {n : Int} {rs : List (List V)} {js : List Nat} {g0 f0 : Addr} {bs : List Addr} (h1 : H g0 = some (.lst [.str "program", .non])) (h2 : H f0 = some (.lst [.str "none", .non])) (h3 : PNums H bs js) (e : 1 ≤ n ∧ n ≤ 4 → js = badR (regs n.toNat) rs.length rs rs.length) :
    ∃ d, atI ((if (!in4 n) = true then [V.ref g0] else []) ++ bs.map V.ref ++ [V.ref f0]) 0 = some (.ref d) ∧ H d = some (.lst (toldL (res0 n rs))) := by
  unfold res0
  cases c : in4 n with
  | false =>
    rw [if_neg fun q => absurd (in4_iff.mpr q) (by rw [c]; decide)]
    exact ⟨g0, atI0, h1⟩
  | true =>
    have q := in4_iff.mp c
    rw [if_pos q, ← e q]
    cases h3 with
    | nil => exact ⟨f0, atI0, h2⟩
    | cons a b => exact ⟨_, atI0, a⟩
theorem due1 {H : Hp} {n : Nat} {i : Int} {g0 f0 : Addr} (h1 : H g0 = some (.lst [.str "row", .int i])) (h2 : H f0 = some (.lst [.str "none", .non])) :
    ∃ d, atI ((if (!(decide (0 ≤ i) && decide (i < (n : Int)))) = true then [V.ref g0] else []) ++ [V.ref f0]) 0 = some (.ref d) ∧ H d = some (.lst (toldL (res1 n i))) := by
  unfold res1
  rw [← Bool.decide_and]
  by_cases c : 0 ≤ i ∧ i < (n : Int)
  · rw [if_pos c, decide_eq_true c]
    exact ⟨f0, atI0, h2⟩
  · rw [if_neg c, decide_eq_false c]
    exact ⟨g0, atI0, h1⟩
theorem due2 {H : Hp} {n m : Int} {g0 f0 : Addr} (h1 : H g0 = some (.lst [.str "unlike", .non])) (h2 : H f0 = some (.lst [.str "none", .non])) :
    ∃ d, atI ((if (!decide (m = n)) = true then [V.ref g0] else []) ++ [V.ref f0]) 0 = some (.ref d) ∧ H d = some (.lst (toldL (res2 n m))) := by
  unfold res2
  by_cases c : n = m
  · rw [if_pos c, decide_eq_true c.symm]
    exact ⟨f0, atI0, h2⟩
  · rw [if_neg c, decide_eq_false (Ne.symm c)]
    exact ⟨g0, atI0, h1⟩

abbrev tab_CONDITIONS : List (Str × List Str) := tabC
theorem tr_CONDITIONS {w : World} {K : PySem.W.Frag} {mg : Str → Option Value} {A0 : Ad} (T : Txt w K mg A0) : TabRel K [("e", .ref A0.p_CONDITIONS_0), ("ne", .ref A0.p_CONDITIONS_1), ("l", .ref A0.p_CONDITIONS_2), ("le", .ref A0.p_CONDITIONS_3), ("g", .ref A0.p_CONDITIONS_4), ("ge", .ref A0.p_CONDITIONS_5), ("b", .ref A0.p_CONDITIONS_6), ("be", .ref A0.p_CONDITIONS_7), ("a", .ref A0.p_CONDITIONS_8), ("ae", .ref A0.p_CONDITIONS_9), ("same", .ref A0.p_CONDITIONS_10), ("mixed", .ref A0.p_CONDITIONS_11)] tab_CONDITIONS := .cons ⟨rfl, _, rfl, T.tv_CONDITIONS_0⟩ (.cons ⟨rfl, _, rfl, T.tv_CONDITIONS_1⟩ (.cons ⟨rfl, _, rfl, T.tv_CONDITIONS_2⟩ (.cons ⟨rfl, _, rfl, T.tv_CONDITIONS_3⟩ (.cons ⟨rfl, _, rfl, T.tv_CONDITIONS_4⟩ (.cons ⟨rfl, _, rfl, T.tv_CONDITIONS_5⟩ (.cons ⟨rfl, _, rfl, T.tv_CONDITIONS_6⟩ (.cons ⟨rfl, _, rfl, T.tv_CONDITIONS_7⟩ (.cons ⟨rfl, _, rfl, T.tv_CONDITIONS_8⟩ (.cons ⟨rfl, _, rfl, T.tv_CONDITIONS_9⟩ (.cons ⟨rfl, _, rfl, T.tv_CONDITIONS_10⟩ (.cons ⟨rfl, _, rfl, T.tv_CONDITIONS_11⟩ (.nil))))))))))))
abbrev tab_FORMS : List (Str × Str) := fmT
theorem errC {w : World} {K : PySem.W.Frag} {mg : Str → Option Value} {A0 : Ad} (T : Txt w K mg A0) {j : Nat} {C : Addr} (h : ([A0.c_InvalidWidth, A0.c_InvalidWords, A0.c_InvalidOutcome, A0.c_InvalidCondition, A0.c_InvalidRanking, A0.c_InvalidKnowledge, A0.c_InvalidProgram, A0.c_InvalidRow, A0.c_InvalidRegister, A0.c_InvalidQuery, A0.c_InvalidTable, A0.c_InvalidNumber, A0.c_UnlikeInputs, A0.c_NothingToUndo, A0.c_Unreadable] : List Addr)[j]? = some C) : ExcC K C ∧ XfC K C ∧ PySem.W.findIn K (.ref C) "value" = some none := by
  have jl : j < 15 := (List.getElem?_eq_some_iff.mp h).1
  match j, jl, h with
  | 0, _, z => cases z; exact ⟨T.er_InvalidWidth.ec, xf_of T.er_InvalidWidth.ec, T.er_InvalidWidth.no⟩
  | 1, _, z => cases z; exact ⟨T.er_InvalidWords.ec, xf_of T.er_InvalidWords.ec, T.er_InvalidWords.no⟩
  | 2, _, z => cases z; exact ⟨T.er_InvalidOutcome.ec, xf_of T.er_InvalidOutcome.ec, T.er_InvalidOutcome.no⟩
  | 3, _, z => cases z; exact ⟨T.er_InvalidCondition.ec, xf_of T.er_InvalidCondition.ec, T.er_InvalidCondition.no⟩
  | 4, _, z => cases z; exact ⟨T.er_InvalidRanking.ec, xf_of T.er_InvalidRanking.ec, T.er_InvalidRanking.no⟩
  | 5, _, z => cases z; exact ⟨T.er_InvalidKnowledge.ec, xf_of T.er_InvalidKnowledge.ec, T.er_InvalidKnowledge.no⟩
  | 6, _, z => cases z; exact ⟨T.er_InvalidProgram.ec, xf_of T.er_InvalidProgram.ec, T.er_InvalidProgram.no⟩
  | 7, _, z => cases z; exact ⟨T.er_InvalidRow.ec, xf_of T.er_InvalidRow.ec, T.er_InvalidRow.no⟩
  | 8, _, z => cases z; exact ⟨T.er_InvalidRegister.ec, xf_of T.er_InvalidRegister.ec, T.er_InvalidRegister.no⟩
  | 9, _, z => cases z; exact ⟨T.er_InvalidQuery.ec, xf_of T.er_InvalidQuery.ec, T.er_InvalidQuery.no⟩
  | 10, _, z => cases z; exact ⟨T.er_InvalidTable.ec, xf_of T.er_InvalidTable.ec, T.er_InvalidTable.no⟩
  | 11, _, z => cases z; exact ⟨T.er_InvalidNumber.ec, xf_of T.er_InvalidNumber.ec, T.er_InvalidNumber.no⟩
  | 12, _, z => cases z; exact ⟨T.er_UnlikeInputs.ec, xf_of T.er_UnlikeInputs.ec, T.er_UnlikeInputs.no⟩
  | 13, _, z => cases z; exact ⟨T.er_NothingToUndo.ec, xf_of T.er_NothingToUndo.ec, T.er_NothingToUndo.no⟩
  | 14, _, z => cases z; exact ⟨T.er_Unreadable.ec, xf_of T.er_Unreadable.ec, T.er_Unreadable.no⟩

section
variable {P : Program} {w : World} {K : PySem.W.Frag} {mg : Str → Option Value} {base : Heap} {A0 : Ad}
theorem scI_InvalidWidth : FnScope ["self", "value"] ["self", "value"] (defScope s_InvalidWidth) := ⟨rfl, rfl, rfl, by decide +kernel, rfl, by decide +kernel, by decide +kernel⟩
theorem bdI_InvalidWidth (T : Txt w K mg A0) : Binds K A0.di_InvalidWidth ["self", "value"] [] := T.FI_InvalidWidth.binds fun _ _ _ _ _ _ us hl => match us, hl with | [_, _], _ => rfl
theorem kbI_InvalidWidth (T : Txt w K mg A0) : ∀ (s : Shared) (u v : Value), BindsTo s A0.di_InvalidWidth ⟨[u], [("value", v)]⟩ (((["self", "value"] : List Str)).zip [u, v]) := fun s u v => by
  obtain ⟨oc, od, kV, doc, pm, an, cdv, ct, osl, e, lk, hcd⟩ := T.FI_InvalidWidth.ex
  rw [e]
  exact .of_eq rfl
theorem okI_InvalidWidth (T : Txt w K mg A0) : FnOk P w K mg base CX0 1 A0.i_InvalidWidth A0.di_InvalidWidth ["self", "value"] (sp_err A0.c_InvalidWidth) := by
  refine T.FI_InvalidWidth.ok scI_InvalidWidth (fun vs H Q E h => ?_) (fun cdv A outer s H vs Q E hr h => ?_)
  · obtain ⟨a, v, rfl, _⟩ := h
    rfl
  · obtain ⟨a, v, rfl, ha, k⟩ := h
    refine ⟨_, pss_one (ps_ost (pv 0) (pv 1)), ?_⟩
    exact ⟨v, rfl, _, rfl, a, A0.c_InvalidWidth, rfl, T.er_InvalidWidth.ox, T.er_InvalidWidth.no, .inl ⟨ha, fun d hd ne => k d hd ne⟩⟩
theorem scI_InvalidWords : FnScope ["self", "value"] ["self", "value"] (defScope s_InvalidWords) := ⟨rfl, rfl, rfl, by decide +kernel, rfl, by decide +kernel, by decide +kernel⟩
theorem bdI_InvalidWords (T : Txt w K mg A0) : Binds K A0.di_InvalidWords ["self", "value"] [] := T.FI_InvalidWords.binds fun _ _ _ _ _ _ us hl => match us, hl with | [_, _], _ => rfl
theorem kbI_InvalidWords (T : Txt w K mg A0) : ∀ (s : Shared) (u v : Value), BindsTo s A0.di_InvalidWords ⟨[u], [("value", v)]⟩ (((["self", "value"] : List Str)).zip [u, v]) := fun s u v => by
  obtain ⟨oc, od, kV, doc, pm, an, cdv, ct, osl, e, lk, hcd⟩ := T.FI_InvalidWords.ex
  rw [e]
  exact .of_eq rfl
theorem okI_InvalidWords (T : Txt w K mg A0) : FnOk P w K mg base CX0 1 A0.i_InvalidWords A0.di_InvalidWords ["self", "value"] (sp_err A0.c_InvalidWords) := by
  refine T.FI_InvalidWords.ok scI_InvalidWords (fun vs H Q E h => ?_) (fun cdv A outer s H vs Q E hr h => ?_)
  · obtain ⟨a, v, rfl, _⟩ := h
    rfl
  · obtain ⟨a, v, rfl, ha, k⟩ := h
    refine ⟨_, pss_one (ps_ost (pv 0) (pv 1)), ?_⟩
    exact ⟨v, rfl, _, rfl, a, A0.c_InvalidWords, rfl, T.er_InvalidWords.ox, T.er_InvalidWords.no, .inl ⟨ha, fun d hd ne => k d hd ne⟩⟩
theorem scI_InvalidOutcome : FnScope ["self", "value"] ["self", "value"] (defScope s_InvalidOutcome) := ⟨rfl, rfl, rfl, by decide +kernel, rfl, by decide +kernel, by decide +kernel⟩
theorem bdI_InvalidOutcome (T : Txt w K mg A0) : Binds K A0.di_InvalidOutcome ["self", "value"] [] := T.FI_InvalidOutcome.binds fun _ _ _ _ _ _ us hl => match us, hl with | [_, _], _ => rfl
theorem kbI_InvalidOutcome (T : Txt w K mg A0) : ∀ (s : Shared) (u v : Value), BindsTo s A0.di_InvalidOutcome ⟨[u], [("value", v)]⟩ (((["self", "value"] : List Str)).zip [u, v]) := fun s u v => by
  obtain ⟨oc, od, kV, doc, pm, an, cdv, ct, osl, e, lk, hcd⟩ := T.FI_InvalidOutcome.ex
  rw [e]
  exact .of_eq rfl
theorem okI_InvalidOutcome (T : Txt w K mg A0) : FnOk P w K mg base CX0 1 A0.i_InvalidOutcome A0.di_InvalidOutcome ["self", "value"] (sp_err A0.c_InvalidOutcome) := by
  refine T.FI_InvalidOutcome.ok scI_InvalidOutcome (fun vs H Q E h => ?_) (fun cdv A outer s H vs Q E hr h => ?_)
  · obtain ⟨a, v, rfl, _⟩ := h
    rfl
  · obtain ⟨a, v, rfl, ha, k⟩ := h
    refine ⟨_, pss_one (ps_ost (pv 0) (pv 1)), ?_⟩
    exact ⟨v, rfl, _, rfl, a, A0.c_InvalidOutcome, rfl, T.er_InvalidOutcome.ox, T.er_InvalidOutcome.no, .inl ⟨ha, fun d hd ne => k d hd ne⟩⟩
theorem scI_InvalidCondition : FnScope ["self", "value"] ["self", "value"] (defScope s_InvalidCondition) := ⟨rfl, rfl, rfl, by decide +kernel, rfl, by decide +kernel, by decide +kernel⟩
theorem bdI_InvalidCondition (T : Txt w K mg A0) : Binds K A0.di_InvalidCondition ["self", "value"] [] := T.FI_InvalidCondition.binds fun _ _ _ _ _ _ us hl => match us, hl with | [_, _], _ => rfl
theorem kbI_InvalidCondition (T : Txt w K mg A0) : ∀ (s : Shared) (u v : Value), BindsTo s A0.di_InvalidCondition ⟨[u], [("value", v)]⟩ (((["self", "value"] : List Str)).zip [u, v]) := fun s u v => by
  obtain ⟨oc, od, kV, doc, pm, an, cdv, ct, osl, e, lk, hcd⟩ := T.FI_InvalidCondition.ex
  rw [e]
  exact .of_eq rfl
theorem okI_InvalidCondition (T : Txt w K mg A0) : FnOk P w K mg base CX0 1 A0.i_InvalidCondition A0.di_InvalidCondition ["self", "value"] (sp_err A0.c_InvalidCondition) := by
  refine T.FI_InvalidCondition.ok scI_InvalidCondition (fun vs H Q E h => ?_) (fun cdv A outer s H vs Q E hr h => ?_)
  · obtain ⟨a, v, rfl, _⟩ := h
    rfl
  · obtain ⟨a, v, rfl, ha, k⟩ := h
    refine ⟨_, pss_one (ps_ost (pv 0) (pv 1)), ?_⟩
    exact ⟨v, rfl, _, rfl, a, A0.c_InvalidCondition, rfl, T.er_InvalidCondition.ox, T.er_InvalidCondition.no, .inl ⟨ha, fun d hd ne => k d hd ne⟩⟩
theorem scI_InvalidRanking : FnScope ["self", "value"] ["self", "value"] (defScope s_InvalidRanking) := ⟨rfl, rfl, rfl, by decide +kernel, rfl, by decide +kernel, by decide +kernel⟩
theorem bdI_InvalidRanking (T : Txt w K mg A0) : Binds K A0.di_InvalidRanking ["self", "value"] [] := T.FI_InvalidRanking.binds fun _ _ _ _ _ _ us hl => match us, hl with | [_, _], _ => rfl
theorem kbI_InvalidRanking (T : Txt w K mg A0) : ∀ (s : Shared) (u v : Value), BindsTo s A0.di_InvalidRanking ⟨[u], [("value", v)]⟩ (((["self", "value"] : List Str)).zip [u, v]) := fun s u v => by
  obtain ⟨oc, od, kV, doc, pm, an, cdv, ct, osl, e, lk, hcd⟩ := T.FI_InvalidRanking.ex
  rw [e]
  exact .of_eq rfl
theorem okI_InvalidRanking (T : Txt w K mg A0) : FnOk P w K mg base CX0 1 A0.i_InvalidRanking A0.di_InvalidRanking ["self", "value"] (sp_err A0.c_InvalidRanking) := by
  refine T.FI_InvalidRanking.ok scI_InvalidRanking (fun vs H Q E h => ?_) (fun cdv A outer s H vs Q E hr h => ?_)
  · obtain ⟨a, v, rfl, _⟩ := h
    rfl
  · obtain ⟨a, v, rfl, ha, k⟩ := h
    refine ⟨_, pss_one (ps_ost (pv 0) (pv 1)), ?_⟩
    exact ⟨v, rfl, _, rfl, a, A0.c_InvalidRanking, rfl, T.er_InvalidRanking.ox, T.er_InvalidRanking.no, .inl ⟨ha, fun d hd ne => k d hd ne⟩⟩
theorem scI_InvalidKnowledge : FnScope ["self", "value"] ["self", "value"] (defScope s_InvalidKnowledge) := ⟨rfl, rfl, rfl, by decide +kernel, rfl, by decide +kernel, by decide +kernel⟩
theorem bdI_InvalidKnowledge (T : Txt w K mg A0) : Binds K A0.di_InvalidKnowledge ["self", "value"] [] := T.FI_InvalidKnowledge.binds fun _ _ _ _ _ _ us hl => match us, hl with | [_, _], _ => rfl
theorem kbI_InvalidKnowledge (T : Txt w K mg A0) : ∀ (s : Shared) (u v : Value), BindsTo s A0.di_InvalidKnowledge ⟨[u], [("value", v)]⟩ (((["self", "value"] : List Str)).zip [u, v]) := fun s u v => by
  obtain ⟨oc, od, kV, doc, pm, an, cdv, ct, osl, e, lk, hcd⟩ := T.FI_InvalidKnowledge.ex
  rw [e]
  exact .of_eq rfl
theorem okI_InvalidKnowledge (T : Txt w K mg A0) : FnOk P w K mg base CX0 1 A0.i_InvalidKnowledge A0.di_InvalidKnowledge ["self", "value"] (sp_err A0.c_InvalidKnowledge) := by
  refine T.FI_InvalidKnowledge.ok scI_InvalidKnowledge (fun vs H Q E h => ?_) (fun cdv A outer s H vs Q E hr h => ?_)
  · obtain ⟨a, v, rfl, _⟩ := h
    rfl
  · obtain ⟨a, v, rfl, ha, k⟩ := h
    refine ⟨_, pss_one (ps_ost (pv 0) (pv 1)), ?_⟩
    exact ⟨v, rfl, _, rfl, a, A0.c_InvalidKnowledge, rfl, T.er_InvalidKnowledge.ox, T.er_InvalidKnowledge.no, .inl ⟨ha, fun d hd ne => k d hd ne⟩⟩
theorem scI_InvalidProgram : FnScope ["self", "value"] ["self", "value"] (defScope s_InvalidProgram) := ⟨rfl, rfl, rfl, by decide +kernel, rfl, by decide +kernel, by decide +kernel⟩
theorem bdI_InvalidProgram (T : Txt w K mg A0) : Binds K A0.di_InvalidProgram ["self", "value"] [] := T.FI_InvalidProgram.binds fun _ _ _ _ _ _ us hl => match us, hl with | [_, _], _ => rfl
theorem kbI_InvalidProgram (T : Txt w K mg A0) : ∀ (s : Shared) (u v : Value), BindsTo s A0.di_InvalidProgram ⟨[u], [("value", v)]⟩ (((["self", "value"] : List Str)).zip [u, v]) := fun s u v => by
  obtain ⟨oc, od, kV, doc, pm, an, cdv, ct, osl, e, lk, hcd⟩ := T.FI_InvalidProgram.ex
  rw [e]
  exact .of_eq rfl
theorem okI_InvalidProgram (T : Txt w K mg A0) : FnOk P w K mg base CX0 1 A0.i_InvalidProgram A0.di_InvalidProgram ["self", "value"] (sp_err A0.c_InvalidProgram) := by
  refine T.FI_InvalidProgram.ok scI_InvalidProgram (fun vs H Q E h => ?_) (fun cdv A outer s H vs Q E hr h => ?_)
  · obtain ⟨a, v, rfl, _⟩ := h
    rfl
  · obtain ⟨a, v, rfl, ha, k⟩ := h
    refine ⟨_, pss_one (ps_ost (pv 0) (pv 1)), ?_⟩
    exact ⟨v, rfl, _, rfl, a, A0.c_InvalidProgram, rfl, T.er_InvalidProgram.ox, T.er_InvalidProgram.no, .inl ⟨ha, fun d hd ne => k d hd ne⟩⟩
theorem scI_InvalidRow : FnScope ["self", "value"] ["self", "value"] (defScope s_InvalidRow) := ⟨rfl, rfl, rfl, by decide +kernel, rfl, by decide +kernel, by decide +kernel⟩
theorem bdI_InvalidRow (T : Txt w K mg A0) : Binds K A0.di_InvalidRow ["self", "value"] [] := T.FI_InvalidRow.binds fun _ _ _ _ _ _ us hl => match us, hl with | [_, _], _ => rfl
theorem kbI_InvalidRow (T : Txt w K mg A0) : ∀ (s : Shared) (u v : Value), BindsTo s A0.di_InvalidRow ⟨[u], [("value", v)]⟩ (((["self", "value"] : List Str)).zip [u, v]) := fun s u v => by
  obtain ⟨oc, od, kV, doc, pm, an, cdv, ct, osl, e, lk, hcd⟩ := T.FI_InvalidRow.ex
  rw [e]
  exact .of_eq rfl
theorem okI_InvalidRow (T : Txt w K mg A0) : FnOk P w K mg base CX0 1 A0.i_InvalidRow A0.di_InvalidRow ["self", "value"] (sp_err A0.c_InvalidRow) := by
  refine T.FI_InvalidRow.ok scI_InvalidRow (fun vs H Q E h => ?_) (fun cdv A outer s H vs Q E hr h => ?_)
  · obtain ⟨a, v, rfl, _⟩ := h
    rfl
  · obtain ⟨a, v, rfl, ha, k⟩ := h
    refine ⟨_, pss_one (ps_ost (pv 0) (pv 1)), ?_⟩
    exact ⟨v, rfl, _, rfl, a, A0.c_InvalidRow, rfl, T.er_InvalidRow.ox, T.er_InvalidRow.no, .inl ⟨ha, fun d hd ne => k d hd ne⟩⟩
theorem scI_InvalidRegister : FnScope ["self", "value"] ["self", "value"] (defScope s_InvalidRegister) := ⟨rfl, rfl, rfl, by decide +kernel, rfl, by decide +kernel, by decide +kernel⟩
theorem bdI_InvalidRegister (T : Txt w K mg A0) : Binds K A0.di_InvalidRegister ["self", "value"] [] := T.FI_InvalidRegister.binds fun _ _ _ _ _ _ us hl => match us, hl with | [_, _], _ => rfl
theorem kbI_InvalidRegister (T : Txt w K mg A0) : ∀ (s : Shared) (u v : Value), BindsTo s A0.di_InvalidRegister ⟨[u], [("value", v)]⟩ (((["self", "value"] : List Str)).zip [u, v]) := fun s u v => by
  obtain ⟨oc, od, kV, doc, pm, an, cdv, ct, osl, e, lk, hcd⟩ := T.FI_InvalidRegister.ex
  rw [e]
  exact .of_eq rfl
theorem okI_InvalidRegister (T : Txt w K mg A0) : FnOk P w K mg base CX0 1 A0.i_InvalidRegister A0.di_InvalidRegister ["self", "value"] (sp_err A0.c_InvalidRegister) := by
  refine T.FI_InvalidRegister.ok scI_InvalidRegister (fun vs H Q E h => ?_) (fun cdv A outer s H vs Q E hr h => ?_)
  · obtain ⟨a, v, rfl, _⟩ := h
    rfl
  · obtain ⟨a, v, rfl, ha, k⟩ := h
    refine ⟨_, pss_one (ps_ost (pv 0) (pv 1)), ?_⟩
    exact ⟨v, rfl, _, rfl, a, A0.c_InvalidRegister, rfl, T.er_InvalidRegister.ox, T.er_InvalidRegister.no, .inl ⟨ha, fun d hd ne => k d hd ne⟩⟩
theorem scI_InvalidQuery : FnScope ["self", "value"] ["self", "value"] (defScope s_InvalidQuery) := ⟨rfl, rfl, rfl, by decide +kernel, rfl, by decide +kernel, by decide +kernel⟩
theorem bdI_InvalidQuery (T : Txt w K mg A0) : Binds K A0.di_InvalidQuery ["self", "value"] [] := T.FI_InvalidQuery.binds fun _ _ _ _ _ _ us hl => match us, hl with | [_, _], _ => rfl
theorem kbI_InvalidQuery (T : Txt w K mg A0) : ∀ (s : Shared) (u v : Value), BindsTo s A0.di_InvalidQuery ⟨[u], [("value", v)]⟩ (((["self", "value"] : List Str)).zip [u, v]) := fun s u v => by
  obtain ⟨oc, od, kV, doc, pm, an, cdv, ct, osl, e, lk, hcd⟩ := T.FI_InvalidQuery.ex
  rw [e]
  exact .of_eq rfl
theorem okI_InvalidQuery (T : Txt w K mg A0) : FnOk P w K mg base CX0 1 A0.i_InvalidQuery A0.di_InvalidQuery ["self", "value"] (sp_err A0.c_InvalidQuery) := by
  refine T.FI_InvalidQuery.ok scI_InvalidQuery (fun vs H Q E h => ?_) (fun cdv A outer s H vs Q E hr h => ?_)
  · obtain ⟨a, v, rfl, _⟩ := h
    rfl
  · obtain ⟨a, v, rfl, ha, k⟩ := h
    refine ⟨_, pss_one (ps_ost (pv 0) (pv 1)), ?_⟩
    exact ⟨v, rfl, _, rfl, a, A0.c_InvalidQuery, rfl, T.er_InvalidQuery.ox, T.er_InvalidQuery.no, .inl ⟨ha, fun d hd ne => k d hd ne⟩⟩
theorem scI_InvalidTable : FnScope ["self", "value"] ["self", "value"] (defScope s_InvalidTable) := ⟨rfl, rfl, rfl, by decide +kernel, rfl, by decide +kernel, by decide +kernel⟩
theorem bdI_InvalidTable (T : Txt w K mg A0) : Binds K A0.di_InvalidTable ["self", "value"] [] := T.FI_InvalidTable.binds fun _ _ _ _ _ _ us hl => match us, hl with | [_, _], _ => rfl
theorem kbI_InvalidTable (T : Txt w K mg A0) : ∀ (s : Shared) (u v : Value), BindsTo s A0.di_InvalidTable ⟨[u], [("value", v)]⟩ (((["self", "value"] : List Str)).zip [u, v]) := fun s u v => by
  obtain ⟨oc, od, kV, doc, pm, an, cdv, ct, osl, e, lk, hcd⟩ := T.FI_InvalidTable.ex
  rw [e]
  exact .of_eq rfl
theorem okI_InvalidTable (T : Txt w K mg A0) : FnOk P w K mg base CX0 1 A0.i_InvalidTable A0.di_InvalidTable ["self", "value"] (sp_err A0.c_InvalidTable) := by
  refine T.FI_InvalidTable.ok scI_InvalidTable (fun vs H Q E h => ?_) (fun cdv A outer s H vs Q E hr h => ?_)
  · obtain ⟨a, v, rfl, _⟩ := h
    rfl
  · obtain ⟨a, v, rfl, ha, k⟩ := h
    refine ⟨_, pss_one (ps_ost (pv 0) (pv 1)), ?_⟩
    exact ⟨v, rfl, _, rfl, a, A0.c_InvalidTable, rfl, T.er_InvalidTable.ox, T.er_InvalidTable.no, .inl ⟨ha, fun d hd ne => k d hd ne⟩⟩
theorem scI_InvalidNumber : FnScope ["self", "value"] ["self", "value"] (defScope s_InvalidNumber) := ⟨rfl, rfl, rfl, by decide +kernel, rfl, by decide +kernel, by decide +kernel⟩
theorem bdI_InvalidNumber (T : Txt w K mg A0) : Binds K A0.di_InvalidNumber ["self", "value"] [] := T.FI_InvalidNumber.binds fun _ _ _ _ _ _ us hl => match us, hl with | [_, _], _ => rfl
theorem kbI_InvalidNumber (T : Txt w K mg A0) : ∀ (s : Shared) (u v : Value), BindsTo s A0.di_InvalidNumber ⟨[u], [("value", v)]⟩ (((["self", "value"] : List Str)).zip [u, v]) := fun s u v => by
  obtain ⟨oc, od, kV, doc, pm, an, cdv, ct, osl, e, lk, hcd⟩ := T.FI_InvalidNumber.ex
  rw [e]
  exact .of_eq rfl
theorem okI_InvalidNumber (T : Txt w K mg A0) : FnOk P w K mg base CX0 1 A0.i_InvalidNumber A0.di_InvalidNumber ["self", "value"] (sp_err A0.c_InvalidNumber) := by
  refine T.FI_InvalidNumber.ok scI_InvalidNumber (fun vs H Q E h => ?_) (fun cdv A outer s H vs Q E hr h => ?_)
  · obtain ⟨a, v, rfl, _⟩ := h
    rfl
  · obtain ⟨a, v, rfl, ha, k⟩ := h
    refine ⟨_, pss_one (ps_ost (pv 0) (pv 1)), ?_⟩
    exact ⟨v, rfl, _, rfl, a, A0.c_InvalidNumber, rfl, T.er_InvalidNumber.ox, T.er_InvalidNumber.no, .inl ⟨ha, fun d hd ne => k d hd ne⟩⟩
theorem scI_UnlikeInputs : FnScope ["self", "value"] ["self", "value"] (defScope s_UnlikeInputs) := ⟨rfl, rfl, rfl, by decide +kernel, rfl, by decide +kernel, by decide +kernel⟩
theorem bdI_UnlikeInputs (T : Txt w K mg A0) : Binds K A0.di_UnlikeInputs ["self", "value"] [] := T.FI_UnlikeInputs.binds fun _ _ _ _ _ _ us hl => match us, hl with | [_, _], _ => rfl
theorem kbI_UnlikeInputs (T : Txt w K mg A0) : ∀ (s : Shared) (u v : Value), BindsTo s A0.di_UnlikeInputs ⟨[u], [("value", v)]⟩ (((["self", "value"] : List Str)).zip [u, v]) := fun s u v => by
  obtain ⟨oc, od, kV, doc, pm, an, cdv, ct, osl, e, lk, hcd⟩ := T.FI_UnlikeInputs.ex
  rw [e]
  exact .of_eq rfl
theorem okI_UnlikeInputs (T : Txt w K mg A0) : FnOk P w K mg base CX0 1 A0.i_UnlikeInputs A0.di_UnlikeInputs ["self", "value"] (sp_err A0.c_UnlikeInputs) := by
  refine T.FI_UnlikeInputs.ok scI_UnlikeInputs (fun vs H Q E h => ?_) (fun cdv A outer s H vs Q E hr h => ?_)
  · obtain ⟨a, v, rfl, _⟩ := h
    rfl
  · obtain ⟨a, v, rfl, ha, k⟩ := h
    refine ⟨_, pss_one (ps_ost (pv 0) (pv 1)), ?_⟩
    exact ⟨v, rfl, _, rfl, a, A0.c_UnlikeInputs, rfl, T.er_UnlikeInputs.ox, T.er_UnlikeInputs.no, .inl ⟨ha, fun d hd ne => k d hd ne⟩⟩
theorem scI_NothingToUndo : FnScope ["self", "value"] ["self", "value"] (defScope s_NothingToUndo) := ⟨rfl, rfl, rfl, by decide +kernel, rfl, by decide +kernel, by decide +kernel⟩
theorem bdI_NothingToUndo (T : Txt w K mg A0) : Binds K A0.di_NothingToUndo ["self", "value"] [] := T.FI_NothingToUndo.binds fun _ _ _ _ _ _ us hl => match us, hl with | [_, _], _ => rfl
theorem kbI_NothingToUndo (T : Txt w K mg A0) : ∀ (s : Shared) (u v : Value), BindsTo s A0.di_NothingToUndo ⟨[u], [("value", v)]⟩ (((["self", "value"] : List Str)).zip [u, v]) := fun s u v => by
  obtain ⟨oc, od, kV, doc, pm, an, cdv, ct, osl, e, lk, hcd⟩ := T.FI_NothingToUndo.ex
  rw [e]
  exact .of_eq rfl
theorem okI_NothingToUndo (T : Txt w K mg A0) : FnOk P w K mg base CX0 1 A0.i_NothingToUndo A0.di_NothingToUndo ["self", "value"] (sp_err A0.c_NothingToUndo) := by
  refine T.FI_NothingToUndo.ok scI_NothingToUndo (fun vs H Q E h => ?_) (fun cdv A outer s H vs Q E hr h => ?_)
  · obtain ⟨a, v, rfl, _⟩ := h
    rfl
  · obtain ⟨a, v, rfl, ha, k⟩ := h
    refine ⟨_, pss_one (ps_ost (pv 0) (pv 1)), ?_⟩
    exact ⟨v, rfl, _, rfl, a, A0.c_NothingToUndo, rfl, T.er_NothingToUndo.ox, T.er_NothingToUndo.no, .inl ⟨ha, fun d hd ne => k d hd ne⟩⟩
theorem scI_Unreadable : FnScope ["self", "value"] ["self", "value"] (defScope s_Unreadable) := ⟨rfl, rfl, rfl, by decide +kernel, rfl, by decide +kernel, by decide +kernel⟩
theorem bdI_Unreadable (T : Txt w K mg A0) : Binds K A0.di_Unreadable ["self", "value"] [] := T.FI_Unreadable.binds fun _ _ _ _ _ _ us hl => match us, hl with | [_, _], _ => rfl
theorem kbI_Unreadable (T : Txt w K mg A0) : ∀ (s : Shared) (u v : Value), BindsTo s A0.di_Unreadable ⟨[u], [("value", v)]⟩ (((["self", "value"] : List Str)).zip [u, v]) := fun s u v => by
  obtain ⟨oc, od, kV, doc, pm, an, cdv, ct, osl, e, lk, hcd⟩ := T.FI_Unreadable.ex
  rw [e]
  exact .of_eq rfl
theorem okI_Unreadable (T : Txt w K mg A0) : FnOk P w K mg base CX0 1 A0.i_Unreadable A0.di_Unreadable ["self", "value"] (sp_err A0.c_Unreadable) := by
  refine T.FI_Unreadable.ok scI_Unreadable (fun vs H Q E h => ?_) (fun cdv A outer s H vs Q E hr h => ?_)
  · obtain ⟨a, v, rfl, _⟩ := h
    rfl
  · obtain ⟨a, v, rfl, ha, k⟩ := h
    refine ⟨_, pss_one (ps_ost (pv 0) (pv 1)), ?_⟩
    exact ⟨v, rfl, _, rfl, a, A0.c_Unreadable, rfl, T.er_Unreadable.ox, T.er_Unreadable.no, .inl ⟨ha, fun d hd ne => k d hd ne⟩⟩
/-! register_names -/
def sp_register_names (K : PySem.W.Frag) (A0 : Ad) : Sp := fun vs H Q E => ∃ n : Int, vs = [.int n] ∧ 1 ≤ n ∧ n ≤ 4 ∧ ∀ t H', H t = none → Same H H' → NmAt H' t (regs n.toNat) → Q (.ref t) H'
theorem sc_register_names : FnScope ["inputs"] ["inputs"] (defScope s_register_names) := ⟨rfl, rfl, rfl, by decide +kernel, rfl, by decide +kernel, by decide +kernel⟩
theorem bd_register_names (T : Txt w K mg A0) : Binds K A0.d_register_names ["inputs"] [] := T.F_register_names.binds fun _ _ _ _ _ _ us hl => match us, hl with | [_], _ => rfl
theorem ok_register_names (T : Txt w K mg A0) : FnOk P w K mg base CX0 1 A0.a_register_names A0.d_register_names ["inputs"] (sp_register_names K A0) := by
  refine T.F_register_names.ok sc_register_names (fun vs H Q E h => ?_) (fun cdv A outer s H vs Q E hr h => ?_)
  · obtain ⟨n, rfl, _⟩ := h
    rfl
  · obtain ⟨n, rfl, h⟩ := h
    refine ⟨_, (pss_one (ps_ret (pe_op op_catZ (pe_slice sl_tupA (pe_glob (v := .ref A0.v_INPUT_NAMES) rfl T.gv_INPUT_NAMES rfl) po_none (po_some (pv 0))) (pe_glob (v := .ref A0.v_OTHER_NAMES) rfl T.gv_OTHER_NAMES rfl)))), ?_⟩
    obtain ⟨h1, h2, k⟩ := h
    have c : n = 1 ∨ n = 2 ∨ n = 3 ∨ n = 4 := by omega
    have fin : ∀ (p : Addr) (H' : Hp) (zs : List Str), Same H H' → SqT K H' p (zs.map V.str) → zs ≠ [] → zs.length ≤ 4 → zs ++ (["x", "y"] : List Str) = regs n.toNat → rCatZ K (.ref p) (.ref A0.v_OTHER_NAMES) H' Q := fun p H' zs s e ne l eq => by
      refine ⟨p, A0.v_OTHER_NAMES, _, _, rfl, rfl, e, T.tv_OTHER_NAMES.sq, fun z => ne (List.map_eq_nil_iff.mp z), fun z => absurd z (by decide), small1000' (by rw [List.length_map]; show _ + 2 ≤ 1000; omega), fun q o hq oc od => ?_⟩
      refine k q _ (s.free hq) (s.trans (sameNew hq)) ⟨o, ?_, oc, od⟩
      rw [upd_same, ← eq, List.map_append]
    rcases c with rfl | rfl | rfl | rfl
    · refine ⟨_, rfl, _, rfl, A0.v_INPUT_NAMES, _, rfl, T.tv_INPUT_NAMES.sq, fun c => absurd c (by decide), fun c p hp => ?_⟩
      exact fin p _ ["p"] (sameNew hp) (SqT.of upd_same) (by decide) (by decide) rfl
    · refine ⟨_, rfl, _, rfl, A0.v_INPUT_NAMES, _, rfl, T.tv_INPUT_NAMES.sq, fun c => absurd c (by decide), fun c p hp => ?_⟩
      exact fin p _ ["p", "q"] (sameNew hp) (SqT.of upd_same) (by decide) (by decide) rfl
    · refine ⟨_, rfl, _, rfl, A0.v_INPUT_NAMES, _, rfl, T.tv_INPUT_NAMES.sq, fun c => absurd c (by decide), fun c p hp => ?_⟩
      exact fin p _ ["p", "q", "r"] (sameNew hp) (SqT.of upd_same) (by decide) (by decide) rfl
    · refine ⟨_, rfl, _, rfl, A0.v_INPUT_NAMES, _, rfl, T.tv_INPUT_NAMES.sq, fun c => ?_, fun c p hp => absurd (by decide) c⟩
      exact fin A0.v_INPUT_NAMES _ ["p", "q", "r", "s"] (Same.refl H) T.tv_INPUT_NAMES.sq (by decide) (by decide) rfl
/-! parts_of -/
def sp_parts_of (K : PySem.W.Frag) (A0 : Ad) : Sp := fun vs H Q E => ∃ (a : Addr) (w : Str) (xs : List V) (f : Str), vs = [.ref a] ∧ H a = some (.tup (.str w :: xs)) ∧ fmT.lookup w = some f ∧ xs.length = f.cps.size ∧ ∀ (p : Addr) (ts : List Addr) (H' : Hp), H p = none → Same H H' → H' p = some (.lst (ts.map V.ref)) → Paired (fun (t : Addr) (q : V × V) => H' t = some (.tup [q.1, q.2])) ts ((sgn f).zip xs) → Q (.ref p) H'
theorem sc_parts_of : FnScope ["row"] ["row"] (defScope s_parts_of) := ⟨rfl, rfl, rfl, by decide +kernel, rfl, by decide +kernel, by decide +kernel⟩
theorem bd_parts_of (T : Txt w K mg A0) : Binds K A0.d_parts_of ["row"] [] := T.F_parts_of.binds fun _ _ _ _ _ _ us hl => match us, hl with | [_], _ => rfl
theorem ok_parts_of (T : Txt w K mg A0) : FnOk P w K mg base CX0 1 A0.a_parts_of A0.d_parts_of ["row"] (sp_parts_of K A0) := by
  refine T.F_parts_of.ok sc_parts_of (fun vs H Q E h => ?_) (fun cdv A outer s H vs Q E hr h => ?_)
  · obtain ⟨a, w, xs, f, rfl, _⟩ := h
    rfl
  · obtain ⟨a, w, xs, f, rfl, h⟩ := h
    refine ⟨_, (pss_one (ps_ret (pe_listZip rfl rfl T.b_list rfl T.b_zip (pa_cons (pe_ix ix_tab (pe_glob (v := .ref A0.v_FORMS) rfl T.gv_FORMS rfl) (pe_ix ix_tup (pv 0) pe_int (fun _ _ => rfl)) (fun _ _ => rfl)) (pa_cons (pe_slice sl_tupA (pv 0) (po_some pe_int) po_none) pa_nil))))), ?_⟩
    obtain ⟨ha, hf, hl, k⟩ := h
    have f3 : f.cps.size ≤ 3 := (fm_all _ (lookup_mem hf)).2.1
    have fv := txt_find (z := w) (l := tab_FORMS)
    rw [show tab_FORMS.lookup w = some f from hf] at fv
    refine ⟨_, rfl, a, _, 0, .str w, rfl, rfl, SqT.of ha, at0v, A0.v_FORMS, w, .str f, _, rfl, rfl, T.kt_FORMS P, fv, ?_⟩
    refine ⟨_, rfl, _, rfl, a, _, rfl, SqT.of ha, fun c => absurd c.1 (by rw [sIx1]; decide), fun c p hp => ?_⟩
    rw [cut_tail]
    exact ⟨f, p, xs, rfl, SqT.of upd_same, hl.symm, by omega, fun q ts H' s hq e pr => k q ts H' ((sameNew hp).free hq) ((sameNew hp).trans s) e pr⟩
/-! Program.__len__ -/
def sp_Program___len (K : PySem.W.Frag) (A0 : Ad) : Sp := fun vs H Q E => ∃ (a : Addr) (n : Int) (as : List Addr) (rs : List (List V)), vs = [.ref a] ∧ ProgAt K H A0.c_Program a n as rs ∧ Q (.int rs.length) H
theorem sc_Program___len : FnScope ["self"] ["self"] (defScope s_Program___len) := ⟨rfl, rfl, rfl, by decide +kernel, rfl, by decide +kernel, by decide +kernel⟩
theorem bd_Program___len (T : Txt w K mg A0) : Binds K A0.d_Program___len ["self"] [] := T.F_Program___len.binds fun _ _ _ _ _ _ us hl => match us, hl with | [_], _ => rfl
theorem ok_Program___len (T : Txt w K mg A0) : FnOk P w K mg base CX0 1 A0.a_Program___len A0.d_Program___len ["self"] (sp_Program___len K A0) := by
  refine T.F_Program___len.ok sc_Program___len (fun vs H Q E h => ?_) (fun cdv A outer s H vs Q E hr h => ?_)
  · obtain ⟨a, n, as, rs, rfl, _⟩ := h
    rfl
  · obtain ⟨a, n, as, rs, rfl, h⟩ := h
    refine ⟨_, (pss_one (ps_ret (pe_callB call_len_seq (by rfl) T.b_len (by decide +kernel) (pa_cons (pe_fld (pv 0) rfl) pa_nil)))), ?_⟩
    obtain ⟨hp, k⟩ := h
    obtain ⟨dx, l, t, ps, e1, e2, e3, e4, e5, n1, n2, hz, hw, all⟩ := hp
    refine ⟨_, rfl, a, A0.c_Program, dx, _, _, rfl, e1, T.cl_Program, T.nf_Program__rows, lk_rows, l, _, rfl, .inl (SqL.of e2), ?_⟩
    rw [List.length_map, Paired.length e3]
    exact k
/-! _is_item -/
def sp_is_item (K : PySem.W.Frag) (A0 : Ad) : Sp := fun vs H Q E => ∃ (k x : V) (t : Addr) (ns : List Str) (size : Int), vs = [k, x, .ref t, .int size] ∧ isKd k ∧ SqT K H t (ns.map V.str) ∧ Atom x ∧ (k = .str "C" → ∃ z, x = .str z) ∧ Q (.bl (itemOk k x ns size)) H
theorem sc_is_item : FnScope ["kind", "item", "names", "many_rows"] ["kind", "item", "names", "many_rows"] (defScope s_is_item) := ⟨rfl, rfl, rfl, by decide +kernel, rfl, by decide +kernel, by decide +kernel⟩
theorem bd_is_item (T : Txt w K mg A0) : Binds K A0.d_is_item ["kind", "item", "names", "many_rows"] [] := T.F_is_item.binds fun _ _ _ _ _ _ us hl => match us, hl with | [_, _, _, _], _ => rfl
theorem ok_is_item (T : Txt w K mg A0) : FnOk P w K mg base CX0 1 A0.a_is_item A0.d_is_item ["kind", "item", "names", "many_rows"] (sp_is_item K A0) := by
  refine T.F_is_item.ok sc_is_item (fun vs H Q E h => ?_) (fun cdv A outer s H vs Q E hr h => ?_)
  · obtain ⟨k, x, t, ns, size, rfl, _⟩ := h
    rfl
  · obtain ⟨k, x, t, ns, size, rfl, h⟩ := h
    refine ⟨_, (pss_cons (ps_if (pt_cmpR op_eq (pv 0) pe_str (nomark _)) (pss_one (ps_ret (pe_cmpR (op_in_seq) (pv 1) (pv 2) rfl))) pss_nil)
        (pss_cons (ps_if (pt_cmpR op_eq (pv 0) pe_str (nomark _)) (pss_one (ps_ret (pe_cmpR op_inT (pv 1) (pe_glob (v := .ref A0.v_CONDITIONS) rfl T.gv_CONDITIONS rfl) rfl))) pss_nil)
        (pss_one (ps_ret (pe_and (pe_cmpR op_isTyB (pe_callTy RZ.call_type4 (by rfl) T.b_type (by decide +kernel) (pa_cons (pv 1) pa_nil)) (pe_bltn (v := .ty "int") (by rfl) T.b_int (by decide +kernel) rfl) (nomark _)) (pe_one (pe_chain op_le op_le pe_int (pv 1) (pv 3)))))))), ?_⟩
    obtain ⟨hk, ht, hx, hc, q⟩ := h
    rcases hk with rfl | rfl | rfl
    · refine ⟨_, rfl, rfl, _, rfl, ?_⟩
      refine tT (by decide +kernel) ?_
      refine ⟨_, rfl, _, rfl, t, _, rfl, .inr ht, hx.flat, flat_strs, ?_⟩
      cases hx with
      | s z =>
        rw [inV_str]
        exact q
      | i n =>
        rw [inV_int]
        exact q
    · refine ⟨_, rfl, rfl, _, rfl, ?_⟩
      refine tF (by decide +kernel) ?_
      refine ⟨_, rfl, rfl, _, rfl, ?_⟩
      refine tT (by decide +kernel) ?_
      obtain ⟨z, rfl⟩ := hc rfl
      refine ⟨_, rfl, z, _, _, rfl, rfl, T.kt_CONDITIONS P, ?_⟩
      rw [item_C] at q
      have ci := cond_is z
      rcases tab_find (z := z) (tr_CONDITIONS T) with ⟨h1, h2⟩ | ⟨os, a, h1, h2, h3⟩
      · rw [h1] at ci
        rw [h2]
        dsimp only at q
        rw [← ci] at q
        exact q
      · rw [h1] at ci
        rw [h2]
        dsimp only at q
        rw [← ci] at q
        exact q
    · refine ⟨_, rfl, rfl, _, rfl, ?_⟩
      refine tF (by decide +kernel) ?_
      refine ⟨_, rfl, rfl, _, rfl, ?_⟩
      refine tF (by decide +kernel) ?_
      rw [item_T] at q
      cases hx with
      | s z =>
        refine ⟨_, rfl, _, _, rfl, .str z, _, _, rfl, rfl, _, rfl, ?_⟩
        exact tF (by decide +kernel) q
      | i n =>
        refine ⟨_, rfl, _, _, rfl, .int n, _, _, rfl, rfl, _, rfl, ?_⟩
        refine tT (by decide +kernel) ?_
        refine ⟨_, rfl, _, _, rfl, rfl, _, rfl, ?_⟩
        by_cases c : 0 ≤ n
        · refine tT (decide_eq_true c) ?_
          dsimp only at q
          rw [decide_eq_true c, Bool.true_and] at q
          exact ⟨_, rfl, _, _, rfl, rfl, q⟩
        · refine tF (decide_eq_false c) ?_
          dsimp only at q
          rw [decide_eq_false c, Bool.false_and] at q
          exact q
/-! _placed_item -/
def sp_placed_item (K : PySem.W.Frag) (A0 : Ad) : Sp := fun vs H Q E => ∃ (k x : V) (t : Addr) (ns : List Str) (size : Int), vs = [k, x, .ref t] ∧ NmAt H t ns ∧ isKd k ∧ itemOk k x ns size = true ∧ ∀ p, PlRel K ns k x p → Q p H
theorem sc_placed_item : FnScope ["kind", "item", "names"] ["kind", "item", "names"] (defScope s_placed_item) := ⟨rfl, rfl, rfl, by decide +kernel, rfl, by decide +kernel, by decide +kernel⟩
theorem bd_placed_item (T : Txt w K mg A0) : Binds K A0.d_placed_item ["kind", "item", "names"] [] := T.F_placed_item.binds fun _ _ _ _ _ _ us hl => match us, hl with | [_, _, _], _ => rfl
theorem ok_placed_item (T : Txt w K mg A0) : FnOk P w K mg base CX0 1 A0.a_placed_item A0.d_placed_item ["kind", "item", "names"] (sp_placed_item K A0) := by
  refine T.F_placed_item.ok sc_placed_item (fun vs H Q E h => ?_) (fun cdv A outer s H vs Q E hr h => ?_)
  · obtain ⟨k, x, t, ns, size, rfl, _⟩ := h
    rfl
  · obtain ⟨k, x, t, ns, size, rfl, h⟩ := h
    refine ⟨_, (pss_cons (ps_if (pt_cmpR op_eq (pv 0) pe_str (nomark _)) (pss_one (ps_ret (pe_tupIx (pv 2) (pa_cons (pv 1) pa_nil)))) pss_nil)
        (pss_one (ps_ret (pe_ifExp (pt_cmpR op_eq (pv 0) pe_str (nomark _)) (pe_ix ix_tab (pe_glob (v := .ref A0.v_CONDITIONS) rfl T.gv_CONDITIONS rfl) (pv 1) (fun _ _ => rfl)) (pv 1))))), ?_⟩
    obtain ⟨ht, hk, ok, q⟩ := h
    rcases hk with rfl | rfl | rfl
    · rw [item_R] at ok
      obtain ⟨z, rfl, m⟩ : ∃ z, x = .str z ∧ z ∈ ns := by
        cases x with
        | str z => exact ⟨z, rfl, of_decide_eq_true ok⟩
        | _ => exact absurd (show false = true from ok) (by decide)
      obtain ⟨j, h1, h2⟩ := first_at m
      refine ⟨_, rfl, rfl, _, rfl, ?_⟩
      refine tT (by decide +kernel) ?_
      refine ⟨_, rfl, t, ns, rfl, ht, _, rfl, z, j, rfl, ht, h1, h2, ?_⟩
      exact q _ (.inl ⟨rfl, z, j, rfl, h1, h2, rfl⟩)
    · rw [item_C] at ok
      obtain ⟨z, rfl, m⟩ : ∃ z, x = .str z ∧ z ∈ conds := by
        cases x with
        | str z => exact ⟨z, rfl, of_decide_eq_true ok⟩
        | _ => exact absurd (show false = true from ok) (by decide)
      refine ⟨_, rfl, rfl, _, rfl, ?_⟩
      refine tF (by decide +kernel) ?_
      refine ⟨_, rfl, rfl, _, rfl, ?_⟩
      refine tT (by decide +kernel) ?_
      have lk : tab_CONDITIONS.lookup z = some (outsOf z) := (cond_back z m).2.1
      rcases tab_find (z := z) (tr_CONDITIONS T) with ⟨h1, _⟩ | ⟨os, a, h1, h2, h3⟩
      · rw [lk] at h1
        cases h1
      · rw [lk] at h1
        cases h1
        exact ⟨_, rfl, A0.v_CONDITIONS, z, .ref a, _, rfl, rfl, T.kt_CONDITIONS P, h2, q _ (.inr (.inl ⟨rfl, z, a, rfl, m, rfl, h3⟩))⟩
    · refine ⟨_, rfl, rfl, _, rfl, ?_⟩
      refine tF (by decide +kernel) ?_
      refine ⟨_, rfl, rfl, _, rfl, ?_⟩
      refine tF (by decide +kernel) ?_
      exact ⟨_, rfl, q _ (.inr (.inr ⟨rfl, rfl⟩))⟩
/-! _law_pool -/
def sp_law_pool (K : PySem.W.Frag) : Sp := fun vs H Q E => ∃ (a : Addr) (ns : List Int) (i : Int), vs = [.ref a, .int i] ∧ SqL K H a (ns.map V.int) ∧ 0 ≤ i ∧ i ≤ 1000 ∧ ns.length ≤ 63 ∧ ∀ p H', H p = none → Same H H' → Pool H' p 0 → Q (.ref p) H'
theorem sc_law_pool : FnScope ["script", "at", "cell"] ["script", "at"] (defScope s_law_pool) := ⟨rfl, rfl, rfl, by decide +kernel, rfl, by decide +kernel, by decide +kernel⟩
theorem bd_law_pool (T : Txt w K mg A0) : Binds K A0.d_law_pool ["script", "at"] [] := T.F_law_pool.binds fun _ _ _ _ _ _ us hl => match us, hl with | [_, _], _ => rfl
theorem ok_law_pool (T : Txt w K mg A0) : FnOk P w K mg base CX0 1 A0.a_law_pool A0.d_law_pool ["script", "at"] (sp_law_pool K) := by
  refine T.F_law_pool.ok sc_law_pool (fun vs H Q E h => ?_) (fun cdv A outer s H vs Q E hr h => ?_)
  · obtain ⟨a, ns, i, rfl, _⟩ := h
    rfl
  · obtain ⟨a, ns, i, rfl, h⟩ := h
    refine ⟨_, (pss_cons (ps_set (i := 2) sc_law_pool.nd rfl (Or.inl rfl) pe_int)
        (pss_cons (ps_if (pt_cmpR op_lt (pv 1) (pe_callB call_len_seq (by rfl) T.b_len (by decide +kernel) (pa_cons (pv 0) pa_nil)) (nomark _)) (pss_one (ps_set (i := 2) sc_law_pool.nd rfl (Or.inl rfl) (pe_ix ix_list (pv 0) (pv 1) (fun _ _ => rfl)))) pss_nil)
        (pss_one (ps_ret (pe_lst (pa_cons (pe_callB (call_max2 rfl) (by rfl) T.b_max (by decide +kernel) (pa_cons pe_int (pa_cons (pe_op op_sub (pe_callB call_abs (by rfl) T.b_abs (by decide +kernel) (pa_cons (pv 2) pa_nil)) (pe_op op_pow pe_int pe_int)) pa_nil))) (pa_cons (pe_op op_add (pe_op op_mod (pv 2) pe_int) (pe_op op_mul pe_int (pe_op op_add (pv 1) pe_int))) (pa_cons pe_int pa_nil)))))))), ?_⟩
    obtain ⟨hS, h0, h1, hl, k⟩ := h
    have fin : ∀ c : Int, ∀ p, H p = none → Q (.ref p) (upd H p (.lst [.int (if (if c < 0 then -c else c) - 10 ^ (18 : Int).toNat > 0 then (if c < 0 then -c else c) - 10 ^ (18 : Int).toNat else 0), .int (c % 2305843009213693951 + 3276509057 * (i + 1)), .int 0])) := fun c p hp => by
      refine k p _ hp (sameNew hp) ⟨_, _, _, upd_same, ?_, ?_, ?_, by decide, by decide⟩
      · generalize (if c < 0 then -c else c) - 10 ^ (18 : Int).toNat = z
        split <;> omega
      · have := Int.emod_nonneg c (show (2305843009213693951 : Int) ≠ 0 by decide)
        omega
      · have := Int.emod_lt_of_pos c (show (0 : Int) < 2305843009213693951 by decide)
        omega
    refine ⟨_, rfl, _, rfl, a, _, rfl, .inl hS, _, _, rfl, rfl, _, rfl, ?_⟩
    rw [List.length_map]
    by_cases c : i < (ns.length : Int)
    · obtain ⟨z, hz⟩ : ∃ z, ns[i.toNat]? = some z := ⟨ns[i.toNat]'(by omega), List.getElem?_eq_getElem (by omega)⟩
      refine tT (decide_eq_true c) ?_
      refine ⟨_, rfl, _, rfl, a, _, i, .int z, rfl, rfl, hS, ?_, ?_⟩
      · refine at_of (j := i.toNat) (by omega) ?_
        rw [List.getElem?_map, hz]
        rfl
      refine ⟨_, rfl, _, rfl, _, _, rfl, rfl, ⟨by decide, by decide, by decide⟩, _, _, rfl, rfl, _, _, rfl, ?_⟩
      refine ⟨_, rfl, _, _, rfl, rfl, (by show (0 : Int) < 2305843009213693951; decide), _, rfl, _, _, rfl, rfl, _, _, rfl, rfl, .inl ⟨by decide, by decide⟩, _, _, rfl, rfl, ?_⟩
      exact ⟨(by show 3 ≤ sizeLine; decide), fin z⟩
    · refine tF (decide_eq_false c) ?_
      refine ⟨_, rfl, _, rfl, _, _, rfl, rfl, ⟨by decide, by decide, by decide⟩, _, _, rfl, rfl, _, _, rfl, ?_⟩
      refine ⟨_, rfl, _, _, rfl, rfl, (by show (0 : Int) < 2305843009213693951; decide), _, rfl, _, _, rfl, rfl, _, _, rfl, rfl, .inl ⟨by decide, by decide⟩, _, _, rfl, rfl, ?_⟩
      exact ⟨(by show 3 ≤ sizeLine; decide), fin 0⟩
/-! _law_draw -/
def sp_law_draw (K : PySem.W.Frag) : Sp := fun vs H Q E => ∃ (p : Addr) (m : Int) (n : Nat), vs = [.ref p, .int m] ∧ Pool H p n ∧ n ≤ 100000 ∧ 0 < m ∧ m < 2 ^ 400 ∧ ∀ d H', 0 ≤ d → d < m → Pool H' p (n + 1) → But p H H' → Q (.int d) H'
theorem sc_law_draw : FnScope ["pool", "many", "drawn", "mixed"] ["pool", "many"] (defScope s_law_draw) := ⟨rfl, rfl, rfl, by decide +kernel, rfl, by decide +kernel, by decide +kernel⟩
theorem bd_law_draw (T : Txt w K mg A0) : Binds K A0.d_law_draw ["pool", "many"] [] := T.F_law_draw.binds fun _ _ _ _ _ _ us hl => match us, hl with | [_, _], _ => rfl
theorem ok_law_draw (T : Txt w K mg A0) : FnOk P w K mg base CX0 1 A0.a_law_draw A0.d_law_draw ["pool", "many"] (sp_law_draw K) := by
  refine T.F_law_draw.ok sc_law_draw (fun vs H Q E h => ?_) (fun cdv A outer s H vs Q E hr h => ?_)
  · obtain ⟨p, m, n, rfl, _⟩ := h
    rfl
  · obtain ⟨p, m, n, rfl, h⟩ := h
    refine ⟨_, (pss_cons (ps_if (pt_cmpR op_gt (pe_ix ix_list (pv 0) pe_int (fun _ _ => rfl)) pe_int (nomark _)) (pss_cons (ps_set (i := 2) sc_law_draw.nd rfl (Or.inl rfl) (pe_op op_mod (pe_ix ix_list (pv 0) pe_int (fun _ _ => rfl)) (pv 1)))
        (pss_cons (ps_asg (pe_op op_fdivW (pe_ix ix_list (pv 0) pe_int (fun _ _ => rfl)) (pv 1)) (pg_sub (pv 0) pe_int set_list))
        (pss_one (ps_ret (pv 2))))) pss_nil)
        (pss_cons (ps_asg (pe_op op_add (pe_ix ix_list (pv 0) pe_int (fun _ _ => rfl)) pe_int) (pg_sub (pv 0) pe_int set_list))
        (pss_cons (ps_set (i := 3) sc_law_draw.nd rfl (Or.inl rfl) (pe_op op_mod (pe_op op_powB (pe_op op_add (pe_ix ix_list (pv 0) pe_int (fun _ _ => rfl)) (pe_op op_mul pe_int (pe_ix ix_list (pv 0) pe_int (fun _ _ => rfl)))) pe_int) pe_int))
        (pss_cons (ps_set (i := 3) sc_law_draw.nd rfl (Or.inl rfl) (pe_op op_mod (pe_op op_powB (pe_op op_add (pv 3) (pe_op op_mul pe_int (pe_ix ix_list (pv 0) pe_int (fun _ _ => rfl)))) pe_int) pe_int))
        (pss_one (ps_ret (pe_op op_mod (pe_op op_fdivW (pv 3) pe_int) (pv 1)))))))), ?_⟩
    obtain ⟨pl, hn, h0, h1, k⟩ := h
    obtain ⟨g, b, c, hp, g0, b0, b1, c0, c1⟩ := pl
    have lm := log_ok h0 h1
    refine ⟨_, rfl, p, _, 0, .int g, rfl, rfl, SqL.of hp, rfl, _, _, rfl, rfl, _, rfl, ?_⟩
    by_cases z : 0 < g
    · refine tT (decide_eq_true z) ?_
      refine ⟨_, rfl, p, _, 0, .int g, rfl, rfl, SqL.of hp, rfl, _, rfl, _, _, rfl, rfl, h0, ?_⟩
      refine ⟨_, rfl, p, _, 0, .int g, rfl, rfl, SqL.of hp, rfl, _, rfl, _, _, rfl, rfl, ⟨h0, lm⟩, ?_⟩
      refine ⟨_, rfl, p, _, 0, 0, rfl, rfl, hp, rfl, ?_⟩
      refine ⟨_, rfl, ?_⟩
      exact k _ _ (Int.emod_nonneg g (by omega)) (Int.emod_lt_of_pos g h0) ⟨g / m, b, c, upd_same, Int.ediv_nonneg g0 (by omega), b0, b1, c0, by omega⟩ But.upd
    · refine tF (decide_eq_false z) ?_
      have e1 : ∀ o, (upd H p o) p = some o := fun o => upd_same
      refine ⟨_, rfl, p, _, 2, .int c, rfl, rfl, SqL.of hp, rfl, _, _, rfl, rfl, _, rfl, p, _, 2, 2, rfl, rfl, hp, rfl, ?_⟩
      have hp1 : (upd H p (.lst (List.set [V.int g, V.int b, V.int c] 2 (.int (c + 1))))) p = some (.lst [.int g, .int b, .int (c + 1)]) := upd_same
      refine ⟨_, rfl, p, _, 1, .int b, rfl, rfl, SqL.of hp1, rfl, _, rfl, p, _, 2, .int (c + 1), rfl, rfl, SqL.of hp1, rfl, _, _, rfl, rfl, .inl ⟨by decide, by decide⟩, _, _, rfl, rfl, _, _, rfl, rfl, powB_of (a := 64) (by omega) (by decide) (by decide) (by decide), _, _, rfl, rfl, (by show (0 : Int) < 162259276829213363391578010288127; decide), ?_⟩
      generalize hX : (b + 15487469 * (c + 1)) ^ (3 : Int).toNat % 162259276829213363391578010288127 = X
      have x0 : 0 ≤ X := by rw [← hX]; exact Int.emod_nonneg _ (by decide)
      have x1 : X < 162259276829213363391578010288127 := by rw [← hX]; exact Int.emod_lt_of_pos _ (by decide)
      refine ⟨_, rfl, _, rfl, p, _, 2, .int (c + 1), rfl, rfl, SqL.of hp1, rfl, _, _, rfl, rfl, .inl ⟨by decide, by decide⟩, _, _, rfl, rfl, _, _, rfl, rfl, powB_of (a := 120) (by omega) (by decide) (by decide) (by decide), _, _, rfl, rfl, (by show (0 : Int) < 170141183460469231731687303715884105727; decide), ?_⟩
      refine ⟨_, rfl, _, _, rfl, rfl, ⟨by decide, by decide⟩, _, rfl, _, _, rfl, rfl, h0, ?_⟩
      exact k _ _ (Int.emod_nonneg _ (by omega)) (Int.emod_lt_of_pos _ h0) ⟨g, b, c + 1, hp1, g0, b0, b1, by omega, by omega⟩ But.upd
/-! _law_conds -/
def sp_law_conds (K : PySem.W.Frag) : Sp := fun vs H Q E => ∃ _ : Unit, vs = [] ∧ ∀ p H', H p = none → Same H H' → H' p = some (.lst (conds.map V.str)) → Q (.ref p) H'
theorem sc_law_conds : FnScope [] [] (defScope s_law_conds) := ⟨rfl, rfl, rfl, by decide +kernel, rfl, by decide +kernel, by decide +kernel⟩
theorem bd_law_conds (T : Txt w K mg A0) : Binds K A0.d_law_conds [] [] := T.F_law_conds.binds fun _ _ _ _ _ _ us hl => match us, hl with | [], _ => rfl
theorem ok_law_conds (T : Txt w K mg A0) : FnOk P w K mg base CX0 1 A0.a_law_conds A0.d_law_conds [] (sp_law_conds K) := by
  refine T.F_law_conds.ok sc_law_conds (fun vs H Q E h => ?_) (fun cdv A outer s H vs Q E hr h => ?_)
  · obtain ⟨_, rfl, _⟩ := h
    rfl
  · obtain ⟨_, rfl, h⟩ := h
    refine ⟨_, (pss_one (ps_ret (pe_lst (pa_cons pe_str (pa_cons pe_str (pa_cons pe_str (pa_cons pe_str (pa_cons pe_str (pa_cons pe_str (pa_cons pe_str (pa_cons pe_str (pa_cons pe_str (pa_cons pe_str (pa_cons pe_str (pa_cons pe_str pa_nil))))))))))))))), ?_⟩
    exact ⟨(by show 12 ≤ sizeLine; decide), fun p hp => h p _ hp (sameNew hp) upd_same⟩
/-! _law_kind -/
def sp_law_kind (K : PySem.W.Frag) (A0 : Ad) : Sp := fun vs H Q E => ∃ (a : Addr) (j : Nat) (C : Addr) (v : V), vs = [.ref a] ∧ ErrK H a C "value" v ∧ [A0.c_InvalidWidth, A0.c_InvalidWords, A0.c_InvalidOutcome, A0.c_InvalidCondition, A0.c_InvalidRanking, A0.c_InvalidKnowledge, A0.c_InvalidProgram, A0.c_InvalidRow, A0.c_InvalidRegister, A0.c_InvalidQuery, A0.c_InvalidTable, A0.c_InvalidNumber, A0.c_UnlikeInputs, A0.c_NothingToUndo, A0.c_Unreadable][j]? = some C ∧ kindName j ≠ "odd" ∧ ∀ H', Same H H' → Q (.str (kindName j)) H'
theorem sc_law_kind : FnScope ["caught", "some", "odd"] ["caught"] (defScope s_law_kind) := ⟨rfl, rfl, rfl, by decide +kernel, rfl, by decide +kernel, by decide +kernel⟩
theorem bd_law_kind (T : Txt w K mg A0) : Binds K A0.d_law_kind ["caught"] [] := T.F_law_kind.binds fun _ _ _ _ _ _ us hl => match us, hl with | [_], _ => rfl
set_option maxHeartbeats 0 in
theorem ok_law_kind (T : Txt w K mg A0) : FnOk P w K mg base CX0 1 A0.a_law_kind A0.d_law_kind ["caught"] (sp_law_kind K A0) := by
  refine T.F_law_kind.ok sc_law_kind (fun vs H Q E h => ?_) (fun cdv A outer s H vs Q E hr h => ?_)
  · obtain ⟨a, j, C, v, rfl, _⟩ := h
    rfl
  · obtain ⟨a, j, C, v, rfl, h⟩ := h
    refine ⟨_, (pss_cons (ps_set (i := 1) sc_law_kind.nd rfl (Or.inl rfl) (pe_lst (pa_cons (pe_callB call_isK (by rfl) T.b_isinstance (by decide +kernel) (pa_cons (pv 0) (pa_cons (pe_glob (v := .ref A0.c_InvalidWidth) rfl T.gc_InvalidWidth rfl) pa_nil))) (pa_cons (pe_callB call_isK (by rfl) T.b_isinstance (by decide +kernel) (pa_cons (pv 0) (pa_cons (pe_glob (v := .ref A0.c_InvalidWords) rfl T.gc_InvalidWords rfl) pa_nil))) (pa_cons (pe_callB call_isK (by rfl) T.b_isinstance (by decide +kernel) (pa_cons (pv 0) (pa_cons (pe_glob (v := .ref A0.c_InvalidOutcome) rfl T.gc_InvalidOutcome rfl) pa_nil))) pa_nil)))))
        (pss_cons (ps_set (i := 1) sc_law_kind.nd rfl (Or.inl rfl) (pe_op op_cat (pv 1) (pe_lst (pa_cons (pe_callB call_isK (by rfl) T.b_isinstance (by decide +kernel) (pa_cons (pv 0) (pa_cons (pe_glob (v := .ref A0.c_InvalidCondition) rfl T.gc_InvalidCondition rfl) pa_nil))) (pa_cons (pe_callB call_isK (by rfl) T.b_isinstance (by decide +kernel) (pa_cons (pv 0) (pa_cons (pe_glob (v := .ref A0.c_InvalidRanking) rfl T.gc_InvalidRanking rfl) pa_nil))) pa_nil)))))
        (pss_cons (ps_set (i := 1) sc_law_kind.nd rfl (Or.inl rfl) (pe_op op_cat (pv 1) (pe_lst (pa_cons (pe_callB call_isK (by rfl) T.b_isinstance (by decide +kernel) (pa_cons (pv 0) (pa_cons (pe_glob (v := .ref A0.c_InvalidProgram) rfl T.gc_InvalidProgram rfl) pa_nil))) (pa_cons (pe_callB call_isK (by rfl) T.b_isinstance (by decide +kernel) (pa_cons (pv 0) (pa_cons (pe_glob (v := .ref A0.c_InvalidRow) rfl T.gc_InvalidRow rfl) pa_nil))) pa_nil)))))
        (pss_cons (ps_set (i := 1) sc_law_kind.nd rfl (Or.inl rfl) (pe_op op_cat (pv 1) (pe_lst (pa_cons (pe_callB call_isK (by rfl) T.b_isinstance (by decide +kernel) (pa_cons (pv 0) (pa_cons (pe_glob (v := .ref A0.c_InvalidNumber) rfl T.gc_InvalidNumber rfl) pa_nil))) (pa_cons (pe_callB call_isK (by rfl) T.b_isinstance (by decide +kernel) (pa_cons (pv 0) (pa_cons (pe_glob (v := .ref A0.c_UnlikeInputs) rfl T.gc_UnlikeInputs rfl) pa_nil))) pa_nil)))))
        (pss_cons (ps_set (i := 2) sc_law_kind.nd rfl (Or.inl rfl) (pe_callB call_isK (by rfl) T.b_isinstance (by decide +kernel) (pa_cons (pv 0) (pa_cons (pe_tup (pa_cons (pe_glob (v := .ref A0.c_InvalidKnowledge) rfl T.gc_InvalidKnowledge rfl) (pa_cons (pe_glob (v := .ref A0.c_InvalidRegister) rfl T.gc_InvalidRegister rfl) (pa_cons (pe_glob (v := .ref A0.c_InvalidQuery) rfl T.gc_InvalidQuery rfl) (pa_cons (pe_glob (v := .ref A0.c_InvalidTable) rfl T.gc_InvalidTable rfl) (pa_cons (pe_glob (v := .ref A0.c_NothingToUndo) rfl T.gc_NothingToUndo rfl) (pa_cons (pe_glob (v := .ref A0.c_Unreadable) rfl T.gc_Unreadable rfl) pa_nil))))))) pa_nil))))
        (pss_cons (ps_if (PW.pt (pw_or (pt_val (pv 2)) (pw_or (pt_not (pt_val (pe_callB call_isK (by rfl) T.b_isinstance (by decide +kernel) (pa_cons (pv 0) (pa_cons (pe_glob (v := .ref A0.c_BranchError) rfl T.gc_BranchError rfl) pa_nil))))) (pw_or (pt_not (pt_val (pe_callB call_isK (by rfl) T.b_isinstance (by decide +kernel) (pa_cons (pv 0) (pa_cons (pe_bltn (v := .ty "ValueError") (by rfl) T.b_ValueError (by decide +kernel) rfl) pa_nil))))) (pw_or1 (pt_cmpR op_ne (pe_bmX (K := K) rfl PySem.F.plainAttrs_list PySem.F.slot_list_count PySem.F.type_list_count (show MtR _ _ (rCntB K) from mt_lcountB) (pv 1) (pa_cons pe_bl pa_nil) rfl rfl rfl rfl rfl) pe_int (nomark _))))))) (pss_one (ps_ret pe_str)) pss_nil)
        (pss_one (ps_ret (pe_ix ix_list (pe_bmX (K := K) rfl PySem.F.plainAttrs_str PySem.F.slot_str_split PySem.F.type_str_split mt_split pe_str (pa_cons pe_str pa_nil) rfl rfl rfl rfl rfl) (pe_bmX (K := K) rfl PySem.F.plainAttrs_list PySem.F.slot_list_index PySem.F.type_list_index (show MtR _ _ (rIndex K) from mt_index) (pv 1) (pa_cons pe_bl pa_nil) rfl rfl rfl rfl rfl) (fun _ _ => rfl)))))))))), ?_⟩
    obtain ⟨ea, eC, kn, k⟩ := h
    obtain ⟨b1, b2, _⟩ := kit_b T.tab eC
    have K0 : ∀ {i : Nat} {d : Addr}, ([A0.c_InvalidWidth, A0.c_InvalidWords, A0.c_InvalidOutcome, A0.c_InvalidCondition, A0.c_InvalidRanking, A0.c_InvalidKnowledge, A0.c_InvalidProgram, A0.c_InvalidRow, A0.c_InvalidRegister, A0.c_InvalidQuery, A0.c_InvalidTable, A0.c_InvalidNumber, A0.c_UnlikeInputs, A0.c_NothingToUndo, A0.c_Unreadable] : List Addr)[i]? = some d → PySem.W.kitOne K (.ref C) (.ref d) = some (decide (j = i)) := fun hd => kit_ij T.tab eC hd
    have jl : j < 15 := (List.getElem?_eq_some_iff.mp eC).1
    have ec : ExcC K C := by
      match j, jl, eC with
      | 0, _, z => cases z; exact T.er_InvalidWidth.ec
      | 1, _, z => cases z; exact T.er_InvalidWords.ec
      | 2, _, z => cases z; exact T.er_InvalidOutcome.ec
      | 3, _, z => cases z; exact T.er_InvalidCondition.ec
      | 4, _, z => cases z; exact T.er_InvalidRanking.ec
      | 5, _, z => cases z; exact T.er_InvalidKnowledge.ec
      | 6, _, z => cases z; exact T.er_InvalidProgram.ec
      | 7, _, z => cases z; exact T.er_InvalidRow.ec
      | 8, _, z => cases z; exact T.er_InvalidRegister.ec
      | 9, _, z => cases z; exact T.er_InvalidQuery.ec
      | 10, _, z => cases z; exact T.er_InvalidTable.ec
      | 11, _, z => cases z; exact T.er_InvalidNumber.ec
      | 12, _, z => cases z; exact T.er_UnlikeInputs.ec
      | 13, _, z => cases z; exact T.er_NothingToUndo.ec
      | 14, _, z => cases z; exact T.er_Unreadable.ec
    have isn : ∀ {i : Nat} {d : Addr} {H' : Hp} {Q' : VK}, ([A0.c_InvalidWidth, A0.c_InvalidWords, A0.c_InvalidOutcome, A0.c_InvalidCondition, A0.c_InvalidRanking, A0.c_InvalidKnowledge, A0.c_InvalidProgram, A0.c_InvalidRow, A0.c_InvalidRegister, A0.c_InvalidQuery, A0.c_InvalidTable, A0.c_InvalidNumber, A0.c_UnlikeInputs, A0.c_NothingToUndo, A0.c_Unreadable] : List Addr)[i]? = some d → Same H H' → Q' (.bl (decide (j = i))) H' → rIsK K [.ref a, .ref d] H' Q' := fun hd s q => .inl ⟨a, C, _, v, _, _, _, rfl, ea.same s, ec, .own _, K0 hd, q⟩
    obtain ⟨nk, cn, idx, i9, at9, nm, pre⟩ := kind_of kn jl
    refine ⟨_, rfl, isn (i := 0) rfl (Same.refl H) ?_⟩
    refine ⟨_, rfl, isn (i := 1) rfl (Same.refl H) ?_⟩
    refine ⟨_, rfl, isn (i := 2) rfl (Same.refl H) ?_⟩
    refine ⟨(by show 3 ≤ sizeLine; decide), fun l1 h1 => ?_⟩
    have s1 := sameNew h1 (o := .lst [.bl (decide (j = 0)), .bl (decide (j = 1)), .bl (decide (j = 2))])
    refine ⟨_, rfl, _, rfl, isn (i := 3) rfl s1 ?_⟩
    refine ⟨_, rfl, isn (i := 4) rfl s1 ?_⟩
    refine ⟨(by show 2 ≤ sizeLine; decide), fun l2 h2 => ?_⟩
    have s2 := sameNew h2 (o := .lst [.bl (decide (j = 3)), .bl (decide (j = 4))])
    refine ⟨l1, l2, _, _, rfl, rfl, s2 _ _ upd_same, upd_same, (by show 5 ≤ sizeLine; decide), fun l3 h3 => ?_⟩
    have s3 := s1.trans (s2.trans (sameNew h3 (o := .lst ([.bl (decide (j = 0)), .bl (decide (j = 1)), .bl (decide (j = 2))] ++ [.bl (decide (j = 3)), .bl (decide (j = 4))]))))
    obtain ⟨H3, eH3⟩ : ∃ H3, H3 = (upd (upd (upd H l1 (.lst [.bl (decide (j = 0)), .bl (decide (j = 1)), .bl (decide (j = 2))])) l2 (.lst [.bl (decide (j = 3)), .bl (decide (j = 4))])) l3 (.lst ([.bl (decide (j = 0)), .bl (decide (j = 1)), .bl (decide (j = 2))] ++ [.bl (decide (j = 3)), .bl (decide (j = 4))]))) := ⟨_, rfl⟩
    have e3 : H3 l3 = some (.lst [.bl (decide (j = 0)), .bl (decide (j = 1)), .bl (decide (j = 2)), .bl (decide (j = 3)), .bl (decide (j = 4))]) := by rw [eH3]; exact upd_same
    rw [← eH3] at s3 ⊢
    clear eH3
    refine ⟨_, rfl, _, rfl, isn (i := 6) rfl s3 ?_⟩
    refine ⟨_, rfl, isn (i := 7) rfl s3 ?_⟩
    refine ⟨(by show 2 ≤ sizeLine; decide), fun l4 h4 => ?_⟩
    have t4 := sameNew h4 (o := .lst [.bl (decide (j = 6)), .bl (decide (j = 7))])
    refine ⟨l3, l4, _, _, rfl, rfl, t4 _ _ e3, upd_same, (by show 7 ≤ sizeLine; decide), fun l5 h5 => ?_⟩
    have s5 := s3.trans (t4.trans (sameNew h5 (o := .lst ([.bl (decide (j = 0)), .bl (decide (j = 1)), .bl (decide (j = 2)), .bl (decide (j = 3)), .bl (decide (j = 4))] ++ [.bl (decide (j = 6)), .bl (decide (j = 7))]))))
    obtain ⟨H5, eH5⟩ : ∃ H5, H5 = (upd (upd H3 l4 (.lst [.bl (decide (j = 6)), .bl (decide (j = 7))])) l5 (.lst ([.bl (decide (j = 0)), .bl (decide (j = 1)), .bl (decide (j = 2)), .bl (decide (j = 3)), .bl (decide (j = 4))] ++ [.bl (decide (j = 6)), .bl (decide (j = 7))]))) := ⟨_, rfl⟩
    have e5 : H5 l5 = some (.lst [.bl (decide (j = 0)), .bl (decide (j = 1)), .bl (decide (j = 2)), .bl (decide (j = 3)), .bl (decide (j = 4)), .bl (decide (j = 6)), .bl (decide (j = 7))]) := by rw [eH5]; exact upd_same
    rw [← eH5] at s5 ⊢
    clear eH5
    refine ⟨_, rfl, _, rfl, isn (i := 11) rfl s5 ?_⟩
    refine ⟨_, rfl, isn (i := 12) rfl s5 ?_⟩
    refine ⟨(by show 2 ≤ sizeLine; decide), fun l6 h6 => ?_⟩
    have t6 := sameNew h6 (o := .lst [.bl (decide (j = 11)), .bl (decide (j = 12))])
    refine ⟨l5, l6, _, _, rfl, rfl, t6 _ _ e5, upd_same, (by show 9 ≤ sizeLine; decide), fun l7 h7 => ?_⟩
    have s7 := s5.trans (t6.trans (sameNew h7 (o := .lst ([.bl (decide (j = 0)), .bl (decide (j = 1)), .bl (decide (j = 2)), .bl (decide (j = 3)), .bl (decide (j = 4)), .bl (decide (j = 6)), .bl (decide (j = 7))] ++ [.bl (decide (j = 11)), .bl (decide (j = 12))]))))
    obtain ⟨H7, eH7⟩ : ∃ H7, H7 = (upd (upd H5 l6 (.lst [.bl (decide (j = 11)), .bl (decide (j = 12))])) l7 (.lst ([.bl (decide (j = 0)), .bl (decide (j = 1)), .bl (decide (j = 2)), .bl (decide (j = 3)), .bl (decide (j = 4)), .bl (decide (j = 6)), .bl (decide (j = 7))] ++ [.bl (decide (j = 11)), .bl (decide (j = 12))]))) := ⟨_, rfl⟩
    have e7 : H7 l7 = some (.lst [.bl (decide (j = 0)), .bl (decide (j = 1)), .bl (decide (j = 2)), .bl (decide (j = 3)), .bl (decide (j = 4)), .bl (decide (j = 6)), .bl (decide (j = 7)), .bl (decide (j = 11)), .bl (decide (j = 12))]) := by rw [eH7]; exact upd_same
    rw [← eH7] at s7 ⊢
    clear eH7
    change H7 l7 = some (.lst ((bsOf j).map V.bl)) at e7
    refine ⟨_, rfl, (by show 6 ≤ sizeLine; decide), fun tp htp => ?_⟩
    have s8 := s7.trans (sameNew htp (o := .tup [.ref A0.c_InvalidKnowledge, .ref A0.c_InvalidRegister, .ref A0.c_InvalidQuery, .ref A0.c_InvalidTable, .ref A0.c_NothingToUndo, .ref A0.c_Unreadable]))
    have e8 := (sameNew htp (o := .tup [.ref A0.c_InvalidKnowledge, .ref A0.c_InvalidRegister, .ref A0.c_InvalidQuery, .ref A0.c_InvalidTable, .ref A0.c_NothingToUndo, .ref A0.c_Unreadable])) _ _ e7
    have kf : ∀ (i : Nat) (d : Addr), ([A0.c_InvalidWidth, A0.c_InvalidWords, A0.c_InvalidOutcome, A0.c_InvalidCondition, A0.c_InvalidRanking, A0.c_InvalidKnowledge, A0.c_InvalidProgram, A0.c_InvalidRow, A0.c_InvalidRegister, A0.c_InvalidQuery, A0.c_InvalidTable, A0.c_InvalidNumber, A0.c_UnlikeInputs, A0.c_NothingToUndo, A0.c_Unreadable] : List Addr)[i]? = some d → i ∈ ([5, 8, 9, 10, 13, 14] : List Nat) → PySem.W.kitOne K (.ref C) (.ref d) = some false := fun i d hd m => by rw [K0 hd, decide_eq_false (nk i m)]
    refine .inr ⟨a, C, _, v, tp, _, [.ref A0.c_InvalidKnowledge, .ref A0.c_InvalidRegister, .ref A0.c_InvalidQuery, .ref A0.c_InvalidTable, .ref A0.c_NothingToUndo, .ref A0.c_Unreadable], false, rfl, ea.same s8, ec, upd_same, .cons (.own _) (.cons (.own _) (.cons (.own _) (.cons (.own _) (.cons (.own _) (.cons (.own _) .nil))))), ?_, ?_⟩
    · refine kitAny_no fun u m => ?_
      rcases List.mem_cons.mp m with rfl | m
      · exact kf 5 _ rfl (by decide)
      rcases List.mem_cons.mp m with rfl | m
      · exact kf 8 _ rfl (by decide)
      rcases List.mem_cons.mp m with rfl | m
      · exact kf 9 _ rfl (by decide)
      rcases List.mem_cons.mp m with rfl | m
      · exact kf 10 _ rfl (by decide)
      rcases List.mem_cons.mp m with rfl | m
      · exact kf 13 _ rfl (by decide)
      rw [List.mem_singleton.mp m]
      exact kf 14 _ rfl (by decide)
    refine ⟨_, rfl, false, rfl, ?_⟩
    refine tF rfl ?_
    refine ⟨_, rfl, .inl ⟨a, C, _, v, _, _, true, rfl, ea.same s8, ec, .own _, b1, _, rfl, ?_⟩⟩
    refine tF rfl ?_
    refine ⟨_, rfl, .inl ⟨a, C, _, v, _, _, true, rfl, ea.same s8, ec, .ty _, b2, _, rfl, ?_⟩⟩
    refine tF rfl ?_
    refine ⟨_, rfl, .inl ⟨rfl, _, SqL.of e8⟩, l7, bsOf j, true, rfl, rfl, SqL.of e8, rfl, _, rfl, ?_⟩
    refine tF (by rw [cn]; rfl) ?_
    refine ⟨rfl, _, _, rfl, rfl, rfl, (by rw [sizeLine_eq]; decide), fun p hp => ?_⟩
    rw [kindSplit]
    have s9 := s8.trans (sameNew hp (o := .lst (kindNames.map V.str)))
    have e9 := (sameNew hp (o := .lst (kindNames.map V.str))) _ _ e8
    refine ⟨_, rfl, .inl ⟨rfl, _, SqL.of e9⟩, l7, (bsOf j).map V.bl, .bl true, idx, .bl true, rfl, rfl, SqL.of e9, rfl, List.all_eq_true.mpr (fun x m => by obtain ⟨b, _, rfl⟩ := List.mem_map.mp m; rfl), by rw [List.getElem?_map, at9]; rfl, rfl, (fun m z hm hz => by
      rw [List.getElem?_map, pre m hm] at hz
      cases hz
      rfl), ?_⟩
    exact ⟨p, _, (idx : Int), .str (kindName j), rfl, rfl, SqL.of upd_same, at_of (j := idx) rfl (by rw [List.getElem?_map, nm]; rfl), k _ s9⟩
/-! _is_row -/
def sp_is_row (K : PySem.W.Frag) (A0 : Ad) : Sp := fun vs H Q E => ∃ (a t : Addr) (r : List V) (ns : List Str) (size : Int), vs = [.ref a, .ref t, .int size] ∧ H a = some (.tup r) ∧ RowIs r ∧ SqT K H t (ns.map V.str) ∧ ∀ H', Same H H' → Q (.bl (rowOk ns size r)) H'
theorem sc_is_row : FnScope ["row", "names", "many_rows", "kind", "item"] ["row", "names", "many_rows"] (defScope s_is_row) := ⟨rfl, rfl, rfl, by decide +kernel, rfl, by decide +kernel, by decide +kernel⟩
theorem bd_is_row (T : Txt w K mg A0) : Binds K A0.d_is_row ["row", "names", "many_rows"] [] := T.F_is_row.binds fun _ _ _ _ _ _ us hl => match us, hl with | [_, _, _], _ => rfl
set_option maxHeartbeats 0 in
theorem ok_is_row (T : Txt w K mg A0) : FnOk P w K mg base CX0 2 A0.a_is_row A0.d_is_row ["row", "names", "many_rows"] (sp_is_row K A0) := by
  refine T.F_is_row.ok sc_is_row (fun vs H Q E h => ?_) (fun cdv A outer s H vs Q E hr h => ?_)
  · obtain ⟨a, t, r, ns, size, rfl, _⟩ := h
    rfl
  · obtain ⟨a, t, r, ns, size, rfl, h⟩ := h
    refine ⟨_, (pss_cons (ps_if (PW.pt (pw_or (pt_cmpR op_eq (pe_callB call_len_seq (by rfl) T.b_len (by decide +kernel) (pa_cons (pv 0) pa_nil)) pe_int (nomark _)) (pw_or (pt_cmpR op_notInT (pe_ix ix_tup (pv 0) pe_int (fun _ _ => rfl)) (pe_glob (v := .ref A0.v_FORMS) rfl T.gv_FORMS rfl) rfl) (pw_or1 (pt_cmpR op_ne (pe_callB call_len_seq (by rfl) T.b_len (by decide +kernel) (pa_cons (pv 0) pa_nil)) (pe_op op_add pe_int (pe_callB call_len_str (by rfl) T.b_len (by decide +kernel) (pa_cons (pe_ix ix_tab (pe_glob (v := .ref A0.v_FORMS) rfl T.gv_FORMS rfl) (pe_ix ix_tup (pv 0) pe_int (fun _ _ => rfl)) (fun _ _ => rfl)) pa_nil))) (nomark _)))))) (pss_one (ps_ret pe_bl)) pss_nil)
        (pss_one (ps_ret (pe_callB (cr_all rfl) (by rfl) T.b_all (by decide +kernel) (pa_cons (pe_lc (own := [("kind", 3), ("item", 4)]) rfl sc_is_row.nd (pi_list (pe_call (ok_parts_of T) (hr.mono (by decide)) rfl T.g_parts_of T.F_parts_of.kp (bd_parts_of T) .nil pass0 (pa_cons (pv 0) pa_nil))) (blkOk_by (own := [("kind", 3), ("item", 4)]) (N := ["row", "names", "many_rows", "kind", "item"]) (sc := defScope s_is_row) (by decide +kernel)) (fun _ _ _ _ _ => (show PG _ _ (gTup K 2 (gCons (gName 3) (gCons (gName 4) gNil))) from pg_tup rfl (pgs_cons (pg_name (i := 3) sc_is_row.nd rfl (Or.inl rfl)) (pgs_cons (pg_name (i := 4) sc_is_row.nd rfl (Or.inl rfl)) pgs_nil)))) (fun _ _ _ _ _ => pts_nil) (fun _ _ _ _ _ => (pe_call (ok_is_item T) (hr.mono (by decide)) rfl T.g_is_item T.F_is_item.kp (bd_is_item T) .nil pass0 (pa_cons (pv 3) (pa_cons (pv 4) (pa_cons (pv 1) (pa_cons (pv 2) pa_nil))))))) pa_nil))))), ?_⟩
    obtain ⟨ha, hr0, ht, k⟩ := h
    refine ⟨_, rfl, a, r, rfl, .inr (SqT.of ha), rfl, _, rfl, ?_⟩
    rcases hr0.wd with rfl | ⟨w, xs, rfl⟩
    · exact tT (by decide) (k H (Same.refl H))
    refine tF (decide_eq_false (by rw [List.length_cons]; intro z; have := V.int.inj z; omega)) ?_
    refine ⟨_, rfl, a, _, 0, .str w, rfl, rfl, SqT.of ha, at0v, w, _, _, rfl, rfl, T.kt_FORMS P, _, rfl, ?_⟩
    have fv := txt_find (z := w) (l := tab_FORMS)
    cases hf : tab_FORMS.lookup w with
    | none =>
      have kk := k H (Same.refl H)
      rw [rowOk_none (show fmT.lookup w = none from hf)] at kk
      rw [hf] at fv
      refine tT ?_ kk
      change (!(valV ([("cmp", .str "RR"), ("mov", .str "RR"), ("swap", .str "RR"), ("cmov", .str "CRR"), ("jump", .str "T"), ("jif", .str "CT"), ("out", .str "R"), ("stop", .str "")] : List (Str × V)) w).isSome) = true
      rw [show valV ([("cmp", .str "RR"), ("mov", .str "RR"), ("swap", .str "RR"), ("cmov", .str "CRR"), ("jump", .str "T"), ("jif", .str "CT"), ("out", .str "R"), ("stop", .str "")] : List (Str × V)) w = none from fv]
      rfl
    | some f =>
      rw [hf] at fv
      have fl : fmT.lookup w = some f := hf
      obtain ⟨fk, f3, fe⟩ := fm_all _ (lookup_mem fl)
      refine tF ?_ ?_
      · change (!(valV ([("cmp", .str "RR"), ("mov", .str "RR"), ("swap", .str "RR"), ("cmov", .str "CRR"), ("jump", .str "T"), ("jif", .str "CT"), ("out", .str "R"), ("stop", .str "")] : List (Str × V)) w).isSome) = false
        rw [show valV ([("cmp", .str "RR"), ("mov", .str "RR"), ("swap", .str "RR"), ("cmov", .str "CRR"), ("jump", .str "T"), ("jif", .str "CT"), ("out", .str "R"), ("stop", .str "")] : List (Str × V)) w = some (.str f) from fv]
        rfl
      refine ⟨_, rfl, a, _, rfl, .inr (SqT.of ha), ?_⟩
      refine ⟨_, rfl, a, _, 0, .str w, rfl, rfl, SqT.of ha, at0v, A0.v_FORMS, w, .str f, _, rfl, rfl, T.kt_FORMS P, fv, f, rfl, ?_, ?_⟩
      · rw [show f.length = f.cps.size from fe]
        have : f.cps.size ≤ 3 := f3
        exact small1000' (by omega)
      refine ⟨_, _, rfl, rfl, rfl, _, rfl, ?_⟩
      have fe' : f.length = f.cps.size := fe
      have rs := rowOk_some (xs := xs) (ns := ns) (size := size) fl
      by_cases c : xs.length = f.cps.size
      · refine tF (by rw [decide_eq_true (congrArg V.int (by rw [List.length_cons, fe']; omega))]; rfl) ?_
        rw [decide_eq_true c, Bool.true_and] at rs
        refine ⟨_, rfl, a, w, xs, f, rfl, ha, fl, c, fun p ts H1 hp s1 e1 pr1 => ⟨p, rfl, ⟨_, SqL.of e1⟩, fun D hD => lc_list (xs := ts.map V.ref) (fun i H' => Same H1 H' ∧ H' D = some (.lst (((((sgn f).zip xs).map fun q => itemOk q.1 q.2 ns size).take i).map V.bl))) ⟨sameNew hD, upd_same⟩ (fun i H' _ q => SqL.of (q.1 _ _ e1)) ?_ ?_⟩⟩
        · rintro i x H2 hx ⟨s2, eD⟩
          obtain ⟨t0, ht0, rfl⟩ := refAt hx
          obtain ⟨q, hq, eq⟩ := prG pr1 ht0
          have mq := List.mem_of_getElem? hq
          obtain ⟨kx, xx⟩ := q
          obtain ⟨m1, m2⟩ := List.of_mem_zip mq
          refine ⟨t0, _, rfl, SqT.of (s2 _ _ eq), rfl, _, _, rfl, _, _, rfl, rfl, ?_⟩
          refine ⟨rfl, ?_⟩
          refine yesR ?_
          refine tT rfl ?_
          refine ⟨_, rfl, _, rfl, _, rfl, _, rfl, kx, xx, t, ns, size, rfl, fk kx m1, sameT s2 (sameT s1 ht), hr0.at' xx (List.mem_cons_of_mem _ m2), fun e => hr0.cs w xs f rfl fl c (kx, xx) mq e, ?_⟩
          refine ⟨_, eD, small1000 (by rw [List.length_map, List.length_take]; have := hr0.few; rw [List.length_cons] at this; have l := (List.getElem?_eq_some_iff.mp hq).1; rw [List.length_zip] at l; omega), sameUp s2 hD, ?_⟩
          rw [upd_same, tkS (map_at' hq), List.map_append]
          rfl
        rintro H2 ⟨s2, eD⟩
        have lt : ts.length = ((sgn f).zip xs).length := Paired.length pr1
        refine ⟨D, _, rfl, SqL.of eD, ?_⟩
        rw [List.length_map, lt, ← List.length_map (f := fun q : V × V => itemOk q.1 q.2 ns size), List.take_length, List.all_map]
        have kk := k H2 (s1.trans s2)
        rw [rs] at kk
        exact kk
      · refine tT (by rw [decide_eq_false (fun z => c (by have := V.int.inj z; rw [List.length_cons, fe'] at this; omega))]; rfl) ?_
        have kk := k H (Same.refl H)
        rw [rs, decide_eq_false c, Bool.false_and] at kk
        exact kk
/-! _placed_row -/
def sp_placed_row (K : PySem.W.Frag) (A0 : Ad) : Sp := fun vs H Q E => ∃ (a t : Addr) (w : Str) (xs : List V) (f : Str) (ns : List Str) (size : Int), vs = [.ref a, .ref t] ∧ H a = some (.tup (.str w :: xs)) ∧ fmT.lookup w = some f ∧ rowOk ns size (.str w :: xs) = true ∧ NmAt H t ns ∧ ∀ p H', H p = none → Same H H' → PlAt K H' ns p (.str w :: xs) → Q (.ref p) H'
theorem sc_placed_row : FnScope ["row", "names", "placed", "kind", "item"] ["row", "names"] (defScope s_placed_row) := ⟨rfl, rfl, rfl, by decide +kernel, rfl, by decide +kernel, by decide +kernel⟩
theorem bd_placed_row (T : Txt w K mg A0) : Binds K A0.d_placed_row ["row", "names"] [] := T.F_placed_row.binds fun _ _ _ _ _ _ us hl => match us, hl with | [_, _], _ => rfl
set_option maxHeartbeats 0 in
theorem ok_placed_row (T : Txt w K mg A0) : FnOk P w K mg base CX0 2 A0.a_placed_row A0.d_placed_row ["row", "names"] (sp_placed_row K A0) := by
  refine T.F_placed_row.ok sc_placed_row (fun vs H Q E h => ?_) (fun cdv A outer s H vs Q E hr h => ?_)
  · obtain ⟨a, t, w, xs, f, ns, size, rfl, _⟩ := h
    rfl
  · obtain ⟨a, t, w, xs, f, ns, size, rfl, h⟩ := h
    refine ⟨_, (pss_cons (ps_setLc (i := 2) (own := [("kind", 3), ("item", 4)]) rfl sc_placed_row.nd rfl rfl (sw_true rfl rfl rfl (by decide +kernel)) (pi_list (pe_call (ok_parts_of T) (hr.mono (by decide)) rfl T.g_parts_of T.F_parts_of.kp (bd_parts_of T) .nil pass0 (pa_cons (pv 0) pa_nil))) (blkOk_by (own := [("kind", 3), ("item", 4)]) (N := ["row", "names", "placed", "kind", "item"]) (sc := defScope s_placed_row) (by decide +kernel)) (fun _ _ _ _ _ => (show PG _ _ (gTup K 2 (gCons (gName 3) (gCons (gName 4) gNil))) from pg_tup rfl (pgs_cons (pg_name (i := 3) sc_placed_row.nd rfl (Or.inl rfl)) (pgs_cons (pg_name (i := 4) sc_placed_row.nd rfl (Or.inl rfl)) pgs_nil)))) (fun _ _ _ _ _ => pts_nil) (fun _ _ _ _ _ => (pe_call (ok_placed_item T) (hr.mono (by decide)) rfl T.g_placed_item T.F_placed_item.kp (bd_placed_item T) .nil pass0 (pa_cons (pv 3) (pa_cons (pv 4) (pa_cons (pv 1) pa_nil))))))
        (pss_one (ps_ret (pe_tup (pa_cons (pe_ix ix_tup (pv 0) pe_int (fun _ _ => rfl)) (StX.pa_star (pv 2) pa_nil)))))), ?_⟩
    obtain ⟨ha, fl, ok, ht, k⟩ := h
    have rs := rowOk_some (xs := xs) (ns := ns) (size := size) fl
    rw [ok] at rs
    obtain ⟨c, al⟩ := Bool.and_eq_true_iff.mp rs.symm
    have c := of_decide_eq_true c
    obtain ⟨fk, f3, fe⟩ := fm_all _ (lookup_mem fl)
    have f3 : f.cps.size ≤ 3 := f3
    refine ⟨_, rfl, a, w, xs, f, rfl, ha, fl, c, fun p ts H1 hp s1 e1 pr1 => ⟨p, rfl, ⟨_, SqL.of e1⟩, fun D hD => lc_list (xs := ts.map V.ref) (fun i H' => Same H1 H' ∧ ∃ ps : List V, H' D = some (.lst ps) ∧ Paired (fun (q : V × V) p => PlRel K ns q.1 q.2 p) (((sgn f).zip xs).take i) ps) ⟨sameNew hD, [], upd_same, .nil⟩ (fun i H' _ q => SqL.of (q.1 _ _ e1)) ?_ ?_⟩⟩
    · rintro i x H2 hx ⟨s2, ps, eD, pr⟩
      obtain ⟨t0, ht0, rfl⟩ := refAt hx
      obtain ⟨q, hq, eq⟩ := prG pr1 ht0
      have mq := List.mem_of_getElem? hq
      have oq := List.all_eq_true.mp al q mq
      obtain ⟨kx, xx⟩ := q
      obtain ⟨m1, m2⟩ := List.of_mem_zip mq
      refine ⟨t0, _, rfl, SqT.of (s2 _ _ eq), rfl, _, _, rfl, _, _, rfl, rfl, ?_⟩
      refine ⟨rfl, ?_⟩
      refine yesR ?_
      refine tT rfl ?_
      refine ⟨_, rfl, _, rfl, _, rfl, kx, xx, t, ns, size, rfl, (ht.same s1).same s2, fk kx m1, oq, fun p hp => ?_⟩
      have lp := Paired.length pr
      refine ⟨_, eD, small1000 (by rw [← lp, List.length_take]; have l := (List.getElem?_eq_some_iff.mp hq).1; rw [List.length_zip, sgn_len] at l; omega), sameUp s2 hD, ps ++ [p], by rw [upd_same], ?_⟩
      rw [tkS hq]
      exact pra pr (.cons hp .nil)
    rintro H2 ⟨s2, ps, eD, pr⟩
    have lt : ts.length = ((sgn f).zip xs).length := Paired.length pr1
    rw [List.length_map, lt, List.take_length] at pr
    have lp := Paired.length pr
    rw [List.length_zip, sgn_len] at lp
    have e0 := s2 _ _ (s1 _ _ ha)
    refine ⟨_, rfl, a, _, 0, .str w, rfl, rfl, SqT.of e0, at0v, ?_⟩
    refine ⟨_, rfl, D, ps, rfl, .inr (SqL.of eD), ?_⟩
    refine ⟨small1000' (by rw [List.append_nil, List.length_cons]; omega), fun q hq => ?_⟩
    have sq := s2.trans (sameNew hq (o := .tup (.str w :: (ps ++ []))))
    refine k q _ (s1.free (s2.free hq)) (s1.trans sq) ⟨w, xs, f, ps, rfl, fl, ?_, pr⟩
    rw [upd_same, List.append_nil]
/-! _with_moved_target -/
def sp_with_moved_target (K : PySem.W.Frag) (A0 : Ad) : Sp := fun vs H Q E => ∃ (a : Addr) (w : Str) (xs : List V) (f : Str) (ls bb : Int) (ns : List Str) (size : Int), vs = [.ref a, .int ls, .int bb] ∧ H a = some (.tup (.str w :: xs)) ∧ fmT.lookup w = some f ∧ rowOk ns size (.str w :: xs) = true ∧ ∀ p H', H p = none → Same H H' → H' p = some (.tup (mvRow ls bb (.str w :: xs))) → Q (.ref p) H'
theorem sc_with_moved_target : FnScope ["row", "least", "by", "moved", "kind", "item"] ["row", "least", "by"] (defScope s_with_moved_target) := ⟨rfl, rfl, rfl, by decide +kernel, rfl, by decide +kernel, by decide +kernel⟩
theorem bd_with_moved_target (T : Txt w K mg A0) : Binds K A0.d_with_moved_target ["row", "least", "by"] [] := T.F_with_moved_target.binds fun _ _ _ _ _ _ us hl => match us, hl with | [_, _, _], _ => rfl
set_option maxHeartbeats 0 in
theorem ok_with_moved_target (T : Txt w K mg A0) : FnOk P w K mg base CX0 2 A0.a_with_moved_target A0.d_with_moved_target ["row", "least", "by"] (sp_with_moved_target K A0) := by
  refine T.F_with_moved_target.ok sc_with_moved_target (fun vs H Q E h => ?_) (fun cdv A outer s H vs Q E hr h => ?_)
  · obtain ⟨a, w, xs, f, ls, bb, ns, size, rfl, _⟩ := h
    rfl
  · obtain ⟨a, w, xs, f, ls, bb, ns, size, rfl, h⟩ := h
    refine ⟨_, (pss_cons (ps_setLc (i := 3) (own := [("kind", 4), ("item", 5)]) rfl sc_with_moved_target.nd rfl rfl (sw_true rfl rfl rfl (by decide +kernel)) (pi_list (pe_call (ok_parts_of T) (hr.mono (by decide)) rfl T.g_parts_of T.F_parts_of.kp (bd_parts_of T) .nil pass0 (pa_cons (pv 0) pa_nil))) (blkOk_by (own := [("kind", 4), ("item", 5)]) (N := ["row", "least", "by", "moved", "kind", "item"]) (sc := defScope s_with_moved_target) (by decide +kernel)) (fun _ _ _ _ _ => (show PG _ _ (gTup K 2 (gCons (gName 4) (gCons (gName 5) gNil))) from pg_tup rfl (pgs_cons (pg_name (i := 4) sc_with_moved_target.nd rfl (Or.inl rfl)) (pgs_cons (pg_name (i := 5) sc_with_moved_target.nd rfl (Or.inl rfl)) pgs_nil)))) (fun _ _ _ _ _ => pts_nil) (fun _ _ _ _ _ => (pe_ifExp (PW.pt (pw_and (pt_cmpR op_eq (pv 4) pe_str (nomark _)) (pw_and1 (pt_cmpR op_ge (pv 5) (pv 1) (nomark _))))) (pe_op op_add (pv 5) (pv 2)) (pv 5))))
        (pss_one (ps_ret (pe_tup (pa_cons (pe_ix ix_tup (pv 0) pe_int (fun _ _ => rfl)) (StX.pa_star (pv 3) pa_nil)))))), ?_⟩
    obtain ⟨ha, fl, ok, k⟩ := h
    have rs := rowOk_some (xs := xs) (ns := ns) (size := size) fl
    rw [ok] at rs
    obtain ⟨c, al⟩ := Bool.and_eq_true_iff.mp rs.symm
    have c := of_decide_eq_true c
    obtain ⟨fk, f3, fe⟩ := fm_all _ (lookup_mem fl)
    have f3 : f.cps.size ≤ 3 := f3
    refine ⟨_, rfl, a, w, xs, f, rfl, ha, fl, c, fun p ts H1 hp s1 e1 pr1 => ⟨p, rfl, ⟨_, SqL.of e1⟩, fun D hD => lc_list (xs := ts.map V.ref) (fun i H' => Same H1 H' ∧ H' D = some (.lst ((((sgn f).zip xs).take i).map (mvI ls bb)))) ⟨sameNew hD, upd_same⟩ (fun i H' _ q => SqL.of (q.1 _ _ e1)) ?_ ?_⟩⟩
    · rintro i x H2 hx ⟨s2, eD⟩
      obtain ⟨t0, ht0, rfl⟩ := refAt hx
      obtain ⟨q, hq, eq⟩ := prG pr1 ht0
      have mq := List.mem_of_getElem? hq
      have oq := List.all_eq_true.mp al q mq
      obtain ⟨kx, xx⟩ := q
      obtain ⟨m1, m2⟩ := List.of_mem_zip mq
      refine ⟨t0, _, rfl, SqT.of (s2 _ _ eq), rfl, _, _, rfl, _, _, rfl, rfl, ?_⟩
      refine ⟨rfl, ?_⟩
      refine yesR ?_
      refine tT rfl ?_
      have fin : ∃ acc, H2 D = some (.lst acc) ∧ acc.length < sizeLine ∧ (Same H1 (upd H2 D (.lst (acc ++ [mvI ls bb (kx, xx)]))) ∧ (upd H2 D (.lst (acc ++ [mvI ls bb (kx, xx)]))) D = some (.lst ((((sgn f).zip xs).take (i + 1)).map (mvI ls bb)))) := by
        refine ⟨_, eD, small1000 (by rw [List.length_map, List.length_take]; have l := (List.getElem?_eq_some_iff.mp hq).1; rw [List.length_zip, sgn_len] at l; omega), sameUp s2 hD, ?_⟩
        rw [upd_same, tkS hq, List.map_append]
        rfl
      rcases fk kx m1 with rfl | rfl | rfl
      · rw [mvI_R] at fin
        refine ⟨_, rfl, rfl, _, rfl, ?_⟩
        refine tF (decide_eq_false (show ¬ (V.str "R" = V.str "T") by decide +kernel)) ?_
        refine tF rfl ?_
        exact ⟨_, rfl, fin⟩
      · rw [mvI_C] at fin
        refine ⟨_, rfl, rfl, _, rfl, ?_⟩
        refine tF (decide_eq_false (show ¬ (V.str "C" = V.str "T") by decide +kernel)) ?_
        refine tF rfl ?_
        exact ⟨_, rfl, fin⟩
      · obtain ⟨z, rfl⟩ : ∃ z, xx = .int z := by
          rw [item_T] at oq
          cases xx with
          | int z => exact ⟨z, rfl⟩
          | _ => exact absurd (show false = true from oq) (by decide)
        rw [mvI_T] at fin
        refine ⟨_, rfl, rfl, _, rfl, ?_⟩
        refine tT (decide_eq_true rfl) ?_
        refine ⟨_, rfl, _, rfl, _, _, rfl, rfl, _, rfl, ?_⟩
        unfold mvZ at fin
        by_cases cz : ls ≤ z
        · rw [if_pos cz] at fin
          refine tT (decide_eq_true cz) ?_
          exact ⟨_, rfl, _, rfl, _, _, rfl, rfl, fin⟩
        · rw [if_neg cz] at fin
          refine tF (decide_eq_false cz) ?_
          exact ⟨_, rfl, fin⟩
    rintro H2 ⟨s2, eD⟩
    have lt : ts.length = ((sgn f).zip xs).length := Paired.length pr1
    rw [List.length_map, lt, List.take_length] at eD
    have e0 := s2 _ _ (s1 _ _ ha)
    refine ⟨_, rfl, a, _, 0, .str w, rfl, rfl, SqT.of e0, at0v, ?_⟩
    refine ⟨_, rfl, D, _, rfl, .inr (SqL.of eD), ?_⟩
    refine ⟨small1000' (by rw [List.append_nil, List.length_cons, List.length_map, List.length_zip, sgn_len]; omega), fun q hq => ?_⟩
    refine k q _ (s1.free (s2.free hq)) (s1.trans (s2.trans (sameNew hq))) ?_
    rw [upd_same, List.append_nil, mvRow_some fl]
/-! _law_code -/
def sp_law_code (K : PySem.W.Frag) (A0 : Ad) : Sp := fun vs H Q E => ∃ (p : Addr) (m most : Int) (n : Nat), vs = [.ref p, .int m, .int most] ∧ Pool H p n ∧ n ≤ 40000 ∧ 1 ≤ m ∧ m ≤ 4 ∧ 0 ≤ most ∧ most ≤ 24 ∧ ∀ q as rs H', H q = none → But p H H' → H' q = some (.lst (as.map V.ref)) → RowsAt H' as rs → rs.length ≤ 24 → (∀ r ∈ rs, rowOk (regs m.toNat) rs.length r = true) → Pool H' p (n + 200) → Q (.ref q) H'
theorem sc_law_code : FnScope ["pool", "many", "most", "names", "found", "size", "at", "one", "two", "cond", "near", "goal", "some", "spot"] ["pool", "many", "most"] (defScope s_law_code) := ⟨rfl, rfl, rfl, by decide +kernel, rfl, by decide +kernel, by decide +kernel⟩
theorem bd_law_code (T : Txt w K mg A0) : Binds K A0.d_law_code ["pool", "many", "most"] [] := T.F_law_code.binds fun _ _ _ _ _ _ us hl => match us, hl with | [_, _, _], _ => rfl
set_option maxHeartbeats 0 in
theorem ok_law_code (T : Txt w K mg A0) : FnOk P w K mg base CX0 2 A0.a_law_code A0.d_law_code ["pool", "many", "most"] (sp_law_code K A0) := by
  refine T.F_law_code.ok sc_law_code (fun vs H Q E h => ?_) (fun cdv A outer s H vs Q E hr h => ?_)
  · obtain ⟨p, m, most, n, rfl, _⟩ := h
    rfl
  · obtain ⟨p, m, most, n, rfl, h⟩ := h
    refine ⟨_, (pss_cons (ps_set (i := 3) sc_law_code.nd rfl (Or.inl rfl) (pe_op op_cat (pe_callTy (call_list_txt rfl) (by rfl) T.b_list (by decide +kernel) (pa_cons (pe_slice sl_str pe_str po_none (po_some (pv 1))) pa_nil)) (pe_lst (pa_cons pe_str (pa_cons pe_str pa_nil)))))
        (pss_cons (ps_par (i := 4) (j := 5) rfl sc_law_code.nd rfl rfl (by decide) rfl rfl (pa_cons (pe_lst pa_nil) (pa_cons (pe_call (ok_law_draw T) (hr.mono (by decide)) rfl T.g_law_draw T.F_law_draw.kp (bd_law_draw T) .nil pass0 (pa_cons (pv 0) (pa_cons (pe_op op_add (pv 2) pe_int) pa_nil))) pa_nil)) rfl)
        (pss_cons (ps_for PassesOwn.never rfl (pi_range1 rfl T.b_range (pa_cons (pv 5) pa_nil)) (pg_name (i := 6) sc_law_code.nd rfl (Or.inl rfl)) (pss_cons (ps_par (i := 7) (j := 8) rfl sc_law_code.nd rfl rfl (by decide) rfl rfl (pa_cons (pe_ix ix_list (pv 3) (pe_call (ok_law_draw T) (hr.mono (by decide)) rfl T.g_law_draw T.F_law_draw.kp (bd_law_draw T) .nil pass0 (pa_cons (pv 0) (pa_cons (pe_callB call_len_seq (by rfl) T.b_len (by decide +kernel) (pa_cons (pv 3) pa_nil)) pa_nil))) (fun _ _ => rfl)) (pa_cons (pe_ix ix_list (pv 3) (pe_call (ok_law_draw T) (hr.mono (by decide)) rfl T.g_law_draw T.F_law_draw.kp (bd_law_draw T) .nil pass0 (pa_cons (pv 0) (pa_cons (pe_callB call_len_seq (by rfl) T.b_len (by decide +kernel) (pa_cons (pv 3) pa_nil)) pa_nil))) (fun _ _ => rfl)) pa_nil)) rfl)
        (pss_cons (ps_set (i := 9) sc_law_code.nd rfl (Or.inl rfl) (pe_ix ix_list (pe_call0 (ok_law_conds T) (hr.mono (by decide)) rfl T.g_law_conds T.F_law_conds.kp (bd_law_conds T) .nil pass0) (pe_call (ok_law_draw T) (hr.mono (by decide)) rfl T.g_law_draw T.F_law_draw.kp (bd_law_draw T) .nil pass0 (pa_cons (pv 0) (pa_cons pe_int pa_nil))) (fun _ _ => rfl)))
        (pss_cons (ps_set (i := 10) sc_law_code.nd rfl (Or.inl rfl) (pe_callB (call_min2 rfl) (by rfl) T.b_min (by decide +kernel) (pa_cons (pv 5) (pa_cons (pe_op op_add (pe_op op_add (pv 6) pe_int) (pe_call (ok_law_draw T) (hr.mono (by decide)) rfl T.g_law_draw T.F_law_draw.kp (bd_law_draw T) .nil pass0 (pa_cons (pv 0) (pa_cons pe_int pa_nil)))) pa_nil))))
        (pss_cons (ps_set (i := 11) sc_law_code.nd rfl (Or.inl rfl) (pe_ix ix_list (pe_lst (pa_cons (pv 10) (pa_cons (pv 10) (pa_cons (pe_call (ok_law_draw T) (hr.mono (by decide)) rfl T.g_law_draw T.F_law_draw.kp (bd_law_draw T) .nil pass0 (pa_cons (pv 0) (pa_cons (pe_op op_add (pv 5) pe_int) pa_nil))) pa_nil)))) (pe_call (ok_law_draw T) (hr.mono (by decide)) rfl T.g_law_draw T.F_law_draw.kp (bd_law_draw T) .nil pass0 (pa_cons (pv 0) (pa_cons pe_int pa_nil))) (fun _ _ => rfl)))
        (pss_cons (ps_set (i := 12) sc_law_code.nd rfl (Or.inl rfl) (pe_lst (pa_cons (pe_tup (pa_cons pe_str (pa_cons (pv 7) (pa_cons (pv 8) pa_nil)))) (pa_cons (pe_tup (pa_cons pe_str (pa_cons (pv 9) (pa_cons (pv 11) pa_nil)))) (pa_cons (pe_tup (pa_cons pe_str (pa_cons (pv 7) pa_nil))) (pa_cons (pe_tup (pa_cons pe_str (pa_cons (pv 9) (pa_cons (pv 7) (pa_cons (pv 8) pa_nil))))) (pa_cons (pe_tup (pa_cons pe_str (pa_cons (pv 7) (pa_cons (pv 8) pa_nil)))) pa_nil)))))))
        (pss_cons (ps_set (i := 12) sc_law_code.nd rfl (Or.inl rfl) (pe_op op_cat (pv 12) (pe_lst (pa_cons (pe_tup (pa_cons pe_str (pa_cons (pv 7) (pa_cons (pv 8) pa_nil)))) (pa_cons (pe_tup (pa_cons pe_str (pa_cons (pv 8) (pa_cons (pv 7) pa_nil)))) (pa_cons (pe_tup (pa_cons pe_str (pa_cons (pv 9) (pa_cons (pv 10) pa_nil)))) (pa_cons (pe_tup (pa_cons pe_str (pa_cons (pv 8) pa_nil))) pa_nil)))))))
        (pss_cons (ps_set (i := 12) sc_law_code.nd rfl (Or.inl rfl) (pe_op op_cat (pv 12) (pe_lst (pa_cons (pe_tup (pa_cons pe_str (pa_cons (pv 11) pa_nil))) (pa_cons (pe_tup (pa_cons pe_str pa_nil)) pa_nil)))))
        (pss_cons (ps_set (i := 13) sc_law_code.nd rfl (Or.inl rfl) (pe_call (ok_law_draw T) (hr.mono (by decide)) rfl T.g_law_draw T.F_law_draw.kp (bd_law_draw T) .nil pass0 (pa_cons (pv 0) (pa_cons pe_int pa_nil))))
        (pss_one (ps_expr (pe_bmX (K := K) rfl PySem.F.plainAttrs_list PySem.F.slot_list_append PySem.F.type_list_append mt_append (pv 4) (pa_cons (pe_ifExp (PW.pt (pw_or (pt_cmpR op_gt (pv 6) pe_int (nomark _)) (pw_or1 (pt_cmpR op_eq (pe_call (ok_law_draw T) (hr.mono (by decide)) rfl T.g_law_draw T.F_law_draw.kp (bd_law_draw T) .nil pass0 (pa_cons (pv 0) (pa_cons pe_int pa_nil))) pe_int (nomark _))))) (pe_ix ix_list (pv 12) (pe_op op_mod (pv 13) pe_int) (fun _ _ => rfl)) (pe_ix ix_list (pv 12) pe_int (fun _ _ => rfl))) pa_nil) rfl rfl rfl rfl rfl))))))))))))
        (pss_one (ps_ret (pv 4)))))), ?_⟩
    obtain ⟨pl, hn, m1, m2, o1, o2, k⟩ := h
    obtain ⟨j, rfl⟩ : ∃ j : Nat, m = (j : Int) := ⟨m.toNat, by omega⟩
    have eR : (regs j).map V.str = sgn (cutS "pqrs" none (some (j : Int))) ++ [.str "x", .str "y"] := (regs_all j).resolve_right fun z => z ⟨by omega, by omega⟩
    have l6 := regs_len j
    have lC : (sgn (cutS "pqrs" none (some (j : Int)))).length + 2 = (regs j).length := by
      have q := congrArg List.length eR
      rw [List.length_map, List.length_append] at q
      exact q.symm
    rw [sgn_len] at lC
    refine ⟨_, rfl, _, rfl, "pqrs", rfl, (by decide +kernel), _, rfl, (by omega), fun l1 hl1 => ?_⟩
    refine lstc_of (xs := [.str "x", .str "y"]) (.con (.con (.nil))) (len_ok rfl) fun l2 J2 hl2 s2 e2 => ?_
    refine cat_of (s2 _ _ upd_same) e2 (by rw [sgn_len]; show _ + 2 ≤ 1000; omega) fun l3 HA hl3 s3 eA => ?_
    have sA := (sameNew hl1 (o := .lst (sgn (cutS "pqrs" none (some (j : Int)))))).trans (s2.trans s3)
    clear s2 s3 e2 hl1 hl2 hl3
    rw [← eR] at eA
    clear eR lC
    have pl0 := pl.same sA
    refine ⟨(by show 0 ≤ sizeLine; decide), fun f hf => ?_⟩
    have sB := sameNew hf (o := .lst [])
    have eF : upd HA f (.lst []) f = some (.lst []) := upd_same
    generalize upd HA f (.lst []) = HB at sB eF ⊢
    have plB := pl0.same sB
    have hf0 : H f = none := sA.free hf
    have sAB := sA.trans sB
    have eN := sB _ _ eA
    clear eA sA sB
    refine ⟨_, rfl, _, rfl, _, _, rfl, rfl, p, most + 1, n, rfl, plB, by omega, by omega, Int.lt_of_le_of_lt (b := 30) (by omega) (by decide), fun sz H1 z0 z1 pl1 b1 => ?_⟩
    have nfp := plB.nr (xs := []) eF
    have nnp := plB.nl eN
    have bH := (But.of sAB).trans b1
    have eN1 := b1 _ _ nnp eN
    have eF1 := b1 _ _ nfp eF
    have nfn : f ≠ l3 := fun z => by
      rw [z, eN1] at eF1
      have := HO.lst.inj (Option.some.inj eF1)
      rw [List.map_eq_nil_iff] at this
      unfold regs at this
      exact absurd this (by simp)
    clear sAB b1 eN eF
    refine ⟨_, _, rfl, ?_⟩
    obtain ⟨tt, rfl⟩ : ∃ tt : Nat, sz = (tt : Int) := ⟨sz.toNat, by omega⟩
    have l2' : 2 ≤ (regs j).length := by
      unfold regs
      rw [List.length_append]
      show 2 ≤ _ + 2
      omega
    clear pl0 plB pl hf m1 m2
    refine ⟨_, rfl, (tt : Int), rfl, by omega, by omega, for_range (n := tt) (fun i σ H' => ∃ u6 u7 u8 u9 u10 u11 u12 u13, ∃ (as : List Addr) (rs : List (List V)), σ = [some (.ref p), some (.int (j : Int)), some (.int most), some (.ref l3), some (.ref f), some (.int (tt : Int)), u6, u7, u8, u9, u10, u11, u12, u13] ∧ Pool H' p (n + 1 + 8 * i) ∧ But p H H' ∧ H' l3 = some (.lst ((regs j).map V.str)) ∧ H' f = some (.lst (as.map V.ref)) ∧ RowsAt H' as rs ∧ rs.length = i ∧ ∀ r ∈ rs, rowOk (regs j) tt r = true) ⟨none, none, none, none, none, none, none, none, [], [], rfl, pl1, bH, eN1, eF1, .nil, rfl, fun r m => nomatch m⟩ ?_ ?_⟩
    · rintro i σ H2 hi ⟨u6, u7, u8, u9, u10, u11, u12, u13, as, rs, rfl, pl2, b2, eN2, eF2, ra, lr, ok⟩
      clear eF1 eN1 bH pl1 k
      refine ⟨_, rfl, _, rfl, _, rfl, l3, _, rfl, .inl (SqL.of eN2), p, _, _, rfl, pl2, by omega, by rw [List.length_map]; omega, Int.lt_of_le_of_lt (b := 30) (by rw [List.length_map]; omega) (by decide), fun d1 H3 a0 a1 pl3 b3 => ?_⟩
      rw [List.length_map] at a1
      obtain ⟨za, ha, at1⟩ := at_str a0 a1
      have eN3 := b3 _ _ nnp eN2
      refine ⟨l3, _, d1, .str za, rfl, rfl, SqL.of eN3, at1, ?_⟩
      refine ⟨_, rfl, _, rfl, _, rfl, l3, _, rfl, .inl (SqL.of eN3), p, _, _, rfl, pl3, by omega, by rw [List.length_map]; omega, Int.lt_of_le_of_lt (b := 30) (by rw [List.length_map]; omega) (by decide), fun d2 H4 c0 c1 pl4 b4 => ?_⟩
      rw [List.length_map] at c1
      obtain ⟨zb, hb, at2⟩ := at_str c0 c1
      have eN4 := b4 _ _ nnp eN3
      refine ⟨l3, _, d2, .str zb, rfl, rfl, SqL.of eN4, at2, ?_⟩
      refine ⟨_, _, rfl, ?_⟩
      refine ⟨(), rfl, fun q1 H5 hq1 s5 eq1 => ?_⟩
      have pl5 := pl4.same s5
      have nqp := pl5.nl eq1
      refine ⟨_, rfl, p, 12, _, rfl, pl5, by omega, by decide, by decide, fun d3 H6 e0 e1 pl6 b6 => ?_⟩
      obtain ⟨cd, hc, at3⟩ := at_str (zs := conds) e0 e1
      refine ⟨q1, _, d3, .str cd, rfl, rfl, SqL.of (b6 _ _ nqp eq1), at3, ?_⟩
      refine ⟨_, rfl, _, rfl, _, _, rfl, rfl, _, rfl, p, 4, _, rfl, pl6, by omega, by decide, by decide, fun d4 H7 f0 f1 pl7 b7 => ⟨_, _, rfl, rfl, _, _, rfl, ?_⟩⟩
      have hnr : 0 ≤ (if 0 + (i : Int) + 1 + d4 < (tt : Int) then 0 + (i : Int) + 1 + d4 else (tt : Int)) ∧ (if 0 + (i : Int) + 1 + d4 < (tt : Int) then 0 + (i : Int) + 1 + d4 else (tt : Int)) ≤ (tt : Int) := by split <;> omega
      generalize (if 0 + (i : Int) + 1 + d4 < (tt : Int) then 0 + (i : Int) + 1 + d4 else (tt : Int)) = nr at hnr ⊢
      refine ⟨_, rfl, _, rfl, _, rfl, _, rfl, _, _, rfl, rfl, p, (tt : Int) + 1, _, rfl, pl7, by omega, by omega, Int.lt_of_le_of_lt (b := 30) (by omega) (by decide), fun d5 H8 g0 g1 pl8 b8 => ⟨(by show 3 ≤ sizeLine; decide), fun l4 hl4 => ?_⟩⟩
      refine ⟨_, rfl, p, 3, _, rfl, pl8.new hl4, by omega, by decide, by decide, fun d6 H9 h0 h1 pl9 b9 => ?_⟩
      obtain ⟨gl, mg, at4⟩ := at_int (zs := [nr, nr, d5]) h0 h1
      refine ⟨l4, _, d6, .int gl, rfl, rfl, SqL.of (b9 _ _ (pl8.ne hl4) upd_same), at4, ?_⟩
      have hg : 0 ≤ gl ∧ gl ≤ (tt : Int) := by
        simp only [List.mem_cons, List.not_mem_nil, or_false] at mg
        omega
      have b29 : But p H2 H9 := b3.trans (b4.trans ((But.of s5).trans (b6.trans (b7.trans (b8.trans ((But.new hl4).trans b9))))))
      clear b3 b4 s5 b6 b7 b8 hl4 b9 at1 at2 at3 at4 eN3 eN4 eq1 hq1 mg
      refine gn_of ?_
      dsimp only
      refine sa_of ?_
      refine lst_of (rs := [[.str "cmp", .str za, .str zb], [.str "jif", .str cd, .int gl], [.str "out", .str za], [.str "cmov", .str cd, .str za, .str zb], [.str "swap", .str za, .str zb]]) (.cons (.con (.var rfl (.var rfl (.nil)))) (len_ok rfl) (.cons (.con (.var rfl (.var rfl (.nil)))) (len_ok rfl) (.cons (.con (.var rfl (.nil))) (len_ok rfl) (.cons (.con (.var rfl (.var rfl (.var rfl (.nil))))) (len_ok rfl) (.cons (.con (.var rfl (.var rfl (.nil)))) (len_ok rfl) (.nil)))))) (len_ok rfl) fun l0 ts0 G0 _ v c r => ?_
      refine ⟨_, rfl, ?_⟩
      refine lst_of (rs := [[.str "mov", .str za, .str zb], [.str "cmp", .str zb, .str za], [.str "jif", .str cd, .int nr], [.str "out", .str zb]]) (.cons (.con (.var rfl (.var rfl (.nil)))) (len_ok rfl) (.cons (.con (.var rfl (.var rfl (.nil)))) (len_ok rfl) (.cons (.con (.var rfl (.var rfl (.nil)))) (len_ok rfl) (.cons (.con (.var rfl (.nil))) (len_ok rfl) (.nil))))) (len_ok rfl) fun mL ts KH _ sa cm rm => ?_
      refine cat_rows (sa _ _ c) cm (r.same sa) rm (Nat.le_of_ble_eq_true rfl) fun l1 G1 _ sb c' r' => ?_
      replace v := v.trans (sa.trans sb)
      replace c := c'
      replace r := r'
      clear sa sb cm rm
      refine ⟨_, rfl, ?_⟩
      refine lst_of (rs := [[.str "jump", .int gl], [.str "stop"]]) (.cons (.con (.var rfl (.nil))) (len_ok rfl) (.cons (.con (.nil)) (len_ok rfl) (.nil))) (len_ok rfl) fun mL ts KH _ sa cm rm => ?_
      refine cat_rows (sa _ _ c) cm (r.same sa) rm (Nat.le_of_ble_eq_true rfl) fun l2 G2 _ sb c' r' => ?_
      replace v := v.trans (sa.trans sb)
      replace c := c'
      replace r := r'
      clear sa sb cm rm
      have r : RowsAt G2 _ (codeR za zb cd gl nr) := r
      have okR := codeR_ok (size := (tt : Int)) ha hb hc hg hnr
      have plv := pl9.same v
      have nlp := plv.nr c
      refine gn_of ?_
      refine ⟨_, rfl, p, 13, _, rfl, plv, by omega, by decide, by decide, fun d7 HX i0 i1 plX bX => ?_⟩
      have b2X : But p H2 HX := b29.trans ((But.of v).trans bX)
      have cX := bX _ _ nlp c
      have rX := r.but bX plv
      have eFX := b2X _ _ nfp eF2
      have eNX := b2X _ _ nnp eN2
      have raX := ra.but b2X pl2
      refine gn_of ?_
      have nX := plX.nr cX
      refine ⟨_, rfl, .inl ⟨rfl, _, SqL.of eFX⟩, _, rfl, _, _, rfl, rfl, _, rfl, ?_⟩
      by_cases c1 : (0 : Int) < 0 + (i : Int)
      · refine tT (decide_eq_true c1) ?_
        obtain ⟨t, rr, mr, er, at5⟩ := at_row rX (Int.emod_nonneg d7 (by decide)) (show d7 % 11 < 11 from Int.emod_lt_of_pos d7 (by decide))
        refine ⟨_, rfl, _, rfl, _, _, rfl, rfl, (by show (0 : Int) < 11; decide), l2, _, d7 % 11, .ref t, rfl, rfl, SqL.of cX, at5, ?_⟩
        refine ⟨_, _, _, rfl, rfl, eFX, small1000 (by rw [List.length_map, Paired.length raX]; omega), ?_⟩
        refine ⟨_, _, _, _, _, _, _, _, as ++ [t], rs ++ [rr], rfl, (plX.put nfp).mono (by omega), fun b o nb e => (upd_ne (ne_of_none e hf0)).trans ((b2.trans b2X) b o nb e), (upd_ne (Ne.symm nfn)).trans eNX, ?_, ?_, by rw [List.length_append, lr]; rfl, ?_⟩
        · rw [upd_same, List.map_append]
          rfl
        · exact pra (RowsAt.up raX eFX) (.cons ((upd_ne (fun z => by rw [z, eFX] at er; cases er)).trans er) .nil)
        · intro y my
          rcases List.mem_append.mp my with my | my
          · exact ok y my
          · rw [List.mem_singleton.mp my]
            exact okR _ mr
      refine tF (decide_eq_false c1) ?_
      refine ⟨_, rfl, p, 6, _, rfl, plX, by omega, by decide, by decide, fun d8 HY j0 j1 plY bY => ⟨rfl, _, rfl, ?_⟩⟩
      have b2Y := b2X.trans bY
      have cY := bY _ _ nX cX
      have rY := rX.but bY plX
      have eFY := bY _ _ nfp eFX
      have eNY := bY _ _ nnp eNX
      have raY := raX.but bY plX
      by_cases c2 : d8 = 0
      · refine tT (decide_eq_true (congrArg V.int c2)) ?_
        obtain ⟨t, rr, mr, er, at5⟩ := at_row rY (Int.emod_nonneg d7 (by decide)) (show d7 % 11 < 11 from Int.emod_lt_of_pos d7 (by decide))
        refine ⟨_, rfl, _, rfl, _, _, rfl, rfl, (by show (0 : Int) < 11; decide), l2, _, d7 % 11, .ref t, rfl, rfl, SqL.of cY, at5, ?_⟩
        refine ⟨_, _, _, rfl, rfl, eFY, small1000 (by rw [List.length_map, Paired.length raY]; omega), ?_⟩
        refine ⟨_, _, _, _, _, _, _, _, as ++ [t], rs ++ [rr], rfl, (plY.put nfp).mono (by omega), fun b o nb e => (upd_ne (ne_of_none e hf0)).trans ((b2.trans b2Y) b o nb e), (upd_ne (Ne.symm nfn)).trans eNY, ?_, ?_, by rw [List.length_append, lr]; rfl, ?_⟩
        · rw [upd_same, List.map_append]
          rfl
        · exact pra (RowsAt.up raY eFY) (.cons ((upd_ne (fun z => by rw [z, eFY] at er; cases er)).trans er) .nil)
        · intro y my
          rcases List.mem_append.mp my with my | my
          · exact ok y my
          · rw [List.mem_singleton.mp my]
            exact okR _ mr
      refine tF (decide_eq_false fun z => c2 (V.int.inj z)) ?_
      obtain ⟨t, rr, mr, er, at5⟩ := at_row (d := 0) rY (by decide) (show (0 : Int) < 11 by decide)
      refine ⟨_, rfl, l2, _, 0, .ref t, rfl, rfl, SqL.of cY, at5, ?_⟩
      refine ⟨_, _, _, rfl, rfl, eFY, small1000 (by rw [List.length_map, Paired.length raY]; omega), ?_⟩
      refine ⟨_, _, _, _, _, _, _, _, as ++ [t], rs ++ [rr], rfl, (plY.put nfp).mono (by omega), fun b o nb e => (upd_ne (ne_of_none e hf0)).trans ((b2.trans b2Y) b o nb e), (upd_ne (Ne.symm nfn)).trans eNY, ?_, ?_, by rw [List.length_append, lr]; rfl, ?_⟩
      · rw [upd_same, List.map_append]
        rfl
      · exact pra (RowsAt.up raY eFY) (.cons ((upd_ne (fun z => by rw [z, eFY] at er; cases er)).trans er) .nil)
      · intro y my
        rcases List.mem_append.mp my with my | my
        · exact ok y my
        · rw [List.mem_singleton.mp my]
          exact okR _ mr
    rintro σ H2 ⟨u6, u7, u8, u9, u10, u11, u12, u13, as, rs, rfl, pl2, b2, eN2, eF2, ra, lr, ok⟩
    refine ⟨_, rfl, ?_⟩
    exact k f as rs H2 hf0 b2 eF2 ra (by omega) (by rw [lr]; exact ok) (pl2.mono (by omega))
/-! _law_wrong_row -/
def sp_law_wrong_row (K : PySem.W.Frag) (A0 : Ad) : Sp := fun vs H Q E => ∃ (p : Addr) (m size : Int) (n : Nat), vs = [.ref p, .int m, .int size] ∧ Pool H p n ∧ n ≤ 40000 ∧ ∀ t w xs H', But p H H' → H' t = some (.tup (.str w :: xs)) → RowIs (.str w :: xs) → Pool H' p (n + 4) → Q (.ref t) H'
theorem sc_law_wrong_row : FnScope ["pool", "many", "size", "names", "name", "cond", "goal", "some"] ["pool", "many", "size"] (defScope s_law_wrong_row) := ⟨rfl, rfl, rfl, by decide +kernel, rfl, by decide +kernel, by decide +kernel⟩
theorem bd_law_wrong_row (T : Txt w K mg A0) : Binds K A0.d_law_wrong_row ["pool", "many", "size"] [] := T.F_law_wrong_row.binds fun _ _ _ _ _ _ us hl => match us, hl with | [_, _, _], _ => rfl
set_option maxHeartbeats 0 in
theorem ok_law_wrong_row (T : Txt w K mg A0) : FnOk P w K mg base CX0 2 A0.a_law_wrong_row A0.d_law_wrong_row ["pool", "many", "size"] (sp_law_wrong_row K A0) := by
  refine T.F_law_wrong_row.ok sc_law_wrong_row (fun vs H Q E h => ?_) (fun cdv A outer s H vs Q E hr h => ?_)
  · obtain ⟨p, m, size, n, rfl, _⟩ := h
    rfl
  · obtain ⟨p, m, size, n, rfl, h⟩ := h
    refine ⟨_, (pss_cons (ps_set (i := 3) sc_law_wrong_row.nd rfl (Or.inl rfl) (pe_op op_cat (pe_callTy (call_list_txt rfl) (by rfl) T.b_list (by decide +kernel) (pa_cons pe_str pa_nil)) (pe_lst (pa_cons pe_str (pa_cons pe_str (pa_cons pe_str (pa_cons pe_str (pa_cons pe_str (pa_cons pe_str pa_nil)))))))))
        (pss_cons (ps_par (i := 4) (j := 5) rfl sc_law_wrong_row.nd rfl rfl (by decide) rfl rfl (pa_cons (pe_ix ix_list (pv 3) (pe_call (ok_law_draw T) (hr.mono (by decide)) rfl T.g_law_draw T.F_law_draw.kp (bd_law_draw T) .nil pass0 (pa_cons (pv 0) (pa_cons pe_int pa_nil))) (fun _ _ => rfl)) (pa_cons (pe_ix ix_list (pe_op op_cat (pe_call0 (ok_law_conds T) (hr.mono (by decide)) rfl T.g_law_conds T.F_law_conds.kp (bd_law_conds T) .nil pass0) (pe_lst (pa_cons pe_str (pa_cons pe_str (pa_cons pe_str (pa_cons pe_str (pa_cons pe_str pa_nil))))))) (pe_call (ok_law_draw T) (hr.mono (by decide)) rfl T.g_law_draw T.F_law_draw.kp (bd_law_draw T) .nil pass0 (pa_cons (pv 0) (pa_cons pe_int pa_nil))) (fun _ _ => rfl)) pa_nil)) rfl)
        (pss_cons (ps_set (i := 6) sc_law_wrong_row.nd rfl (Or.inl rfl) (pe_ix ix_list (pe_lst (pa_cons (pv 2) (pa_cons (pe_op op_add (pv 2) pe_int) (pa_cons (pe_un un_neg pe_int) (pa_cons pe_int (pa_cons (pe_op op_pow pe_int pe_int) pa_nil)))))) (pe_call (ok_law_draw T) (hr.mono (by decide)) rfl T.g_law_draw T.F_law_draw.kp (bd_law_draw T) .nil pass0 (pa_cons (pv 0) (pa_cons pe_int pa_nil))) (fun _ _ => rfl)))
        (pss_cons (ps_set (i := 7) sc_law_wrong_row.nd rfl (Or.inl rfl) (pe_lst (pa_cons (pe_tup (pa_cons pe_str (pa_cons pe_str (pa_cons (pv 4) pa_nil)))) (pa_cons (pe_tup (pa_cons pe_str (pa_cons (pv 4) (pa_cons pe_str pa_nil)))) (pa_cons (pe_tup (pa_cons pe_str (pa_cons pe_str pa_nil))) (pa_cons (pe_tup (pa_cons pe_str (pa_cons pe_str (pa_cons pe_str (pa_cons pe_str pa_nil))))) (pa_cons (pe_tup (pa_cons pe_str (pa_cons (pv 4) (pa_cons pe_str pa_nil)))) pa_nil)))))))
        (pss_cons (ps_set (i := 7) sc_law_wrong_row.nd rfl (Or.inl rfl) (pe_op op_cat (pv 7) (pe_lst (pa_cons (pe_tup (pa_cons pe_str (pa_cons (pv 5) (pa_cons pe_str (pa_cons (pv 4) pa_nil))))) (pa_cons (pe_tup (pa_cons pe_str (pa_cons pe_str (pa_cons pe_str pa_nil)))) (pa_cons (pe_tup (pa_cons pe_str (pa_cons (pv 6) pa_nil))) (pa_cons (pe_tup (pa_cons pe_str pa_nil)) (pa_cons (pe_tup (pa_cons pe_str (pa_cons pe_str pa_nil))) pa_nil))))))))
        (pss_cons (ps_set (i := 7) sc_law_wrong_row.nd rfl (Or.inl rfl) (pe_op op_cat (pv 7) (pe_lst (pa_cons (pe_tup (pa_cons pe_str (pa_cons (pv 5) (pa_cons (pv 6) pa_nil)))) (pa_cons (pe_tup (pa_cons pe_str (pa_cons (pv 6) pa_nil))) (pa_cons (pe_tup (pa_cons pe_str (pa_cons pe_str (pa_cons pe_str pa_nil)))) (pa_cons (pe_tup (pa_cons pe_str (pa_cons (pv 4) pa_nil))) (pa_cons (pe_tup (pa_cons pe_str pa_nil)) (pa_cons (pe_tup (pa_cons pe_str (pa_cons pe_str pa_nil))) pa_nil)))))))))
        (pss_cons (ps_set (i := 7) sc_law_wrong_row.nd rfl (Or.inl rfl) (pe_op op_cat (pv 7) (pe_lst (pa_cons (pe_tup (pa_cons pe_str pa_nil)) (pa_cons (pe_tup (pa_cons pe_str (pa_cons pe_str pa_nil))) (pa_cons (pe_tup (pa_cons pe_str (pa_cons pe_str pa_nil))) pa_nil))))))
        (pss_one (ps_ret (pe_ix ix_list (pv 7) (pe_call (ok_law_draw T) (hr.mono (by decide)) rfl T.g_law_draw T.F_law_draw.kp (bd_law_draw T) .nil pass0 (pa_cons (pv 0) (pa_cons pe_int pa_nil))) (fun _ _ => rfl))))))))))), ?_⟩
    obtain ⟨pl, hn, k⟩ := h
    refine ⟨_, rfl, (by show 4 ≤ 1000; decide), fun l1 hl1 => ?_⟩
    refine lstc_of (xs := [.str "x", .str "y", .str "z", .str "P", .str "", .str "e"]) (.con (.con (.con (.con (.con (.con (.nil))))))) (len_ok rfl) fun l2 J2 hl2 s2 e2 => ?_
    refine cat_of (s2 _ _ upd_same) e2 (by decide +kernel) fun l3 HA hl3 s3 eA => ?_
    have sA := (sameNew hl1 (o := .lst (sgn "pqrs"))).trans (s2.trans s3)
    clear s2 s3 e2 hl1 hl2 hl3
    rw [show sgn "pqrs" ++ [.str "x", .str "y", .str "z", .str "P", .str "", .str "e"] = (["p", "q", "r", "s", "x", "y", "z", "P", "", "e"] : List Str).map V.str by decide +kernel] at eA
    have pl0 := pl.same sA
    have nlp := pl0.nl eA
    refine ⟨_, rfl, _, rfl, p, 10, n, rfl, pl0, by omega, by decide, by decide, fun d1 H1 a0 a1 pl1 b1 => ?_⟩
    obtain ⟨nm, _, at1⟩ := at_str (zs := ["p", "q", "r", "s", "x", "y", "z", "P", "", "e"]) a0 a1
    refine ⟨l3, _, d1, .str nm, rfl, rfl, SqL.of (b1 _ _ nlp eA), at1, ?_⟩
    refine ⟨(), rfl, fun q1 H2 hq1 s2 eq1 => ?_⟩
    refine lstc_of (xs := [.str "E", .str "lb", .str "", .str "p", .str "nl"]) (.con (.con (.con (.con (.con (.nil)))))) (len_ok rfl) fun q2 J3 hq2 s3 e3 => ?_
    refine cat_of (s3 _ _ eq1) e3 (by decide +kernel) fun q3 HB hq3 s4 eB => ?_
    have sB := s2.trans (s3.trans s4)
    clear s2 s3 s4 e3 eq1 hq1 hq2 hq3
    rw [show conds.map V.str ++ [.str "E", .str "lb", .str "", .str "p", .str "nl"] = (conds ++ (["E", "lb", "", "p", "nl"] : List Str)).map V.str by decide +kernel] at eB
    have plB := pl1.same sB
    have nqp := plB.nl eB
    refine ⟨_, rfl, p, 17, _, rfl, plB, by omega, by decide, by decide, fun d2 H3 c0 c1 pl3 b3 => ?_⟩
    obtain ⟨cd, _, at2⟩ := at_str (zs := conds ++ (["E", "lb", "", "p", "nl"] : List Str)) c0 c1
    refine ⟨q3, _, d2, .str cd, rfl, rfl, SqL.of (b3 _ _ nqp eB), at2, ?_⟩
    refine ⟨_, _, rfl, ?_⟩
    refine ⟨_, rfl, _, rfl, _, _, rfl, rfl, _, rfl, _, _, rfl, rfl, ⟨by decide, by decide, by decide⟩, (by show 5 ≤ sizeLine; decide), fun l4 hl4 => ?_⟩
    have nl4 : l4 ≠ p := pl3.ne hl4
    refine ⟨_, rfl, p, 5, _, rfl, pl3.new hl4, by omega, by decide, by decide, fun d3 H4 e0 e1 pl4 b4 => ?_⟩
    obtain ⟨gl, _, at3⟩ := at_int (zs := [size, size + 1, -1, 0, 10 ^ (20 : Int).toNat]) e0 e1
    refine ⟨l4, _, d3, .int gl, rfl, rfl, SqL.of (b4 _ _ nl4 upd_same), at3, ?_⟩
    have b04 : But p H H4 := (But.of sA).trans (b1.trans ((But.of sB).trans (b3.trans ((But.new hl4).trans b4))))
    clear at1 at2 at3 b4 b3 sB sA b1 eA eB
    refine gn_of ?_
    dsimp only
    refine sa_of ?_
    refine lst_of (rs := [[.str "cmp", .str "p", .str nm], [.str "cmp", .str nm, .str "x"], [.str "mov", .str "p"], [.str "mov", .str "p", .str "x", .str "y"], [.str "swap", .str nm, .str "p"]]) (.cons (.con (.con (.var rfl (.nil)))) (len_ok rfl) (.cons (.con (.var rfl (.con (.nil)))) (len_ok rfl) (.cons (.con (.con (.nil))) (len_ok rfl) (.cons (.con (.con (.con (.con (.nil))))) (len_ok rfl) (.cons (.con (.var rfl (.con (.nil)))) (len_ok rfl) (.nil)))))) (len_ok rfl) fun l0 ts0 G0 _ v c r => ?_
    refine ⟨_, rfl, ?_⟩
    refine lst_of (rs := [[.str "cmov", .str cd, .str "p", .str nm], [.str "cmov", .str "p", .str "x"], [.str "jump", .int gl], [.str "jump"], [.str "jump", .str "p"]]) (.cons (.con (.var rfl (.con (.var rfl (.nil))))) (len_ok rfl) (.cons (.con (.con (.con (.nil)))) (len_ok rfl) (.cons (.con (.var rfl (.nil))) (len_ok rfl) (.cons (.con (.nil)) (len_ok rfl) (.cons (.con (.con (.nil))) (len_ok rfl) (.nil)))))) (len_ok rfl) fun mL ts KH _ sa cm rm => ?_
    refine cat_rows (sa _ _ c) cm (r.same sa) rm (Nat.le_of_ble_eq_true rfl) fun l1 G1 _ sb c' r' => ?_
    replace v := v.trans (sa.trans sb)
    replace c := c'
    replace r := r'
    clear sa sb cm rm
    refine ⟨_, rfl, ?_⟩
    refine lst_of (rs := [[.str "jif", .str cd, .int gl], [.str "jif", .int gl], [.str "jif", .str "e", .str "e"], [.str "out", .str nm], [.str "out"], [.str "stop", .str "p"]]) (.cons (.con (.var rfl (.var rfl (.nil)))) (len_ok rfl) (.cons (.con (.var rfl (.nil))) (len_ok rfl) (.cons (.con (.con (.con (.nil)))) (len_ok rfl) (.cons (.con (.var rfl (.nil))) (len_ok rfl) (.cons (.con (.nil)) (len_ok rfl) (.cons (.con (.con (.nil))) (len_ok rfl) (.nil))))))) (len_ok rfl) fun mL ts KH _ sa cm rm => ?_
    refine cat_rows (sa _ _ c) cm (r.same sa) rm (Nat.le_of_ble_eq_true rfl) fun l2 G2 _ sb c' r' => ?_
    replace v := v.trans (sa.trans sb)
    replace c := c'
    replace r := r'
    clear sa sb cm rm
    refine ⟨_, rfl, ?_⟩
    refine lst_of (rs := [[.str "halt"], [.str "Out", .str "p"], [.str "", .str "p"]]) (.cons (.con (.nil)) (len_ok rfl) (.cons (.con (.con (.nil))) (len_ok rfl) (.cons (.con (.con (.nil))) (len_ok rfl) (.nil)))) (len_ok rfl) fun mL ts KH _ sa cm rm => ?_
    refine cat_rows (sa _ _ c) cm (r.same sa) rm (Nat.le_of_ble_eq_true rfl) fun l3 G3 _ sb c' r' => ?_
    replace v := v.trans (sa.trans sb)
    replace c := c'
    replace r := r'
    clear sa sb cm rm
    have plN := pl4.same v
    have nM := plN.nr c
    refine ⟨_, rfl, _, rfl, p, 19, _, rfl, plN, by omega, by decide, by decide, fun d4 H9 z0 z1 pl9 b9 => ?_⟩
    obtain ⟨t, r, mr, er, at4⟩ := at_row (rs := wrongR nm cd gl) r z0 z1
    refine ⟨l3, _, d4, .ref t, rfl, rfl, SqL.of (b9 _ _ nM c), at4, ?_⟩
    obtain ⟨⟨w, xs, rfl⟩, ri⟩ := wrongR_ok r mr
    exact k t w xs H9 (b04.trans ((But.of v).trans b9)) (b9 _ _ (plN.nt er) er) ri (pl9.mono (by omega))
/-! _law_is_row -/
def sp_law_is_row (K : PySem.W.Frag) (A0 : Ad) : Sp := fun vs H Q E => ∃ (a : Addr) (w : Str) (xs : List V) (m size : Int), vs = [.ref a, .int m, .int size] ∧ H a = some (.tup (.str w :: xs)) ∧ RowIs (.str w :: xs) ∧ 1 ≤ m ∧ m ≤ 4 ∧ ∀ H', Same H H' → Q (.bl (rowOk (regs m.toNat) size (.str w :: xs))) H'
theorem sc_law_is_row : FnScope ["row", "many", "size", "names", "conds", "shapes", "shape", "item"] ["row", "many", "size"] (defScope s_law_is_row) := ⟨rfl, rfl, rfl, by decide +kernel, rfl, by decide +kernel, by decide +kernel⟩
theorem bd_law_is_row (T : Txt w K mg A0) : Binds K A0.d_law_is_row ["row", "many", "size"] [] := T.F_law_is_row.binds fun _ _ _ _ _ _ us hl => match us, hl with | [_, _, _], _ => rfl
set_option maxHeartbeats 0 in
theorem ok_law_is_row (T : Txt w K mg A0) : FnOk P w K mg base CX0 2 A0.a_law_is_row A0.d_law_is_row ["row", "many", "size"] (sp_law_is_row K A0) := by
  refine T.F_law_is_row.ok sc_law_is_row (fun vs H Q E h => ?_) (fun cdv A outer s H vs Q E hr h => ?_)
  · obtain ⟨a, w, xs, m, size, rfl, _⟩ := h
    rfl
  · obtain ⟨a, w, xs, m, size, rfl, h⟩ := h
    refine ⟨_, (pss_cons (ps_par (i := 3) (j := 4) rfl sc_law_is_row.nd rfl rfl (by decide) rfl rfl (pa_cons (pe_op op_cat (pe_callTy (call_list_txt rfl) (by rfl) T.b_list (by decide +kernel) (pa_cons (pe_slice sl_str pe_str po_none (po_some (pv 1))) pa_nil)) (pe_lst (pa_cons pe_str (pa_cons pe_str pa_nil)))) (pa_cons (pe_call0 (ok_law_conds T) (hr.mono (by decide)) rfl T.g_law_conds T.F_law_conds.kp (bd_law_conds T) .nil pass0) pa_nil)) rfl)
        (pss_cons (ps_set (i := 5) sc_law_is_row.nd rfl (Or.inl rfl) (pe_disp (pps_cons pe_str pe_str (pps_cons pe_str pe_str (pps_cons pe_str pe_str (pps_cons pe_str pe_str (pps_cons pe_str pe_str (pps_cons pe_str pe_str (pps_cons pe_str pe_str (pps_cons pe_str pe_str pps_nil)))))))) (by rfl) (by rfl) (fun z => by cases z) (by decide)))
        (pss_cons (ps_if (PW.pt (pw_or (pt_cmp (pc_dnotin (hu_of hr) (pe_ix ix_tup (pv 0) pe_int (fun _ _ => rfl)) (pv 5))) (pw_or1 (pt_cmpR op_ne (pe_callB call_len_seq (by rfl) T.b_len (by decide +kernel) (pa_cons (pv 0) pa_nil)) (pe_op op_add pe_int (pe_callB call_len_str (by rfl) T.b_len (by decide +kernel) (pa_cons (pe_dget (hu_of hr) (pv 5) (pe_ix ix_tup (pv 0) pe_int (fun _ _ => rfl)) (fun _ _ => rfl)) pa_nil))) (nomark _))))) (pss_one (ps_ret pe_bl)) pss_nil)
        (pss_cons (ps_for PassesOwn.never rfl (pi_zipS rfl T.b_zip (pa_cons (pe_dget (hu_of hr) (pv 5) (pe_ix ix_tup (pv 0) pe_int (fun _ _ => rfl)) (fun _ _ => rfl)) (pa_cons (pe_slice sl_tupA (pv 0) (po_some pe_int) po_none) pa_nil))) (pg_tup rfl (pgs_cons (pg_name (i := 6) sc_law_is_row.nd rfl (Or.inl rfl)) (pgs_cons (pg_name (i := 7) sc_law_is_row.nd rfl (Or.inl rfl)) pgs_nil))) (pss_cons (ps_if (PW.pt (pw_or (PW.pt (pw_and (pt_cmpR op_eq (pv 6) pe_str (nomark _)) (pw_and1 (pt_cmpR (op_notIn_seq) (pv 7) (pv 3) rfl)))) (pw_or1 (PW.pt (pw_and (pt_cmpR op_eq (pv 6) pe_str (nomark _)) (pw_and1 (pt_cmpR (op_notIn_seq) (pv 7) (pv 4) rfl))))))) (pss_one (ps_ret pe_bl)) pss_nil)
        (pss_one (ps_if (PW.pt (pw_and (pt_cmpR op_eq (pv 6) pe_str (nomark _)) (pw_and1 (PW.pt (pw_or (pt_val (pe_callB call_isi (by rfl) T.b_isinstance (by decide +kernel) (pa_cons (pv 7) (pa_cons (pe_bltn (v := .ty "str") (by rfl) T.b_str (by decide +kernel) rfl) pa_nil)))) (pw_or1 (pt_not (pt_chain op_le op_le pe_int (pv 7) (pv 2))))))))) (pss_one (ps_ret pe_bl)) pss_nil))))
        (pss_one (ps_ret pe_bl)))))), ?_⟩
    obtain ⟨ha, ri, m1, m2, k⟩ := h
    obtain ⟨j, rfl⟩ : ∃ j : Nat, m = (j : Int) := ⟨m.toNat, by omega⟩
    have eR : (regs j).map V.str = sgn (cutS "pqrs" none (some (j : Int))) ++ [.str "x", .str "y"] := (regs_all j).resolve_right fun z => z ⟨by omega, by omega⟩
    have l6 := regs_len j
    have lC : (sgn (cutS "pqrs" none (some (j : Int)))).length + 2 = (regs j).length := by
      have q := congrArg List.length eR
      rw [List.length_map, List.length_append] at q
      exact q.symm
    rw [sgn_len] at lC
    refine ⟨_, rfl, _, rfl, "pqrs", rfl, (by decide +kernel), _, rfl, (by omega), fun l1 hl1 => ?_⟩
    refine lstc_of (xs := [.str "x", .str "y"]) (.con (.con (.nil))) (len_ok rfl) fun l2 J2 hl2 s2 e2 => ?_
    refine cat_of (s2 _ _ upd_same) e2 (by rw [sgn_len]; show _ + 2 ≤ 1000; omega) fun l3 HA hl3 s3 eA => ?_
    have sA := (sameNew hl1 (o := .lst (sgn (cutS "pqrs" none (some (j : Int)))))).trans (s2.trans s3)
    clear s2 s3 e2 hl1 hl2 hl3
    rw [← eR] at eA
    clear eR lC
    refine ⟨(), rfl, fun q1 HB hq1 sB eq1 => ?_⟩
    refine ⟨_, _, rfl, ?_⟩
    refine fun d hd => ⟨upd_same, shT.map (fun q => ((Sum.inr q.1 : Key), V.str q.2)), rfl, (by decide), ?_⟩
    have eD : upd (upd HB d (.dK [])) d (.dK (mergeK [] (shT.map (fun q => ((Sum.inr q.1 : Key), V.str q.2))))) d = some (.dK (shT.map (fun q => ((Sum.inr q.1 : Key), V.str q.2)))) := by
      rw [upd_same, show mergeK [] (shT.map (fun q => ((Sum.inr q.1 : Key), V.str q.2))) = shT.map (fun q => ((Sum.inr q.1 : Key), V.str q.2)) by decide +kernel]
    have sD : Same HB (upd (upd HB d (.dK [])) d (.dK (mergeK [] (shT.map (fun q => ((Sum.inr q.1 : Key), V.str q.2)))))) := fun b o e => (upd_ne (ne_of_none e hd)).trans ((upd_ne (ne_of_none e hd)).trans e)
    generalize upd (upd HB d (.dK [])) d (.dK (mergeK [] (shT.map (fun q => ((Sum.inr q.1 : Key), V.str q.2))))) = HC at eD sD ⊢
    have s0 := sA.trans (sB.trans sD)
    have eN := sD _ _ (sB _ _ eA)
    have eC := sD _ _ eq1
    have ha := s0 _ _ ha
    have k : ∀ H', Same HC H' → Q (.bl (rowOk (regs j) size (.str w :: xs))) H' := fun H' s => k H' (s0.trans s)
    clear sA sB sD eA eq1 hq1 hd s0
    refine ⟨_, rfl, a, _, 0, .str w, rfl, rfl, SqT.of ha, at0v, _, rfl, d, _, rfl, DGet.k (k := Sum.inr w) eD, ?_⟩
    have hv := val_str shT w
    cases hf : fmT.lookup w with
    | none =>
      have kk := k HC (Same.refl HC)
      rw [rowOk_none hf] at kk
      rw [sh_none hf] at hv
      refine ⟨_, rfl, ?_⟩
      exact tT (show (!(valV (shT.map (fun q => ((Sum.inr q.1 : Key), V.str q.2))) (Sum.inr w)).isSome) = true from by rw [hv]; rfl) kk
    | some f =>
      obtain ⟨g, hg, gs, gm, gl⟩ := sh_some hf
      obtain ⟨fk, f3, fe⟩ := fm_all _ (lookup_mem hf)
      have f3 : f.cps.size ≤ 3 := f3
      rw [hg] at hv
      refine ⟨_, rfl, ?_⟩
      refine tF (show (!(valV (shT.map (fun q => ((Sum.inr q.1 : Key), V.str q.2))) (Sum.inr w)).isSome) = false from by rw [hv]; rfl) ?_
      have dg : DGet HC d (.str w) (some (.str g)) := by
        have q := DGet.k (k := Sum.inr w) eD
        rw [hv] at q
        exact q
      refine ⟨_, rfl, a, _, rfl, .inr (SqT.of ha), _, rfl, _, rfl, a, _, 0, .str w, rfl, rfl, SqT.of ha, at0v, d, .str g, rfl, dg, g, rfl, Nat.le_of_lt (small1000 (by omega)), _, _, rfl, rfl, rfl, _, rfl, ?_⟩
      have rs := rowOk_some (xs := xs) (ns := regs j) (size := size) hf
      by_cases c : xs.length = f.cps.size
      case neg =>
        refine tT (by rw [decide_eq_false (fun z => c (by have := V.int.inj z; rw [List.length_cons] at this; omega))]; rfl) ?_
        have kk := k HC (Same.refl HC)
        rw [rs, decide_eq_false c, Bool.false_and] at kk
        exact kk
      refine tF (by rw [decide_eq_true (congrArg V.int (by rw [List.length_cons]; omega))]; rfl) ?_
      rw [decide_eq_true c, Bool.true_and] at rs
      rw [rs] at k
      refine ⟨_, rfl, _, rfl, a, _, 0, .str w, rfl, rfl, SqT.of ha, at0v, d, .str g, rfl, dg, _, rfl, _, rfl, a, _, rfl, SqT.of ha, fun c => absurd c.1 (by rw [sIx1]; decide), fun _ b hb => ?_⟩
      rw [cut_tail]
      refine ⟨g, b, xs, rfl, SqT.of upd_same, ?_⟩
      have sb := sameNew hb (o := .tup xs)
      refine for_zipS (ys := xs) (by omega) (fun i σ H' => ∃ u6 u7, σ = [some (.ref a), some (.int (j : Int)), some (.int size), some (.ref l3), some (.ref q1), some (.ref d), u6, u7] ∧ Same (upd HC b (.tup xs)) H' ∧ (((sgn f).zip xs).take i).all (fun q => itemOk q.1 q.2 (regs j) size) = true) ⟨none, none, rfl, Same.refl _, rfl⟩ (fun i σ H' q => by obtain ⟨_, _, _, s, _⟩ := q; exact SqT.of (s _ _ upd_same)) ?_ ?_
      · rintro i kx y T σ H2 hk hy ⟨u6, u7, rfl, s2, pre⟩ hT
        rw [gm, List.getElem?_map] at hk
        obtain ⟨kf, hkf, rfl⟩ := Option.map_eq_some_iff.mp hk
        have mk := fk kf (List.mem_of_getElem? hkf)
        have ay := ri.at' y (List.mem_cons_of_mem _ (List.mem_of_getElem? hy))
        have hz : ((sgn f).zip xs)[i]? = some (kf, y) := List.getElem?_zip_eq_some.mpr ⟨hkf, hy⟩
        have sT := sameNew hT (o := .tup [lowV kf, y])
        have eN2 := sT _ _ (s2 _ _ (sb _ _ eN))
        have eC2 := sT _ _ (s2 _ _ (sb _ _ eC))
        have st : ((((sgn f).zip xs).take (i + 1)).all fun q => itemOk q.1 q.2 (regs j) size) = itemOk kf y (regs j) size := by
          rw [tkS hz, List.all_append, pre, Bool.true_and, List.all_cons, List.all_nil, Bool.and_true]
        have sFin := s2.trans sT
        have good : itemOk kf y (regs j) size = true → ∃ u6 u7, [some (.ref a), some (.int (j : Int)), some (.int size), some (.ref l3), some (.ref q1), some (.ref d), some (lowV kf), some y] = [some (.ref a), some (.int (j : Int)), some (.int size), some (.ref l3), some (.ref q1), some (.ref d), u6, u7] ∧ Same (upd HC b (.tup xs)) (upd H2 T (.tup [lowV kf, y])) ∧ ((((sgn f).zip xs).take (i + 1)).all fun q => itemOk q.1 q.2 (regs j) size) = true := fun o => ⟨_, _, rfl, sFin, by rw [st]; exact o⟩
        have bad : itemOk kf y (regs j) size = false → Q (.bl false) (upd H2 T (.tup [lowV kf, y])) := fun o => by
          have q := k _ (sb.trans sFin)
          rw [show (((sgn f).zip xs).all fun q => itemOk q.1 q.2 (regs j) size) = false from by
            refine Bool.eq_false_iff.mpr fun z => ?_
            have := List.all_eq_true.mp z _ (List.mem_of_getElem? hz)
            rw [o] at this
            exact absurd this (by decide)] at q
          exact q
        clear pre st
        have eT : upd H2 T (.tup [lowV kf, y]) T = some (.tup [lowV kf, y]) := upd_same
        generalize upd H2 T (.tup [lowV kf, y]) = H3 at good bad eN2 eC2 sT sFin eT ⊢
        refine ⟨T, _, rfl, SqT.of eT, rfl, _, _, rfl, _, _, rfl, rfl, ?_⟩
        rcases mk with rfl | rfl | rfl
        · rw [show lowV (.str "R") = .str "r" by decide +kernel] at good ⊢
          rw [it_inR ay] at good bad
          refine ⟨_, rfl, rfl, _, rfl, ?_⟩
          refine tT (by decide +kernel) ?_
          refine ⟨_, rfl, _, rfl, l3, _, rfl, .inl (SqL.of eN2), ay.flat, flat_strs, _, rfl, ?_⟩
          cases hb2 : inV y ((regs j).map V.str) with
          | false =>
            refine tT rfl ?_
            exact bad hb2
          | true =>
            refine tF rfl ?_
            refine ⟨_, rfl, rfl, _, rfl, ?_⟩
            refine tF (by decide +kernel) ?_
            refine ⟨_, rfl, rfl, _, rfl, ?_⟩
            refine tF (by decide +kernel) ?_
            exact good hb2
        · rw [show lowV (.str "C") = .str "c" by decide +kernel] at good ⊢
          rw [it_inC ay] at good bad
          refine ⟨_, rfl, rfl, _, rfl, ?_⟩
          refine tF (by decide +kernel) ?_
          refine ⟨_, rfl, rfl, _, rfl, ?_⟩
          refine tT (by decide +kernel) ?_
          refine ⟨_, rfl, _, rfl, q1, _, rfl, .inl (SqL.of eC2), ay.flat, flat_strs, _, rfl, ?_⟩
          cases hb2 : inV y (conds.map V.str) with
          | false =>
            refine tT rfl ?_
            exact bad hb2
          | true =>
            refine tF rfl ?_
            refine ⟨_, rfl, rfl, _, rfl, ?_⟩
            refine tF (by decide +kernel) ?_
            exact good hb2
        · rw [show lowV (.str "T") = .str "t" by decide +kernel] at good ⊢
          rw [item_T] at good bad
          refine ⟨_, rfl, rfl, _, rfl, ?_⟩
          refine tF (by decide +kernel) ?_
          refine ⟨_, rfl, rfl, _, rfl, ?_⟩
          refine tF (by decide +kernel) ?_
          refine ⟨_, rfl, rfl, _, rfl, ?_⟩
          refine tT (by decide +kernel) ?_
          cases ay with
          | s z =>
            refine ⟨_, rfl, .str z, .ty "str", _, _, true, rfl, .ty _, .base (.str z), kit_ty (by decide +kernel), _, rfl, ?_⟩
            refine tT rfl ?_
            exact bad rfl
          | i n =>
            refine ⟨_, rfl, .int n, .ty "str", _, _, false, rfl, .ty _, .base (.int n), kit_ty (by decide +kernel), _, rfl, ?_⟩
            refine tF rfl ?_
            refine ⟨_, rfl, _, _, rfl, rfl, _, rfl, ?_⟩
            by_cases c1 : 0 ≤ n
            · refine tT (decide_eq_true c1) ?_
              dsimp only at good bad
              rw [decide_eq_true c1, Bool.true_and] at good bad
              refine ⟨_, rfl, _, _, rfl, rfl, _, rfl, ?_⟩
              by_cases c2 : n ≤ size
              · refine tF (by rw [decide_eq_true c2]; rfl) ?_
                exact good (decide_eq_true c2)
              · refine tT (by rw [decide_eq_false c2]; rfl) ?_
                exact bad (decide_eq_false c2)
            · refine tF (decide_eq_false c1) ?_
              dsimp only at good bad
              rw [decide_eq_false c1, Bool.false_and] at good bad
              refine ⟨_, rfl, ?_⟩
              refine tT rfl ?_
              exact bad rfl
      rintro σ H2 ⟨u6, u7, rfl, s2, pre⟩
      have lz : ((sgn f).zip xs).length = xs.length := by
        rw [List.length_zip, sgn_len]
        omega
      rw [← lz, List.take_length] at pre
      rw [pre] at k
      exact k H2 (sb.trans s2)
/-! Program.__init__ -/
def sp_Program___init (K : PySem.W.Frag) (A0 : Ad) : Sp := fun vs H Q E => ∃ (p dx l : Addr) (n : Int) (as : List Addr) (rs : List (List V)), vs = [.ref p, .int n, .ref l] ∧ H p = some (.ins A0.c_Program dx []) ∧ H l = some (.lst (as.map V.ref)) ∧ RowsAt H as rs ∧ rs.length ≤ 900 ∧ (∀ r ∈ rs, RowIs r) ∧ (1 ≤ n → n ≤ 4 → (∀ r ∈ rs, rowOk (regs n.toNat) rs.length r = true) → ∀ H', (∀ b o, b ≠ p → H b = some o → H' b = some o) → ProgAt K H' A0.c_Program p n as rs → (∀ dx2 l2 t2, H' p = some (.ins A0.c_Program dx2 [("_inputs", .int n), ("_rows", .ref l2), ("_placed", .ref t2)]) → H l2 = none) → Q .non H') ∧ (¬ (1 ≤ n ∧ n ≤ 4) → ∀ d H', H d = none → Same H H' → H' d = some (.xd [("value", .non)]) → E (.ref A0.c_InvalidProgram) (some d) H') ∧ (1 ≤ n → n ≤ 4 → ∀ (i : Nat) (r : List V), rs[i]? = some r → rowOk (regs n.toNat) rs.length r = false → (∀ (j : Nat) (y : List V), j < i → rs[j]? = some y → rowOk (regs n.toNat) rs.length y = true) → ∀ d H', H d = none → Same H H' → H' d = some (.xd [("value", .int (i : Nat))]) → E (.ref A0.c_InvalidProgram) (some d) H')
theorem sc_Program___init : FnScope ["self", "inputs", "rows", "names", "index", "row"] ["self", "inputs", "rows"] (defScope s_Program___init) := ⟨rfl, rfl, rfl, by decide +kernel, rfl, by decide +kernel, by decide +kernel⟩
theorem bd_Program___init (T : Txt w K mg A0) : Binds K A0.d_Program___init ["self", "inputs", "rows"] [] := T.F_Program___init.binds fun _ _ _ _ _ _ us hl => match us, hl with | [_, _, _], _ => rfl
set_option maxHeartbeats 0 in
theorem ok_Program___init (T : Txt w K mg A0) : FnOk P w K mg base (L2.CX P w) 3 A0.a_Program___init A0.d_Program___init ["self", "inputs", "rows"] (sp_Program___init K A0) := by
  refine T.F_Program___init.okX sc_Program___init (fun vs H Q E h => ?_) (fun cdv A outer s H vs Q E hr h => ?_)
  · obtain ⟨p, dx, l, n, as, rs, rfl, _⟩ := h
    rfl
  · obtain ⟨p, dx, l, n, as, rs, rfl, h⟩ := h
    refine ⟨_, (pss_cons (ps_if (PW.pt (pw_or (pt_cmpR op_lt (pv 1) pe_int (nomark _)) (pw_or1 (pt_cmpR op_gt (pv 1) (pe_callB call_len_seq (by rfl) T.b_len (by decide +kernel) (pa_cons (pe_glob (v := .ref A0.v_INPUT_NAMES) rfl T.gv_INPUT_NAMES rfl) pa_nil)) (nomark _))))) (pss_one (ps_raise rfl (takes_of rfl rfl rfl rfl) (pmk_oex (T.er_InvalidProgram).ox (T.er_InvalidProgram).ii (T.er_InvalidProgram).ti (okI_InvalidProgram T) (hr.mono (by decide)) (bdI_InvalidProgram T) .nil pass0 rfl T.gc_InvalidProgram (pa_cons pe_non pa_nil)))) pss_nil)
        (pss_cons (ps_set (i := 3) sc_Program___init.nd rfl (Or.inr rfl) (pe_call (ok_register_names T) (hr.mono (by decide)) rfl T.g_register_names T.F_register_names.kp (bd_register_names T) .nil pass0 (pa_cons (pv 1) pa_nil)))
        (pss_cons (ps_for (passes_of rfl) rfl (pi_enum rfl T.b_enumerate (pa_cons (pv 2) pa_nil)) (pg_tup rfl (pgs_cons (pg_name (i := 4) sc_Program___init.nd rfl (Or.inl rfl)) (pgs_cons (pg_name (i := 5) sc_Program___init.nd rfl (Or.inl rfl)) pgs_nil))) (pss_one (ps_if (pt_not (pt_val (pe_call (ok_is_row T) (hr.mono (by decide)) rfl T.g_is_row T.F_is_row.kp (bd_is_row T) .nil pass0 (pa_cons (pv 5) (pa_cons (pv 3) (pa_cons (pe_callB call_len_seq (by rfl) T.b_len (by decide +kernel) (pa_cons (pv 2) pa_nil)) pa_nil)))))) (pss_one (ps_raise rfl (takes_of rfl rfl rfl rfl) (pmk_oex (T.er_InvalidProgram).ox (T.er_InvalidProgram).ii (T.er_InvalidProgram).ti (okI_InvalidProgram T) (hr.mono (by decide)) (bdI_InvalidProgram T) .nil pass0 rfl T.gc_InvalidProgram (pa_cons (pv 4) pa_nil)))) pss_nil)))
        (pss_cons (ps_fld (pv 0) (pv 1) rfl)
        (pss_cons (ps_fld (pv 0) (pe_callTy call_list_of (by rfl) T.b_list (by decide +kernel) (pa_cons (pv 2) pa_nil)) rfl)
        (pss_one (ps_fld (pv 0) (pe_callTy call_tuple_of (by rfl) T.b_tuple (by decide +kernel) (pa_cons (pe_lc (own := [("row", 5)]) (g := gName 5) rfl sc_Program___init.nd (pi_list (pv 2)) (blkOk_by (own := [("row", 5)]) (N := ["self", "inputs", "rows", "names", "index", "row"]) (sc := defScope s_Program___init) (by decide +kernel)) (fun _ _ _ _ _ => pg_name (i := 5) sc_Program___init.nd rfl (Or.inl rfl)) (fun _ _ _ _ _ => pts_nil) (fun _ _ _ _ _ => (pe_call (ok_placed_row T) (hr.mono (by decide)) rfl T.g_placed_row T.F_placed_row.kp (bd_placed_row T) .nil pass0 (pa_cons (pv 5) (pa_cons (pv 3) pa_nil))))) pa_nil)) rfl))))))), ?_⟩
    obtain ⟨hp, hl, hr1, hz, hw, k, e1, e2⟩ := h
    refine ⟨_, rfl, _, _, rfl, rfl, _, rfl, ?_⟩
    by_cases c1 : n < 1
    · refine tT (decide_eq_true c1) ?_
      refine tT rfl ?_
      exact mkO_end fun d hd => e1 (fun z => by omega) d _ hd (sameNew hd) upd_same
    refine tF (decide_eq_false c1) ?_
    refine ⟨_, rfl, A0.v_INPUT_NAMES, _, rfl, .inr T.tv_INPUT_NAMES.sq, _, _, rfl, rfl, _, rfl, ?_⟩
    by_cases c2 : (4 : Int) < n
    · refine tT (decide_eq_true c2) ?_
      exact mkO_end fun d hd => e1 (fun z => by omega) d _ hd (sameNew hd) upd_same
    refine tF (decide_eq_false c2) ?_
    refine ⟨_, rfl, n, rfl, by omega, by omega, fun t H1 ht s1 nt => ?_⟩
    have la : as.length = rs.length := Paired.length hr1
    have hl1 := s1 _ _ hl
    refine ⟨_, rfl, l, _, rfl, SqL.of hl1, for_it walk_enum (fun i σ H' => ∃ u4 u5, σ = [some (.ref p), some (.int n), some (.ref l), some (.ref t), u4, u5] ∧ Same H1 H' ∧ ∀ (j : Nat) (y : List V), j < i → rs[j]? = some y → rowOk (regs n.toNat) rs.length y = true) ⟨none, none, rfl, Same.refl _, fun j y z => absurd z (Nat.not_lt_zero j)⟩ (fun i σ H' _ ⟨_, _, _, s, _⟩ => SqL.of (s _ _ hl1)) ?_ ?_⟩
    · rintro i x σ H2 H3 hi ⟨u4, u5, rfl, s2, pre⟩ ⟨T1, x1, y1, rfl, fr, rfl, f1, f2⟩
      cases f1
      obtain ⟨a, ha, rfl⟩ := refAt f2
      obtain ⟨r, hr2, er⟩ := prG hr1 ha
      have s3 : Same H1 (upd H2 T1 (.tup [.int (i : Nat), .ref a])) := s2.trans (sameNew fr)
      refine ⟨T1, _, rfl, SqT.of upd_same, rfl, _, _, rfl, _, _, rfl, rfl, ?_⟩
      refine ⟨_, rfl, _, rfl, _, rfl, l, _, rfl, .inl (SqL.of (s3 _ _ hl1)), a, t, r, regs n.toNat, _, rfl, s3 _ _ (s1 _ _ er), hw r (List.mem_of_getElem? hr2), (nt.same s3).sq, fun H4 s4 => ⟨_, rfl, ?_⟩⟩
      rw [List.length_map, la]
      cases ok : rowOk (regs n.toNat) rs.length r with
      | true =>
        refine tF rfl ?_
        refine ⟨_, _, rfl, s3.trans s4, fun j y hj hy => ?_⟩
        by_cases cj : j = i
        · rw [cj, hr2] at hy
          cases hy
          exact ok
        · exact pre j y (by omega) hy
      | false =>
        refine tT rfl ?_
        have sAll := s1.trans (s3.trans s4)
        exact ⟨_, rfl, mkO_end fun d hd => e2 (by omega) (by omega) i r hr2 ok pre d _ (sAll.free hd) (sAll.trans (sameNew hd)) upd_same⟩
    rintro σ H2 ⟨u4, u5, rfl, s2, pre⟩
    rw [List.length_map, la] at pre
    have all : ∀ r ∈ rs, rowOk (regs n.toNat) rs.length r = true := fun r m => by
      obtain ⟨j, hj, e⟩ := List.mem_iff_getElem.mp m
      exact pre j r hj (by rw [List.getElem?_eq_getElem hj, e])
    have s02 := s1.trans s2
    have hp2 := s02 _ _ hp
    have hl2 := s02 _ _ hl
    have nlp : l ≠ p := fun z => by rw [z, hp] at hl; cases hl
    refine ⟨_, rfl, _, rfl, p, A0.c_Program, dx, [], rfl, hp2, T.cl_Program, T.nf_Program__inputs, (by show 0 < 1000; decide), ?_⟩
    have hl3 := (upd_ne (H := H2) (o := .ins A0.c_Program dx (putF "_inputs" (.int n) [])) nlp).trans hl2
    refine ⟨_, rfl, l, _, rfl, .inl (SqL.of hl3), fun l2 hl2n => ?_⟩
    have nl2 : l2 ≠ p := fun z => by rw [z, upd_same] at hl2n; cases hl2n
    refine ⟨_, rfl, p, A0.c_Program, dx, _, rfl, (upd_ne (Ne.symm nl2)).trans upd_same, T.cl_Program, T.nf_Program__rows, (by show 1 < 1000; decide), ?_⟩
    have hl2f : H2 l2 = none := by rw [upd_ne nl2] at hl2n; exact hl2n
    obtain ⟨H6, eH⟩ : ∃ H6, H6 = (upd (upd (upd H2 p (.ins A0.c_Program dx (putF "_inputs" (.int n) []))) l2 (.lst (as.map V.ref))) p (.ins A0.c_Program dx (putF "_rows" (.ref l2) (putF "_inputs" (.int n) [])))) := ⟨_, rfl⟩
    have kp6 : ∀ b o, b ≠ p → H2 b = some o → H6 b = some o := fun b o nb e => by
      rw [eH, upd_ne nb, upd_ne (ne_of_none e hl2f), upd_ne nb]
      exact e
    have e6p : H6 p = some (.ins A0.c_Program dx (putF "_rows" (.ref l2) (putF "_inputs" (.int n) []))) := by rw [eH, upd_same]
    have e6l2 : H6 l2 = some (.lst (as.map V.ref)) := by rw [eH, upd_ne nl2, upd_same]
    have e6l := kp6 _ _ nlp hl2
    have hr6 : RowsAt H6 as rs := prm hr1 fun a r e => kp6 a _ (fun z => by rw [z, hp] at e; cases e) (s02 _ _ e)
    have nt6 : NmAt H6 t (regs n.toNat) := by
      obtain ⟨o, e, oc, od⟩ := nt.same s2
      exact ⟨o, kp6 t _ (fun z => by rw [z, hp2] at e; cases e) e, oc, od⟩
    change (_ : Ends).nx _ (upd (upd (upd H2 p (.ins A0.c_Program dx (putF "_inputs" (.int n) []))) l2 (.lst (as.map V.ref))) p (.ins A0.c_Program dx (putF "_rows" (.ref l2) (putF "_inputs" (.int n) []))))
    rw [← eH]
    clear eH
    refine ⟨_, rfl, l, rfl, ⟨_, SqL.of e6l⟩, fun D hD => lc_list (xs := as.map V.ref) (fun i H' => Same H6 H' ∧ ∃ ps : List Addr, H' D = some (.lst (ps.map V.ref)) ∧ Paired (PlAt K H' (regs n.toNat)) ps (rs.take i)) ⟨sameNew hD, [], upd_same, .nil⟩ (fun i H' _ q => SqL.of (q.1 _ _ e6l)) ?_ ?_⟩
    · rintro i x H7 hx ⟨s7, ps, eD, pr⟩
      obtain ⟨a, ha, rfl⟩ := refAt hx
      obtain ⟨r, hr2, er⟩ := prG hr6 ha
      have ok := all r (List.mem_of_getElem? hr2)
      obtain ⟨w, xs, f, rfl, fl⟩ := rowOk_shape ok
      refine ⟨rfl, ?_⟩
      refine yesR ?_
      refine tT rfl ?_
      refine ⟨_, rfl, _, rfl, a, t, w, xs, f, regs n.toNat, _, rfl, s7 _ _ er, fl, ok, nt6.same s7, fun q H8 hq s8 pl => ?_⟩
      have eD8 := s8 _ _ eD
      have lp := Paired.length pr
      refine ⟨_, eD8, small1000 (by rw [List.length_map, lp, List.length_take]; omega), sameUp (s7.trans s8) hD, ps ++ [q], by rw [upd_same, List.map_append]; rfl, ?_⟩
      rw [tkS hr2]
      exact pra (prm pr fun _ _ e => (e.same s8).up eD8) (.cons (pl.up eD8) .nil)
    rintro H7 ⟨s7, ps, eD, pr⟩
    rw [List.length_map, la, List.take_length] at pr
    refine ⟨D, _, rfl, .inl ⟨SqL.of eD, fun tt htt => ?_⟩⟩
    have st := s7.trans (sameNew htt (o := .tup (ps.map V.ref)))
    refine ⟨_, rfl, p, A0.c_Program, dx, _, rfl, st _ _ e6p, T.cl_Program, T.nf_Program__placed, (by show 2 < 1000; decide), ?_⟩
    have ntp : tt ≠ p := fun z => by rw [z, s7 _ _ e6p] at htt; cases htt
    refine k (by omega) (by omega) all _ (fun b o nb e => ?_) ⟨dx, l2, tt, ps, ?_, ?_, ?_, ?_, ?_, by omega, by omega, hz, hw, all⟩ (fun dx2 l9 t2 e9 => ?_)
    · exact (upd_ne nb).trans (st _ _ (kp6 _ _ nb (s02 _ _ e)))
    · exact upd_same.trans (congrArg (fun l => some (HO.ins A0.c_Program dx l)) (fld3 _ _ _))
    · exact (upd_ne nl2).trans (st _ _ e6l2)
    · exact prm hr6 fun a r e => (upd_ne (fun z => by rw [z, e6p] at e; cases e)).trans (st _ _ e)
    · exact (upd_ne ntp).trans upd_same
    · exact prm pr fun a r e => (e.same (sameNew htt)).tp fun b xs q => (upd_ne (fun z => by rw [z, st _ _ e6p] at q; cases q)).trans q
    · have q := (upd_same.trans (congrArg (fun l => some (HO.ins A0.c_Program dx l)) (fld3 _ _ _))).symm.trans e9
      injection q with q
      injection q with _ _ q
      injection q with _ q
      injection q with q _
      injection q with _ q
      injection q with q
      rw [← q]
      exact s02.free hl2f
/-! Program.__add__ -/
def sp_Program___add (K : PySem.W.Frag) (A0 : Ad) : Sp := fun vs H Q E => ∃ (a b : Addr) (n m : Int) (as bs : List Addr) (rs qs : List (List V)), vs = [.ref a, .ref b] ∧ ProgAt K H A0.c_Program a n as rs ∧ ProgAt K H A0.c_Program b m bs qs ∧ rs.length + qs.length ≤ 900 ∧ (n = m → ∀ p as' H', H p = none → Same H H' → ProgAt K H' A0.c_Program p n as' (rs ++ qs.map (mvRow 0 rs.length)) → Q (.ref p) H') ∧ (n ≠ m → ∀ d H', H d = none → Same H H' → H' d = some (.xd [("value", .non)]) → E (.ref A0.c_UnlikeInputs) (some d) H')
theorem sc_Program___add : FnScope ["self", "other", "moved", "row"] ["self", "other"] (defScope s_Program___add) := ⟨rfl, rfl, rfl, by decide +kernel, rfl, by decide +kernel, by decide +kernel⟩
theorem bd_Program___add (T : Txt w K mg A0) : Binds K A0.d_Program___add ["self", "other"] [] := T.F_Program___add.binds fun _ _ _ _ _ _ us hl => match us, hl with | [_, _], _ => rfl
set_option maxHeartbeats 0 in
theorem ok_Program___add (T : Txt w K mg A0) : FnOk P w K mg base (L2.CX P w) 5 A0.a_Program___add A0.d_Program___add ["self", "other"] (sp_Program___add K A0) := by
  refine T.F_Program___add.okX sc_Program___add (fun vs H Q E h => ?_) (fun cdv A outer s H vs Q E hr h => ?_)
  · obtain ⟨a, b, n, m, as, bs, rs, qs, rfl, _⟩ := h
    rfl
  · obtain ⟨a, b, n, m, as, bs, rs, qs, rfl, h⟩ := h
    refine ⟨_, (pss_cons (ps_if (pt_cmpR op_ne (pe_fld (pv 0) rfl) (pe_fld (pv 1) rfl) (nomark _)) (pss_one (ps_raise rfl (takes_of rfl rfl rfl rfl) (pmk_oex (T.er_UnlikeInputs).ox (T.er_UnlikeInputs).ii (T.er_UnlikeInputs).ti (okI_UnlikeInputs T) (hr.mono (by decide)) (bdI_UnlikeInputs T) .nil pass0 rfl T.gc_UnlikeInputs (pa_cons pe_non pa_nil)))) pss_nil)
        (pss_cons (ps_setLc (i := 2) (own := [("row", 3)]) (g := gName 3) rfl sc_Program___add.nd rfl rfl (sw_true rfl rfl rfl (by decide +kernel)) (pi_list (pe_fld (pv 1) rfl)) (blkOk_by (own := [("row", 3)]) (N := ["self", "other", "moved", "row"]) (sc := defScope s_Program___add) (by decide +kernel)) (fun _ _ _ _ _ => pg_name (i := 3) sc_Program___add.nd rfl (Or.inl rfl)) (fun _ _ _ _ _ => pts_nil) (fun _ _ _ _ _ => (pe_call (ok_with_moved_target T) (hr.mono (by decide)) rfl T.g_with_moved_target T.F_with_moved_target.kp (bd_with_moved_target T) .nil pass0 (pa_cons (pv 3) (pa_cons pe_int (pa_cons (pe_callB (show CallR _ _ (rLenSq K) from cr_lenSq) (by rfl) T.b_len (by decide +kernel) (pa_cons (show PE _ _ (tFld K (tVar 0) "_rows") from pe_fld (pv 0) rfl) pa_nil)) pa_nil))))))
        (pss_one (ps_ret (pe_makeS T.mk_Program (ok_Program___init T) (hr.mono (by decide)) rfl T.gc_Program (bd_Program___init T) (fun σ => passAt (takes_of rfl rfl rfl rfl) σ) (pa_cons (pe_fld (pv 0) rfl) (pa_cons (pe_op op_cat (pe_fld (pv 0) rfl) (pv 2)) pa_nil))))))), ?_⟩
    obtain ⟨hp, hq, hlen, k, e⟩ := h
    obtain ⟨dx, l, t, ps, e1, e2, e3, e4, e5, n1, n2, hz, hw, all⟩ := id hp
    obtain ⟨dx2, l2, t2, ps2, g1, g2, g3, g4, g5, m1, m2, hz2, hw2, all2⟩ := id hq
    have la : as.length = rs.length := Paired.length e3
    have lb : bs.length = qs.length := Paired.length g3
    refine ⟨_, rfl, a, A0.c_Program, dx, _, _, rfl, e1, T.cl_Program, T.nf_Program__inputs, lk_in, _, rfl, b, A0.c_Program, dx2, _, _, rfl, g1, T.cl_Program, T.nf_Program__inputs, lk_in, rfl, _, rfl, ?_⟩
    by_cases c : n = m
    case neg =>
      refine tT (by rw [decide_eq_false (fun z => c (V.int.inj z))]; rfl) ?_
      exact mkO_end fun d hd => e c d _ hd (sameNew hd) upd_same
    refine tF (by rw [decide_eq_true (congrArg V.int c)]; rfl) ?_
    subst c
    clear e
    have s0 : Same H H := Same.refl H
    refine ⟨_, rfl, b, A0.c_Program, dx2, _, _, rfl, g1, T.cl_Program, T.nf_Program__rows, lk_rows, l2, rfl, ⟨_, SqL.of g2⟩, fun D hD => lc_list (xs := bs.map V.ref) (fun i H' => Same H H' ∧ ∃ ys : List Addr, H' D = some (.lst (ys.map V.ref)) ∧ RowsAt H' ys ((qs.take i).map (mvRow 0 rs.length))) ⟨sameNew hD, [], upd_same, .nil⟩ (fun i H' _ q => SqL.of (q.1 _ _ g2)) ?_ ?_⟩
    · rintro i x H4 hx ⟨s4, ys, eD, pr⟩
      obtain ⟨a0, ha0, rfl⟩ := refAt hx
      obtain ⟨r, hr2, er⟩ := prG g3 ha0
      have ok := all2 r (List.mem_of_getElem? hr2)
      obtain ⟨w, xs, f, rfl, fl⟩ := rowOk_shape ok
      refine ⟨rfl, ?_⟩
      refine yesR ?_
      refine tT rfl ?_
      refine ⟨_, rfl, _, rfl, a, A0.c_Program, dx, _, _, rfl, s4 _ _ e1, T.cl_Program, T.nf_Program__rows, lk_rows, l, _, rfl, .inl (SqL.of (s4 _ _ e2)), ?_⟩
      rw [List.length_map, la]
      refine ⟨a0, w, xs, f, 0, rs.length, regs n.toNat, _, rfl, s4 _ _ er, fl, ok, fun q H5 hq s5 eq => ?_⟩
      have eD5 := s5 _ _ eD
      have lp := Paired.length pr
      refine ⟨_, eD5, small1000 (by rw [List.length_map, lp, List.length_map, List.length_take]; omega), sameUp (s4.trans s5) hD, ys ++ [q], by rw [upd_same, List.map_append]; rfl, ?_⟩
      rw [tkS hr2, List.map_append]
      exact pra ((pr.same s5).up eD5) (.cons (by rw [upd_ne (fun z => by rw [z, eD5] at eq; cases eq)]; exact eq) .nil)
    rintro H4 ⟨s4, ys, eD, pr⟩
    rw [List.length_map, lb, List.take_length] at pr
    have ly : ys.length = qs.length := by
      have := Paired.length pr
      rw [List.length_map] at this
      exact this
    refine ⟨_, rfl, a, A0.c_Program, dx, _, _, rfl, s4 _ _ e1, T.cl_Program, T.nf_Program__inputs, lk_in, ?_⟩
    refine ⟨_, rfl, a, A0.c_Program, dx, _, _, rfl, s4 _ _ e1, T.cl_Program, T.nf_Program__rows, lk_rows, _, rfl, l, D, _, _, rfl, rfl, s4 _ _ e2, eD, small1000' (by rw [List.length_map, List.length_map]; omega), fun l3 hl3 => ?_⟩
    rw [← List.map_append]
    have sA := s4.trans (sameNew hl3 (o := .lst ((as ++ ys).map V.ref)))
    have prA : RowsAt (upd H4 l3 (.lst ((as ++ ys).map V.ref))) (as ++ ys) (rs ++ qs.map (mvRow 0 rs.length)) := pra (e3.same sA) (pr.same (sameNew hl3))
    have okM : ∀ r ∈ rs ++ qs.map (mvRow 0 rs.length), rowOk (regs n.toNat) (rs ++ qs.map (mvRow 0 rs.length)).length r = true := fun r mm => by
      rw [List.length_append, List.length_map]
      rcases List.mem_append.mp mm with m0 | m0
      · exact rowOk_le (by omega) (all r m0)
      · obtain ⟨r0, m9, rfl⟩ := List.mem_map.mp m0
        refine rowOk_mv (fun i i0 i1 => ?_) (all2 r0 m9)
        unfold mvZ
        split <;> omega
    obtain ⟨H6, eH⟩ : ∃ H6, H6 = upd H4 l3 (.lst ((as ++ ys).map V.ref)) := ⟨_, rfl⟩
    have e3l : H6 l3 = some (.lst ((as ++ ys).map V.ref)) := by rw [eH, upd_same]
    rw [← eH] at sA prA
    intro x dx2 nx ndx nex
    rw [← eH] at nx ndx ⊢
    clear eH hl3
    have sN : Same H6 (upd (upd H6 dx2 (.own x)) x (.ins A0.c_Program dx2 [])) := fun b o e => by
      rw [upd_ne (ne_of_none e nx), upd_ne (ne_of_none e ndx)]
      exact e
    refine ⟨x, dx2, l3, n, as ++ ys, _, rfl, upd_same, sN _ _ e3l, prA.same sN, by rw [List.length_append, List.length_map]; omega, fun r m => rowIs_ok (okM r m), fun _ _ _ H' kp pg _ => ⟨rfl, ?_⟩, fun c => absurd ⟨n1, n2⟩ c, fun _ _ i r h1 h2 _ => absurd (okM r (List.mem_of_getElem? h1)) (by rw [h2]; decide)⟩
    refine k rfl x (as ++ ys) H' (sA.free nx) (fun b o e => ?_) pg
    have e' := sA _ _ e
    exact kp b o (ne_of_none e' nx) (sN _ _ e')
/-! Program.without -/
def sp_Program_without (K : PySem.W.Frag) (A0 : Ad) : Sp := fun vs H Q E => ∃ (a : Addr) (n : Int) (as : List Addr) (rs : List (List V)) (i : Int), vs = [.ref a, .int i] ∧ ProgAt K H A0.c_Program a n as rs ∧ (0 ≤ i → i < rs.length → ∀ p as' H', H p = none → Same H H' → ProgAt K H' A0.c_Program p n as' ((rs.eraseIdx i.toNat).map (mvRow (i + 1) (-1))) → Q (.ref p) H') ∧ (¬ (0 ≤ i ∧ i < rs.length) → ∀ d H', H d = none → Same H H' → H' d = some (.xd [("value", .int i)]) → E (.ref A0.c_InvalidRow) (some d) H')
theorem sc_Program_without : FnScope ["self", "row", "kept", "other"] ["self", "row"] (defScope s_Program_without) := ⟨rfl, rfl, rfl, by decide +kernel, rfl, by decide +kernel, by decide +kernel⟩
theorem bd_Program_without (T : Txt w K mg A0) : Binds K A0.d_Program_without ["self", "row"] [] := T.F_Program_without.binds fun _ _ _ _ _ _ us hl => match us, hl with | [_, _], _ => rfl
set_option maxHeartbeats 0 in
theorem ok_Program_without (T : Txt w K mg A0) : FnOk P w K mg base (L2.CX P w) 5 A0.a_Program_without A0.d_Program_without ["self", "row"] (sp_Program_without K A0) := by
  refine T.F_Program_without.okX sc_Program_without (fun vs H Q E h => ?_) (fun cdv A outer s H vs Q E hr h => ?_)
  · obtain ⟨a, n, as, rs, i, rfl, _⟩ := h
    rfl
  · obtain ⟨a, n, as, rs, i, rfl, h⟩ := h
    refine ⟨_, (pss_cons (ps_if (PW.pt (pw_or (pt_cmpR op_lt (pv 1) pe_int (nomark _)) (pw_or1 (pt_cmpR op_ge (pv 1) (pe_callB call_len_seq (by rfl) T.b_len (by decide +kernel) (pa_cons (pe_fld (pv 0) rfl) pa_nil)) (nomark _))))) (pss_one (ps_raise rfl (takes_of rfl rfl rfl rfl) (pmk_oex (T.er_InvalidRow).ox (T.er_InvalidRow).ii (T.er_InvalidRow).ti (okI_InvalidRow T) (hr.mono (by decide)) (bdI_InvalidRow T) .nil pass0 rfl T.gc_InvalidRow (pa_cons (pv 1) pa_nil)))) pss_nil)
        (pss_cons (ps_set (i := 2) sc_Program_without.nd rfl (Or.inl rfl) (pe_op op_cat (pe_slice sl_list (pe_fld (pv 0) rfl) po_none (po_some (pv 1))) (pe_slice sl_list (pe_fld (pv 0) rfl) (po_some (pe_op op_add (pv 1) pe_int)) po_none)))
        (pss_one (ps_ret (pe_makeS T.mk_Program (ok_Program___init T) (hr.mono (by decide)) rfl T.gc_Program (bd_Program___init T) (fun σ => passAt (takes_of rfl rfl rfl rfl) σ) (pa_cons (pe_fld (pv 0) rfl) (pa_cons (pe_lc (own := [("other", 3)]) (g := gName 3) rfl sc_Program_without.nd (pi_list (pv 2)) (blkOk_by (own := [("other", 3)]) (N := ["self", "row", "kept", "other"]) (sc := defScope s_Program_without) (by decide +kernel)) (fun _ _ _ _ _ => pg_name (i := 3) sc_Program_without.nd rfl (Or.inl rfl)) (fun _ _ _ _ _ => pts_nil) (fun _ _ _ _ _ => (pe_call (ok_with_moved_target T) (hr.mono (by decide)) rfl T.g_with_moved_target T.F_with_moved_target.kp (bd_with_moved_target T) .nil pass0 (pa_cons (pv 3) (pa_cons (pe_op op_add (pv 1) pe_int) (pa_cons (pe_un un_neg pe_int) pa_nil)))))) pa_nil))))))), ?_⟩
    obtain ⟨hp, k, e⟩ := h
    obtain ⟨dx, l, t, ps, e1, e2, e3, e4, e5, n1, n2, hz, hw, all⟩ := id hp
    have la : as.length = rs.length := Paired.length e3
    refine ⟨_, rfl, _, _, rfl, rfl, _, rfl, ?_⟩
    by_cases c1 : i < 0
    · refine tT (decide_eq_true c1) ?_
      refine tT rfl ?_
      exact ⟨_, rfl, mkO_end fun d hd => e (fun z => by omega) d _ hd (sameNew hd) upd_same⟩
    refine tF (decide_eq_false c1) ?_
    refine ⟨_, rfl, _, rfl, a, A0.c_Program, dx, _, _, rfl, e1, T.cl_Program, T.nf_Program__rows, lk_rows, l, _, rfl, .inl (SqL.of e2), _, _, rfl, rfl, _, rfl, ?_⟩
    rw [List.length_map, la]
    by_cases c2 : (rs.length : Int) ≤ i
    · refine tT (decide_eq_true c2) ?_
      exact ⟨_, rfl, mkO_end fun d hd => e (fun z => by omega) d _ hd (sameNew hd) upd_same⟩
    refine tF (decide_eq_false c2) ?_
    obtain ⟨j, rfl⟩ : ∃ j : Nat, i = (j : Int) := ⟨i.toNat, by omega⟩
    have hj : j < rs.length := by omega
    clear e
    refine ⟨_, rfl, a, A0.c_Program, dx, _, _, rfl, e1, T.cl_Program, T.nf_Program__rows, lk_rows, _, rfl, _, rfl, l, _, rfl, SqL.of e2, fun l1 hl1 => ?_⟩
    have s1 := sameNew hl1 (o := .lst (cutV (as.map V.ref) none (some (j : Int))))
    refine ⟨_, rfl, a, A0.c_Program, dx, _, _, rfl, s1 _ _ e1, T.cl_Program, T.nf_Program__rows, lk_rows, _, rfl, _, _, rfl, rfl, _, rfl, l, _, rfl, SqL.of (s1 _ _ e2), fun l2 hl2 => ?_⟩
    have lt1 : (cutV (as.map V.ref) none (some (j : Int))).length + (cutV (as.map V.ref) (some ((j : Int) + 1)) none).length ≤ 1000 := by
      rw [← List.length_append, cut_out (by omega), List.length_map]
      have := List.length_eraseIdx_le as j
      omega
    refine ⟨l1, l2, _, _, rfl, rfl, (sameNew hl2) _ _ upd_same, upd_same, small1000' lt1, fun l3 hl3 => ?_⟩
    rw [cut_out (by omega)]
    have s3 := s1.trans ((sameNew hl2 (o := .lst (cutV (as.map V.ref) (some ((j : Int) + 1)) none))).trans (sameNew hl3 (o := .lst ((as.eraseIdx j).map V.ref))))
    have e3l := (fun {Hh : Hp} (_ : Hh l3 = none) => (upd_same : upd Hh l3 (.lst ((as.eraseIdx j).map V.ref)) l3 = _)) hl3
    dsimp only
    obtain ⟨H3, eH⟩ : ∃ H3, H3 = (upd (upd (upd H l1 (.lst (cutV (as.map V.ref) none (some (j : Int))))) l2 (.lst (cutV (as.map V.ref) (some ((j : Int) + 1)) none))) l3 (.lst ((as.eraseIdx j).map V.ref))) := ⟨_, rfl⟩
    change gName _ (.ref l3) _ (upd (upd (upd H l1 (.lst (cutV (as.map V.ref) none (some (j : Int))))) l2 (.lst (cutV (as.map V.ref) (some ((j : Int) + 1)) none))) l3 (.lst ((as.eraseIdx j).map V.ref))) _
    rw [← eH] at e3l s3 ⊢
    clear eH hl3 hl2 s1 lt1
    have pr0 := pr_erase j (e3.same s3)
    have lr : (rs.eraseIdx j).length = rs.length - 1 := List.length_eraseIdx_of_lt hj
    have lq : (as.eraseIdx j).length = (rs.eraseIdx j).length := Paired.length pr0
    have okE : ∀ r ∈ rs.eraseIdx j, rowOk (regs n.toNat) rs.length r = true := fun r m => all r (List.mem_of_mem_eraseIdx m)
    have okM : ∀ r ∈ (rs.eraseIdx j).map (mvRow ((j : Int) + 1) (-1)), rowOk (regs n.toNat) ((rs.eraseIdx j).map (mvRow ((j : Int) + 1) (-1))).length r = true := fun r m => by
      obtain ⟨r0, m0, rfl⟩ := List.mem_map.mp m
      refine rowOk_mv (fun i i0 i1 => ?_) (okE r0 m0)
      rw [List.length_map, lr]
      unfold mvZ
      split <;> omega
    refine ⟨_, rfl, a, A0.c_Program, dx, _, _, rfl, s3 _ _ e1, T.cl_Program, T.nf_Program__inputs, lk_in, ?_⟩
    refine ⟨_, rfl, l3, rfl, ⟨_, SqL.of e3l⟩, fun D hD => lc_list (xs := (as.eraseIdx j).map V.ref) (fun i H' => Same H3 H' ∧ ∃ qs : List Addr, H' D = some (.lst (qs.map V.ref)) ∧ RowsAt H' qs (((rs.eraseIdx j).take i).map (mvRow ((j : Int) + 1) (-1)))) ⟨sameNew hD, [], upd_same, .nil⟩ (fun i H' _ q => SqL.of (q.1 _ _ e3l)) ?_ ?_⟩
    · rintro i x H4 hx ⟨s4, qs, eD, pr⟩
      obtain ⟨a0, ha0, rfl⟩ := refAt hx
      obtain ⟨r, hr2, er⟩ := prG pr0 ha0
      have ok := okE r (List.mem_of_getElem? hr2)
      obtain ⟨w, xs, f, rfl, fl⟩ := rowOk_shape ok
      refine ⟨rfl, ?_⟩
      refine yesR ?_
      refine tT rfl ?_
      refine ⟨_, rfl, _, rfl, _, _, rfl, rfl, _, rfl, a0, w, xs, f, (j : Int) + 1, -1, regs n.toNat, _, rfl, s4 _ _ er, fl, ok, fun q H5 hq s5 eq => ?_⟩
      have eD5 := s5 _ _ eD
      have lp := Paired.length pr
      refine ⟨_, eD5, small1000 (by rw [List.length_map, lp, List.length_map, List.length_take]; omega), sameUp (s4.trans s5) hD, qs ++ [q], by rw [upd_same, List.map_append]; rfl, ?_⟩
      rw [tkS hr2, List.map_append]
      exact pra ((pr.same s5).up eD5) (.cons (by rw [upd_ne (fun z => by rw [z, eD5] at eq; cases eq)]; exact eq) .nil)
    rintro H4 ⟨s4, qs, eD, pr⟩
    rw [List.length_map, lq, List.take_length] at pr
    have sA := s3.trans s4
    intro x dx2 nx ndx nex
    have sN : Same H4 (upd (upd H4 dx2 (.own x)) x (.ins A0.c_Program dx2 [])) := fun b o e => by
      rw [upd_ne (ne_of_none e nx), upd_ne (ne_of_none e ndx)]
      exact e
    refine ⟨x, dx2, D, n, qs, _, rfl, upd_same, sN _ _ eD, pr.same sN, by rw [List.length_map]; omega, fun r m => rowIs_ok (okM r m), fun _ _ _ H' kp pg _ => ⟨rfl, ?_⟩, fun c => absurd ⟨n1, n2⟩ c, fun _ _ i r h1 h2 _ => absurd (okM r (List.mem_of_getElem? h1)) (by rw [h2]; decide)⟩
    refine k (by omega) (by omega) x qs H' (sA.free nx) (fun b o e => ?_) pg
    have e' := sA _ _ e
    exact kp b o (ne_of_none e' nx) (sN _ _ e')
/-! _law_told -/
def sp_law_told (K : PySem.W.Frag) (A0 : Ad) : Sp := fun vs H Q E => ∃ (d : Int) (x1 x2 : V) (r : Option (Nat × V)), vs = [.int d, x1, x2] ∧ DoorP K A0.c_Program H d x1 x2 r ∧ ∀ p H', Same H H' → H' p = some (.lst (toldL r)) → Q (.ref p) H'
theorem sc_law_told : FnScope ["door", "one", "two", "caught", "e"] ["door", "one", "two"] (defScope s_law_told) := ⟨rfl, rfl, rfl, by decide +kernel, rfl, by decide +kernel, by decide +kernel⟩
theorem bd_law_told (T : Txt w K mg A0) : Binds K A0.d_law_told ["door", "one", "two"] [] := T.F_law_told.binds fun _ _ _ _ _ _ us hl => match us, hl with | [_, _, _], _ => rfl
theorem ok_law_told (T : Txt w K mg A0) : FnOk P w K mg base CX0 6 A0.a_law_told A0.d_law_told ["door", "one", "two"] (sp_law_told K A0) := by
  refine T.F_law_told.ok sc_law_told (fun vs H Q E h => ?_) (fun cdv A outer s H vs Q E hr h => ?_)
  · obtain ⟨d, x1, x2, r, rfl, _⟩ := h
    rfl
  · obtain ⟨d, x1, x2, r, rfl, h⟩ := h
    refine ⟨_, (pss_cons (ps_set (i := 3) sc_law_told.nd rfl (Or.inl rfl) pe_non)
        (Evl.pss_cut (ps_try_kept (i := 4) rfl rfl rfl sc_law_told.nd rfl rfl ⟨rfl, by decide, Or.inl T.gc_BranchError⟩
        (fun W pn xe tk po => (pss_one (ps_if (pt_cmpR op_eq (pv 0) pe_int (nomark _)) (pss_one (ps_expr (pe_makeS T.mk_Program (ok_Program___init T) (hr.mono (by decide)) rfl T.gc_Program (bd_Program___init T) (fun σ => passAt tk σ) (pa_cons (pv 1) (pa_cons (pv 2) pa_nil))))) (pss_one (ps_if (pt_cmpR op_eq (pv 0) pe_int (nomark _)) (pss_one (ps_expr (pe_methO (pv 1) T.cl_Program T.me_Program_without (ok_Program_without T) (hr.mono (by decide)) (bd_Program_without T) (fun σ => passAt tk σ) (pa_cons (pv 2) pa_nil)))) (pss_one (ps_expr (pe_addOwnS T.me_Program___add T.sf_Program (ok_Program___add T) (hr.mono (by decide)) (bd_Program___add T) (fun σ => passAt tk σ) (pv 1) (pv 2)))))))))
        (fun a oe cls d pn hz hf => (pss_one (ps_set (i := 3) sc_law_told.nd rfl (Or.inl rfl) (pv 4)))))
        (pss_one (ps_ret (pe_ifExp (pt_cmpR op_isN (pv 3) pe_non (nomark _)) (pe_lst (pa_cons pe_str (pa_cons pe_non pa_nil))) (pe_lst (pa_cons (pe_call (ok_law_kind T) (hr.mono (by decide)) rfl T.g_law_kind T.F_law_kind.kp (bd_law_kind T) .nil pass0 (pa_cons (pv 3) pa_nil)) (pa_cons (pe_errK (pv 3)) pa_nil)))))))), ?_⟩
    obtain ⟨hd, k⟩ := h
    refine ⟨MidK H ([A0.c_InvalidWidth, A0.c_InvalidWords, A0.c_InvalidOutcome, A0.c_InvalidCondition, A0.c_InvalidRanking, A0.c_InvalidKnowledge, A0.c_InvalidProgram, A0.c_InvalidRow, A0.c_InvalidRegister, A0.c_InvalidQuery, A0.c_InvalidTable, A0.c_InvalidNumber, A0.c_UnlikeInputs, A0.c_NothingToUndo, A0.c_Unreadable] : List Addr) [some (.int d), some x1, some x2] r, ?_, ?_⟩
    · clear k
      cases hd with
      | d0 hl hr hz hw =>
        rename_i n l as rs
        refine ⟨_, rfl, rfl, _, rfl, ?_⟩
        refine tT rfl ?_
        refine ⟨_, rfl, _, rfl, fun x dx nx ndx nex => ?_⟩
        have sN : Same H (upd (upd H dx (.own x)) x (.ins A0.c_Program dx [])) := fun b o e => by
          rw [upd_ne (ne_of_none e nx), upd_ne (ne_of_none e ndx)]
          exact e
        refine ⟨x, dx, l, n, as, rs, rfl, upd_same, sN _ _ hl, hr.same sN, hz, hw, fun h1 h2 all H' kp pg _ => ⟨rfl, ?_⟩, fun c d H' _ s e => ?_, fun h1 h2 i r h3 h4 pre d H' _ s e => ?_⟩
        · exact MidK.free (CS := ([A0.c_InvalidWidth, A0.c_InvalidWords, A0.c_InvalidOutcome, A0.c_InvalidCondition, A0.c_InvalidRanking, A0.c_InvalidKnowledge, A0.c_InvalidProgram, A0.c_InvalidRow, A0.c_InvalidRegister, A0.c_InvalidQuery, A0.c_InvalidTable, A0.c_InvalidNumber, A0.c_UnlikeInputs, A0.c_NothingToUndo, A0.c_Unreadable] : List Addr)) (l := [some (.int 0), some (.int n), some (.ref l)]) (r := res0 n rs) (res0_all h1 h2 all) fun b o e => kp b o (ne_of_none e nx) (sN _ _ e)
        · exact ⟨T.xm_InvalidProgram, fun ax hax => ⟨_, rfl, fun hn => MidK.bad (CS := ([A0.c_InvalidWidth, A0.c_InvalidWords, A0.c_InvalidOutcome, A0.c_InvalidCondition, A0.c_InvalidRanking, A0.c_InvalidKnowledge, A0.c_InvalidProgram, A0.c_InvalidRow, A0.c_InvalidRegister, A0.c_InvalidQuery, A0.c_InvalidTable, A0.c_InvalidNumber, A0.c_UnlikeInputs, A0.c_NothingToUndo, A0.c_Unreadable] : List Addr)) (l := [some (.int 0), some (.int n), some (.ref l)]) (C := A0.c_InvalidProgram) (r := res0 n rs) (j := 6) rfl (by decide) (if_neg c) (sN.trans s) e hn⟩⟩
        · exact ⟨T.xm_InvalidProgram, fun ax hax => ⟨_, rfl, fun hn => MidK.bad (CS := ([A0.c_InvalidWidth, A0.c_InvalidWords, A0.c_InvalidOutcome, A0.c_InvalidCondition, A0.c_InvalidRanking, A0.c_InvalidKnowledge, A0.c_InvalidProgram, A0.c_InvalidRow, A0.c_InvalidRegister, A0.c_InvalidQuery, A0.c_InvalidTable, A0.c_InvalidNumber, A0.c_UnlikeInputs, A0.c_NothingToUndo, A0.c_Unreadable] : List Addr)) (l := [some (.int 0), some (.int n), some (.ref l)]) (C := A0.c_InvalidProgram) (r := res0 n rs) (j := 6) rfl (by decide) (res0_bad h1 h2 h3 h4 pre) (sN.trans s) e hn⟩⟩
      | d1 hp =>
        rename_i a n i as rs
        refine ⟨_, rfl, rfl, _, rfl, ?_⟩
        refine tF rfl ?_
        refine ⟨_, rfl, rfl, _, rfl, ?_⟩
        refine tT rfl ?_
        obtain ⟨dx, l, t, ps, e1, _⟩ := id hp
        refine ⟨_, rfl, a, dx, _, rfl, e1, rfl, _, rfl, a, n, as, rs, i, rfl, hp, fun h1 h2 p as' H' hn s pg => ?_, fun c d H' _ s e => ?_⟩
        · exact MidK.free (CS := ([A0.c_InvalidWidth, A0.c_InvalidWords, A0.c_InvalidOutcome, A0.c_InvalidCondition, A0.c_InvalidRanking, A0.c_InvalidKnowledge, A0.c_InvalidProgram, A0.c_InvalidRow, A0.c_InvalidRegister, A0.c_InvalidQuery, A0.c_InvalidTable, A0.c_InvalidNumber, A0.c_UnlikeInputs, A0.c_NothingToUndo, A0.c_Unreadable] : List Addr)) (l := [some (.int 1), some (.ref a), some (.int i)]) (r := res1 rs.length i) (if_pos ⟨h1, h2⟩) s
        · exact ⟨T.xm_InvalidRow, fun ax hax => ⟨_, rfl, fun hn => MidK.bad (CS := ([A0.c_InvalidWidth, A0.c_InvalidWords, A0.c_InvalidOutcome, A0.c_InvalidCondition, A0.c_InvalidRanking, A0.c_InvalidKnowledge, A0.c_InvalidProgram, A0.c_InvalidRow, A0.c_InvalidRegister, A0.c_InvalidQuery, A0.c_InvalidTable, A0.c_InvalidNumber, A0.c_UnlikeInputs, A0.c_NothingToUndo, A0.c_Unreadable] : List Addr)) (l := [some (.int 1), some (.ref a), some (.int i)]) (C := A0.c_InvalidRow) (r := res1 rs.length i) (j := 7) rfl (by decide) (if_neg c) s e hn⟩⟩
      | d2 hp hq hz =>
        rename_i a b n m as bs rs qs
        refine ⟨_, rfl, rfl, _, rfl, ?_⟩
        refine tF rfl ?_
        refine ⟨_, rfl, rfl, _, rfl, ?_⟩
        refine tF rfl ?_
        obtain ⟨dx, l, t, ps, e1, _⟩ := id hp
        obtain ⟨dy, l2, t2, ps2, g1, _⟩ := id hq
        refine ⟨_, rfl, _, rfl, a, b, dx, dy, _, _, rfl, rfl, e1, g1, a, b, n, m, as, bs, rs, qs, rfl, hp, hq, hz, fun c p as' H' hn s pg => ?_, fun c d H' _ s e => ?_⟩
        · exact MidK.free (CS := ([A0.c_InvalidWidth, A0.c_InvalidWords, A0.c_InvalidOutcome, A0.c_InvalidCondition, A0.c_InvalidRanking, A0.c_InvalidKnowledge, A0.c_InvalidProgram, A0.c_InvalidRow, A0.c_InvalidRegister, A0.c_InvalidQuery, A0.c_InvalidTable, A0.c_InvalidNumber, A0.c_UnlikeInputs, A0.c_NothingToUndo, A0.c_Unreadable] : List Addr)) (l := [some (.int 2), some (.ref a), some (.ref b)]) (r := res2 n m) (if_pos c) s
        · exact ⟨T.xm_UnlikeInputs, fun ax hax => ⟨_, rfl, fun hn => MidK.bad (CS := ([A0.c_InvalidWidth, A0.c_InvalidWords, A0.c_InvalidOutcome, A0.c_InvalidCondition, A0.c_InvalidRanking, A0.c_InvalidKnowledge, A0.c_InvalidProgram, A0.c_InvalidRow, A0.c_InvalidRegister, A0.c_InvalidQuery, A0.c_InvalidTable, A0.c_InvalidNumber, A0.c_UnlikeInputs, A0.c_NothingToUndo, A0.c_Unreadable] : List Addr)) (l := [some (.int 2), some (.ref a), some (.ref b)]) (C := A0.c_UnlikeInputs) (r := res2 n m) (j := 12) rfl (by decide) (if_neg c) s e hn⟩⟩
    · rintro σ H1 ⟨caught, rfl, s1, hc⟩
      rcases hc with ⟨rfl, hr⟩ | ⟨a, C, j, v, rfl, ea, hC, ho, hr⟩
      · subst hr
        refine ⟨_, rfl, rfl, _, rfl, ?_⟩
        refine tT rfl ?_
        exact ⟨(by show 2 ≤ sizeLine; decide), fun p hp => k p _ (s1.trans (sameNew hp)) upd_same⟩
      · subst hr
        refine ⟨_, rfl, rfl, _, rfl, ?_⟩
        refine tF rfl ?_
        refine ⟨_, rfl, a, j, C, v, rfl, ea, hC, ho, fun H2 s2 => ?_⟩
        obtain ⟨_, xf, nf⟩ := errC T hC
        refine ⟨_, rfl, a, C, v, rfl, ea.same s2, xf, nf, ?_⟩
        exact ⟨(by show 2 ≤ sizeLine; decide), fun p hp => k p _ (s1.trans (s2.trans (sameNew hp))) upd_same⟩
/-! _law_right -/
def sp_law_right (K : PySem.W.Frag) (A0 : Ad) : Sp := fun vs H Q E => ∃ (p : Addr) (n : Nat), vs = [.ref p] ∧ Pool H p n ∧ n ≤ 20000 ∧ ∀ H', Pool H' p (n + 420) → But p H H' → Q (.bl true) H'
theorem sc_law_right : FnScope ["pool", "many", "code", "one", "size", "turn", "bad", "spot", "row", "count", "early", "free", "other", "two"] ["pool"] (defScope s_law_right) := ⟨rfl, rfl, rfl, by decide +kernel, rfl, by decide +kernel, by decide +kernel⟩
theorem bd_law_right (T : Txt w K mg A0) : Binds K A0.d_law_right ["pool"] [] := T.F_law_right.binds fun _ _ _ _ _ _ us hl => match us, hl with | [_], _ => rfl
set_option maxHeartbeats 0 in
theorem ok_law_right (T : Txt w K mg A0) : FnOk P w K mg base CX0 7 A0.a_law_right A0.d_law_right ["pool"] (sp_law_right K A0) := by
  refine T.F_law_right.ok sc_law_right (fun vs H Q E h => ?_) (fun cdv A outer s H vs Q E hr h => ?_)
  · obtain ⟨p, n, rfl, _⟩ := h
    rfl
  · obtain ⟨p, n, rfl, h⟩ := h
    refine ⟨_, (pss_cons (ps_set (i := 1) sc_law_right.nd rfl (Or.inr rfl) (pe_op op_add pe_int (pe_call (ok_law_draw T) (hr.mono (by decide)) rfl T.g_law_draw T.F_law_draw.kp (bd_law_draw T) .nil pass0 (pa_cons (pv 0) (pa_cons pe_int pa_nil)))))
        (pss_cons (ps_set (i := 2) sc_law_right.nd rfl (Or.inl rfl) (pe_call (ok_law_code T) (hr.mono (by decide)) rfl T.g_law_code T.F_law_code.kp (bd_law_code T) .nil pass0 (pa_cons (pv 0) (pa_cons (pv 1) (pa_cons pe_int pa_nil)))))
        (pss_cons (ps_asg (pe_tup (pa_cons (pe_makeS T.mk_Program (ok_Program___init T) (hr.mono (by decide)) rfl T.gc_Program (bd_Program___init T) (fun σ => passAt takes0 σ) (pa_cons (pv 1) (pa_cons (pv 2) pa_nil))) (pa_cons (pe_callB call_len_seq (by rfl) T.b_len (by decide +kernel) (pa_cons (pv 2) pa_nil)) pa_nil))) (pg_tup rfl (pgs_cons (pg_name (i := 3) sc_law_right.nd rfl (Or.inl rfl)) (pgs_cons (pg_name (i := 4) sc_law_right.nd rfl (Or.inr rfl)) pgs_nil))))
        (pss_cons (ps_for PassesOwn.never rfl (pi_range1 rfl T.b_range (pa_cons (pe_call (ok_law_draw T) (hr.mono (by decide)) rfl T.g_law_draw T.F_law_draw.kp (bd_law_draw T) .nil pass0 (pa_cons (pv 0) (pa_cons pe_int pa_nil))) pa_nil)) (pg_name (i := 5) sc_law_right.nd rfl (Or.inl rfl)) (pss_one (ps_if (pt_cmpR (op_neNil hr.units) (pv 2) (pe_lst pa_nil) (nomark _)) (pss_one (ps_asg (pe_call (ok_law_wrong_row T) (hr.mono (by decide)) rfl T.g_law_wrong_row T.F_law_wrong_row.kp (bd_law_wrong_row T) .nil pass0 (pa_cons (pv 0) (pa_cons (pv 1) (pa_cons (pv 4) pa_nil)))) (pg_sub (pv 2) (pe_call (ok_law_draw T) (hr.mono (by decide)) rfl T.g_law_draw T.F_law_draw.kp (bd_law_draw T) .nil pass0 (pa_cons (pv 0) (pa_cons (pv 4) pa_nil))) set_list))) pss_nil)))
        (pss_cons (ps_setLc (i := 6) (own := [("spot", 7), ("row", 8)]) rfl sc_law_right.nd rfl rfl (sw_true rfl rfl rfl (by decide +kernel)) (pi_enum rfl T.b_enumerate (pa_cons (pv 2) pa_nil)) (blkOk_by (own := [("spot", 7), ("row", 8)]) (N := ["pool", "many", "code", "one", "size", "turn", "bad", "spot", "row", "count", "early", "free", "other", "two"]) (sc := defScope s_law_right) (by decide +kernel)) (fun _ _ _ _ _ => (show PG _ _ (gTup K 2 (gCons (gName 7) (gCons (gName 8) gNil))) from pg_tup rfl (pgs_cons (pg_name (i := 7) sc_law_right.nd rfl (Or.inl rfl)) (pgs_cons (pg_name (i := 8) sc_law_right.nd rfl (Or.inl rfl)) pgs_nil)))) (fun _ _ _ _ _ => pts_one (pt_not (pt_val (pe_call (ok_law_is_row T) (hr.mono (by decide)) rfl T.g_law_is_row T.F_law_is_row.kp (bd_law_is_row T) .nil pass0 (pa_cons (pv 8) (pa_cons (pv 1) (pa_cons (pv 4) pa_nil))))))) (fun _ _ _ _ _ => (pe_lst (pa_cons pe_str (pa_cons (pv 7) pa_nil)))))
        (pss_cons (ps_set (i := 9) sc_law_right.nd rfl (Or.inl rfl) (pe_ix ix_list (pe_lst (pa_cons (pv 1) (pa_cons pe_int (pa_cons pe_int (pa_cons (pe_un un_neg pe_int) (pa_cons (pe_op op_pow pe_int pe_int) pa_nil)))))) (pe_callB (call_max2 rfl) (by rfl) T.b_max (by decide +kernel) (pa_cons pe_int (pa_cons (pe_op op_sub (pe_call (ok_law_draw T) (hr.mono (by decide)) rfl T.g_law_draw T.F_law_draw.kp (bd_law_draw T) .nil pass0 (pa_cons (pv 0) (pa_cons pe_int pa_nil))) pe_int) pa_nil))) (fun _ _ => rfl)))
        (pss_cons (ps_par (i := 10) (j := 11) rfl sc_law_right.nd rfl rfl (by decide) rfl rfl (pa_cons (pe_op op_rep (pe_lst (pa_cons (pe_lst (pa_cons pe_str (pa_cons pe_non pa_nil))) pa_nil)) (pe_callTy call_int1 (by rfl) T.b_int (by decide +kernel) (pa_cons (pe_not (pe_chain op_le op_le pe_int (pv 9) pe_int)) pa_nil))) (pa_cons (pe_lst (pa_cons (pe_lst (pa_cons pe_str (pa_cons pe_non pa_nil))) pa_nil)) pa_nil)) rfl)
        (Evl.pss_cut (ps_if (PW.pt (pw_or (pt_cmpR op_eq (pv 9) (pv 1) (nomark _)) (pw_or1 (pt_cmpR (op_neNil hr.units) (pv 10) (pe_lst pa_nil) (nomark _))))) (pss_one (ps_if (pt_cmpR (op_neD hr.units) (pe_call (ok_law_told T) (hr.mono (by decide)) rfl T.g_law_told T.F_law_told.kp (bd_law_told T) .nil pass0 (pa_cons pe_int (pa_cons (pv 9) (pa_cons (pe_callTy call_list_of (by rfl) T.b_list (by decide +kernel) (pa_cons (pv 2) pa_nil)) pa_nil)))) (pe_ix ix_list (pe_op op_cat (pe_op op_cat (pv 10) (pv 6)) (pv 11)) pe_int (fun _ _ => rfl)) (nomark _)) (pss_one (ps_ret pe_bl)) pss_nil)) pss_nil)
        (pss_cons (ps_set (i := 7) sc_law_right.nd rfl (Or.inl rfl) (pe_ix ix_list (pe_lst (pa_cons (pe_call (ok_law_draw T) (hr.mono (by decide)) rfl T.g_law_draw T.F_law_draw.kp (bd_law_draw T) .nil pass0 (pa_cons (pv 0) (pa_cons (pe_op op_add (pv 4) pe_int) pa_nil))) (pa_cons (pv 4) (pa_cons (pe_un un_neg pe_int) (pa_cons (pe_op op_pow pe_int pe_int) pa_nil))))) (pe_call (ok_law_draw T) (hr.mono (by decide)) rfl T.g_law_draw T.F_law_draw.kp (bd_law_draw T) .nil pass0 (pa_cons (pv 0) (pa_cons pe_int pa_nil))) (fun _ _ => rfl)))
        (pss_cons (ps_if (pt_cmpR (op_neD hr.units) (pe_call (ok_law_told T) (hr.mono (by decide)) rfl T.g_law_told T.F_law_told.kp (bd_law_told T) .nil pass0 (pa_cons pe_int (pa_cons (pv 3) (pa_cons (pv 7) pa_nil)))) (pe_ix ix_list (pe_op op_cat (pe_op op_rep (pe_lst (pa_cons (pe_lst (pa_cons pe_str (pa_cons (pv 7) pa_nil))) pa_nil)) (pe_callTy call_int1 (by rfl) T.b_int (by decide +kernel) (pa_cons (pe_not (pe_chain op_le op_lt pe_int (pv 7) (pv 4))) pa_nil))) (pv 11)) pe_int (fun _ _ => rfl)) (nomark _)) (pss_one (ps_ret pe_bl)) pss_nil)
        (pss_cons (ps_set (i := 12) sc_law_right.nd rfl (Or.inl rfl) (pe_op op_add pe_int (pe_call (ok_law_draw T) (hr.mono (by decide)) rfl T.g_law_draw T.F_law_draw.kp (bd_law_draw T) .nil pass0 (pa_cons (pv 0) (pa_cons pe_int pa_nil)))))
        (pss_cons (ps_set (i := 13) sc_law_right.nd rfl (Or.inl rfl) (pe_makeS T.mk_Program (ok_Program___init T) (hr.mono (by decide)) rfl T.gc_Program (bd_Program___init T) (fun σ => passAt takes0 σ) (pa_cons (pv 12) (pa_cons (pe_call (ok_law_code T) (hr.mono (by decide)) rfl T.g_law_code T.F_law_code.kp (bd_law_code T) .nil pass0 (pa_cons (pv 0) (pa_cons (pv 12) (pa_cons pe_int pa_nil)))) pa_nil))))
        (pss_one (ps_ret (pe_and (pe_cmpR (op_eqD hr.units) (pe_call (ok_law_told T) (hr.mono (by decide)) rfl T.g_law_told T.F_law_told.kp (bd_law_told T) .nil pass0 (pa_cons pe_int (pa_cons (pv 3) (pa_cons (pv 13) pa_nil)))) (pe_ix ix_list (pe_op op_cat (pe_op op_rep (pe_lst (pa_cons (pe_lst (pa_cons pe_str (pa_cons pe_non pa_nil))) pa_nil)) (pe_callTy call_int1 (by rfl) T.b_int (by decide +kernel) (pa_cons (pe_cmpR op_ne (pv 12) (pv 1) (nomark _)) pa_nil))) (pv 11)) pe_int (fun _ _ => rfl)) (nomark _)) (pe_one (pe_cmpR op_eq (pe_callB (call_lenOwn T.me_Program___len (ok_Program___len T) (hr.mono (by decide)) (bd_Program___len T) pass0) (by rfl) T.b_len (by decide +kernel) (pa_cons (pv 3) pa_nil)) (pv 4) (nomark _)))))))))))))))))), ?_⟩
    obtain ⟨pl, hn, k⟩ := h
    refine ⟨_, rfl, p, 4, n, rfl, pl, by omega, by decide, by decide, fun d1 H1 a0 a1 pl1 b1 => ⟨_, _, rfl, rfl, ?_⟩⟩
    have m1 : 1 ≤ 1 + d1 := by omega
    have m4 : 1 + d1 ≤ 4 := by omega
    refine ⟨_, rfl, _, rfl, p, 1 + d1, 20, n + 1, rfl, pl1, by omega, m1, m4, by decide, by decide, fun q as rs H2 hq b2 eq ra lr ok pl2 => ?_⟩
    have nqp : q ≠ p := pl2.nr eq
    have hqH : But p H H2 := b1.trans b2
    refine ⟨_, rfl, _, rfl, ?_⟩
    intro x dx nx ndx nex
    have sN : Same H2 (upd (upd H2 dx (.own x)) x (.ins A0.c_Program dx [])) := fun b o e => by
      rw [upd_ne (ne_of_none e nx), upd_ne (ne_of_none e ndx)]
      exact e
    refine ⟨x, dx, q, 1 + d1, as, rs, rfl, upd_same, sN _ _ eq, ra.same sN, by omega, fun r mm => rowIs_ok (ok r mm), fun _ _ _ H3 kp pg lfr => ⟨rfl, ?_⟩, fun c => absurd ⟨m1, m4⟩ c, fun _ _ i r h1 h2 _ => absurd (ok r (List.mem_of_getElem? h1)) (by rw [h2]; decide)⟩
    have s3 : Same H2 H3 := fun b o e => kp b o (ne_of_none e nx) (sN _ _ e)
    have eq3 := s3 _ _ eq
    have pl3 := pl2.same s3
    have ra3 := ra.same s3
    obtain ⟨dy, l, t, ps, ex, _⟩ := id pg
    have lq : l ≠ q := fun z => by
      have := lfr _ _ _ ex
      rw [z, sN _ _ eq] at this
      cases this
    have b03 : But p H H3 := hqH.trans (But.of s3)
    clear kp lfr s3 sN nx ndx nex eq ra pl2 hqH b2
    refine ⟨_, rfl, q, _, rfl, .inl (SqL.of eq3), ?_⟩
    rw [List.length_map, Paired.length ra3]
    refine ⟨(by show 2 ≤ sizeLine; decide), fun tt htt => ⟨tt, _, rfl, SqT.of upd_same, rfl, _, _, rfl, _, _, rfl, rfl, ?_⟩⟩
    have s4 := sameNew htt (o := .tup [.ref x, .int (rs.length : Nat)])
    have hq0 : H q = none := by
      cases e : H q with
      | none => rfl
      | some o => exact absurd (b1 q o nqp e) (by rw [hq]; exact fun z => by cases z)
    refine ⟨_, rfl, p, 3, _, rfl, pl3.same s4, by omega, by decide, by decide, fun d2 H5 c0 c1 pl5 b5 => ?_⟩
    have b05 := b03.trans ((But.of s4).trans b5)
    obtain ⟨pg5, ex5⟩ := prog_keep (H' := H5) pg ex lq pl3 eq3 (fun b o e1 _ e => b5 b o e1 (s4 _ _ e))
    have eq5 := b5 _ _ nqp (s4 _ _ eq3)
    have ra5 := (ra3.same s4).but b5 (pl3.same s4)
    clear s4 htt b5 eq3 ra3 pl3 b03 pg ex b1 hq
    obtain ⟨tn, rfl⟩ : ∃ tn : Nat, d2 = (tn : Int) := ⟨d2.toNat, by omega⟩
    have good0 : ∀ r ∈ rs, (∃ w xs, r = .str w :: xs) ∧ RowIs r := fun r mm => by
      obtain ⟨w, xs, f, e, _⟩ := rowOk_shape (ok r mm)
      exact ⟨⟨w, xs, e⟩, rowIs_ok (ok r mm)⟩
    refine ⟨(tn : Int), rfl, by omega, by omega, for_range (n := tn) (fun i σ H' => ∃ u5, ∃ (as2 : List Addr) (rs2 : List (List V)), σ = [some (.ref p), some (.int (1 + d1)), some (.ref q), some (.ref x), some (.int (rs.length : Nat)), u5, none, none, none, none, none, none, none, none] ∧ Pool H' p (n + 202 + 5 * i) ∧ But p H H' ∧ H' q = some (.lst (as2.map V.ref)) ∧ RowsAt H' as2 rs2 ∧ rs2.length = rs.length ∧ (∀ r ∈ rs2, (∃ w xs, r = .str w :: xs) ∧ RowIs r) ∧ ProgAt K H' A0.c_Program x (1 + d1) as rs ∧ H' x = some (.ins A0.c_Program dy [("_inputs", .int (1 + d1)), ("_rows", .ref l), ("_placed", .ref t)])) ⟨none, as, rs, rfl, pl5.mono (by omega), b05, eq5, ra5, rfl, good0, pg5, ex5⟩ ?_ ?_⟩
    · rintro i σ H6 hi ⟨u5, as2, rs2, rfl, pl6, b6, eq6, ra6, l6, gd, pg6, ex6⟩
      clear pg5 ex5 ra5 eq5 b05 pl5 good0
      have la := Paired.length ra6
      refine ⟨_, rfl, (by show 0 ≤ sizeLine; decide), fun e0 he0 => ⟨q, e0, _, rfl, rfl, (sameNew he0) _ _ eq6, upd_same, _, rfl, ?_⟩⟩
      have s7 := sameNew he0 (o := .lst [])
      have pl7 := pl6.same s7
      have b7 := b6.trans (But.of s7)
      have eq7 := s7 _ _ eq6
      have ra7 := ra6.same s7
      obtain ⟨pg7, ex7⟩ := prog_keep (H' := upd H6 e0 (.lst [])) pg6 ex6 lq pl6 eq6 (fun b o _ _ e => s7 _ _ e)
      clear pg6 ex6 ra6 eq6 b6 pl6
      generalize upd H6 e0 (.lst []) = H7 at s7 pl7 b7 eq7 ra7 pg7 ex7 ⊢
      cases as2 with
      | nil =>
        refine tF rfl ?_
        exact ⟨_, [], rs2, rfl, pl7.mono (by omega), b7, eq7, ra7, l6, gd, pg7, ex7⟩
      | cons a1 as3 =>
        refine tT rfl ?_
        rw [List.length_cons] at la
        refine ⟨_, rfl, _, rfl, _, rfl, p, 1 + d1, (rs.length : Nat), _, rfl, pl7, by omega, fun tr w xs H8 b8 et ri pl8 => ?_⟩
        refine ⟨_, rfl, _, rfl, _, rfl, p, (rs.length : Nat), _, rfl, pl8, by omega, by omega, Int.lt_of_le_of_lt (b := 30) (by omega) (by decide), fun d3 H9 e0 e1 pl9 b9 => ?_⟩
        have b79 := b8.trans b9
        have eq9 := b79 _ _ nqp eq7
        have et9 := b9 _ _ (pl8.nt et) et
        have ra9 := ra7.but b79 pl7
        have la9 := Paired.length ra9
        refine ⟨q, _, d3, d3.toNat, rfl, rfl, eq9, by unfold ixN; rw [if_pos e0, if_pos (by rw [List.length_map, la9, l6]; exact e1)], ?_⟩
        have kp : ∀ b o, b ≠ p → b ≠ q → H7 b = some o → (upd H9 q (.lst (((a1 :: as3).map V.ref).set d3.toNat (.ref tr)))) b = some o := fun b o h1 h2 e => (upd_ne h2).trans (b79 b o h1 e)
        obtain ⟨pg9, ex9⟩ := prog_keep pg7 ex7 lq pl7 eq7 kp
        refine ⟨_, (a1 :: as3).set d3.toNat tr, rs2.set d3.toNat (.str w :: xs), rfl, (pl9.put nqp).mono (by omega), fun b o h1 e => (upd_ne (ne_of_none e hq0)).trans (b79 b o h1 (b7 b o h1 e)), ?_, ?_, by rw [List.length_set]; exact l6, fun r mm => ?_, pg9, ex9⟩
        · rw [upd_same, List.map_set]
        · have tq : ∀ {a ys}, H9 a = some (.tup ys) → (upd H9 q (.lst (((a1 :: as3).map V.ref).set d3.toNat (.ref tr)))) a = some (.tup ys) := fun {a ys} e => (upd_ne (fun z => by rw [z, eq9] at e; cases e)).trans e
          have rt : RowsAt (upd H9 q (.lst (((a1 :: as3).map V.ref).set d3.toNat (.ref tr)))) (a1 :: as3) rs2 := prm ra9 fun a r e => tq e
          exact pr_set (R := fun a r => (upd H9 q (.lst (((a1 :: as3).map V.ref).set d3.toNat (.ref tr)))) a = some (.tup r)) (tq et9) rt
        · rcases List.mem_or_eq_of_mem_set mm with mm | rfl
          · exact gd r mm
          · exact ⟨⟨w, xs, rfl⟩, ri⟩
    rintro σ H6 ⟨u5, as2, rs2, rfl, pl6, b6, eq6, ra6, l6, gd, pg6, ex6⟩
    clear pg5 ex5 ra5 eq5 b05 pl5 good0
    have la6 := Paired.length ra6
    refine ⟨_, rfl, q, as2.map V.ref, rfl, SqL.of eq6, fun B hB => ite_by (xs := as2.map V.ref) (fun t H' => Same H6 H' ∧ ∃ bs : List Addr, H' B = some (.lst (bs.map V.ref)) ∧ PNums H' bs (badR (regs (1 + d1).toNat) rs.length rs2 t) ∧ bs.length ≤ t) ⟨sameNew hB, [], upd_same, .nil, Nat.le_refl _⟩ (fun t H' _ hp => SqL.of (hp.1 _ _ eq6)) ?_ ?_⟩
    · rintro t0 xv H' T9 hx ⟨s', bs, eB, nb, lb⟩ hT
      obtain ⟨a0, ha0, rfl⟩ := refAt hx
      obtain ⟨r, hr2, er⟩ := prG ra6 ha0
      obtain ⟨⟨w, xs, rfl⟩, ri⟩ := gd r (List.mem_of_getElem? hr2)
      have tl := (List.getElem?_eq_some_iff.mp ha0).1
      have st := badR_succ (ns := regs (1 + d1).toNat) (size := rs.length) hr2
      have sT := sameNew hT (o := .tup [.int (t0 : Nat), .ref a0])
      refine ⟨T9, _, rfl, SqT.of upd_same, rfl, _, _, rfl, _, _, rfl, rfl, ?_⟩
      refine ⟨rfl, ?_⟩
      refine ⟨_, rfl, _, rfl, _, rfl, a0, w, xs, 1 + d1, (rs.length : Nat), rfl, sT _ _ (s' _ _ er), ri, m1, m4, fun H2' s2' => ⟨_, rfl, ?_⟩⟩
      have sB := sT.trans s2'
      cases hb2 : rowOk (regs (1 + d1).toNat) rs.length (.str w :: xs) with
      | true =>
        rw [hb2, if_pos rfl, List.append_nil] at st
        refine tF rfl ?_
        refine ⟨s'.trans sB, bs, sB _ _ eB, ?_, by omega⟩
        rw [st]
        exact nb.same sB
      | false =>
        rw [hb2, if_neg (by decide)] at st
        refine tT rfl ?_
        refine ⟨_, rfl, (by show 2 ≤ sizeLine; decide), fun b hb => ?_⟩
        have s3 := sB.trans (sameNew hb (o := .lst [.str "program", .int (t0 : Nat)]))
        refine ⟨bs.map V.ref, s3 _ _ eB, small1000 (by rw [List.length_map]; omega), sameUp (s'.trans s3) hB, bs ++ [b], by rw [upd_same, List.map_append]; rfl, ?_, by rw [List.length_append]; show bs.length + 1 ≤ t0 + 1; omega⟩
        rw [st]
        exact PNums.up (pra (nb.same s3) (.cons upd_same .nil)) (s3 _ _ eB)
    rintro H7 ⟨s7, bs, eB, nb, lb⟩
    rw [List.length_map] at nb lb
    rw [la6, l6] at nb lb
    have pl7 := pl6.same s7
    have b7 := b6.trans (But.of s7)
    have eq7 := s7 _ _ eq6
    have ra7 := ra6.same s7
    have pg7 := pg6.same s7
    clear pg6 ex6 ra6 eq6 b6 pl6 s7
    refine ⟨_, rfl, _, rfl, _, _, rfl, rfl, ⟨by decide, by decide, by decide⟩, (by show 5 ≤ sizeLine; decide), fun r0 hr0 => ?_⟩
    refine ⟨_, rfl, p, 9, _, rfl, pl7.new hr0, by omega, by decide, by decide, fun d4 H8 c0 c1 pl8 b8 => ⟨_, _, rfl, rfl, _, _, rfl, ?_⟩⟩
    obtain ⟨ct, mc, at1⟩ := at_int (zs := [1 + d1, 0, 5, -1, 10 ^ (20 : Int).toNat]) (d := if d4 - 4 > 0 then d4 - 4 else 0) (by split <;> omega) (by show _ < 5; split <;> omega)
    refine ⟨r0, _, _, .int ct, rfl, rfl, SqL.of (b8 _ _ (pl7.ne hr0) upd_same), at1, ?_⟩
    have hct : ct = 1 + d1 ∨ ¬ (1 ≤ ct ∧ ct ≤ 4) := by
      simp only [List.mem_cons, List.not_mem_nil, or_false] at mc
      rcases mc with h | h | h | h | h
      · exact .inl h
      · exact .inr (by omega)
      · exact .inr (by omega)
      · exact .inr (by omega)
      · exact .inr (by rw [h]; decide)
    have b78 : But p H7 H8 := (But.new hr0).trans b8
    have eB8 := b78 _ _ (pl7.nr eB) eB
    have eq8 := b78 _ _ nqp eq7
    have ra8 := ra7.but b78 pl7
    have b08 := b7.trans b78
    have nb8 : PNums H8 bs (badR (regs (1 + d1).toNat) rs.length rs2 rs.length) := prm nb fun a r e => b78 a _ (fun z => by
      obtain ⟨_, _, _, ep, _⟩ := pl7
      rw [z, ep] at e
      exact nomatch (List.cons.inj (HO.lst.inj (Option.some.inj e))).1) e
    have pg8 := pg7.but b78 pl7
    have z0 : rs2.length = rs.length := l6
    clear nb eB eq7 ra7 pg7 b7 b78 b8 at1 mc hr0 pl7
    refine flagC (b := !in4 ct) (fun H' Q' _ qq => ?_) fun g0 g2 H9 s9 eg0 eg2 => ?_
    · refine ⟨_, rfl, _, _, rfl, rfl, _, rfl, ?_⟩
      by_cases c1 : 1 ≤ ct
      · refine tT (decide_eq_true c1) ?_
        have e : in4 ct = decide (ct ≤ 4) := by unfold in4; rw [decide_eq_true c1]; rfl
        rw [e] at qq
        exact ⟨_, _, rfl, rfl, _, rfl, qq _ (Same.refl _)⟩
      · refine tF (decide_eq_false c1) ?_
        have e : in4 ct = false := by unfold in4; rw [decide_eq_false c1]; rfl
        rw [e] at qq
        exact ⟨_, rfl, qq _ (Same.refl _)⟩
    refine ⟨(by show 2 ≤ sizeLine; decide), fun f0 hf0 => ⟨(by show 1 ≤ sizeLine; decide), fun f1 hf1 => ⟨_, _, rfl, ?_⟩⟩⟩
    have sF : Same H9 (upd (upd H9 f0 (.lst [.str "none", .non])) f1 (.lst [.ref f0])) := (sameNew hf0).trans (sameNew hf1)
    have ef0 : (upd (upd H9 f0 (.lst [.str "none", .non])) f1 (.lst [.ref f0])) f0 = some (.lst [.str "none", .non]) := (sameNew hf1) _ _ upd_same
    have ef1 : (upd (upd H9 f0 (.lst [.str "none", .non])) f1 (.lst [.ref f0])) f1 = some (.lst [.ref f0]) := upd_same
    generalize (upd (upd H9 f0 (.lst [.str "none", .non])) f1 (.lst [.ref f0])) = HA at sF ef0 ef1 ⊢
    have s8A := s9.trans sF
    have eg0 := sF _ _ eg0
    have eg2 := sF _ _ eg2
    have eBA := s8A _ _ eB8
    have eqA := s8A _ _ eq8
    have raA := ra8.same s8A
    have nbA := nb8.same s8A
    have pgA := pg8.same s8A
    have plA := pl8.same s8A
    have b0A := b08.trans (But.of s8A)
    clear hf0 hf1 s9 sF s8A eB8 eq8 ra8 nb8 pg8 b08 pl8
    have le1 : (if (!in4 ct) = true then [V.ref g0] else []).length ≤ 1 := by cases in4 ct <;> simp
    refine ⟨fun σ H' => σ = [some (.ref p), some (.int (1 + d1)), some (.ref q), some (.ref x), some (.int (rs.length : Nat)), u5, some (.ref B), none, none, some (.int ct), some (.ref g2), some (.ref f1), none, none] ∧ Same HA H', ?_, ?_⟩
    · refine ⟨_, rfl, _, rfl, rfl, _, rfl, ?_⟩
      have sr : Same HA HA := Same.refl HA
      by_cases c1 : ct = 1 + d1
      · refine tT (decide_eq_true (congrArg V.int c1)) ?_
        refine ⟨_, rfl, _, rfl, q, _, rfl, .inl (SqL.of (sr _ _ eqA)), fun lc hlc => ?_⟩
        have sl := sr.trans (sameNew hlc (o := .lst (as2.map V.ref)))
        refine ⟨0, .int ct, .ref lc, _, rfl, .d0 (as := as2) (rs := rs2) upd_same (raA.same sl) (by omega) (fun r m => (gd r m).2), fun v0 HC s2 w0 => ?_⟩
        have sC := sl.trans s2
        obtain ⟨u1, a1, t1⟩ := due0 (n := ct) (rs := rs2) (sC _ _ eg0) (sC _ _ ef0) (nbA.same sC) (fun h => by
          rw [z0]
          rcases hct with e | e
          · rw [e]
          · exact absurd h e)
        refine cat3 rfl rfl rfl (sC _ _ eg2) (sC _ _ eBA) (sC _ _ ef1) (by rw [List.length_map]; show _ + _ + 1 ≤ 1000; omega) a1 fun HD sD => ?_
        refine ⟨toldPD (res0 ct rs2), toldPD (res0 ct rs2), told_dpP (sD _ _ w0) (fit0 ..), told_dpP (sD _ _ t1) (fit0 ..), toldP_sh (fit0 ..), toldP_sh (fit0 ..), _, rfl, ?_⟩
        refine tF (by rw [SeqAt.eqv_refl _ (SeqAt.canLay_of_shaped (toldP_sh (fit0 ..)))]; rfl) ?_
        exact ⟨rfl, sC.trans sD⟩
      refine tF (decide_eq_false fun z => c1 (V.int.inj z)) ?_
      have n4 : in4 ct = false := by
        cases e : in4 ct with
        | false => rfl
        | true => exact absurd (in4_iff.mp e) (hct.resolve_left c1)
      refine ⟨_, rfl, (by show 0 ≤ sizeLine; decide), fun e0 he0 => ⟨g2, e0, _, rfl, rfl, (sameNew he0) _ _ eg2, upd_same, _, rfl, ?_⟩⟩
      have se := sameNew he0 (o := .lst [])
      refine tT (by rw [n4]; rfl) ?_
      refine ⟨_, rfl, _, rfl, q, _, rfl, .inl (SqL.of (se _ _ eqA)), fun lc hlc => ?_⟩
      have sl := se.trans (sameNew hlc (o := .lst (as2.map V.ref)))
      refine ⟨0, .int ct, .ref lc, _, rfl, .d0 (as := as2) (rs := rs2) upd_same (raA.same sl) (by omega) (fun r m => (gd r m).2), fun v0 HC s2 w0 => ?_⟩
      have sC := sl.trans s2
      obtain ⟨u1, a1, t1⟩ := due0 (n := ct) (rs := rs2) (sC _ _ eg0) (sC _ _ ef0) (nbA.same sC) (fun h => by
        rw [z0]
        rcases hct with e | e
        · rw [e]
        · exact absurd h e)
      refine cat3 rfl rfl rfl (sC _ _ eg2) (sC _ _ eBA) (sC _ _ ef1) (by rw [List.length_map]; show _ + _ + 1 ≤ 1000; omega) a1 fun HD sD => ?_
      refine ⟨toldPD (res0 ct rs2), toldPD (res0 ct rs2), told_dpP (sD _ _ w0) (fit0 ..), told_dpP (sD _ _ t1) (fit0 ..), toldP_sh (fit0 ..), toldP_sh (fit0 ..), _, rfl, ?_⟩
      refine tF (by rw [SeqAt.eqv_refl _ (SeqAt.canLay_of_shaped (toldP_sh (fit0 ..)))]; rfl) ?_
      exact ⟨rfl, sC.trans sD⟩
    rintro σ HB ⟨rfl, sB⟩
    have plB := plA.same sB
    have ef0 := sB _ _ ef0
    have ef1 := sB _ _ ef1
    have pgB := pgA.same sB
    have b0B := b0A.trans (But.of sB)
    clear eg0 eg2 nbA raA eqA eBA pgA plA b0A sB le1
    refine ⟨_, rfl, _, rfl, _, _, rfl, rfl, p, (rs.length : Nat) + 1, _, rfl, plB, by omega, by omega, Int.lt_of_le_of_lt (b := 30) (by omega) (by decide), fun d5 HC e0 e1 plC bC => ⟨_, rfl, _, rfl, _, _, rfl, rfl, ⟨by decide, by decide, by decide⟩, (by show 4 ≤ sizeLine; decide), fun r1 hr1 => ?_⟩⟩
    refine ⟨_, rfl, p, 4, _, rfl, plC.new hr1, by omega, by decide, by decide, fun d6 HD y0 y1 plD bD => ?_⟩
    obtain ⟨sp, _, at2⟩ := at_int (zs := [d5, (rs.length : Nat), -1, 10 ^ (20 : Int).toNat]) y0 y1
    refine ⟨r1, _, d6, .int sp, rfl, rfl, SqL.of (bD _ _ (plC.ne hr1) upd_same), at2, ?_⟩
    have bBD : But p HB HD := bC.trans ((But.new hr1).trans bD)
    have pgD := pgB.but bBD plB
    have nf1 := plB.nr (xs := [f0]) ef1
    have nf0 : f0 ≠ p := fun z => by
      obtain ⟨_, _, _, ep, _⟩ := plB
      rw [z, ep] at ef0
      exact nomatch (List.cons.inj (HO.lst.inj (Option.some.inj ef0))).1
    have ef0 := bBD _ _ nf0 ef0
    have ef1 := bBD _ _ nf1 ef1
    have b0D := b0B.trans bBD
    clear bBD bC bD hr1 pgB plB plC b0B at2
    refine gn_of ?_
    refine ⟨_, rfl, _, rfl, 1, .ref x, .int sp, _, rfl, .d1 pgD, fun v1 HE s1 w1 => ?_⟩
    refine opl (opl (flagL (b := !(decide (0 ≤ sp) && decide (sp < (rs.length : Nat)))) rfl (fun H' Q' _ qq => ?_) fun t0 t2 HF sF' et0 et2 => ?_))
    · refine ⟨_, rfl, _, _, rfl, rfl, _, rfl, ?_⟩
      by_cases c1 : 0 ≤ sp
      · refine tT (decide_eq_true c1) ?_
        rw [decide_eq_true c1, Bool.true_and] at qq
        exact ⟨_, rfl, _, _, rfl, rfl, _, rfl, qq _ (Same.refl _)⟩
      · refine tF (decide_eq_false c1) ?_
        rw [decide_eq_false c1, Bool.false_and] at qq
        exact ⟨_, rfl, qq _ (Same.refl _)⟩
    have sDF := s1.trans sF'
    obtain ⟨u1, a1, t1'⟩ := due1 (n := rs.length) (i := sp) et0 (sDF _ _ ef0)
    refine ⟨_, rfl, ?_⟩
    refine cat_of et2 (sDF _ _ ef1) (le1k _ (.ref t0)) fun ca HG _ sG eca => ?_
    refine ⟨ca, _, 0, .ref u1, rfl, rfl, SqL.of eca, a1, ?_⟩
    have sDG := sDF.trans sG
    refine ⟨toldPD (res1 rs.length sp), toldPD (res1 rs.length sp), told_dpP ((sF'.trans sG) _ _ w1) (fit1 ..), told_dpP (sG _ _ t1') (fit1 ..), toldP_sh (fit1 ..), toldP_sh (fit1 ..), _, rfl, ?_⟩
    refine tF (by rw [SeqAt.eqv_refl _ (SeqAt.canLay_of_shaped (toldP_sh (fit1 ..)))]; rfl) ?_
    have plG := plD.same sDG
    have pgG := pgD.same sDG
    have ef0 := sDG _ _ ef0
    have ef1 := sDG _ _ ef1
    have b0G := b0D.trans (But.of sDG)
    clear s1 w1 sF' et0 et2 a1 t1' eca sG sDF sDG pgD plD b0D
    refine ⟨_, rfl, p, 4, _, rfl, plG, by omega, by decide, by decide, fun d7 HI y2 y3 plI bI => ⟨_, _, rfl, rfl, ?_⟩⟩
    have pgI := pgG.but bI plG
    have ef0 := bI _ _ nf0 ef0
    have ef1 := bI _ _ nf1 ef1
    have b0I := b0G.trans bI
    refine gn_of ?_
    refine ⟨_, rfl, _, rfl, _, rfl, p, 1 + d7, 20, _, rfl, plI, by omega, by omega, by omega, by decide, by decide, fun q2 bs2 qs HJ hq2 b2 eq2 ra2 lr2 ok2 pl2 => ?_⟩
    have pgJ := pgI.but b2 plI
    have ef0 := b2 _ _ nf0 ef0
    have ef1 := b2 _ _ nf1 ef1
    have b0J := b0I.trans b2
    clear pgG plG b0G bI pgI plI b0I b2 hq2
    intro x2 dx2 nx ndx nex
    have sN : Same HJ (upd (upd HJ dx2 (.own x2)) x2 (.ins A0.c_Program dx2 [])) := fun b o e => by
      rw [upd_ne (ne_of_none e nx), upd_ne (ne_of_none e ndx)]
      exact e
    refine ⟨x2, dx2, q2, 1 + d7, bs2, qs, rfl, upd_same, sN _ _ eq2, ra2.same sN, by omega, fun r mm => rowIs_ok (ok2 r mm), fun _ _ _ HK kp pg2 _ => ⟨rfl, ?_⟩, fun c => absurd ⟨by omega, by omega⟩ c, fun _ _ i r h1 h2 _ => absurd (ok2 r (List.mem_of_getElem? h1)) (by rw [h2]; decide)⟩
    have sK : Same HJ HK := fun b o e => kp b o (ne_of_none e nx) (sN _ _ e)
    clear kp sN nx ndx nex
    have pgK := pgJ.same sK
    have ef0 := sK _ _ ef0
    have ef1 := sK _ _ ef1
    refine gn_of ?_
    refine ⟨_, rfl, _, rfl, 2, .ref x, .ref x2, _, rfl, .d2 pgK pg2 (by omega), fun v2 HL s2 w2 => ?_⟩
    refine opl (opl (flagC (b := !decide (1 + d7 = 1 + d1)) (fun H' Q' _ qq => ?_) fun t0 t2 HM sM et0 et2 => ?_))
    · refine ⟨_, rfl, _, rfl, rfl, ?_⟩
      have e : decide (V.int (1 + d7) = V.int (1 + d1)) = decide (1 + d7 = 1 + d1) := by
        by_cases c : 1 + d7 = 1 + d1
        · rw [decide_eq_true c, decide_eq_true (congrArg V.int c)]
        · rw [decide_eq_false c, decide_eq_false fun z => c (V.int.inj z)]
      rw [← e] at qq
      exact qq _ (Same.refl _)
    have sKM := s2.trans sM
    obtain ⟨u1, a1, t1'⟩ := due2 (n := 1 + d1) (m := 1 + d7) et0 (sKM _ _ ef0)
    refine ⟨_, rfl, ?_⟩
    refine cat_of et2 (sKM _ _ ef1) (le1k _ (.ref t0)) fun ca HN _ sN eca => ?_
    refine ⟨ca, _, 0, .ref u1, rfl, rfl, SqL.of eca, a1, ?_⟩
    refine ⟨toldPD (res2 (1 + d1) (1 + d7)), toldPD (res2 (1 + d1) (1 + d7)), told_dpP ((sM.trans sN) _ _ w2) (fit2 ..), told_dpP (sN _ _ t1') (fit2 ..), toldP_sh (fit2 ..), toldP_sh (fit2 ..), ?_⟩
    rw [SeqAt.eqv_refl _ (SeqAt.canLay_of_shaped (toldP_sh (fit2 ..)))]
    have sKN := sKM.trans sN
    have pgN := pgK.same sKN
    have plN := (pl2.same sK).same sKN
    have b0N := b0J.trans ((But.of sK).trans (But.of sKN))
    obtain ⟨dz, lz, tz, pz, exN, _⟩ := id pgN
    refine ⟨_, rfl, ?_⟩
    rw [if_pos rfl]
    refine ⟨_, rfl, x, dz, _, rfl, exN, x, 1 + d1, as, rs, rfl, pgN, rs.length, rfl, Nat.lt_of_le_of_lt (m := 30) (by omega) (by decide), _, rfl, rfl, ?_⟩
    have kk := k HN (plN.mono (by omega)) b0N
    rw [decide_eq_true rfl]
    exact kk
/-! law -/
def sp_law (K : PySem.W.Frag) : Sp := fun vs H Q E => ∃ (a : Addr) (ns : List Int), vs = [.ref a] ∧ SqL K H a (ns.map V.int) ∧ ns.length ≤ 63 ∧ ∀ H', Q (.bl true) H'
theorem sc_law : FnScope ["script", "at", "pool", "turn", "told"] ["script"] (defScope s_law) := ⟨rfl, rfl, rfl, by decide +kernel, rfl, by decide +kernel, by decide +kernel⟩
theorem bd_law (T : Txt w K mg A0) : Binds K A0.d_law ["script"] [] := T.F_law.binds fun _ _ _ _ _ _ us hl => match us, hl with | [_], _ => rfl
set_option maxHeartbeats 0 in
theorem ok_law (T : Txt w K mg A0) : FnOk P w K mg base CX0 8 A0.a_law A0.d_law ["script"] (sp_law K) := by
  refine T.F_law.ok sc_law (fun vs H Q E h => ?_) (fun cdv A outer s H vs Q E hr h => ?_)
  · obtain ⟨a, ns, rfl, _⟩ := h
    rfl
  · obtain ⟨a, ns, rfl, h⟩ := h
    refine ⟨_, (pss_cons (ps_for PassesOwn.never rfl (pi_range1 rfl T.b_range (pa_cons (pe_callB (call_max2 rfl) (by rfl) T.b_max (by decide +kernel) (pa_cons pe_int (pa_cons (pe_callB (call_min2 rfl) (by rfl) T.b_min (by decide +kernel) (pa_cons pe_int (pa_cons (pe_callB call_len_seq (by rfl) T.b_len (by decide +kernel) (pa_cons (pv 0) pa_nil)) pa_nil))) pa_nil))) pa_nil)) (pg_name (i := 1) sc_law.nd rfl (Or.inl rfl)) (pss_cons (ps_set (i := 2) sc_law.nd rfl (Or.inl rfl) (pe_call (ok_law_pool T) (hr.mono (by decide)) rfl T.g_law_pool T.F_law_pool.kp (bd_law_pool T) .nil pass0 (pa_cons (pv 0) (pa_cons (pv 1) pa_nil))))
        (pss_one (ps_for PassesOwn.never rfl (pi_range1 rfl T.b_range (pa_cons pe_int pa_nil)) (pg_name (i := 3) sc_law.nd rfl (Or.inl rfl)) (pss_one (ps_if (pt_not (pt_val (pe_call (ok_law_right T) (hr.mono (by decide)) rfl T.g_law_right T.F_law_right.kp (bd_law_right T) .nil pass0 (pa_cons (pv 2) pa_nil)))) (pss_one (ps_ret pe_bl)) pss_nil))))))
        (pss_cons (ps_set (i := 4) sc_law.nd rfl (Or.inl rfl) (pe_lst (pa_cons (pe_call (ok_law_told T) (hr.mono (by decide)) rfl T.g_law_told T.F_law_told.kp (bd_law_told T) .nil pass0 (pa_cons pe_int (pa_cons pe_int (pa_cons (pe_lst (pa_cons (pe_tup (pa_cons pe_str (pa_cons pe_str pa_nil))) pa_nil)) pa_nil)))) (pa_cons (pe_call (ok_law_told T) (hr.mono (by decide)) rfl T.g_law_told T.F_law_told.kp (bd_law_told T) .nil pass0 (pa_cons pe_int (pa_cons pe_int (pa_cons (pe_lst (pa_cons (pe_tup (pa_cons pe_str (pa_cons pe_str pa_nil))) (pa_cons (pe_tup (pa_cons pe_str (pa_cons pe_int pa_nil))) pa_nil))) pa_nil)))) pa_nil))))
        (pss_cons (ps_expr (pe_bmX (K := K) rfl PySem.F.plainAttrs_list PySem.F.slot_list_append PySem.F.type_list_append mt_append (pv 4) (pa_cons (pe_call (ok_law_told T) (hr.mono (by decide)) rfl T.g_law_told T.F_law_told.kp (bd_law_told T) .nil pass0 (pa_cons pe_int (pa_cons pe_int (pa_cons (pe_lst (pa_cons (pe_tup (pa_cons pe_str (pa_cons pe_int pa_nil))) pa_nil)) pa_nil)))) pa_nil) rfl rfl rfl rfl rfl))
        (pss_cons (ps_if (pt_cmpR (op_neD hr.units) (pe_call (ok_law_told T) (hr.mono (by decide)) rfl T.g_law_told T.F_law_told.kp (bd_law_told T) .nil pass0 (pa_cons pe_int (pa_cons pe_int (pa_cons (pe_lst (pa_cons (pe_tup (pa_cons pe_str pa_nil)) (pa_cons (pe_tup pa_nil) pa_nil))) pa_nil)))) (pe_lst (pa_cons pe_str (pa_cons pe_int pa_nil))) (nomark _)) (pss_one (ps_ret pe_bl)) pss_nil)
        (pss_one (ps_ret (pe_cmpR (op_eqD hr.units) (pv 4) (pe_lst (pa_cons (pe_lst (pa_cons pe_str (pa_cons pe_int pa_nil))) (pa_cons (pe_lst (pa_cons pe_str (pa_cons pe_int pa_nil))) (pa_cons (pe_lst (pa_cons pe_str (pa_cons pe_non pa_nil))) pa_nil)))) (nomark _)))))))), ?_⟩
    obtain ⟨hS, hlen, k⟩ := h
    refine ⟨_, rfl, a, _, rfl, .inl hS, _, _, rfl, _, _, rfl, _, rfl, ?_⟩
    rw [List.length_map]
    obtain ⟨m, hm, em⟩ := laps_of (n := ns.length) (t := 10) (by decide)
    rw [em]
    refine ⟨by omega, by omega, for_range (n := m) (fun i σ H' => ∃ v1 v2 v3, σ = [some (.ref a), v1, v2, v3, none] ∧ Same H H') ⟨none, none, none, rfl, Same.refl H⟩ ?_ ?_⟩
    · rintro i σ H1 hi ⟨v1, v2, v3, rfl, s1⟩
      refine ⟨_, rfl, _, rfl, a, ns, _, rfl, s1.seq hS, by omega, by omega, hlen, fun p H2 hp s2 pl => ?_⟩
      refine ⟨8, rfl, by decide, by decide, for_range (n := 8) (fun j σ H' => ∃ u3, σ = [some (.ref a), some (.int (0 + (i : Nat))), some (.ref p), u3, none] ∧ But p H1 H' ∧ Pool H' p (420 * j)) ⟨_, rfl, But.of s2, pl⟩ ?_ ?_⟩
      · rintro j σ H3 hj ⟨u3, rfl, b3, pl3⟩
        refine ⟨_, rfl, p, _, rfl, pl3, by omega, fun H4 pl4 b4 => ⟨true, rfl, ?_⟩⟩
        refine tF rfl ?_
        exact ⟨_, rfl, b3.trans b4, pl4.mono (by omega)⟩
      · rintro σ H3 ⟨u3, rfl, b3, pl3⟩
        exact ⟨_, _, _, rfl, fun b o e => b3 b o (ne_of_none (s1 _ _ e) hp) (s1 _ _ e)⟩
    rintro σ H1 ⟨v1, v2, v3, rfl, s1⟩
    clear hS hlen s1 hm em
    have one : ∀ {r r0 : List V}, RowIs r0 → r ∈ [r0] → RowIs r := fun h m => by rw [List.mem_singleton.mp m]; exact h
    have two : ∀ {r r0 r1 : List V}, RowIs r0 → RowIs r1 → r ∈ [r0, r1] → RowIs r := fun h0 h1 m => by
      rcases List.mem_cons.mp m with rfl | m
      · exact h0
      · rw [List.mem_singleton.mp m]
        exact h1
    dsimp only
    refine sa_of ?_
    refine lst_in (cons_in (call_in (con_in (con_in (cons_in (lst_of (rs := [[.str "out", .str "q"]]) (.cons (.con (.con (.nil))) (len_ok rfl) (.nil)) (len_ok rfl) fun l0 ts0 J0 _ j0 ej0 rj0 => ?_))))))
    refine ⟨0, .int 1, .ref l0, _, rfl, .d0 (n := 1) ej0 rj0 (by decide) (fun r m => one (rowIs_strs "out" ["q"] (by decide)) m), fun v0 I0 i0 w0 => ?_⟩
    rw [show res0 1 [[.str "out", .str "q"]] = some (6, .int ((0 : Nat) : Int)) by decide +kernel] at w0
    refine cons_in (call_in (con_in (con_in (cons_in (lst_of (rs := [[.str "out", .str "q"], [.str "jump", .int 3]]) (.cons (.con (.con (.nil))) (len_ok rfl) (.cons (.con (.con (.nil))) (len_ok rfl) (.nil))) (len_ok rfl) fun l1 ts1 J1 _ j1 ej1 rj1 => ?_)))))
    refine ⟨0, .int 2, .ref l1, _, rfl, .d0 (n := 2) ej1 rj1 (by decide) (fun r m => two (rowIs_strs "out" ["q"] (by decide)) (rowIs_jump 3) m), fun v1 I1 i1 w1 => ?_⟩
    rw [show res0 2 [[.str "out", .str "q"], [.str "jump", .int 3]] = some (6, .int ((1 : Nat) : Int)) by decide +kernel] at w1
    refine ⟨(by show 2 ≤ sizeLine; decide), fun tl htl => ?_⟩
    have nt := sameNew htl (o := .lst [.ref v0, .ref v1])
    have w0 := (j1.trans (i1.trans nt)) _ _ w0
    have w1 := nt _ _ w1
    have eT : upd I1 tl (.lst [.ref v0, .ref v1]) tl = some (.lst [.ref v0, .ref v1]) := upd_same
    generalize upd I1 tl (.lst [.ref v0, .ref v1]) = HT at nt w0 w1 eT ⊢
    clear nt htl ej0 rj0 ej1 rj1 j0 i0 j1 i1
    refine ⟨_, rfl, .inl ⟨rfl, _, SqL.of eT⟩, ?_⟩
    refine cons_in (call_in (con_in (con_in (cons_in (lst_of (rs := [[.str "jump", .int 1]]) (.cons (.con (.con (.nil))) (len_ok rfl) (.nil)) (len_ok rfl) fun l2 ts2 J2 _ j2 ej2 rj2 => ?_)))))
    refine ⟨0, .int 2, .ref l2, _, rfl, .d0 (n := 2) ej2 rj2 (by decide) (fun r m => one (rowIs_jump 1) m), fun v2 I2 i2 w2 => ?_⟩
    rw [show res0 2 [[.str "jump", .int 1]] = none by decide +kernel] at w2
    have w0 := (j2.trans i2) _ _ w0
    have w1 := (j2.trans i2) _ _ w1
    have eT := (j2.trans i2) _ _ eT
    refine ⟨_, _, _, rfl, rfl, eT, small1000 (by show 2 ≤ 1000; decide), ?_⟩
    have nv : ∀ {v : Addr} {r : Option (Nat × V)}, I2 v = some (.lst (toldL r)) → (upd I2 tl (.lst ([.ref v0, .ref v1] ++ [.ref v2]))) v = some (.lst (toldL r)) := fun {v r} e => (upd_ne (fun z => by
      rw [z, eT] at e
      match r, e with
      | none, e => exact nomatch (List.cons.inj (HO.lst.inj (Option.some.inj e))).1
      | some (_, _), e => exact nomatch (List.cons.inj (HO.lst.inj (Option.some.inj e))).1)).trans e
    have w0 := nv w0
    have w1 := nv w1
    have w2 := nv w2
    have eT : (upd I2 tl (.lst ([.ref v0, .ref v1] ++ [.ref v2]))) tl = some (.lst [.ref v0, .ref v1, .ref v2]) := upd_same
    clear nv ej2 rj2 j2 i2
    generalize upd I2 tl (.lst ([.ref v0, .ref v1] ++ [.ref v2])) = HU at w0 w1 w2 eT ⊢
    dsimp only
    refine opl (call_in (con_in (con_in (cons_in (lst_of (rs := [[.str "stop"], []]) (.cons (.con (.nil)) (len_ok rfl) (.cons (.nil) (len_ok rfl) (.nil))) (len_ok rfl) fun l3 ts3 J3 _ j3 ej3 rj3 => ?_)))))
    refine ⟨0, .int 1, .ref l3, _, rfl, .d0 (n := 1) ej3 rj3 (by decide) (fun r m => two (rowIs_strs "stop" [] (by decide)) (rowIs_nil) m), fun v3 I3 i3 w3 => ?_⟩
    rw [show res0 1 [[.str "stop"], []] = some (6, .int ((1 : Nat) : Int)) by decide +kernel] at w3
    have w0 := (j3.trans i3) _ _ w0
    have w1 := (j3.trans i3) _ _ w1
    have w2 := (j3.trans i3) _ _ w2
    have eT := (j3.trans i3) _ _ eT
    refine lstc_of (xs := [.str "program", .int 1]) (.con (.con .nil)) (len_ok rfl) fun l9 H9 _ s9 e9 => ?_
    refine ⟨(.list [.str "program", .int 1]), (.list [.str "program", .int 1]), .lst (SqL.of (s9 _ _ w3)) (.cons (.str _) (.cons (.int _) .nil)), .lst (SqL.of e9) (.cons (.str _) (.cons (.int _) .nil)), by decide +kernel, by decide +kernel, _, rfl, ?_⟩
    refine tF (by decide +kernel) ?_
    have w0 := s9 _ _ w0
    have w1 := s9 _ _ w1
    have w2 := s9 _ _ w2
    have eT := s9 _ _ eT
    refine ⟨_, rfl, (by show 2 ≤ sizeLine; decide), fun b0 h0 => ⟨(by show 2 ≤ sizeLine; decide), fun b1 h1 => ⟨(by show 2 ≤ sizeLine; decide), fun b2 h2 => ⟨(by show 3 ≤ sizeLine; decide), fun b3 h3 => ?_⟩⟩⟩⟩
    have t3 := sameNew h3 (o := .lst [.ref b0, .ref b1, .ref b2])
    have t2 := (sameNew h2 (o := .lst [.str "none", .non])).trans t3
    have t1 := (sameNew h1 (o := .lst [.str "program", .int 1])).trans t2
    have t0 := (sameNew h0 (o := .lst [.str "program", .int 0])).trans t1
    refine ⟨.list [(.list [.str "program", .int 0]), (.list [.str "program", .int 1]), (.list [.str "none", .none])], .list [(.list [.str "program", .int 0]), (.list [.str "program", .int 1]), (.list [.str "none", .none])], .lst (SqL.of (t0 _ _ eT)) (.cons (.lst (SqL.of (t0 _ _ w0)) (.cons (.str _) (.cons (.int _) .nil))) (.cons (.lst (SqL.of (t0 _ _ w1)) (.cons (.str _) (.cons (.int _) .nil))) (.cons (.lst (SqL.of (t0 _ _ w2)) (.cons (.str _) (.cons .non .nil))) .nil))), .lst (SqL.of upd_same) (.cons (.lst (SqL.of (t1 _ _ upd_same)) (.cons (.str _) (.cons (.int _) .nil))) (.cons (.lst (SqL.of (t2 _ _ upd_same)) (.cons (.str _) (.cons (.int _) .nil))) (.cons (.lst (SqL.of (t3 _ _ upd_same)) (.cons (.str _) (.cons .non .nil))) .nil))), by decide +kernel, by decide +kernel, ?_⟩
    rw [show PyData.eqv (.list [(.list [.str "program", .int 0]), (.list [.str "program", .int 1]), (.list [.str "none", .none])]) (.list [(.list [.str "program", .int 0]), (.list [.str "program", .int 1]), (.list [.str "none", .none])]) = true by decide +kernel]
    exact k _
end
/-! ### the end -/
theorem all_mk {l : PySem.W.OpenLaw} {w : World} {K : PySem.W.Frag} {h : Heap} {mg : Str → Option Value} {fa : Addr} (X : K.In h) (G : h.Ns mainGlobals mg) (hfa : mg "law" = some (.ref fa))
    {oc_Program : Addr} (aC_Program : PySem.W.nsIn K mainGlobals "Program" = some (some (.ref oc_Program)))
    {f0 : Addr} {od0 an0 : Option Addr} {sl0 : Array (Option Value)} {oc0 kV0 dc0 pm0 cd0 ct0 : Value}
    {f1 : Addr} {od1 an1 : Option Addr} {sl1 : Array (Option Value)} {oc1 kV1 dc1 pm1 cd1 ct1 : Value}
    {f2 : Addr} {od2 an2 : Option Addr} {sl2 : Array (Option Value)} {oc2 kV2 dc2 pm2 cd2 ct2 : Value}
    {f3 : Addr} {od3 an3 : Option Addr} {sl3 : Array (Option Value)} {oc3 kV3 dc3 pm3 cd3 ct3 : Value}
    {f4 : Addr} {od4 an4 : Option Addr} {sl4 : Array (Option Value)} {oc4 kV4 dc4 pm4 cd4 ct4 : Value}
    {f5 : Addr} {od5 an5 : Option Addr} {sl5 : Array (Option Value)} {oc5 kV5 dc5 pm5 cd5 ct5 : Value}
    {f6 : Addr} {od6 an6 : Option Addr} {sl6 : Array (Option Value)} {oc6 kV6 dc6 pm6 cd6 ct6 : Value}
    {f7 : Addr} {od7 an7 : Option Addr} {sl7 : Array (Option Value)} {oc7 kV7 dc7 pm7 cd7 ct7 : Value}
    {f8 : Addr} {od8 an8 : Option Addr} {sl8 : Array (Option Value)} {oc8 kV8 dc8 pm8 cd8 ct8 : Value}
    {f9 : Addr} {od9 an9 : Option Addr} {sl9 : Array (Option Value)} {oc9 kV9 dc9 pm9 cd9 ct9 : Value}
    {f10 : Addr} {od10 an10 : Option Addr} {sl10 : Array (Option Value)} {oc10 kV10 dc10 pm10 cd10 ct10 : Value}
    {f11 : Addr} {od11 an11 : Option Addr} {sl11 : Array (Option Value)} {oc11 kV11 dc11 pm11 cd11 ct11 : Value}
    {f12 : Addr} {od12 an12 : Option Addr} {sl12 : Array (Option Value)} {oc12 kV12 dc12 pm12 cd12 ct12 : Value}
    {f13 : Addr} {od13 an13 : Option Addr} {sl13 : Array (Option Value)} {oc13 kV13 dc13 pm13 cd13 ct13 : Value}
    {f14 : Addr} {od14 an14 : Option Addr} {sl14 : Array (Option Value)} {oc14 kV14 dc14 pm14 cd14 ct14 : Value}
    {f15 : Addr} {od15 an15 : Option Addr} {sl15 : Array (Option Value)} {oc15 kV15 dc15 pm15 cd15 ct15 : Value}
    {f16 : Addr} {od16 an16 : Option Addr} {sl16 : Array (Option Value)} {oc16 kV16 dc16 pm16 cd16 ct16 : Value}
    {f17 : Addr} {od17 an17 : Option Addr} {sl17 : Array (Option Value)} {oc17 kV17 dc17 pm17 cd17 ct17 : Value}
    {f18 : Addr} {od18 an18 : Option Addr} {sl18 : Array (Option Value)} {oc18 kV18 dc18 pm18 cd18 ct18 : Value}
    {f19 : Addr} {od19 an19 : Option Addr} {sl19 : Array (Option Value)} {oc19 kV19 dc19 pm19 cd19 ct19 : Value}
    {f20 : Addr} {od20 an20 : Option Addr} {sl20 : Array (Option Value)} {oc20 kV20 dc20 pm20 cd20 ct20 : Value}
    (a0 : PySem.W.nsIn K mainGlobals "register_names" = some (some (.ref f0)))
    (l0 : K.lookup f0 = some ⟨oc0, od0, .func (PySem.W.fnOf "register_names" "register_names" (defArgs s_register_names) (defBody s_register_names) (defScope s_register_names) .none kV0 dc0 pm0 an0 cd0 ct0), sl0⟩) (c0 : PySem.W.codeIn K cd0 "register_names" = true) (k0 : PySem.W.keepIn K (.ref f0) = true)
    (a1 : PySem.W.nsIn K mainGlobals "parts_of" = some (some (.ref f1)))
    (l1 : K.lookup f1 = some ⟨oc1, od1, .func (PySem.W.fnOf "parts_of" "parts_of" (defArgs s_parts_of) (defBody s_parts_of) (defScope s_parts_of) .none kV1 dc1 pm1 an1 cd1 ct1), sl1⟩) (c1 : PySem.W.codeIn K cd1 "parts_of" = true) (k1 : PySem.W.keepIn K (.ref f1) = true)
    (a2 : PySem.W.findIn K (.ref oc_Program) "__init__" = some (some (.ref f2))) (i2 : PySem.W.isFn K (.ref f2) = true)
    (l2 : K.lookup f2 = some ⟨oc2, od2, .func (PySem.W.fnOf "__init__" "Program.__init__" (defArgs s_Program___init) (defBody s_Program___init) (defScope s_Program___init) .none kV2 dc2 pm2 an2 cd2 ct2), sl2⟩) (c2 : PySem.W.codeIn K cd2 "Program.__init__" = true) (k2 : PySem.W.keepIn K (.ref f2) = true)
    (a3 : PySem.W.findIn K (.ref oc_Program) "__len__" = some (some (.ref f3))) (i3 : PySem.W.isFn K (.ref f3) = true)
    (l3 : K.lookup f3 = some ⟨oc3, od3, .func (PySem.W.fnOf "__len__" "Program.__len__" (defArgs s_Program___len) (defBody s_Program___len) (defScope s_Program___len) .none kV3 dc3 pm3 an3 cd3 ct3), sl3⟩) (c3 : PySem.W.codeIn K cd3 "Program.__len__" = true) (k3 : PySem.W.keepIn K (.ref f3) = true)
    (a4 : PySem.W.findIn K (.ref oc_Program) "__add__" = some (some (.ref f4))) (i4 : PySem.W.isFn K (.ref f4) = true)
    (l4 : K.lookup f4 = some ⟨oc4, od4, .func (PySem.W.fnOf "__add__" "Program.__add__" (defArgs s_Program___add) (defBody s_Program___add) (defScope s_Program___add) .none kV4 dc4 pm4 an4 cd4 ct4), sl4⟩) (c4 : PySem.W.codeIn K cd4 "Program.__add__" = true) (k4 : PySem.W.keepIn K (.ref f4) = true)
    (a5 : PySem.W.findIn K (.ref oc_Program) "without" = some (some (.ref f5))) (i5 : PySem.W.isFn K (.ref f5) = true)
    (l5 : K.lookup f5 = some ⟨oc5, od5, .func (PySem.W.fnOf "without" "Program.without" (defArgs s_Program_without) (defBody s_Program_without) (defScope s_Program_without) .none kV5 dc5 pm5 an5 cd5 ct5), sl5⟩) (c5 : PySem.W.codeIn K cd5 "Program.without" = true) (k5 : PySem.W.keepIn K (.ref f5) = true)
    (a6 : PySem.W.nsIn K mainGlobals "_is_row" = some (some (.ref f6)))
    (l6 : K.lookup f6 = some ⟨oc6, od6, .func (PySem.W.fnOf "_is_row" "_is_row" (defArgs s_is_row) (defBody s_is_row) (defScope s_is_row) .none kV6 dc6 pm6 an6 cd6 ct6), sl6⟩) (c6 : PySem.W.codeIn K cd6 "_is_row" = true) (k6 : PySem.W.keepIn K (.ref f6) = true)
    (a7 : PySem.W.nsIn K mainGlobals "_is_item" = some (some (.ref f7)))
    (l7 : K.lookup f7 = some ⟨oc7, od7, .func (PySem.W.fnOf "_is_item" "_is_item" (defArgs s_is_item) (defBody s_is_item) (defScope s_is_item) .none kV7 dc7 pm7 an7 cd7 ct7), sl7⟩) (c7 : PySem.W.codeIn K cd7 "_is_item" = true) (k7 : PySem.W.keepIn K (.ref f7) = true)
    (a8 : PySem.W.nsIn K mainGlobals "_placed_row" = some (some (.ref f8)))
    (l8 : K.lookup f8 = some ⟨oc8, od8, .func (PySem.W.fnOf "_placed_row" "_placed_row" (defArgs s_placed_row) (defBody s_placed_row) (defScope s_placed_row) .none kV8 dc8 pm8 an8 cd8 ct8), sl8⟩) (c8 : PySem.W.codeIn K cd8 "_placed_row" = true) (k8 : PySem.W.keepIn K (.ref f8) = true)
    (a9 : PySem.W.nsIn K mainGlobals "_placed_item" = some (some (.ref f9)))
    (l9 : K.lookup f9 = some ⟨oc9, od9, .func (PySem.W.fnOf "_placed_item" "_placed_item" (defArgs s_placed_item) (defBody s_placed_item) (defScope s_placed_item) .none kV9 dc9 pm9 an9 cd9 ct9), sl9⟩) (c9 : PySem.W.codeIn K cd9 "_placed_item" = true) (k9 : PySem.W.keepIn K (.ref f9) = true)
    (a10 : PySem.W.nsIn K mainGlobals "_with_moved_target" = some (some (.ref f10)))
    (l10 : K.lookup f10 = some ⟨oc10, od10, .func (PySem.W.fnOf "_with_moved_target" "_with_moved_target" (defArgs s_with_moved_target) (defBody s_with_moved_target) (defScope s_with_moved_target) .none kV10 dc10 pm10 an10 cd10 ct10), sl10⟩) (c10 : PySem.W.codeIn K cd10 "_with_moved_target" = true) (k10 : PySem.W.keepIn K (.ref f10) = true)
    (a11 : PySem.W.nsIn K mainGlobals "_law_pool" = some (some (.ref f11)))
    (l11 : K.lookup f11 = some ⟨oc11, od11, .func (PySem.W.fnOf "_law_pool" "_law_pool" (defArgs s_law_pool) (defBody s_law_pool) (defScope s_law_pool) .none kV11 dc11 pm11 an11 cd11 ct11), sl11⟩) (c11 : PySem.W.codeIn K cd11 "_law_pool" = true) (k11 : PySem.W.keepIn K (.ref f11) = true)
    (a12 : PySem.W.nsIn K mainGlobals "_law_draw" = some (some (.ref f12)))
    (l12 : K.lookup f12 = some ⟨oc12, od12, .func (PySem.W.fnOf "_law_draw" "_law_draw" (defArgs s_law_draw) (defBody s_law_draw) (defScope s_law_draw) .none kV12 dc12 pm12 an12 cd12 ct12), sl12⟩) (c12 : PySem.W.codeIn K cd12 "_law_draw" = true) (k12 : PySem.W.keepIn K (.ref f12) = true)
    (a13 : PySem.W.nsIn K mainGlobals "_law_conds" = some (some (.ref f13)))
    (l13 : K.lookup f13 = some ⟨oc13, od13, .func (PySem.W.fnOf "_law_conds" "_law_conds" (defArgs s_law_conds) (defBody s_law_conds) (defScope s_law_conds) .none kV13 dc13 pm13 an13 cd13 ct13), sl13⟩) (c13 : PySem.W.codeIn K cd13 "_law_conds" = true) (k13 : PySem.W.keepIn K (.ref f13) = true)
    (a14 : PySem.W.nsIn K mainGlobals "_law_code" = some (some (.ref f14)))
    (l14 : K.lookup f14 = some ⟨oc14, od14, .func (PySem.W.fnOf "_law_code" "_law_code" (defArgs s_law_code) (defBody s_law_code) (defScope s_law_code) .none kV14 dc14 pm14 an14 cd14 ct14), sl14⟩) (c14 : PySem.W.codeIn K cd14 "_law_code" = true) (k14 : PySem.W.keepIn K (.ref f14) = true)
    (a15 : PySem.W.nsIn K mainGlobals "_law_kind" = some (some (.ref f15)))
    (l15 : K.lookup f15 = some ⟨oc15, od15, .func (PySem.W.fnOf "_law_kind" "_law_kind" (defArgs s_law_kind) (defBody s_law_kind) (defScope s_law_kind) .none kV15 dc15 pm15 an15 cd15 ct15), sl15⟩) (c15 : PySem.W.codeIn K cd15 "_law_kind" = true) (k15 : PySem.W.keepIn K (.ref f15) = true)
    (a16 : PySem.W.nsIn K mainGlobals "_law_told" = some (some (.ref f16)))
    (l16 : K.lookup f16 = some ⟨oc16, od16, .func (PySem.W.fnOf "_law_told" "_law_told" (defArgs s_law_told) (defBody s_law_told) (defScope s_law_told) .none kV16 dc16 pm16 an16 cd16 ct16), sl16⟩) (c16 : PySem.W.codeIn K cd16 "_law_told" = true) (k16 : PySem.W.keepIn K (.ref f16) = true)
    (a17 : PySem.W.nsIn K mainGlobals "_law_wrong_row" = some (some (.ref f17)))
    (l17 : K.lookup f17 = some ⟨oc17, od17, .func (PySem.W.fnOf "_law_wrong_row" "_law_wrong_row" (defArgs s_law_wrong_row) (defBody s_law_wrong_row) (defScope s_law_wrong_row) .none kV17 dc17 pm17 an17 cd17 ct17), sl17⟩) (c17 : PySem.W.codeIn K cd17 "_law_wrong_row" = true) (k17 : PySem.W.keepIn K (.ref f17) = true)
    (a18 : PySem.W.nsIn K mainGlobals "_law_is_row" = some (some (.ref f18)))
    (l18 : K.lookup f18 = some ⟨oc18, od18, .func (PySem.W.fnOf "_law_is_row" "_law_is_row" (defArgs s_law_is_row) (defBody s_law_is_row) (defScope s_law_is_row) .none kV18 dc18 pm18 an18 cd18 ct18), sl18⟩) (c18 : PySem.W.codeIn K cd18 "_law_is_row" = true) (k18 : PySem.W.keepIn K (.ref f18) = true)
    (a19 : PySem.W.nsIn K mainGlobals "_law_right" = some (some (.ref f19)))
    (l19 : K.lookup f19 = some ⟨oc19, od19, .func (PySem.W.fnOf "_law_right" "_law_right" (defArgs s_law_right) (defBody s_law_right) (defScope s_law_right) .none kV19 dc19 pm19 an19 cd19 ct19), sl19⟩) (c19 : PySem.W.codeIn K cd19 "_law_right" = true) (k19 : PySem.W.keepIn K (.ref f19) = true)
    (a20 : PySem.W.nsIn K mainGlobals "law" = some (some (.ref f20)))
    (l20 : K.lookup f20 = some ⟨oc20, od20, .func (PySem.W.fnOf "law" "law" (defArgs s_law) (defBody s_law) (defScope s_law) .none kV20 dc20 pm20 an20 cd20 ct20), sl20⟩) (c20 : PySem.W.codeIn K cd20 "law" = true) (k20 : PySem.W.keepIn K (.ref f20) = true)
    (pg_Program : PySem.W.plainGet K oc_Program Str.empty = true) (hd_Program : PySem.W.hasDictIn K oc_Program = true) (po_Program : PySem.W.plainOver K oc_Program = true) (sa_Program : PySem.W.findIn K (.ref oc_Program) "__setattr__" = some (some (.builtin "object.__setattr__"))) (mk_Program : PySem.W.makesIn K oc_Program = true) (kc_Program : PySem.W.keepIn K (.ref oc_Program) = true)
    (nf_Program__inputs : PySem.W.findIn K (.ref oc_Program) "_inputs" = some none) (nf_Program__rows : PySem.W.findIn K (.ref oc_Program) "_rows" = some none) (nf_Program__placed : PySem.W.findIn K (.ref oc_Program) "_placed" = some none)
    (ta_Program : PySem.W.findIn K (.ref oc_Program) "__class__" = some (some (.builtin "object.__class__"))) (tm_Program : PySem.W.mroIn K oc_Program (.type "object") = some true) (to_Program : PySem.W.kitOne K (.ref oc_Program) (.ref oc_Program) = some true) (sf_Program : PySem.W.selfFirst K oc_Program = true)
    (tg : PySem.W.specialIn K (.builtin "object.__class__") "__get__" = some (some (.builtin "getset_descriptor.__get__"))) (tt : PySem.W.takesIn K (.builtin "object.__class__") = some true)
    (z_ValueError : PySem.W.nsIn K mainGlobals "ValueError" = some none)
    (z_abs : PySem.W.nsIn K mainGlobals "abs" = some none)
    (z_all : PySem.W.nsIn K mainGlobals "all" = some none)
    (z_enumerate : PySem.W.nsIn K mainGlobals "enumerate" = some none)
    (z_int : PySem.W.nsIn K mainGlobals "int" = some none)
    (z_isinstance : PySem.W.nsIn K mainGlobals "isinstance" = some none)
    (z_len : PySem.W.nsIn K mainGlobals "len" = some none)
    (z_list : PySem.W.nsIn K mainGlobals "list" = some none)
    (z_max : PySem.W.nsIn K mainGlobals "max" = some none)
    (z_min : PySem.W.nsIn K mainGlobals "min" = some none)
    (z_range : PySem.W.nsIn K mainGlobals "range" = some none)
    (z_str : PySem.W.nsIn K mainGlobals "str" = some none)
    (z_tuple : PySem.W.nsIn K mainGlobals "tuple" = some none)
    (z_type : PySem.W.nsIn K mainGlobals "type" = some none)
    (z_zip : PySem.W.nsIn K mainGlobals "zip" = some none)
    {vv_CONDITIONS : Addr} (av_CONDITIONS : PySem.W.nsIn K mainGlobals "CONDITIONS" = some (some (.ref vv_CONDITIONS)))
    {es_CONDITIONS : Array DictEntry} {nn_CONDITIONS : Nat} (lk_CONDITIONS : K.lookup vv_CONDITIONS = some ⟨.type "dict", none, .dict es_CONDITIONS nn_CONDITIONS, #[]⟩) (kk_CONDITIONS : es_CONDITIONS.toList.map He.keyOf = He.keysIn w.params ["e", "ne", "l", "le", "g", "ge", "b", "be", "a", "ae", "same", "mixed"]) (lo_CONDITIONS : (vv_CONDITIONS == sysModules) = false)
    {pp_CONDITIONS_0 : Addr} {pp_CONDITIONS_1 : Addr} {pp_CONDITIONS_2 : Addr} {pp_CONDITIONS_3 : Addr} {pp_CONDITIONS_4 : Addr} {pp_CONDITIONS_5 : Addr} {pp_CONDITIONS_6 : Addr} {pp_CONDITIONS_7 : Addr} {pp_CONDITIONS_8 : Addr} {pp_CONDITIONS_9 : Addr} {pp_CONDITIONS_10 : Addr} {pp_CONDITIONS_11 : Addr} (vl_CONDITIONS : es_CONDITIONS.toList.map (·.val) = [.ref pp_CONDITIONS_0, .ref pp_CONDITIONS_1, .ref pp_CONDITIONS_2, .ref pp_CONDITIONS_3, .ref pp_CONDITIONS_4, .ref pp_CONDITIONS_5, .ref pp_CONDITIONS_6, .ref pp_CONDITIONS_7, .ref pp_CONDITIONS_8, .ref pp_CONDITIONS_9, .ref pp_CONDITIONS_10, .ref pp_CONDITIONS_11])
    {oo_CONDITIONS_0 : Obj} {it_CONDITIONS_0 : Array Value} {nn_CONDITIONS_0 : Nat} (lk_CONDITIONS_0 : K.lookup pp_CONDITIONS_0 = some oo_CONDITIONS_0) (cl_CONDITIONS_0 : oo_CONDITIONS_0.cls = .type "tuple") (dt_CONDITIONS_0 : oo_CONDITIONS_0.data = .seq it_CONDITIONS_0 nn_CONDITIONS_0) (el_CONDITIONS_0 : it_CONDITIONS_0.toList.map strV = (["E"] : List Str).map some)
    {oo_CONDITIONS_1 : Obj} {it_CONDITIONS_1 : Array Value} {nn_CONDITIONS_1 : Nat} (lk_CONDITIONS_1 : K.lookup pp_CONDITIONS_1 = some oo_CONDITIONS_1) (cl_CONDITIONS_1 : oo_CONDITIONS_1.cls = .type "tuple") (dt_CONDITIONS_1 : oo_CONDITIONS_1.data = .seq it_CONDITIONS_1 nn_CONDITIONS_1) (el_CONDITIONS_1 : it_CONDITIONS_1.toList.map strV = (["LB", "GA", "GB", "LA"] : List Str).map some)
    {oo_CONDITIONS_2 : Obj} {it_CONDITIONS_2 : Array Value} {nn_CONDITIONS_2 : Nat} (lk_CONDITIONS_2 : K.lookup pp_CONDITIONS_2 = some oo_CONDITIONS_2) (cl_CONDITIONS_2 : oo_CONDITIONS_2.cls = .type "tuple") (dt_CONDITIONS_2 : oo_CONDITIONS_2.data = .seq it_CONDITIONS_2 nn_CONDITIONS_2) (el_CONDITIONS_2 : it_CONDITIONS_2.toList.map strV = (["LB", "LA"] : List Str).map some)
    {oo_CONDITIONS_3 : Obj} {it_CONDITIONS_3 : Array Value} {nn_CONDITIONS_3 : Nat} (lk_CONDITIONS_3 : K.lookup pp_CONDITIONS_3 = some oo_CONDITIONS_3) (cl_CONDITIONS_3 : oo_CONDITIONS_3.cls = .type "tuple") (dt_CONDITIONS_3 : oo_CONDITIONS_3.data = .seq it_CONDITIONS_3 nn_CONDITIONS_3) (el_CONDITIONS_3 : it_CONDITIONS_3.toList.map strV = (["E", "LB", "LA"] : List Str).map some)
    {oo_CONDITIONS_4 : Obj} {it_CONDITIONS_4 : Array Value} {nn_CONDITIONS_4 : Nat} (lk_CONDITIONS_4 : K.lookup pp_CONDITIONS_4 = some oo_CONDITIONS_4) (cl_CONDITIONS_4 : oo_CONDITIONS_4.cls = .type "tuple") (dt_CONDITIONS_4 : oo_CONDITIONS_4.data = .seq it_CONDITIONS_4 nn_CONDITIONS_4) (el_CONDITIONS_4 : it_CONDITIONS_4.toList.map strV = (["GA", "GB"] : List Str).map some)
    {oo_CONDITIONS_5 : Obj} {it_CONDITIONS_5 : Array Value} {nn_CONDITIONS_5 : Nat} (lk_CONDITIONS_5 : K.lookup pp_CONDITIONS_5 = some oo_CONDITIONS_5) (cl_CONDITIONS_5 : oo_CONDITIONS_5.cls = .type "tuple") (dt_CONDITIONS_5 : oo_CONDITIONS_5.data = .seq it_CONDITIONS_5 nn_CONDITIONS_5) (el_CONDITIONS_5 : it_CONDITIONS_5.toList.map strV = (["E", "GA", "GB"] : List Str).map some)
    {oo_CONDITIONS_6 : Obj} {it_CONDITIONS_6 : Array Value} {nn_CONDITIONS_6 : Nat} (lk_CONDITIONS_6 : K.lookup pp_CONDITIONS_6 = some oo_CONDITIONS_6) (cl_CONDITIONS_6 : oo_CONDITIONS_6.cls = .type "tuple") (dt_CONDITIONS_6 : oo_CONDITIONS_6.data = .seq it_CONDITIONS_6 nn_CONDITIONS_6) (el_CONDITIONS_6 : it_CONDITIONS_6.toList.map strV = (["LB", "GB"] : List Str).map some)
    {oo_CONDITIONS_7 : Obj} {it_CONDITIONS_7 : Array Value} {nn_CONDITIONS_7 : Nat} (lk_CONDITIONS_7 : K.lookup pp_CONDITIONS_7 = some oo_CONDITIONS_7) (cl_CONDITIONS_7 : oo_CONDITIONS_7.cls = .type "tuple") (dt_CONDITIONS_7 : oo_CONDITIONS_7.data = .seq it_CONDITIONS_7 nn_CONDITIONS_7) (el_CONDITIONS_7 : it_CONDITIONS_7.toList.map strV = (["E", "LB", "GB"] : List Str).map some)
    {oo_CONDITIONS_8 : Obj} {it_CONDITIONS_8 : Array Value} {nn_CONDITIONS_8 : Nat} (lk_CONDITIONS_8 : K.lookup pp_CONDITIONS_8 = some oo_CONDITIONS_8) (cl_CONDITIONS_8 : oo_CONDITIONS_8.cls = .type "tuple") (dt_CONDITIONS_8 : oo_CONDITIONS_8.data = .seq it_CONDITIONS_8 nn_CONDITIONS_8) (el_CONDITIONS_8 : it_CONDITIONS_8.toList.map strV = (["GA", "LA"] : List Str).map some)
    {oo_CONDITIONS_9 : Obj} {it_CONDITIONS_9 : Array Value} {nn_CONDITIONS_9 : Nat} (lk_CONDITIONS_9 : K.lookup pp_CONDITIONS_9 = some oo_CONDITIONS_9) (cl_CONDITIONS_9 : oo_CONDITIONS_9.cls = .type "tuple") (dt_CONDITIONS_9 : oo_CONDITIONS_9.data = .seq it_CONDITIONS_9 nn_CONDITIONS_9) (el_CONDITIONS_9 : it_CONDITIONS_9.toList.map strV = (["E", "GA", "LA"] : List Str).map some)
    {oo_CONDITIONS_10 : Obj} {it_CONDITIONS_10 : Array Value} {nn_CONDITIONS_10 : Nat} (lk_CONDITIONS_10 : K.lookup pp_CONDITIONS_10 = some oo_CONDITIONS_10) (cl_CONDITIONS_10 : oo_CONDITIONS_10.cls = .type "tuple") (dt_CONDITIONS_10 : oo_CONDITIONS_10.data = .seq it_CONDITIONS_10 nn_CONDITIONS_10) (el_CONDITIONS_10 : it_CONDITIONS_10.toList.map strV = (["E", "LB", "GA"] : List Str).map some)
    {oo_CONDITIONS_11 : Obj} {it_CONDITIONS_11 : Array Value} {nn_CONDITIONS_11 : Nat} (lk_CONDITIONS_11 : K.lookup pp_CONDITIONS_11 = some oo_CONDITIONS_11) (cl_CONDITIONS_11 : oo_CONDITIONS_11.cls = .type "tuple") (dt_CONDITIONS_11 : oo_CONDITIONS_11.data = .seq it_CONDITIONS_11 nn_CONDITIONS_11) (el_CONDITIONS_11 : it_CONDITIONS_11.toList.map strV = (["GB", "LA"] : List Str).map some)
    {vv_INPUT_NAMES : Addr} (av_INPUT_NAMES : PySem.W.nsIn K mainGlobals "INPUT_NAMES" = some (some (.ref vv_INPUT_NAMES)))
    {oo_INPUT_NAMES : Obj} {it_INPUT_NAMES : Array Value} {nn_INPUT_NAMES : Nat} (lk_INPUT_NAMES : K.lookup vv_INPUT_NAMES = some oo_INPUT_NAMES) (cl_INPUT_NAMES : oo_INPUT_NAMES.cls = .type "tuple") (dt_INPUT_NAMES : oo_INPUT_NAMES.data = .seq it_INPUT_NAMES nn_INPUT_NAMES) (el_INPUT_NAMES : it_INPUT_NAMES.toList.map strV = (["p", "q", "r", "s"] : List Str).map some)
    {vv_OTHER_NAMES : Addr} (av_OTHER_NAMES : PySem.W.nsIn K mainGlobals "OTHER_NAMES" = some (some (.ref vv_OTHER_NAMES)))
    {oo_OTHER_NAMES : Obj} {it_OTHER_NAMES : Array Value} {nn_OTHER_NAMES : Nat} (lk_OTHER_NAMES : K.lookup vv_OTHER_NAMES = some oo_OTHER_NAMES) (cl_OTHER_NAMES : oo_OTHER_NAMES.cls = .type "tuple") (dt_OTHER_NAMES : oo_OTHER_NAMES.data = .seq it_OTHER_NAMES nn_OTHER_NAMES) (el_OTHER_NAMES : it_OTHER_NAMES.toList.map strV = (["x", "y"] : List Str).map some)
    {vv_FORMS : Addr} (av_FORMS : PySem.W.nsIn K mainGlobals "FORMS" = some (some (.ref vv_FORMS)))
    {es_FORMS : Array DictEntry} {nn_FORMS : Nat} (lk_FORMS : K.lookup vv_FORMS = some ⟨.type "dict", none, .dict es_FORMS nn_FORMS, #[]⟩) (kk_FORMS : es_FORMS.toList.map He.keyOf = He.keysIn w.params ["cmp", "mov", "swap", "cmov", "jump", "jif", "out", "stop"]) (lo_FORMS : (vv_FORMS == sysModules) = false)
    {tt_FORMS_0 : Tok} {tt_FORMS_1 : Tok} {tt_FORMS_2 : Tok} {tt_FORMS_3 : Tok} {tt_FORMS_4 : Tok} {tt_FORMS_5 : Tok} {tt_FORMS_6 : Tok} {tt_FORMS_7 : Tok} (vl_FORMS : es_FORMS.toList.map (·.val) = [.str "RR" tt_FORMS_0, .str "RR" tt_FORMS_1, .str "RR" tt_FORMS_2, .str "CRR" tt_FORMS_3, .str "T" tt_FORMS_4, .str "CT" tt_FORMS_5, .str "R" tt_FORMS_6, .str "" tt_FORMS_7])
    {cB : Addr} (aB : PySem.W.nsIn K mainGlobals "BranchError" = some (some (.ref cB))) (kB : PySem.W.keepIn K (.ref cB) = true) (qB : PySem.W.excIn K cB [.type "ValueError", .type "Exception", .type "BaseException", .type "object"] "ValueError.__new__" = true)
    (e1B : PySem.W.findIn K (.ref cB) "__getattribute__" = some (some (.builtin "BaseException.__getattribute__"))) (e2B : PySem.W.findIn K (.ref cB) "__getattr__" = some none) (e3B : PySem.W.subIn K (.ref cB) (.type "BaseException") = some true) (e4B : PySem.W.hasDictIn K cB = true) (e5B : PySem.W.findIn K (.ref cB) "__class__" = some (some (.builtin "object.__class__"))) (e6B : PySem.W.mroIn K cB (.type "object") = some true)
    (sg : PySem.W.specialIn K (.builtin "object.__class__") "__get__" = some (some (.builtin "getset_descriptor.__get__"))) (st : PySem.W.takesIn K (.builtin "object.__class__") = some true)
    {ce0 ie0 Ne0 : Addr} {ne0 qe0 : Str} {be0 : List Value} {se0 : List Str} {ue0 : List Value} {ve0 : Bool} {we0 : Option Bool} {xe0 : Option Addr} {ma0 mb0 mc0 md0 me0 : Option Value}
    {oi0 ai0 : Option Addr} {li0 : Array (Option Value)} {ci0 ki0 di0 pi0 gi0 ti0 : Value}
    (E1_0 : PySem.W.nsIn K mainGlobals "InvalidWidth" = some (some (.ref ce0))) (E2_0 : K.lookup ce0 = some (excClassObj ne0 qe0 ce0 Ne0 be0 [.ref cB, .type "ValueError", .type "Exception", .type "BaseException", .type "object"] true se0 ue0 ve0 we0 xe0 ma0 mb0 mc0 md0 me0 "ValueError.__new__"))
    (E3_0 : PySem.W.findIn K (.ref ce0) "__setattr__" = some (some (.builtin "object.__setattr__"))) (E4_0 : PySem.W.typeIn K (.ref ce0) = some (.type "type")) (E5_0 : PySem.W.keepIn K (.ref ce0) = true) (E6_0 : PySem.W.findIn K (.ref ce0) "value" = some none)
    (E7_0 : PySem.W.findIn K (.ref ce0) "__init__" = some (some (.ref ie0))) (E8_0 : PySem.W.typeIn K (.ref ie0) = some (.type "function")) (E9_0 : K.lookup ie0 = some ⟨ci0, oi0, .func (PySem.W.fnOf "__init__" "InvalidWidth.__init__" (defArgs s_InvalidWidth) (defBody s_InvalidWidth) (defScope s_InvalidWidth) .none ki0 di0 pi0 ai0 gi0 ti0), li0⟩) (Ea_0 : PySem.W.codeIn K gi0 "InvalidWidth.__init__" = true) (Eb_0 : PySem.W.keepIn K (.ref ie0) = true)
    (e1_0 : PySem.W.findIn K (.ref ce0) "__getattribute__" = some (some (.builtin "BaseException.__getattribute__"))) (e2_0 : PySem.W.findIn K (.ref ce0) "__getattr__" = some none) (e3_0 : PySem.W.subIn K (.ref ce0) (.type "BaseException") = some true) (e4_0 : PySem.W.hasDictIn K ce0 = true) (e5_0 : PySem.W.findIn K (.ref ce0) "__class__" = some (some (.builtin "object.__class__"))) (e6_0 : PySem.W.mroIn K ce0 (.type "object") = some true)
    {ce1 ie1 Ne1 : Addr} {ne1 qe1 : Str} {be1 : List Value} {se1 : List Str} {ue1 : List Value} {ve1 : Bool} {we1 : Option Bool} {xe1 : Option Addr} {ma1 mb1 mc1 md1 me1 : Option Value}
    {oi1 ai1 : Option Addr} {li1 : Array (Option Value)} {ci1 ki1 di1 pi1 gi1 ti1 : Value}
    (E1_1 : PySem.W.nsIn K mainGlobals "InvalidWords" = some (some (.ref ce1))) (E2_1 : K.lookup ce1 = some (excClassObj ne1 qe1 ce1 Ne1 be1 [.ref cB, .type "ValueError", .type "Exception", .type "BaseException", .type "object"] true se1 ue1 ve1 we1 xe1 ma1 mb1 mc1 md1 me1 "ValueError.__new__"))
    (E3_1 : PySem.W.findIn K (.ref ce1) "__setattr__" = some (some (.builtin "object.__setattr__"))) (E4_1 : PySem.W.typeIn K (.ref ce1) = some (.type "type")) (E5_1 : PySem.W.keepIn K (.ref ce1) = true) (E6_1 : PySem.W.findIn K (.ref ce1) "value" = some none)
    (E7_1 : PySem.W.findIn K (.ref ce1) "__init__" = some (some (.ref ie1))) (E8_1 : PySem.W.typeIn K (.ref ie1) = some (.type "function")) (E9_1 : K.lookup ie1 = some ⟨ci1, oi1, .func (PySem.W.fnOf "__init__" "InvalidWords.__init__" (defArgs s_InvalidWords) (defBody s_InvalidWords) (defScope s_InvalidWords) .none ki1 di1 pi1 ai1 gi1 ti1), li1⟩) (Ea_1 : PySem.W.codeIn K gi1 "InvalidWords.__init__" = true) (Eb_1 : PySem.W.keepIn K (.ref ie1) = true)
    (e1_1 : PySem.W.findIn K (.ref ce1) "__getattribute__" = some (some (.builtin "BaseException.__getattribute__"))) (e2_1 : PySem.W.findIn K (.ref ce1) "__getattr__" = some none) (e3_1 : PySem.W.subIn K (.ref ce1) (.type "BaseException") = some true) (e4_1 : PySem.W.hasDictIn K ce1 = true) (e5_1 : PySem.W.findIn K (.ref ce1) "__class__" = some (some (.builtin "object.__class__"))) (e6_1 : PySem.W.mroIn K ce1 (.type "object") = some true)
    {ce2 ie2 Ne2 : Addr} {ne2 qe2 : Str} {be2 : List Value} {se2 : List Str} {ue2 : List Value} {ve2 : Bool} {we2 : Option Bool} {xe2 : Option Addr} {ma2 mb2 mc2 md2 me2 : Option Value}
    {oi2 ai2 : Option Addr} {li2 : Array (Option Value)} {ci2 ki2 di2 pi2 gi2 ti2 : Value}
    (E1_2 : PySem.W.nsIn K mainGlobals "InvalidOutcome" = some (some (.ref ce2))) (E2_2 : K.lookup ce2 = some (excClassObj ne2 qe2 ce2 Ne2 be2 [.ref cB, .type "ValueError", .type "Exception", .type "BaseException", .type "object"] true se2 ue2 ve2 we2 xe2 ma2 mb2 mc2 md2 me2 "ValueError.__new__"))
    (E3_2 : PySem.W.findIn K (.ref ce2) "__setattr__" = some (some (.builtin "object.__setattr__"))) (E4_2 : PySem.W.typeIn K (.ref ce2) = some (.type "type")) (E5_2 : PySem.W.keepIn K (.ref ce2) = true) (E6_2 : PySem.W.findIn K (.ref ce2) "value" = some none)
    (E7_2 : PySem.W.findIn K (.ref ce2) "__init__" = some (some (.ref ie2))) (E8_2 : PySem.W.typeIn K (.ref ie2) = some (.type "function")) (E9_2 : K.lookup ie2 = some ⟨ci2, oi2, .func (PySem.W.fnOf "__init__" "InvalidOutcome.__init__" (defArgs s_InvalidOutcome) (defBody s_InvalidOutcome) (defScope s_InvalidOutcome) .none ki2 di2 pi2 ai2 gi2 ti2), li2⟩) (Ea_2 : PySem.W.codeIn K gi2 "InvalidOutcome.__init__" = true) (Eb_2 : PySem.W.keepIn K (.ref ie2) = true)
    (e1_2 : PySem.W.findIn K (.ref ce2) "__getattribute__" = some (some (.builtin "BaseException.__getattribute__"))) (e2_2 : PySem.W.findIn K (.ref ce2) "__getattr__" = some none) (e3_2 : PySem.W.subIn K (.ref ce2) (.type "BaseException") = some true) (e4_2 : PySem.W.hasDictIn K ce2 = true) (e5_2 : PySem.W.findIn K (.ref ce2) "__class__" = some (some (.builtin "object.__class__"))) (e6_2 : PySem.W.mroIn K ce2 (.type "object") = some true)
    {ce3 ie3 Ne3 : Addr} {ne3 qe3 : Str} {be3 : List Value} {se3 : List Str} {ue3 : List Value} {ve3 : Bool} {we3 : Option Bool} {xe3 : Option Addr} {ma3 mb3 mc3 md3 me3 : Option Value}
    {oi3 ai3 : Option Addr} {li3 : Array (Option Value)} {ci3 ki3 di3 pi3 gi3 ti3 : Value}
    (E1_3 : PySem.W.nsIn K mainGlobals "InvalidCondition" = some (some (.ref ce3))) (E2_3 : K.lookup ce3 = some (excClassObj ne3 qe3 ce3 Ne3 be3 [.ref cB, .type "ValueError", .type "Exception", .type "BaseException", .type "object"] true se3 ue3 ve3 we3 xe3 ma3 mb3 mc3 md3 me3 "ValueError.__new__"))
    (E3_3 : PySem.W.findIn K (.ref ce3) "__setattr__" = some (some (.builtin "object.__setattr__"))) (E4_3 : PySem.W.typeIn K (.ref ce3) = some (.type "type")) (E5_3 : PySem.W.keepIn K (.ref ce3) = true) (E6_3 : PySem.W.findIn K (.ref ce3) "value" = some none)
    (E7_3 : PySem.W.findIn K (.ref ce3) "__init__" = some (some (.ref ie3))) (E8_3 : PySem.W.typeIn K (.ref ie3) = some (.type "function")) (E9_3 : K.lookup ie3 = some ⟨ci3, oi3, .func (PySem.W.fnOf "__init__" "InvalidCondition.__init__" (defArgs s_InvalidCondition) (defBody s_InvalidCondition) (defScope s_InvalidCondition) .none ki3 di3 pi3 ai3 gi3 ti3), li3⟩) (Ea_3 : PySem.W.codeIn K gi3 "InvalidCondition.__init__" = true) (Eb_3 : PySem.W.keepIn K (.ref ie3) = true)
    (e1_3 : PySem.W.findIn K (.ref ce3) "__getattribute__" = some (some (.builtin "BaseException.__getattribute__"))) (e2_3 : PySem.W.findIn K (.ref ce3) "__getattr__" = some none) (e3_3 : PySem.W.subIn K (.ref ce3) (.type "BaseException") = some true) (e4_3 : PySem.W.hasDictIn K ce3 = true) (e5_3 : PySem.W.findIn K (.ref ce3) "__class__" = some (some (.builtin "object.__class__"))) (e6_3 : PySem.W.mroIn K ce3 (.type "object") = some true)
    {ce4 ie4 Ne4 : Addr} {ne4 qe4 : Str} {be4 : List Value} {se4 : List Str} {ue4 : List Value} {ve4 : Bool} {we4 : Option Bool} {xe4 : Option Addr} {ma4 mb4 mc4 md4 me4 : Option Value}
    {oi4 ai4 : Option Addr} {li4 : Array (Option Value)} {ci4 ki4 di4 pi4 gi4 ti4 : Value}
    (E1_4 : PySem.W.nsIn K mainGlobals "InvalidRanking" = some (some (.ref ce4))) (E2_4 : K.lookup ce4 = some (excClassObj ne4 qe4 ce4 Ne4 be4 [.ref cB, .type "ValueError", .type "Exception", .type "BaseException", .type "object"] true se4 ue4 ve4 we4 xe4 ma4 mb4 mc4 md4 me4 "ValueError.__new__"))
    (E3_4 : PySem.W.findIn K (.ref ce4) "__setattr__" = some (some (.builtin "object.__setattr__"))) (E4_4 : PySem.W.typeIn K (.ref ce4) = some (.type "type")) (E5_4 : PySem.W.keepIn K (.ref ce4) = true) (E6_4 : PySem.W.findIn K (.ref ce4) "value" = some none)
    (E7_4 : PySem.W.findIn K (.ref ce4) "__init__" = some (some (.ref ie4))) (E8_4 : PySem.W.typeIn K (.ref ie4) = some (.type "function")) (E9_4 : K.lookup ie4 = some ⟨ci4, oi4, .func (PySem.W.fnOf "__init__" "InvalidRanking.__init__" (defArgs s_InvalidRanking) (defBody s_InvalidRanking) (defScope s_InvalidRanking) .none ki4 di4 pi4 ai4 gi4 ti4), li4⟩) (Ea_4 : PySem.W.codeIn K gi4 "InvalidRanking.__init__" = true) (Eb_4 : PySem.W.keepIn K (.ref ie4) = true)
    (e1_4 : PySem.W.findIn K (.ref ce4) "__getattribute__" = some (some (.builtin "BaseException.__getattribute__"))) (e2_4 : PySem.W.findIn K (.ref ce4) "__getattr__" = some none) (e3_4 : PySem.W.subIn K (.ref ce4) (.type "BaseException") = some true) (e4_4 : PySem.W.hasDictIn K ce4 = true) (e5_4 : PySem.W.findIn K (.ref ce4) "__class__" = some (some (.builtin "object.__class__"))) (e6_4 : PySem.W.mroIn K ce4 (.type "object") = some true)
    {ce5 ie5 Ne5 : Addr} {ne5 qe5 : Str} {be5 : List Value} {se5 : List Str} {ue5 : List Value} {ve5 : Bool} {we5 : Option Bool} {xe5 : Option Addr} {ma5 mb5 mc5 md5 me5 : Option Value}
    {oi5 ai5 : Option Addr} {li5 : Array (Option Value)} {ci5 ki5 di5 pi5 gi5 ti5 : Value}
    (E1_5 : PySem.W.nsIn K mainGlobals "InvalidKnowledge" = some (some (.ref ce5))) (E2_5 : K.lookup ce5 = some (excClassObj ne5 qe5 ce5 Ne5 be5 [.ref cB, .type "ValueError", .type "Exception", .type "BaseException", .type "object"] true se5 ue5 ve5 we5 xe5 ma5 mb5 mc5 md5 me5 "ValueError.__new__"))
    (E3_5 : PySem.W.findIn K (.ref ce5) "__setattr__" = some (some (.builtin "object.__setattr__"))) (E4_5 : PySem.W.typeIn K (.ref ce5) = some (.type "type")) (E5_5 : PySem.W.keepIn K (.ref ce5) = true) (E6_5 : PySem.W.findIn K (.ref ce5) "value" = some none)
    (E7_5 : PySem.W.findIn K (.ref ce5) "__init__" = some (some (.ref ie5))) (E8_5 : PySem.W.typeIn K (.ref ie5) = some (.type "function")) (E9_5 : K.lookup ie5 = some ⟨ci5, oi5, .func (PySem.W.fnOf "__init__" "InvalidKnowledge.__init__" (defArgs s_InvalidKnowledge) (defBody s_InvalidKnowledge) (defScope s_InvalidKnowledge) .none ki5 di5 pi5 ai5 gi5 ti5), li5⟩) (Ea_5 : PySem.W.codeIn K gi5 "InvalidKnowledge.__init__" = true) (Eb_5 : PySem.W.keepIn K (.ref ie5) = true)
    (e1_5 : PySem.W.findIn K (.ref ce5) "__getattribute__" = some (some (.builtin "BaseException.__getattribute__"))) (e2_5 : PySem.W.findIn K (.ref ce5) "__getattr__" = some none) (e3_5 : PySem.W.subIn K (.ref ce5) (.type "BaseException") = some true) (e4_5 : PySem.W.hasDictIn K ce5 = true) (e5_5 : PySem.W.findIn K (.ref ce5) "__class__" = some (some (.builtin "object.__class__"))) (e6_5 : PySem.W.mroIn K ce5 (.type "object") = some true)
    {ce6 ie6 Ne6 : Addr} {ne6 qe6 : Str} {be6 : List Value} {se6 : List Str} {ue6 : List Value} {ve6 : Bool} {we6 : Option Bool} {xe6 : Option Addr} {ma6 mb6 mc6 md6 me6 : Option Value}
    {oi6 ai6 : Option Addr} {li6 : Array (Option Value)} {ci6 ki6 di6 pi6 gi6 ti6 : Value}
    (E1_6 : PySem.W.nsIn K mainGlobals "InvalidProgram" = some (some (.ref ce6))) (E2_6 : K.lookup ce6 = some (excClassObj ne6 qe6 ce6 Ne6 be6 [.ref cB, .type "ValueError", .type "Exception", .type "BaseException", .type "object"] true se6 ue6 ve6 we6 xe6 ma6 mb6 mc6 md6 me6 "ValueError.__new__"))
    (E3_6 : PySem.W.findIn K (.ref ce6) "__setattr__" = some (some (.builtin "object.__setattr__"))) (E4_6 : PySem.W.typeIn K (.ref ce6) = some (.type "type")) (E5_6 : PySem.W.keepIn K (.ref ce6) = true) (E6_6 : PySem.W.findIn K (.ref ce6) "value" = some none)
    (E7_6 : PySem.W.findIn K (.ref ce6) "__init__" = some (some (.ref ie6))) (E8_6 : PySem.W.typeIn K (.ref ie6) = some (.type "function")) (E9_6 : K.lookup ie6 = some ⟨ci6, oi6, .func (PySem.W.fnOf "__init__" "InvalidProgram.__init__" (defArgs s_InvalidProgram) (defBody s_InvalidProgram) (defScope s_InvalidProgram) .none ki6 di6 pi6 ai6 gi6 ti6), li6⟩) (Ea_6 : PySem.W.codeIn K gi6 "InvalidProgram.__init__" = true) (Eb_6 : PySem.W.keepIn K (.ref ie6) = true)
    (e1_6 : PySem.W.findIn K (.ref ce6) "__getattribute__" = some (some (.builtin "BaseException.__getattribute__"))) (e2_6 : PySem.W.findIn K (.ref ce6) "__getattr__" = some none) (e3_6 : PySem.W.subIn K (.ref ce6) (.type "BaseException") = some true) (e4_6 : PySem.W.hasDictIn K ce6 = true) (e5_6 : PySem.W.findIn K (.ref ce6) "__class__" = some (some (.builtin "object.__class__"))) (e6_6 : PySem.W.mroIn K ce6 (.type "object") = some true)
    {ce7 ie7 Ne7 : Addr} {ne7 qe7 : Str} {be7 : List Value} {se7 : List Str} {ue7 : List Value} {ve7 : Bool} {we7 : Option Bool} {xe7 : Option Addr} {ma7 mb7 mc7 md7 me7 : Option Value}
    {oi7 ai7 : Option Addr} {li7 : Array (Option Value)} {ci7 ki7 di7 pi7 gi7 ti7 : Value}
    (E1_7 : PySem.W.nsIn K mainGlobals "InvalidRow" = some (some (.ref ce7))) (E2_7 : K.lookup ce7 = some (excClassObj ne7 qe7 ce7 Ne7 be7 [.ref cB, .type "ValueError", .type "Exception", .type "BaseException", .type "object"] true se7 ue7 ve7 we7 xe7 ma7 mb7 mc7 md7 me7 "ValueError.__new__"))
    (E3_7 : PySem.W.findIn K (.ref ce7) "__setattr__" = some (some (.builtin "object.__setattr__"))) (E4_7 : PySem.W.typeIn K (.ref ce7) = some (.type "type")) (E5_7 : PySem.W.keepIn K (.ref ce7) = true) (E6_7 : PySem.W.findIn K (.ref ce7) "value" = some none)
    (E7_7 : PySem.W.findIn K (.ref ce7) "__init__" = some (some (.ref ie7))) (E8_7 : PySem.W.typeIn K (.ref ie7) = some (.type "function")) (E9_7 : K.lookup ie7 = some ⟨ci7, oi7, .func (PySem.W.fnOf "__init__" "InvalidRow.__init__" (defArgs s_InvalidRow) (defBody s_InvalidRow) (defScope s_InvalidRow) .none ki7 di7 pi7 ai7 gi7 ti7), li7⟩) (Ea_7 : PySem.W.codeIn K gi7 "InvalidRow.__init__" = true) (Eb_7 : PySem.W.keepIn K (.ref ie7) = true)
    (e1_7 : PySem.W.findIn K (.ref ce7) "__getattribute__" = some (some (.builtin "BaseException.__getattribute__"))) (e2_7 : PySem.W.findIn K (.ref ce7) "__getattr__" = some none) (e3_7 : PySem.W.subIn K (.ref ce7) (.type "BaseException") = some true) (e4_7 : PySem.W.hasDictIn K ce7 = true) (e5_7 : PySem.W.findIn K (.ref ce7) "__class__" = some (some (.builtin "object.__class__"))) (e6_7 : PySem.W.mroIn K ce7 (.type "object") = some true)
    {ce8 ie8 Ne8 : Addr} {ne8 qe8 : Str} {be8 : List Value} {se8 : List Str} {ue8 : List Value} {ve8 : Bool} {we8 : Option Bool} {xe8 : Option Addr} {ma8 mb8 mc8 md8 me8 : Option Value}
    {oi8 ai8 : Option Addr} {li8 : Array (Option Value)} {ci8 ki8 di8 pi8 gi8 ti8 : Value}
    (E1_8 : PySem.W.nsIn K mainGlobals "InvalidRegister" = some (some (.ref ce8))) (E2_8 : K.lookup ce8 = some (excClassObj ne8 qe8 ce8 Ne8 be8 [.ref cB, .type "ValueError", .type "Exception", .type "BaseException", .type "object"] true se8 ue8 ve8 we8 xe8 ma8 mb8 mc8 md8 me8 "ValueError.__new__"))
    (E3_8 : PySem.W.findIn K (.ref ce8) "__setattr__" = some (some (.builtin "object.__setattr__"))) (E4_8 : PySem.W.typeIn K (.ref ce8) = some (.type "type")) (E5_8 : PySem.W.keepIn K (.ref ce8) = true) (E6_8 : PySem.W.findIn K (.ref ce8) "value" = some none)
    (E7_8 : PySem.W.findIn K (.ref ce8) "__init__" = some (some (.ref ie8))) (E8_8 : PySem.W.typeIn K (.ref ie8) = some (.type "function")) (E9_8 : K.lookup ie8 = some ⟨ci8, oi8, .func (PySem.W.fnOf "__init__" "InvalidRegister.__init__" (defArgs s_InvalidRegister) (defBody s_InvalidRegister) (defScope s_InvalidRegister) .none ki8 di8 pi8 ai8 gi8 ti8), li8⟩) (Ea_8 : PySem.W.codeIn K gi8 "InvalidRegister.__init__" = true) (Eb_8 : PySem.W.keepIn K (.ref ie8) = true)
    (e1_8 : PySem.W.findIn K (.ref ce8) "__getattribute__" = some (some (.builtin "BaseException.__getattribute__"))) (e2_8 : PySem.W.findIn K (.ref ce8) "__getattr__" = some none) (e3_8 : PySem.W.subIn K (.ref ce8) (.type "BaseException") = some true) (e4_8 : PySem.W.hasDictIn K ce8 = true) (e5_8 : PySem.W.findIn K (.ref ce8) "__class__" = some (some (.builtin "object.__class__"))) (e6_8 : PySem.W.mroIn K ce8 (.type "object") = some true)
    {ce9 ie9 Ne9 : Addr} {ne9 qe9 : Str} {be9 : List Value} {se9 : List Str} {ue9 : List Value} {ve9 : Bool} {we9 : Option Bool} {xe9 : Option Addr} {ma9 mb9 mc9 md9 me9 : Option Value}
    {oi9 ai9 : Option Addr} {li9 : Array (Option Value)} {ci9 ki9 di9 pi9 gi9 ti9 : Value}
    (E1_9 : PySem.W.nsIn K mainGlobals "InvalidQuery" = some (some (.ref ce9))) (E2_9 : K.lookup ce9 = some (excClassObj ne9 qe9 ce9 Ne9 be9 [.ref cB, .type "ValueError", .type "Exception", .type "BaseException", .type "object"] true se9 ue9 ve9 we9 xe9 ma9 mb9 mc9 md9 me9 "ValueError.__new__"))
    (E3_9 : PySem.W.findIn K (.ref ce9) "__setattr__" = some (some (.builtin "object.__setattr__"))) (E4_9 : PySem.W.typeIn K (.ref ce9) = some (.type "type")) (E5_9 : PySem.W.keepIn K (.ref ce9) = true) (E6_9 : PySem.W.findIn K (.ref ce9) "value" = some none)
    (E7_9 : PySem.W.findIn K (.ref ce9) "__init__" = some (some (.ref ie9))) (E8_9 : PySem.W.typeIn K (.ref ie9) = some (.type "function")) (E9_9 : K.lookup ie9 = some ⟨ci9, oi9, .func (PySem.W.fnOf "__init__" "InvalidQuery.__init__" (defArgs s_InvalidQuery) (defBody s_InvalidQuery) (defScope s_InvalidQuery) .none ki9 di9 pi9 ai9 gi9 ti9), li9⟩) (Ea_9 : PySem.W.codeIn K gi9 "InvalidQuery.__init__" = true) (Eb_9 : PySem.W.keepIn K (.ref ie9) = true)
    (e1_9 : PySem.W.findIn K (.ref ce9) "__getattribute__" = some (some (.builtin "BaseException.__getattribute__"))) (e2_9 : PySem.W.findIn K (.ref ce9) "__getattr__" = some none) (e3_9 : PySem.W.subIn K (.ref ce9) (.type "BaseException") = some true) (e4_9 : PySem.W.hasDictIn K ce9 = true) (e5_9 : PySem.W.findIn K (.ref ce9) "__class__" = some (some (.builtin "object.__class__"))) (e6_9 : PySem.W.mroIn K ce9 (.type "object") = some true)
    {ce10 ie10 Ne10 : Addr} {ne10 qe10 : Str} {be10 : List Value} {se10 : List Str} {ue10 : List Value} {ve10 : Bool} {we10 : Option Bool} {xe10 : Option Addr} {ma10 mb10 mc10 md10 me10 : Option Value}
    {oi10 ai10 : Option Addr} {li10 : Array (Option Value)} {ci10 ki10 di10 pi10 gi10 ti10 : Value}
    (E1_10 : PySem.W.nsIn K mainGlobals "InvalidTable" = some (some (.ref ce10))) (E2_10 : K.lookup ce10 = some (excClassObj ne10 qe10 ce10 Ne10 be10 [.ref cB, .type "ValueError", .type "Exception", .type "BaseException", .type "object"] true se10 ue10 ve10 we10 xe10 ma10 mb10 mc10 md10 me10 "ValueError.__new__"))
    (E3_10 : PySem.W.findIn K (.ref ce10) "__setattr__" = some (some (.builtin "object.__setattr__"))) (E4_10 : PySem.W.typeIn K (.ref ce10) = some (.type "type")) (E5_10 : PySem.W.keepIn K (.ref ce10) = true) (E6_10 : PySem.W.findIn K (.ref ce10) "value" = some none)
    (E7_10 : PySem.W.findIn K (.ref ce10) "__init__" = some (some (.ref ie10))) (E8_10 : PySem.W.typeIn K (.ref ie10) = some (.type "function")) (E9_10 : K.lookup ie10 = some ⟨ci10, oi10, .func (PySem.W.fnOf "__init__" "InvalidTable.__init__" (defArgs s_InvalidTable) (defBody s_InvalidTable) (defScope s_InvalidTable) .none ki10 di10 pi10 ai10 gi10 ti10), li10⟩) (Ea_10 : PySem.W.codeIn K gi10 "InvalidTable.__init__" = true) (Eb_10 : PySem.W.keepIn K (.ref ie10) = true)
    (e1_10 : PySem.W.findIn K (.ref ce10) "__getattribute__" = some (some (.builtin "BaseException.__getattribute__"))) (e2_10 : PySem.W.findIn K (.ref ce10) "__getattr__" = some none) (e3_10 : PySem.W.subIn K (.ref ce10) (.type "BaseException") = some true) (e4_10 : PySem.W.hasDictIn K ce10 = true) (e5_10 : PySem.W.findIn K (.ref ce10) "__class__" = some (some (.builtin "object.__class__"))) (e6_10 : PySem.W.mroIn K ce10 (.type "object") = some true)
    {ce11 ie11 Ne11 : Addr} {ne11 qe11 : Str} {be11 : List Value} {se11 : List Str} {ue11 : List Value} {ve11 : Bool} {we11 : Option Bool} {xe11 : Option Addr} {ma11 mb11 mc11 md11 me11 : Option Value}
    {oi11 ai11 : Option Addr} {li11 : Array (Option Value)} {ci11 ki11 di11 pi11 gi11 ti11 : Value}
    (E1_11 : PySem.W.nsIn K mainGlobals "InvalidNumber" = some (some (.ref ce11))) (E2_11 : K.lookup ce11 = some (excClassObj ne11 qe11 ce11 Ne11 be11 [.ref cB, .type "ValueError", .type "Exception", .type "BaseException", .type "object"] true se11 ue11 ve11 we11 xe11 ma11 mb11 mc11 md11 me11 "ValueError.__new__"))
    (E3_11 : PySem.W.findIn K (.ref ce11) "__setattr__" = some (some (.builtin "object.__setattr__"))) (E4_11 : PySem.W.typeIn K (.ref ce11) = some (.type "type")) (E5_11 : PySem.W.keepIn K (.ref ce11) = true) (E6_11 : PySem.W.findIn K (.ref ce11) "value" = some none)
    (E7_11 : PySem.W.findIn K (.ref ce11) "__init__" = some (some (.ref ie11))) (E8_11 : PySem.W.typeIn K (.ref ie11) = some (.type "function")) (E9_11 : K.lookup ie11 = some ⟨ci11, oi11, .func (PySem.W.fnOf "__init__" "InvalidNumber.__init__" (defArgs s_InvalidNumber) (defBody s_InvalidNumber) (defScope s_InvalidNumber) .none ki11 di11 pi11 ai11 gi11 ti11), li11⟩) (Ea_11 : PySem.W.codeIn K gi11 "InvalidNumber.__init__" = true) (Eb_11 : PySem.W.keepIn K (.ref ie11) = true)
    (e1_11 : PySem.W.findIn K (.ref ce11) "__getattribute__" = some (some (.builtin "BaseException.__getattribute__"))) (e2_11 : PySem.W.findIn K (.ref ce11) "__getattr__" = some none) (e3_11 : PySem.W.subIn K (.ref ce11) (.type "BaseException") = some true) (e4_11 : PySem.W.hasDictIn K ce11 = true) (e5_11 : PySem.W.findIn K (.ref ce11) "__class__" = some (some (.builtin "object.__class__"))) (e6_11 : PySem.W.mroIn K ce11 (.type "object") = some true)
    {ce12 ie12 Ne12 : Addr} {ne12 qe12 : Str} {be12 : List Value} {se12 : List Str} {ue12 : List Value} {ve12 : Bool} {we12 : Option Bool} {xe12 : Option Addr} {ma12 mb12 mc12 md12 me12 : Option Value}
    {oi12 ai12 : Option Addr} {li12 : Array (Option Value)} {ci12 ki12 di12 pi12 gi12 ti12 : Value}
    (E1_12 : PySem.W.nsIn K mainGlobals "UnlikeInputs" = some (some (.ref ce12))) (E2_12 : K.lookup ce12 = some (excClassObj ne12 qe12 ce12 Ne12 be12 [.ref cB, .type "ValueError", .type "Exception", .type "BaseException", .type "object"] true se12 ue12 ve12 we12 xe12 ma12 mb12 mc12 md12 me12 "ValueError.__new__"))
    (E3_12 : PySem.W.findIn K (.ref ce12) "__setattr__" = some (some (.builtin "object.__setattr__"))) (E4_12 : PySem.W.typeIn K (.ref ce12) = some (.type "type")) (E5_12 : PySem.W.keepIn K (.ref ce12) = true) (E6_12 : PySem.W.findIn K (.ref ce12) "value" = some none)
    (E7_12 : PySem.W.findIn K (.ref ce12) "__init__" = some (some (.ref ie12))) (E8_12 : PySem.W.typeIn K (.ref ie12) = some (.type "function")) (E9_12 : K.lookup ie12 = some ⟨ci12, oi12, .func (PySem.W.fnOf "__init__" "UnlikeInputs.__init__" (defArgs s_UnlikeInputs) (defBody s_UnlikeInputs) (defScope s_UnlikeInputs) .none ki12 di12 pi12 ai12 gi12 ti12), li12⟩) (Ea_12 : PySem.W.codeIn K gi12 "UnlikeInputs.__init__" = true) (Eb_12 : PySem.W.keepIn K (.ref ie12) = true)
    (e1_12 : PySem.W.findIn K (.ref ce12) "__getattribute__" = some (some (.builtin "BaseException.__getattribute__"))) (e2_12 : PySem.W.findIn K (.ref ce12) "__getattr__" = some none) (e3_12 : PySem.W.subIn K (.ref ce12) (.type "BaseException") = some true) (e4_12 : PySem.W.hasDictIn K ce12 = true) (e5_12 : PySem.W.findIn K (.ref ce12) "__class__" = some (some (.builtin "object.__class__"))) (e6_12 : PySem.W.mroIn K ce12 (.type "object") = some true)
    {ce13 ie13 Ne13 : Addr} {ne13 qe13 : Str} {be13 : List Value} {se13 : List Str} {ue13 : List Value} {ve13 : Bool} {we13 : Option Bool} {xe13 : Option Addr} {ma13 mb13 mc13 md13 me13 : Option Value}
    {oi13 ai13 : Option Addr} {li13 : Array (Option Value)} {ci13 ki13 di13 pi13 gi13 ti13 : Value}
    (E1_13 : PySem.W.nsIn K mainGlobals "NothingToUndo" = some (some (.ref ce13))) (E2_13 : K.lookup ce13 = some (excClassObj ne13 qe13 ce13 Ne13 be13 [.ref cB, .type "ValueError", .type "Exception", .type "BaseException", .type "object"] true se13 ue13 ve13 we13 xe13 ma13 mb13 mc13 md13 me13 "ValueError.__new__"))
    (E3_13 : PySem.W.findIn K (.ref ce13) "__setattr__" = some (some (.builtin "object.__setattr__"))) (E4_13 : PySem.W.typeIn K (.ref ce13) = some (.type "type")) (E5_13 : PySem.W.keepIn K (.ref ce13) = true) (E6_13 : PySem.W.findIn K (.ref ce13) "value" = some none)
    (E7_13 : PySem.W.findIn K (.ref ce13) "__init__" = some (some (.ref ie13))) (E8_13 : PySem.W.typeIn K (.ref ie13) = some (.type "function")) (E9_13 : K.lookup ie13 = some ⟨ci13, oi13, .func (PySem.W.fnOf "__init__" "NothingToUndo.__init__" (defArgs s_NothingToUndo) (defBody s_NothingToUndo) (defScope s_NothingToUndo) .none ki13 di13 pi13 ai13 gi13 ti13), li13⟩) (Ea_13 : PySem.W.codeIn K gi13 "NothingToUndo.__init__" = true) (Eb_13 : PySem.W.keepIn K (.ref ie13) = true)
    (e1_13 : PySem.W.findIn K (.ref ce13) "__getattribute__" = some (some (.builtin "BaseException.__getattribute__"))) (e2_13 : PySem.W.findIn K (.ref ce13) "__getattr__" = some none) (e3_13 : PySem.W.subIn K (.ref ce13) (.type "BaseException") = some true) (e4_13 : PySem.W.hasDictIn K ce13 = true) (e5_13 : PySem.W.findIn K (.ref ce13) "__class__" = some (some (.builtin "object.__class__"))) (e6_13 : PySem.W.mroIn K ce13 (.type "object") = some true)
    {ce14 ie14 Ne14 : Addr} {ne14 qe14 : Str} {be14 : List Value} {se14 : List Str} {ue14 : List Value} {ve14 : Bool} {we14 : Option Bool} {xe14 : Option Addr} {ma14 mb14 mc14 md14 me14 : Option Value}
    {oi14 ai14 : Option Addr} {li14 : Array (Option Value)} {ci14 ki14 di14 pi14 gi14 ti14 : Value}
    (E1_14 : PySem.W.nsIn K mainGlobals "Unreadable" = some (some (.ref ce14))) (E2_14 : K.lookup ce14 = some (excClassObj ne14 qe14 ce14 Ne14 be14 [.ref cB, .type "ValueError", .type "Exception", .type "BaseException", .type "object"] true se14 ue14 ve14 we14 xe14 ma14 mb14 mc14 md14 me14 "ValueError.__new__"))
    (E3_14 : PySem.W.findIn K (.ref ce14) "__setattr__" = some (some (.builtin "object.__setattr__"))) (E4_14 : PySem.W.typeIn K (.ref ce14) = some (.type "type")) (E5_14 : PySem.W.keepIn K (.ref ce14) = true) (E6_14 : PySem.W.findIn K (.ref ce14) "value" = some none)
    (E7_14 : PySem.W.findIn K (.ref ce14) "__init__" = some (some (.ref ie14))) (E8_14 : PySem.W.typeIn K (.ref ie14) = some (.type "function")) (E9_14 : K.lookup ie14 = some ⟨ci14, oi14, .func (PySem.W.fnOf "__init__" "Unreadable.__init__" (defArgs s_Unreadable) (defBody s_Unreadable) (defScope s_Unreadable) .none ki14 di14 pi14 ai14 gi14 ti14), li14⟩) (Ea_14 : PySem.W.codeIn K gi14 "Unreadable.__init__" = true) (Eb_14 : PySem.W.keepIn K (.ref ie14) = true)
    (e1_14 : PySem.W.findIn K (.ref ce14) "__getattribute__" = some (some (.builtin "BaseException.__getattribute__"))) (e2_14 : PySem.W.findIn K (.ref ce14) "__getattr__" = some none) (e3_14 : PySem.W.subIn K (.ref ce14) (.type "BaseException") = some true) (e4_14 : PySem.W.hasDictIn K ce14 = true) (e5_14 : PySem.W.findIn K (.ref ce14) "__class__" = some (some (.builtin "object.__class__"))) (e6_14 : PySem.W.mroIn K ce14 (.type "object") = some true)
    (xm_0 : PySem.W.exmOne K (.ref ce0) (.ref cB) = some true)
    (xm_1 : PySem.W.exmOne K (.ref ce1) (.ref cB) = some true)
    (xm_2 : PySem.W.exmOne K (.ref ce2) (.ref cB) = some true)
    (xm_3 : PySem.W.exmOne K (.ref ce3) (.ref cB) = some true)
    (xm_4 : PySem.W.exmOne K (.ref ce4) (.ref cB) = some true)
    (xm_5 : PySem.W.exmOne K (.ref ce5) (.ref cB) = some true)
    (xm_6 : PySem.W.exmOne K (.ref ce6) (.ref cB) = some true)
    (xm_7 : PySem.W.exmOne K (.ref ce7) (.ref cB) = some true)
    (xm_8 : PySem.W.exmOne K (.ref ce8) (.ref cB) = some true)
    (xm_9 : PySem.W.exmOne K (.ref ce9) (.ref cB) = some true)
    (xm_10 : PySem.W.exmOne K (.ref ce10) (.ref cB) = some true)
    (xm_11 : PySem.W.exmOne K (.ref ce11) (.ref cB) = some true)
    (xm_12 : PySem.W.exmOne K (.ref ce12) (.ref cB) = some true)
    (xm_13 : PySem.W.exmOne K (.ref ce13) (.ref cB) = some true)
    (xm_14 : PySem.W.exmOne K (.ref ce14) (.ref cB) = some true)
    (tab : kitTab K [ce0, ce1, ce2, ce3, ce4, ce5, ce6, ce7, ce8, ce9, ce10, ce11, ce12, ce13, ce14] cB = true)
    : ∃ fd : FuncData, (∀ (s : Shared) (v : Value), BindsTo s fd ⟨[v], []⟩ [("script", v)]) ∧ ∀ base : Heap, K.In base → base.Ns mainGlobals mg → FnOk l.prog w K mg base CX0 8 fa fd ["script"] (sp_law K) := by
  have e := hfa.symm.trans (PySem.W.mg_of X G a20)
  cases e
  have T : Txt w K mg ⟨vv_CONDITIONS, pp_CONDITIONS_0, pp_CONDITIONS_1, pp_CONDITIONS_2, pp_CONDITIONS_3, pp_CONDITIONS_4, pp_CONDITIONS_5, pp_CONDITIONS_6, pp_CONDITIONS_7, pp_CONDITIONS_8, pp_CONDITIONS_9, pp_CONDITIONS_10, pp_CONDITIONS_11, vv_INPUT_NAMES, vv_OTHER_NAMES, vv_FORMS, ce0, ce1, ce2, ce3, ce4, ce5, ce6, ce7, ce8, ce9, ce10, ce11, ce12, ce13, ce14, cB, ie0, (PySem.W.fnOf "__init__" "InvalidWidth.__init__" (defArgs s_InvalidWidth) (defBody s_InvalidWidth) (defScope s_InvalidWidth) .none ki0 di0 pi0 ai0 gi0 ti0), ie1, (PySem.W.fnOf "__init__" "InvalidWords.__init__" (defArgs s_InvalidWords) (defBody s_InvalidWords) (defScope s_InvalidWords) .none ki1 di1 pi1 ai1 gi1 ti1), ie2, (PySem.W.fnOf "__init__" "InvalidOutcome.__init__" (defArgs s_InvalidOutcome) (defBody s_InvalidOutcome) (defScope s_InvalidOutcome) .none ki2 di2 pi2 ai2 gi2 ti2), ie3, (PySem.W.fnOf "__init__" "InvalidCondition.__init__" (defArgs s_InvalidCondition) (defBody s_InvalidCondition) (defScope s_InvalidCondition) .none ki3 di3 pi3 ai3 gi3 ti3), ie4, (PySem.W.fnOf "__init__" "InvalidRanking.__init__" (defArgs s_InvalidRanking) (defBody s_InvalidRanking) (defScope s_InvalidRanking) .none ki4 di4 pi4 ai4 gi4 ti4), ie5, (PySem.W.fnOf "__init__" "InvalidKnowledge.__init__" (defArgs s_InvalidKnowledge) (defBody s_InvalidKnowledge) (defScope s_InvalidKnowledge) .none ki5 di5 pi5 ai5 gi5 ti5), ie6, (PySem.W.fnOf "__init__" "InvalidProgram.__init__" (defArgs s_InvalidProgram) (defBody s_InvalidProgram) (defScope s_InvalidProgram) .none ki6 di6 pi6 ai6 gi6 ti6), ie7, (PySem.W.fnOf "__init__" "InvalidRow.__init__" (defArgs s_InvalidRow) (defBody s_InvalidRow) (defScope s_InvalidRow) .none ki7 di7 pi7 ai7 gi7 ti7), ie8, (PySem.W.fnOf "__init__" "InvalidRegister.__init__" (defArgs s_InvalidRegister) (defBody s_InvalidRegister) (defScope s_InvalidRegister) .none ki8 di8 pi8 ai8 gi8 ti8), ie9, (PySem.W.fnOf "__init__" "InvalidQuery.__init__" (defArgs s_InvalidQuery) (defBody s_InvalidQuery) (defScope s_InvalidQuery) .none ki9 di9 pi9 ai9 gi9 ti9), ie10, (PySem.W.fnOf "__init__" "InvalidTable.__init__" (defArgs s_InvalidTable) (defBody s_InvalidTable) (defScope s_InvalidTable) .none ki10 di10 pi10 ai10 gi10 ti10), ie11, (PySem.W.fnOf "__init__" "InvalidNumber.__init__" (defArgs s_InvalidNumber) (defBody s_InvalidNumber) (defScope s_InvalidNumber) .none ki11 di11 pi11 ai11 gi11 ti11), ie12, (PySem.W.fnOf "__init__" "UnlikeInputs.__init__" (defArgs s_UnlikeInputs) (defBody s_UnlikeInputs) (defScope s_UnlikeInputs) .none ki12 di12 pi12 ai12 gi12 ti12), ie13, (PySem.W.fnOf "__init__" "NothingToUndo.__init__" (defArgs s_NothingToUndo) (defBody s_NothingToUndo) (defScope s_NothingToUndo) .none ki13 di13 pi13 ai13 gi13 ti13), ie14, (PySem.W.fnOf "__init__" "Unreadable.__init__" (defArgs s_Unreadable) (defBody s_Unreadable) (defScope s_Unreadable) .none ki14 di14 pi14 ai14 gi14 ti14), oc_Program, f0, (PySem.W.fnOf "register_names" "register_names" (defArgs s_register_names) (defBody s_register_names) (defScope s_register_names) .none kV0 dc0 pm0 an0 cd0 ct0), f1, (PySem.W.fnOf "parts_of" "parts_of" (defArgs s_parts_of) (defBody s_parts_of) (defScope s_parts_of) .none kV1 dc1 pm1 an1 cd1 ct1), f2, (PySem.W.fnOf "__init__" "Program.__init__" (defArgs s_Program___init) (defBody s_Program___init) (defScope s_Program___init) .none kV2 dc2 pm2 an2 cd2 ct2), f3, (PySem.W.fnOf "__len__" "Program.__len__" (defArgs s_Program___len) (defBody s_Program___len) (defScope s_Program___len) .none kV3 dc3 pm3 an3 cd3 ct3), f4, (PySem.W.fnOf "__add__" "Program.__add__" (defArgs s_Program___add) (defBody s_Program___add) (defScope s_Program___add) .none kV4 dc4 pm4 an4 cd4 ct4), f5, (PySem.W.fnOf "without" "Program.without" (defArgs s_Program_without) (defBody s_Program_without) (defScope s_Program_without) .none kV5 dc5 pm5 an5 cd5 ct5), f6, (PySem.W.fnOf "_is_row" "_is_row" (defArgs s_is_row) (defBody s_is_row) (defScope s_is_row) .none kV6 dc6 pm6 an6 cd6 ct6), f7, (PySem.W.fnOf "_is_item" "_is_item" (defArgs s_is_item) (defBody s_is_item) (defScope s_is_item) .none kV7 dc7 pm7 an7 cd7 ct7), f8, (PySem.W.fnOf "_placed_row" "_placed_row" (defArgs s_placed_row) (defBody s_placed_row) (defScope s_placed_row) .none kV8 dc8 pm8 an8 cd8 ct8), f9, (PySem.W.fnOf "_placed_item" "_placed_item" (defArgs s_placed_item) (defBody s_placed_item) (defScope s_placed_item) .none kV9 dc9 pm9 an9 cd9 ct9), f10, (PySem.W.fnOf "_with_moved_target" "_with_moved_target" (defArgs s_with_moved_target) (defBody s_with_moved_target) (defScope s_with_moved_target) .none kV10 dc10 pm10 an10 cd10 ct10), f11, (PySem.W.fnOf "_law_pool" "_law_pool" (defArgs s_law_pool) (defBody s_law_pool) (defScope s_law_pool) .none kV11 dc11 pm11 an11 cd11 ct11), f12, (PySem.W.fnOf "_law_draw" "_law_draw" (defArgs s_law_draw) (defBody s_law_draw) (defScope s_law_draw) .none kV12 dc12 pm12 an12 cd12 ct12), f13, (PySem.W.fnOf "_law_conds" "_law_conds" (defArgs s_law_conds) (defBody s_law_conds) (defScope s_law_conds) .none kV13 dc13 pm13 an13 cd13 ct13), f14, (PySem.W.fnOf "_law_code" "_law_code" (defArgs s_law_code) (defBody s_law_code) (defScope s_law_code) .none kV14 dc14 pm14 an14 cd14 ct14), f15, (PySem.W.fnOf "_law_kind" "_law_kind" (defArgs s_law_kind) (defBody s_law_kind) (defScope s_law_kind) .none kV15 dc15 pm15 an15 cd15 ct15), f16, (PySem.W.fnOf "_law_told" "_law_told" (defArgs s_law_told) (defBody s_law_told) (defScope s_law_told) .none kV16 dc16 pm16 an16 cd16 ct16), f17, (PySem.W.fnOf "_law_wrong_row" "_law_wrong_row" (defArgs s_law_wrong_row) (defBody s_law_wrong_row) (defScope s_law_wrong_row) .none kV17 dc17 pm17 an17 cd17 ct17), f18, (PySem.W.fnOf "_law_is_row" "_law_is_row" (defArgs s_law_is_row) (defBody s_law_is_row) (defScope s_law_is_row) .none kV18 dc18 pm18 an18 cd18 ct18), f19, (PySem.W.fnOf "_law_right" "_law_right" (defArgs s_law_right) (defBody s_law_right) (defScope s_law_right) .none kV19 dc19 pm19 an19 cd19 ct19), fa, (PySem.W.fnOf "law" "law" (defArgs s_law) (defBody s_law) (defScope s_law) .none kV20 dc20 pm20 an20 cd20 ct20)⟩ := {
    g_register_names := PySem.W.mg_of X G a0,
    F_register_names := fun_mk (st := s_register_names) l0 c0 k0,
    g_parts_of := PySem.W.mg_of X G a1,
    F_parts_of := fun_mk (st := s_parts_of) l1 c1 k1,
    me_Program___init := ⟨a2, i2, k2⟩,
    F_Program___init := fun_mk (st := s_Program___init) l2 c2 k2,
    me_Program___len := ⟨a3, i3, k3⟩,
    F_Program___len := fun_mk (st := s_Program___len) l3 c3 k3,
    me_Program___add := ⟨a4, i4, k4⟩,
    F_Program___add := fun_mk (st := s_Program___add) l4 c4 k4,
    me_Program_without := ⟨a5, i5, k5⟩,
    F_Program_without := fun_mk (st := s_Program_without) l5 c5 k5,
    g_is_row := PySem.W.mg_of X G a6,
    F_is_row := fun_mk (st := s_is_row) l6 c6 k6,
    g_is_item := PySem.W.mg_of X G a7,
    F_is_item := fun_mk (st := s_is_item) l7 c7 k7,
    g_placed_row := PySem.W.mg_of X G a8,
    F_placed_row := fun_mk (st := s_placed_row) l8 c8 k8,
    g_placed_item := PySem.W.mg_of X G a9,
    F_placed_item := fun_mk (st := s_placed_item) l9 c9 k9,
    g_with_moved_target := PySem.W.mg_of X G a10,
    F_with_moved_target := fun_mk (st := s_with_moved_target) l10 c10 k10,
    g_law_pool := PySem.W.mg_of X G a11,
    F_law_pool := fun_mk (st := s_law_pool) l11 c11 k11,
    g_law_draw := PySem.W.mg_of X G a12,
    F_law_draw := fun_mk (st := s_law_draw) l12 c12 k12,
    g_law_conds := PySem.W.mg_of X G a13,
    F_law_conds := fun_mk (st := s_law_conds) l13 c13 k13,
    g_law_code := PySem.W.mg_of X G a14,
    F_law_code := fun_mk (st := s_law_code) l14 c14 k14,
    g_law_kind := PySem.W.mg_of X G a15,
    F_law_kind := fun_mk (st := s_law_kind) l15 c15 k15,
    g_law_told := PySem.W.mg_of X G a16,
    F_law_told := fun_mk (st := s_law_told) l16 c16 k16,
    g_law_wrong_row := PySem.W.mg_of X G a17,
    F_law_wrong_row := fun_mk (st := s_law_wrong_row) l17 c17 k17,
    g_law_is_row := PySem.W.mg_of X G a18,
    F_law_is_row := fun_mk (st := s_law_is_row) l18 c18 k18,
    g_law_right := PySem.W.mg_of X G a19,
    F_law_right := fun_mk (st := s_law_right) l19 c19 k19,
    g_law := PySem.W.mg_of X G a20,
    F_law := fun_mk (st := s_law) l20 c20 k20,
    gc_Program := PySem.W.mg_of X G aC_Program, cl_Program := ⟨pg_Program, hd_Program, po_Program, sa_Program⟩, mk_Program := ⟨mk_Program, a2, i2, kc_Program⟩, ty_Program := ⟨ta_Program, tg, tt, tm_Program, to_Program⟩, sf_Program := sf_Program, nf_Program__inputs := nf_Program__inputs, nf_Program__rows := nf_Program__rows, nf_Program__placed := nf_Program__placed,
    gv_CONDITIONS := PySem.W.mg_of X G av_CONDITIONS,
    kt_CONDITIONS := fun P => ktab_of (kus := [("e", .ref pp_CONDITIONS_0), ("ne", .ref pp_CONDITIONS_1), ("l", .ref pp_CONDITIONS_2), ("le", .ref pp_CONDITIONS_3), ("g", .ref pp_CONDITIONS_4), ("ge", .ref pp_CONDITIONS_5), ("b", .ref pp_CONDITIONS_6), ("be", .ref pp_CONDITIONS_7), ("a", .ref pp_CONDITIONS_8), ("ae", .ref pp_CONDITIONS_9), ("same", .ref pp_CONDITIONS_10), ("mixed", .ref pp_CONDITIONS_11)]) lk_CONDITIONS kk_CONDITIONS vl_CONDITIONS (.cons ⟨rfl, rfl⟩ (.cons ⟨rfl, rfl⟩ (.cons ⟨rfl, rfl⟩ (.cons ⟨rfl, rfl⟩ (.cons ⟨rfl, rfl⟩ (.cons ⟨rfl, rfl⟩ (.cons ⟨rfl, rfl⟩ (.cons ⟨rfl, rfl⟩ (.cons ⟨rfl, rfl⟩ (.cons ⟨rfl, rfl⟩ (.cons ⟨rfl, rfl⟩ (.cons ⟨rfl, rfl⟩ (.nil))))))))))))) (show (["e", "ne", "l", "le", "g", "ge", "b", "be", "a", "ae", "same", "mixed"] : List Str).Nodup by decide) lo_CONDITIONS,
    tv_CONDITIONS_0 := tupK_of lk_CONDITIONS_0 cl_CONDITIONS_0 dt_CONDITIONS_0 el_CONDITIONS_0,
    tv_CONDITIONS_1 := tupK_of lk_CONDITIONS_1 cl_CONDITIONS_1 dt_CONDITIONS_1 el_CONDITIONS_1,
    tv_CONDITIONS_2 := tupK_of lk_CONDITIONS_2 cl_CONDITIONS_2 dt_CONDITIONS_2 el_CONDITIONS_2,
    tv_CONDITIONS_3 := tupK_of lk_CONDITIONS_3 cl_CONDITIONS_3 dt_CONDITIONS_3 el_CONDITIONS_3,
    tv_CONDITIONS_4 := tupK_of lk_CONDITIONS_4 cl_CONDITIONS_4 dt_CONDITIONS_4 el_CONDITIONS_4,
    tv_CONDITIONS_5 := tupK_of lk_CONDITIONS_5 cl_CONDITIONS_5 dt_CONDITIONS_5 el_CONDITIONS_5,
    tv_CONDITIONS_6 := tupK_of lk_CONDITIONS_6 cl_CONDITIONS_6 dt_CONDITIONS_6 el_CONDITIONS_6,
    tv_CONDITIONS_7 := tupK_of lk_CONDITIONS_7 cl_CONDITIONS_7 dt_CONDITIONS_7 el_CONDITIONS_7,
    tv_CONDITIONS_8 := tupK_of lk_CONDITIONS_8 cl_CONDITIONS_8 dt_CONDITIONS_8 el_CONDITIONS_8,
    tv_CONDITIONS_9 := tupK_of lk_CONDITIONS_9 cl_CONDITIONS_9 dt_CONDITIONS_9 el_CONDITIONS_9,
    tv_CONDITIONS_10 := tupK_of lk_CONDITIONS_10 cl_CONDITIONS_10 dt_CONDITIONS_10 el_CONDITIONS_10,
    tv_CONDITIONS_11 := tupK_of lk_CONDITIONS_11 cl_CONDITIONS_11 dt_CONDITIONS_11 el_CONDITIONS_11,
    gv_INPUT_NAMES := PySem.W.mg_of X G av_INPUT_NAMES,
    tv_INPUT_NAMES := tupK_of lk_INPUT_NAMES cl_INPUT_NAMES dt_INPUT_NAMES el_INPUT_NAMES,
    gv_OTHER_NAMES := PySem.W.mg_of X G av_OTHER_NAMES,
    tv_OTHER_NAMES := tupK_of lk_OTHER_NAMES cl_OTHER_NAMES dt_OTHER_NAMES el_OTHER_NAMES,
    gv_FORMS := PySem.W.mg_of X G av_FORMS,
    kt_FORMS := fun P => ktab_of (kus := [("cmp", .str "RR" tt_FORMS_0), ("mov", .str "RR" tt_FORMS_1), ("swap", .str "RR" tt_FORMS_2), ("cmov", .str "CRR" tt_FORMS_3), ("jump", .str "T" tt_FORMS_4), ("jif", .str "CT" tt_FORMS_5), ("out", .str "R" tt_FORMS_6), ("stop", .str "" tt_FORMS_7)]) lk_FORMS kk_FORMS vl_FORMS (.cons ⟨rfl, ⟨_, rfl⟩⟩ (.cons ⟨rfl, ⟨_, rfl⟩⟩ (.cons ⟨rfl, ⟨_, rfl⟩⟩ (.cons ⟨rfl, ⟨_, rfl⟩⟩ (.cons ⟨rfl, ⟨_, rfl⟩⟩ (.cons ⟨rfl, ⟨_, rfl⟩⟩ (.cons ⟨rfl, ⟨_, rfl⟩⟩ (.cons ⟨rfl, ⟨_, rfl⟩⟩ (.nil))))))))) (show (["cmp", "mov", "swap", "cmov", "jump", "jif", "out", "stop"] : List Str).Nodup by decide) lo_FORMS,
    gc_InvalidWidth := PySem.W.mg_of X G E1_0, er_InvalidWidth := ⟨⟨⟨_, _, _, _, _, _, _, _, _, _, _, _, _, _, _, E2_0, rfl⟩, E3_0, e3_0, E4_0, E5_0⟩, ⟨e1_0, e2_0, e3_0, e4_0, e5_0, sg, st, e6_0⟩, E6_0, E7_0, E8_0⟩, FI_InvalidWidth := fun_mk (st := s_InvalidWidth) E9_0 Ea_0 Eb_0,
    gc_InvalidWords := PySem.W.mg_of X G E1_1, er_InvalidWords := ⟨⟨⟨_, _, _, _, _, _, _, _, _, _, _, _, _, _, _, E2_1, rfl⟩, E3_1, e3_1, E4_1, E5_1⟩, ⟨e1_1, e2_1, e3_1, e4_1, e5_1, sg, st, e6_1⟩, E6_1, E7_1, E8_1⟩, FI_InvalidWords := fun_mk (st := s_InvalidWords) E9_1 Ea_1 Eb_1,
    gc_InvalidOutcome := PySem.W.mg_of X G E1_2, er_InvalidOutcome := ⟨⟨⟨_, _, _, _, _, _, _, _, _, _, _, _, _, _, _, E2_2, rfl⟩, E3_2, e3_2, E4_2, E5_2⟩, ⟨e1_2, e2_2, e3_2, e4_2, e5_2, sg, st, e6_2⟩, E6_2, E7_2, E8_2⟩, FI_InvalidOutcome := fun_mk (st := s_InvalidOutcome) E9_2 Ea_2 Eb_2,
    gc_InvalidCondition := PySem.W.mg_of X G E1_3, er_InvalidCondition := ⟨⟨⟨_, _, _, _, _, _, _, _, _, _, _, _, _, _, _, E2_3, rfl⟩, E3_3, e3_3, E4_3, E5_3⟩, ⟨e1_3, e2_3, e3_3, e4_3, e5_3, sg, st, e6_3⟩, E6_3, E7_3, E8_3⟩, FI_InvalidCondition := fun_mk (st := s_InvalidCondition) E9_3 Ea_3 Eb_3,
    gc_InvalidRanking := PySem.W.mg_of X G E1_4, er_InvalidRanking := ⟨⟨⟨_, _, _, _, _, _, _, _, _, _, _, _, _, _, _, E2_4, rfl⟩, E3_4, e3_4, E4_4, E5_4⟩, ⟨e1_4, e2_4, e3_4, e4_4, e5_4, sg, st, e6_4⟩, E6_4, E7_4, E8_4⟩, FI_InvalidRanking := fun_mk (st := s_InvalidRanking) E9_4 Ea_4 Eb_4,
    gc_InvalidKnowledge := PySem.W.mg_of X G E1_5, er_InvalidKnowledge := ⟨⟨⟨_, _, _, _, _, _, _, _, _, _, _, _, _, _, _, E2_5, rfl⟩, E3_5, e3_5, E4_5, E5_5⟩, ⟨e1_5, e2_5, e3_5, e4_5, e5_5, sg, st, e6_5⟩, E6_5, E7_5, E8_5⟩, FI_InvalidKnowledge := fun_mk (st := s_InvalidKnowledge) E9_5 Ea_5 Eb_5,
    gc_InvalidProgram := PySem.W.mg_of X G E1_6, er_InvalidProgram := ⟨⟨⟨_, _, _, _, _, _, _, _, _, _, _, _, _, _, _, E2_6, rfl⟩, E3_6, e3_6, E4_6, E5_6⟩, ⟨e1_6, e2_6, e3_6, e4_6, e5_6, sg, st, e6_6⟩, E6_6, E7_6, E8_6⟩, FI_InvalidProgram := fun_mk (st := s_InvalidProgram) E9_6 Ea_6 Eb_6,
    gc_InvalidRow := PySem.W.mg_of X G E1_7, er_InvalidRow := ⟨⟨⟨_, _, _, _, _, _, _, _, _, _, _, _, _, _, _, E2_7, rfl⟩, E3_7, e3_7, E4_7, E5_7⟩, ⟨e1_7, e2_7, e3_7, e4_7, e5_7, sg, st, e6_7⟩, E6_7, E7_7, E8_7⟩, FI_InvalidRow := fun_mk (st := s_InvalidRow) E9_7 Ea_7 Eb_7,
    gc_InvalidRegister := PySem.W.mg_of X G E1_8, er_InvalidRegister := ⟨⟨⟨_, _, _, _, _, _, _, _, _, _, _, _, _, _, _, E2_8, rfl⟩, E3_8, e3_8, E4_8, E5_8⟩, ⟨e1_8, e2_8, e3_8, e4_8, e5_8, sg, st, e6_8⟩, E6_8, E7_8, E8_8⟩, FI_InvalidRegister := fun_mk (st := s_InvalidRegister) E9_8 Ea_8 Eb_8,
    gc_InvalidQuery := PySem.W.mg_of X G E1_9, er_InvalidQuery := ⟨⟨⟨_, _, _, _, _, _, _, _, _, _, _, _, _, _, _, E2_9, rfl⟩, E3_9, e3_9, E4_9, E5_9⟩, ⟨e1_9, e2_9, e3_9, e4_9, e5_9, sg, st, e6_9⟩, E6_9, E7_9, E8_9⟩, FI_InvalidQuery := fun_mk (st := s_InvalidQuery) E9_9 Ea_9 Eb_9,
    gc_InvalidTable := PySem.W.mg_of X G E1_10, er_InvalidTable := ⟨⟨⟨_, _, _, _, _, _, _, _, _, _, _, _, _, _, _, E2_10, rfl⟩, E3_10, e3_10, E4_10, E5_10⟩, ⟨e1_10, e2_10, e3_10, e4_10, e5_10, sg, st, e6_10⟩, E6_10, E7_10, E8_10⟩, FI_InvalidTable := fun_mk (st := s_InvalidTable) E9_10 Ea_10 Eb_10,
    gc_InvalidNumber := PySem.W.mg_of X G E1_11, er_InvalidNumber := ⟨⟨⟨_, _, _, _, _, _, _, _, _, _, _, _, _, _, _, E2_11, rfl⟩, E3_11, e3_11, E4_11, E5_11⟩, ⟨e1_11, e2_11, e3_11, e4_11, e5_11, sg, st, e6_11⟩, E6_11, E7_11, E8_11⟩, FI_InvalidNumber := fun_mk (st := s_InvalidNumber) E9_11 Ea_11 Eb_11,
    gc_UnlikeInputs := PySem.W.mg_of X G E1_12, er_UnlikeInputs := ⟨⟨⟨_, _, _, _, _, _, _, _, _, _, _, _, _, _, _, E2_12, rfl⟩, E3_12, e3_12, E4_12, E5_12⟩, ⟨e1_12, e2_12, e3_12, e4_12, e5_12, sg, st, e6_12⟩, E6_12, E7_12, E8_12⟩, FI_UnlikeInputs := fun_mk (st := s_UnlikeInputs) E9_12 Ea_12 Eb_12,
    gc_NothingToUndo := PySem.W.mg_of X G E1_13, er_NothingToUndo := ⟨⟨⟨_, _, _, _, _, _, _, _, _, _, _, _, _, _, _, E2_13, rfl⟩, E3_13, e3_13, E4_13, E5_13⟩, ⟨e1_13, e2_13, e3_13, e4_13, e5_13, sg, st, e6_13⟩, E6_13, E7_13, E8_13⟩, FI_NothingToUndo := fun_mk (st := s_NothingToUndo) E9_13 Ea_13 Eb_13,
    gc_Unreadable := PySem.W.mg_of X G E1_14, er_Unreadable := ⟨⟨⟨_, _, _, _, _, _, _, _, _, _, _, _, _, _, _, E2_14, rfl⟩, E3_14, e3_14, E4_14, E5_14⟩, ⟨e1_14, e2_14, e3_14, e4_14, e5_14, sg, st, e6_14⟩, E6_14, E7_14, E8_14⟩, FI_Unreadable := fun_mk (st := s_Unreadable) E9_14 Ea_14 Eb_14,
    xm_InvalidWidth := xm_0,
    xm_InvalidWords := xm_1,
    xm_InvalidOutcome := xm_2,
    xm_InvalidCondition := xm_3,
    xm_InvalidRanking := xm_4,
    xm_InvalidKnowledge := xm_5,
    xm_InvalidProgram := xm_6,
    xm_InvalidRow := xm_7,
    xm_InvalidRegister := xm_8,
    xm_InvalidQuery := xm_9,
    xm_InvalidTable := xm_10,
    xm_InvalidNumber := xm_11,
    xm_UnlikeInputs := xm_12,
    xm_NothingToUndo := xm_13,
    xm_Unreadable := xm_14,
    gc_BranchError := PySem.W.mg_of X G aB, xb := qB, kb := kB, eb := ⟨e1B, e2B, e3B, e4B, e5B, sg, st, e6B⟩, tab := tab,
    b_ValueError := PySem.W.mg_none_of X G z_ValueError, b_abs := PySem.W.mg_none_of X G z_abs, b_all := PySem.W.mg_none_of X G z_all, b_enumerate := PySem.W.mg_none_of X G z_enumerate, b_int := PySem.W.mg_none_of X G z_int, b_isinstance := PySem.W.mg_none_of X G z_isinstance, b_len := PySem.W.mg_none_of X G z_len, b_list := PySem.W.mg_none_of X G z_list, b_max := PySem.W.mg_none_of X G z_max, b_min := PySem.W.mg_none_of X G z_min, b_range := PySem.W.mg_none_of X G z_range, b_str := PySem.W.mg_none_of X G z_str, b_tuple := PySem.W.mg_none_of X G z_tuple, b_type := PySem.W.mg_none_of X G z_type, b_zip := PySem.W.mg_none_of X G z_zip }
  exact ⟨(PySem.W.fnOf "law" "law" (defArgs s_law) (defBody s_law) (defScope s_law) .none kV20 dc20 pm20 an20 cd20 ct20), fun s v => .of_eq rfl, fun base _ _ => ok_law T⟩
theorem walk {l : PySem.W.OpenLaw} {q : Program} {loose : List Str} {XP : (Str → Option Value) → Heap → Prop} {YP : World → Heap → Prop} {d : DefRec} {K : Params → PySem.W.Frag} (hn : l.most = some 63) (hdf : d.params.defaults = [])
    (hY : ∀ (w : World) (h : Heap), YP w h → (K w.params).In h) (F : ∀ (w : World) (mg : Str → Option Value) (fa : Addr) (h : Heap), (K w.params).In h → h.Ns mainGlobals mg → mg d.name = some (.ref fa) →
      ∃ fd : FuncData, (∀ (s : Shared) (u : Value), BindsTo s fd ⟨[u], []⟩ [("script", u)]) ∧ ∀ base : Heap, (K w.params).In base → base.Ns mainGlobals mg → FnOk l.prog w (K w.params) mg base CX0 8 fa fd ["script"] (sp_law (K w.params))) :
    PySem.W.WalkO q loose XP YP l.row.toRowW d [] (fun f vs => PySem.call f vs) :=
  L2.walk_ofK (n := 63) (k := 8) (x := "script") (CX := CX0) (sp := sp_law) hn (by decide) hdf ⟨rfl, by decide, by decide⟩ hY F (fun K H a ns hl _ hS => ⟨a, ns, rfl, hS, hl, fun _ => rfl⟩) fun _ _ _ _ z => z
end BR
open PySem PySem.W PyProof.Rows
set_option maxRecDepth 100000 in
set_option maxHeartbeats 0 in
theorem PySem.Challenge.cw_branchorders_k17_errors_of_programs_holds : PySem.Challenge.rw_branchorders_k17_errors_of_programs.Holds := by
  w_on; o_law; k_head; (case hw => w_witness2)
  k_fill
  refine BR.walk (l := PySem.Challenge.rw_branchorders_k17_errors_of_programs) rfl rfl (fun w h Y => PySem.W.kIn_of Y) ?F
  case F =>
    intro w mg fa h KX G hmg
    refine' BR.all_mk KX G hmg ?aC_Program ?a0 ?l0 ?c0 ?k0 ?a1 ?l1 ?c1 ?k1 ?a2 ?i2 ?l2 ?c2 ?k2 ?a3 ?i3 ?l3 ?c3 ?k3 ?a4 ?i4 ?l4 ?c4 ?k4 ?a5 ?i5 ?l5 ?c5 ?k5 ?a6 ?l6 ?c6 ?k6 ?a7 ?l7 ?c7 ?k7 ?a8 ?l8 ?c8 ?k8 ?a9 ?l9 ?c9 ?k9 ?a10 ?l10 ?c10 ?k10 ?a11 ?l11 ?c11 ?k11 ?a12 ?l12 ?c12 ?k12 ?a13 ?l13 ?c13 ?k13 ?a14 ?l14 ?c14 ?k14 ?a15 ?l15 ?c15 ?k15 ?a16 ?l16 ?c16 ?k16 ?a17 ?l17 ?c17 ?k17 ?a18 ?l18 ?c18 ?k18 ?a19 ?l19 ?c19 ?k19 ?a20 ?l20 ?c20 ?k20 ?pg_Program ?hd_Program ?po_Program ?sa_Program ?mk_Program ?kc_Program ?nf_Program__inputs ?nf_Program__rows ?nf_Program__placed ?ta_Program ?tm_Program ?to_Program ?sf_Program ?tg ?tt ?z_ValueError ?z_abs ?z_all ?z_enumerate ?z_int ?z_isinstance ?z_len ?z_list ?z_max ?z_min ?z_range ?z_str ?z_tuple ?z_type ?z_zip ?av_CONDITIONS ?lk_CONDITIONS ?kk_CONDITIONS ?lo_CONDITIONS ?vl_CONDITIONS ?lk_CONDITIONS_0 ?cl_CONDITIONS_0 ?dt_CONDITIONS_0 ?el_CONDITIONS_0 ?lk_CONDITIONS_1 ?cl_CONDITIONS_1 ?dt_CONDITIONS_1 ?el_CONDITIONS_1 ?lk_CONDITIONS_2 ?cl_CONDITIONS_2 ?dt_CONDITIONS_2 ?el_CONDITIONS_2 ?lk_CONDITIONS_3 ?cl_CONDITIONS_3 ?dt_CONDITIONS_3 ?el_CONDITIONS_3 ?lk_CONDITIONS_4 ?cl_CONDITIONS_4 ?dt_CONDITIONS_4 ?el_CONDITIONS_4 ?lk_CONDITIONS_5 ?cl_CONDITIONS_5 ?dt_CONDITIONS_5 ?el_CONDITIONS_5 ?lk_CONDITIONS_6 ?cl_CONDITIONS_6 ?dt_CONDITIONS_6 ?el_CONDITIONS_6 ?lk_CONDITIONS_7 ?cl_CONDITIONS_7 ?dt_CONDITIONS_7 ?el_CONDITIONS_7 ?lk_CONDITIONS_8 ?cl_CONDITIONS_8 ?dt_CONDITIONS_8 ?el_CONDITIONS_8 ?lk_CONDITIONS_9 ?cl_CONDITIONS_9 ?dt_CONDITIONS_9 ?el_CONDITIONS_9 ?lk_CONDITIONS_10 ?cl_CONDITIONS_10 ?dt_CONDITIONS_10 ?el_CONDITIONS_10 ?lk_CONDITIONS_11 ?cl_CONDITIONS_11 ?dt_CONDITIONS_11 ?el_CONDITIONS_11 ?av_INPUT_NAMES ?lk_INPUT_NAMES ?cl_INPUT_NAMES ?dt_INPUT_NAMES ?el_INPUT_NAMES ?av_OTHER_NAMES ?lk_OTHER_NAMES ?cl_OTHER_NAMES ?dt_OTHER_NAMES ?el_OTHER_NAMES ?av_FORMS ?lk_FORMS ?kk_FORMS ?lo_FORMS ?vl_FORMS ?aB ?kB ?qB ?e1B ?e2B ?e3B ?e4B ?e5B ?e6B ?sg ?st ?E1_0 ?E2_0 ?E3_0 ?E4_0 ?E5_0 ?E6_0 ?E7_0 ?E8_0 ?E9_0 ?Ea_0 ?Eb_0 ?e1_0 ?e2_0 ?e3_0 ?e4_0 ?e5_0 ?e6_0 ?E1_1 ?E2_1 ?E3_1 ?E4_1 ?E5_1 ?E6_1 ?E7_1 ?E8_1 ?E9_1 ?Ea_1 ?Eb_1 ?e1_1 ?e2_1 ?e3_1 ?e4_1 ?e5_1 ?e6_1 ?E1_2 ?E2_2 ?E3_2 ?E4_2 ?E5_2 ?E6_2 ?E7_2 ?E8_2 ?E9_2 ?Ea_2 ?Eb_2 ?e1_2 ?e2_2 ?e3_2 ?e4_2 ?e5_2 ?e6_2 ?E1_3 ?E2_3 ?E3_3 ?E4_3 ?E5_3 ?E6_3 ?E7_3 ?E8_3 ?E9_3 ?Ea_3 ?Eb_3 ?e1_3 ?e2_3 ?e3_3 ?e4_3 ?e5_3 ?e6_3 ?E1_4 ?E2_4 ?E3_4 ?E4_4 ?E5_4 ?E6_4 ?E7_4 ?E8_4 ?E9_4 ?Ea_4 ?Eb_4 ?e1_4 ?e2_4 ?e3_4 ?e4_4 ?e5_4 ?e6_4 ?E1_5 ?E2_5 ?E3_5 ?E4_5 ?E5_5 ?E6_5 ?E7_5 ?E8_5 ?E9_5 ?Ea_5 ?Eb_5 ?e1_5 ?e2_5 ?e3_5 ?e4_5 ?e5_5 ?e6_5 ?E1_6 ?E2_6 ?E3_6 ?E4_6 ?E5_6 ?E6_6 ?E7_6 ?E8_6 ?E9_6 ?Ea_6 ?Eb_6 ?e1_6 ?e2_6 ?e3_6 ?e4_6 ?e5_6 ?e6_6 ?E1_7 ?E2_7 ?E3_7 ?E4_7 ?E5_7 ?E6_7 ?E7_7 ?E8_7 ?E9_7 ?Ea_7 ?Eb_7 ?e1_7 ?e2_7 ?e3_7 ?e4_7 ?e5_7 ?e6_7 ?E1_8 ?E2_8 ?E3_8 ?E4_8 ?E5_8 ?E6_8 ?E7_8 ?E8_8 ?E9_8 ?Ea_8 ?Eb_8 ?e1_8 ?e2_8 ?e3_8 ?e4_8 ?e5_8 ?e6_8 ?E1_9 ?E2_9 ?E3_9 ?E4_9 ?E5_9 ?E6_9 ?E7_9 ?E8_9 ?E9_9 ?Ea_9 ?Eb_9 ?e1_9 ?e2_9 ?e3_9 ?e4_9 ?e5_9 ?e6_9 ?E1_10 ?E2_10 ?E3_10 ?E4_10 ?E5_10 ?E6_10 ?E7_10 ?E8_10 ?E9_10 ?Ea_10 ?Eb_10 ?e1_10 ?e2_10 ?e3_10 ?e4_10 ?e5_10 ?e6_10 ?E1_11 ?E2_11 ?E3_11 ?E4_11 ?E5_11 ?E6_11 ?E7_11 ?E8_11 ?E9_11 ?Ea_11 ?Eb_11 ?e1_11 ?e2_11 ?e3_11 ?e4_11 ?e5_11 ?e6_11 ?E1_12 ?E2_12 ?E3_12 ?E4_12 ?E5_12 ?E6_12 ?E7_12 ?E8_12 ?E9_12 ?Ea_12 ?Eb_12 ?e1_12 ?e2_12 ?e3_12 ?e4_12 ?e5_12 ?e6_12 ?E1_13 ?E2_13 ?E3_13 ?E4_13 ?E5_13 ?E6_13 ?E7_13 ?E8_13 ?E9_13 ?Ea_13 ?Eb_13 ?e1_13 ?e2_13 ?e3_13 ?e4_13 ?e5_13 ?e6_13 ?E1_14 ?E2_14 ?E3_14 ?E4_14 ?E5_14 ?E6_14 ?E7_14 ?E8_14 ?E9_14 ?Ea_14 ?Eb_14 ?e1_14 ?e2_14 ?e3_14 ?e4_14 ?e5_14 ?e6_14 ?xm_0 ?xm_1 ?xm_2 ?xm_3 ?xm_4 ?xm_5 ?xm_6 ?xm_7 ?xm_8 ?xm_9 ?xm_10 ?xm_11 ?xm_12 ?xm_13 ?xm_14 ?tab
    (case aC_Program => k_is)
    (case a0 => k_is)
    (case l0 => k_is)
    (case c0 => k_is)
    (case k0 => k_is)
    (case a1 => k_is)
    (case l1 => k_is)
    (case c1 => k_is)
    (case k1 => k_is)
    (case a2 => k_is)
    (case i2 => k_is)
    (case l2 => k_is)
    (case c2 => k_is)
    (case k2 => k_is)
    (case a3 => k_is)
    (case i3 => k_is)
    (case l3 => k_is)
    (case c3 => k_is)
    (case k3 => k_is)
    (case a4 => k_is)
    (case i4 => k_is)
    (case l4 => k_is)
    (case c4 => k_is)
    (case k4 => k_is)
    (case a5 => k_is)
    (case i5 => k_is)
    (case l5 => k_is)
    (case c5 => k_is)
    (case k5 => k_is)
    (case a6 => k_is)
    (case l6 => k_is)
    (case c6 => k_is)
    (case k6 => k_is)
    (case a7 => k_is)
    (case l7 => k_is)
    (case c7 => k_is)
    (case k7 => k_is)
    (case a8 => k_is)
    (case l8 => k_is)
    (case c8 => k_is)
    (case k8 => k_is)
    (case a9 => k_is)
    (case l9 => k_is)
    (case c9 => k_is)
    (case k9 => k_is)
    (case a10 => k_is)
    (case l10 => k_is)
    (case c10 => k_is)
    (case k10 => k_is)
    (case a11 => k_is)
    (case l11 => k_is)
    (case c11 => k_is)
    (case k11 => k_is)
    (case a12 => k_is)
    (case l12 => k_is)
    (case c12 => k_is)
    (case k12 => k_is)
    (case a13 => k_is)
    (case l13 => k_is)
    (case c13 => k_is)
    (case k13 => k_is)
    (case a14 => k_is)
    (case l14 => k_is)
    (case c14 => k_is)
    (case k14 => k_is)
    (case a15 => k_is)
    (case l15 => k_is)
    (case c15 => k_is)
    (case k15 => k_is)
    (case a16 => k_is)
    (case l16 => k_is)
    (case c16 => k_is)
    (case k16 => k_is)
    (case a17 => k_is)
    (case l17 => k_is)
    (case c17 => k_is)
    (case k17 => k_is)
    (case a18 => k_is)
    (case l18 => k_is)
    (case c18 => k_is)
    (case k18 => k_is)
    (case a19 => k_is)
    (case l19 => k_is)
    (case c19 => k_is)
    (case k19 => k_is)
    (case a20 => k_is)
    (case l20 => k_is)
    (case c20 => k_is)
    (case k20 => k_is)
    (case pg_Program => k_is)
    (case hd_Program => k_is)
    (case po_Program => k_is)
    (case sa_Program => k_is)
    (case mk_Program => k_is)
    (case kc_Program => k_is)
    (case nf_Program__inputs => k_is)
    (case nf_Program__rows => k_is)
    (case nf_Program__placed => k_is)
    (case ta_Program => k_is)
    (case tm_Program => k_is)
    (case to_Program => first | exact if_pos (beq_self_eq_true _) | k_is)
    (case sf_Program => k_is)
    (case tg => k_is)
    (case tt => k_is)
    (case z_ValueError => k_is)
    (case z_abs => k_is)
    (case z_all => k_is)
    (case z_enumerate => k_is)
    (case z_int => k_is)
    (case z_isinstance => k_is)
    (case z_len => k_is)
    (case z_list => k_is)
    (case z_max => k_is)
    (case z_min => k_is)
    (case z_range => k_is)
    (case z_str => k_is)
    (case z_tuple => k_is)
    (case z_type => k_is)
    (case z_zip => k_is)
    (case av_CONDITIONS => k_is)
    (case lk_CONDITIONS => k_is)
    (case kk_CONDITIONS => first | rfl | kernel_rfl | k_is)
    (case lo_CONDITIONS => first | rfl | kernel_rfl | k_is)
    (case vl_CONDITIONS => first | rfl | kernel_rfl | k_is)
    (case lk_CONDITIONS_0 => k_is)
    (case cl_CONDITIONS_0 => first | rfl | kernel_rfl | k_is)
    (case dt_CONDITIONS_0 => first | rfl | kernel_rfl | k_is)
    (case el_CONDITIONS_0 => first | rfl | kernel_rfl | k_is)
    (case lk_CONDITIONS_1 => k_is)
    (case cl_CONDITIONS_1 => first | rfl | kernel_rfl | k_is)
    (case dt_CONDITIONS_1 => first | rfl | kernel_rfl | k_is)
    (case el_CONDITIONS_1 => first | rfl | kernel_rfl | k_is)
    (case lk_CONDITIONS_2 => k_is)
    (case cl_CONDITIONS_2 => first | rfl | kernel_rfl | k_is)
    (case dt_CONDITIONS_2 => first | rfl | kernel_rfl | k_is)
    (case el_CONDITIONS_2 => first | rfl | kernel_rfl | k_is)
    (case lk_CONDITIONS_3 => k_is)
    (case cl_CONDITIONS_3 => first | rfl | kernel_rfl | k_is)
    (case dt_CONDITIONS_3 => first | rfl | kernel_rfl | k_is)
    (case el_CONDITIONS_3 => first | rfl | kernel_rfl | k_is)
    (case lk_CONDITIONS_4 => k_is)
    (case cl_CONDITIONS_4 => first | rfl | kernel_rfl | k_is)
    (case dt_CONDITIONS_4 => first | rfl | kernel_rfl | k_is)
    (case el_CONDITIONS_4 => first | rfl | kernel_rfl | k_is)
    (case lk_CONDITIONS_5 => k_is)
    (case cl_CONDITIONS_5 => first | rfl | kernel_rfl | k_is)
    (case dt_CONDITIONS_5 => first | rfl | kernel_rfl | k_is)
    (case el_CONDITIONS_5 => first | rfl | kernel_rfl | k_is)
    (case lk_CONDITIONS_6 => k_is)
    (case cl_CONDITIONS_6 => first | rfl | kernel_rfl | k_is)
    (case dt_CONDITIONS_6 => first | rfl | kernel_rfl | k_is)
    (case el_CONDITIONS_6 => first | rfl | kernel_rfl | k_is)
    (case lk_CONDITIONS_7 => k_is)
    (case cl_CONDITIONS_7 => first | rfl | kernel_rfl | k_is)
    (case dt_CONDITIONS_7 => first | rfl | kernel_rfl | k_is)
    (case el_CONDITIONS_7 => first | rfl | kernel_rfl | k_is)
    (case lk_CONDITIONS_8 => k_is)
    (case cl_CONDITIONS_8 => first | rfl | kernel_rfl | k_is)
    (case dt_CONDITIONS_8 => first | rfl | kernel_rfl | k_is)
    (case el_CONDITIONS_8 => first | rfl | kernel_rfl | k_is)
    (case lk_CONDITIONS_9 => k_is)
    (case cl_CONDITIONS_9 => first | rfl | kernel_rfl | k_is)
    (case dt_CONDITIONS_9 => first | rfl | kernel_rfl | k_is)
    (case el_CONDITIONS_9 => first | rfl | kernel_rfl | k_is)
    (case lk_CONDITIONS_10 => k_is)
    (case cl_CONDITIONS_10 => first | rfl | kernel_rfl | k_is)
    (case dt_CONDITIONS_10 => first | rfl | kernel_rfl | k_is)
    (case el_CONDITIONS_10 => first | rfl | kernel_rfl | k_is)
    (case lk_CONDITIONS_11 => k_is)
    (case cl_CONDITIONS_11 => first | rfl | kernel_rfl | k_is)
    (case dt_CONDITIONS_11 => first | rfl | kernel_rfl | k_is)
    (case el_CONDITIONS_11 => first | rfl | kernel_rfl | k_is)
    (case av_INPUT_NAMES => k_is)
    (case lk_INPUT_NAMES => k_is)
    (case cl_INPUT_NAMES => first | rfl | kernel_rfl | k_is)
    (case dt_INPUT_NAMES => first | rfl | kernel_rfl | k_is)
    (case el_INPUT_NAMES => first | rfl | kernel_rfl | k_is)
    (case av_OTHER_NAMES => k_is)
    (case lk_OTHER_NAMES => k_is)
    (case cl_OTHER_NAMES => first | rfl | kernel_rfl | k_is)
    (case dt_OTHER_NAMES => first | rfl | kernel_rfl | k_is)
    (case el_OTHER_NAMES => first | rfl | kernel_rfl | k_is)
    (case av_FORMS => k_is)
    (case lk_FORMS => k_is)
    (case kk_FORMS => first | rfl | kernel_rfl | k_is)
    (case lo_FORMS => first | rfl | kernel_rfl | k_is)
    (case vl_FORMS => first | rfl | kernel_rfl | k_is)
    (case aB => k_is)
    (case kB => k_is)
    (case qB => k_exc)
    (case e1B => k_is)
    (case e2B => k_is)
    (case e3B => k_is)
    (case e4B => k_is)
    (case e5B => k_is)
    (case e6B => k_is)
    (case sg => k_is)
    (case st => k_is)
    (case E1_0 => k_is)
    (case E2_0 => k_is)
    (case E3_0 => k_is)
    (case E4_0 => k_is)
    (case E5_0 => k_is)
    (case E6_0 => k_is)
    (case E7_0 => k_is)
    (case E8_0 => k_is)
    (case E9_0 => k_is)
    (case Ea_0 => k_is)
    (case Eb_0 => k_is)
    (case e1_0 => k_is)
    (case e2_0 => k_is)
    (case e3_0 => k_is)
    (case e4_0 => k_is)
    (case e5_0 => k_is)
    (case e6_0 => k_is)
    (case E1_1 => k_is)
    (case E2_1 => k_is)
    (case E3_1 => k_is)
    (case E4_1 => k_is)
    (case E5_1 => k_is)
    (case E6_1 => k_is)
    (case E7_1 => k_is)
    (case E8_1 => k_is)
    (case E9_1 => k_is)
    (case Ea_1 => k_is)
    (case Eb_1 => k_is)
    (case e1_1 => k_is)
    (case e2_1 => k_is)
    (case e3_1 => k_is)
    (case e4_1 => k_is)
    (case e5_1 => k_is)
    (case e6_1 => k_is)
    (case E1_2 => k_is)
    (case E2_2 => k_is)
    (case E3_2 => k_is)
    (case E4_2 => k_is)
    (case E5_2 => k_is)
    (case E6_2 => k_is)
    (case E7_2 => k_is)
    (case E8_2 => k_is)
    (case E9_2 => k_is)
    (case Ea_2 => k_is)
    (case Eb_2 => k_is)
    (case e1_2 => k_is)
    (case e2_2 => k_is)
    (case e3_2 => k_is)
    (case e4_2 => k_is)
    (case e5_2 => k_is)
    (case e6_2 => k_is)
    (case E1_3 => k_is)
    (case E2_3 => k_is)
    (case E3_3 => k_is)
    (case E4_3 => k_is)
    (case E5_3 => k_is)
    (case E6_3 => k_is)
    (case E7_3 => k_is)
    (case E8_3 => k_is)
    (case E9_3 => k_is)
    (case Ea_3 => k_is)
    (case Eb_3 => k_is)
    (case e1_3 => k_is)
    (case e2_3 => k_is)
    (case e3_3 => k_is)
    (case e4_3 => k_is)
    (case e5_3 => k_is)
    (case e6_3 => k_is)
    (case E1_4 => k_is)
    (case E2_4 => k_is)
    (case E3_4 => k_is)
    (case E4_4 => k_is)
    (case E5_4 => k_is)
    (case E6_4 => k_is)
    (case E7_4 => k_is)
    (case E8_4 => k_is)
    (case E9_4 => k_is)
    (case Ea_4 => k_is)
    (case Eb_4 => k_is)
    (case e1_4 => k_is)
    (case e2_4 => k_is)
    (case e3_4 => k_is)
    (case e4_4 => k_is)
    (case e5_4 => k_is)
    (case e6_4 => k_is)
    (case E1_5 => k_is)
    (case E2_5 => k_is)
    (case E3_5 => k_is)
    (case E4_5 => k_is)
    (case E5_5 => k_is)
    (case E6_5 => k_is)
    (case E7_5 => k_is)
    (case E8_5 => k_is)
    (case E9_5 => k_is)
    (case Ea_5 => k_is)
    (case Eb_5 => k_is)
    (case e1_5 => k_is)
    (case e2_5 => k_is)
    (case e3_5 => k_is)
    (case e4_5 => k_is)
    (case e5_5 => k_is)
    (case e6_5 => k_is)
    (case E1_6 => k_is)
    (case E2_6 => k_is)
    (case E3_6 => k_is)
    (case E4_6 => k_is)
    (case E5_6 => k_is)
    (case E6_6 => k_is)
    (case E7_6 => k_is)
    (case E8_6 => k_is)
    (case E9_6 => k_is)
    (case Ea_6 => k_is)
    (case Eb_6 => k_is)
    (case e1_6 => k_is)
    (case e2_6 => k_is)
    (case e3_6 => k_is)
    (case e4_6 => k_is)
    (case e5_6 => k_is)
    (case e6_6 => k_is)
    (case E1_7 => k_is)
    (case E2_7 => k_is)
    (case E3_7 => k_is)
    (case E4_7 => k_is)
    (case E5_7 => k_is)
    (case E6_7 => k_is)
    (case E7_7 => k_is)
    (case E8_7 => k_is)
    (case E9_7 => k_is)
    (case Ea_7 => k_is)
    (case Eb_7 => k_is)
    (case e1_7 => k_is)
    (case e2_7 => k_is)
    (case e3_7 => k_is)
    (case e4_7 => k_is)
    (case e5_7 => k_is)
    (case e6_7 => k_is)
    (case E1_8 => k_is)
    (case E2_8 => k_is)
    (case E3_8 => k_is)
    (case E4_8 => k_is)
    (case E5_8 => k_is)
    (case E6_8 => k_is)
    (case E7_8 => k_is)
    (case E8_8 => k_is)
    (case E9_8 => k_is)
    (case Ea_8 => k_is)
    (case Eb_8 => k_is)
    (case e1_8 => k_is)
    (case e2_8 => k_is)
    (case e3_8 => k_is)
    (case e4_8 => k_is)
    (case e5_8 => k_is)
    (case e6_8 => k_is)
    (case E1_9 => k_is)
    (case E2_9 => k_is)
    (case E3_9 => k_is)
    (case E4_9 => k_is)
    (case E5_9 => k_is)
    (case E6_9 => k_is)
    (case E7_9 => k_is)
    (case E8_9 => k_is)
    (case E9_9 => k_is)
    (case Ea_9 => k_is)
    (case Eb_9 => k_is)
    (case e1_9 => k_is)
    (case e2_9 => k_is)
    (case e3_9 => k_is)
    (case e4_9 => k_is)
    (case e5_9 => k_is)
    (case e6_9 => k_is)
    (case E1_10 => k_is)
    (case E2_10 => k_is)
    (case E3_10 => k_is)
    (case E4_10 => k_is)
    (case E5_10 => k_is)
    (case E6_10 => k_is)
    (case E7_10 => k_is)
    (case E8_10 => k_is)
    (case E9_10 => k_is)
    (case Ea_10 => k_is)
    (case Eb_10 => k_is)
    (case e1_10 => k_is)
    (case e2_10 => k_is)
    (case e3_10 => k_is)
    (case e4_10 => k_is)
    (case e5_10 => k_is)
    (case e6_10 => k_is)
    (case E1_11 => k_is)
    (case E2_11 => k_is)
    (case E3_11 => k_is)
    (case E4_11 => k_is)
    (case E5_11 => k_is)
    (case E6_11 => k_is)
    (case E7_11 => k_is)
    (case E8_11 => k_is)
    (case E9_11 => k_is)
    (case Ea_11 => k_is)
    (case Eb_11 => k_is)
    (case e1_11 => k_is)
    (case e2_11 => k_is)
    (case e3_11 => k_is)
    (case e4_11 => k_is)
    (case e5_11 => k_is)
    (case e6_11 => k_is)
    (case E1_12 => k_is)
    (case E2_12 => k_is)
    (case E3_12 => k_is)
    (case E4_12 => k_is)
    (case E5_12 => k_is)
    (case E6_12 => k_is)
    (case E7_12 => k_is)
    (case E8_12 => k_is)
    (case E9_12 => k_is)
    (case Ea_12 => k_is)
    (case Eb_12 => k_is)
    (case e1_12 => k_is)
    (case e2_12 => k_is)
    (case e3_12 => k_is)
    (case e4_12 => k_is)
    (case e5_12 => k_is)
    (case e6_12 => k_is)
    (case E1_13 => k_is)
    (case E2_13 => k_is)
    (case E3_13 => k_is)
    (case E4_13 => k_is)
    (case E5_13 => k_is)
    (case E6_13 => k_is)
    (case E7_13 => k_is)
    (case E8_13 => k_is)
    (case E9_13 => k_is)
    (case Ea_13 => k_is)
    (case Eb_13 => k_is)
    (case e1_13 => k_is)
    (case e2_13 => k_is)
    (case e3_13 => k_is)
    (case e4_13 => k_is)
    (case e5_13 => k_is)
    (case e6_13 => k_is)
    (case E1_14 => k_is)
    (case E2_14 => k_is)
    (case E3_14 => k_is)
    (case E4_14 => k_is)
    (case E5_14 => k_is)
    (case E6_14 => k_is)
    (case E7_14 => k_is)
    (case E8_14 => k_is)
    (case E9_14 => k_is)
    (case Ea_14 => k_is)
    (case Eb_14 => k_is)
    (case e1_14 => k_is)
    (case e2_14 => k_is)
    (case e3_14 => k_is)
    (case e4_14 => k_is)
    (case e5_14 => k_is)
    (case e6_14 => k_is)
    (case xm_0 => first | rfl | kernel_rfl | k_is)
    (case xm_1 => first | rfl | kernel_rfl | k_is)
    (case xm_2 => first | rfl | kernel_rfl | k_is)
    (case xm_3 => first | rfl | kernel_rfl | k_is)
    (case xm_4 => first | rfl | kernel_rfl | k_is)
    (case xm_5 => first | rfl | kernel_rfl | k_is)
    (case xm_6 => first | rfl | kernel_rfl | k_is)
    (case xm_7 => first | rfl | kernel_rfl | k_is)
    (case xm_8 => first | rfl | kernel_rfl | k_is)
    (case xm_9 => first | rfl | kernel_rfl | k_is)
    (case xm_10 => first | rfl | kernel_rfl | k_is)
    (case xm_11 => first | rfl | kernel_rfl | k_is)
    (case xm_12 => first | rfl | kernel_rfl | k_is)
    (case xm_13 => first | rfl | kernel_rfl | k_is)
    (case xm_14 => first | rfl | kernel_rfl | k_is)
    (case tab => first | kernel_rfl | decide +kernel)
#print axioms PySem.Challenge.cw_branchorders_k17_errors_of_programs_holds
