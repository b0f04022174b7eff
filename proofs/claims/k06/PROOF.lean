import PyProof.Rows.All
import Wide.All
import OpenK.AllK
import Wide.FinOn
import HandS.ForMost
import HandS.IsInst
import HandS.StrMore
import HandS.Style
import HandS.Flow
import HandS.Wide
import PyProof.ReprLen
import HandS.Set
import HandS.SetFor
import HandS.More
import PyProof.Rows.SortShellAny
import HandS.OwnEq
import HandS.Property
import HandS.IterVal
import HandS.Words
import KE.KOwnIter
import PyProof.FactsAll.tuple_iterator_1
import HandS.DictTup
import HandS.DictComp
import HandS.WordsDict
import KE.KItemsList
import HandS.Conv
import HandS.Sort
import HandS.Keys
import KE.KSortTup
import HandS.Codes
import PyProof.StrLawsIn
import KE.KOpsOwn
import PyProof.DictUpdate
import PyProof.DictCopy
import HandS.TupAny
import PySem.Challenge.RW_cutbehind_k06_whole_prices_that_change_n
set_option Elab.async false
set_option linter.all false
set_option maxRecDepth 100000
set_option maxHeartbeats 4000000
/-! Gd: defs where no display is being shown (repr of lists and dicts), calls of them, the end of a law row. -/
namespace Gd
open PySem PySem.Spec PyProof.Rows L2

/-- a def's promise where the surroundings show nothing -/
structure FnG (P : Program) (w : World) (K : PySem.W.Frag) (mg : Str → Option Value) (base : Heap) (CX : CXT) (k : Nat) (f : Addr) (fd : FuncData) (ps : List Str) (sp : Sp) : Prop where
  len : ∀ vs H Q E, sp vs H Q E → vs.length = ps.length
  run : ∀ (A : Around) (outer : List Env) (s : Shared) (H : Hp) (args : Args) (us : List Value) (vs : List V) (Q : VK) (E : XK), Room k A → A.guards = some [] → Env0 P w K mg base A outer s H →
    BindsTo s fd args (ps.zip us) → Vals vs us → sp vs H Q E → codeAny (model P w) A (.call (.ref f) args) (CR CX outer P w H s Q E) s

section
variable {P : Program} {w : World} {K : PySem.W.Frag} {mg : Str → Option Value} {base : Heap} {CX : CXT} {k : Nat} {f : Addr} {fd : FuncData} {ps : List Str} {sp : Sp}
theorem FnG.of (F : FnOk P w K mg base CX k f fd ps sp) : FnG P w K mg base CX k f fd ps sp :=
  ⟨F.len, fun A outer s H args us vs Q E hr _ => F.run A outer s H args us vs Q E hr⟩
theorem FnG.up {j : Nat} (F : FnG P w K mg base CX j f fd ps sp) (h : j ≤ k) : FnG P w K mg base CX k f fd ps sp :=
  ⟨F.len, fun A outer s H args us vs Q E hr => F.run A outer s H args us vs Q E (hr.mono h)⟩
theorem FnG.imp {sp' : Sp} (F : FnG P w K mg base CX k f fd ps sp) (h : ∀ vs H Q E, sp' vs H Q E → sp vs H Q E) : FnG P w K mg base CX k f fd ps sp' :=
  ⟨fun vs H Q E q => F.len vs H Q E (h _ _ _ _ q), fun A outer s H args us vs Q E hr hg he hb hv hs => F.run A outer s H args us vs Q E hr hg he hb hv (h _ _ _ _ hs)⟩

/-- a def's promise from its body -/
theorem fn_ofG {name qual : Str} {params : Arguments} {body : List Stmt} {scope : Scope} {kV doc pm cdv ct oc : Value} {an od : Option Addr} {osl : Array (Option Value)} {N : List Str}
    (lk : K.lookup f = some ⟨oc, od, .func (PySem.W.fnOf name qual params body scope .none kV doc pm an cdv ct), osl⟩) (hcd : PySem.W.codeIn K cdv qual = true) (S : FnScope N ps scope)
    (len : ∀ vs H Q E, sp vs H Q E → vs.length = ps.length)
    (hbody : ∀ (A : Around) (outer : List Env) (s : Shared) (H : Hp) (vs : List V) (Q : VK) (E : XK), Room k (A.deeper (envOfC qual scope s.heap.objs.size f cdv)) → A.guards = some [] → sp vs H Q E →
      ∃ t, PSs (cxOf CX P w K mg base N qual scope f cdv A outer s H E) body t ∧ t { nx := fun _ H' => Q .non H', rt := Q } (start N vs) H) :
    FnG P w K mg base CX (k + 1) f (PySem.W.fnOf name qual params body scope .none kV doc pm an cdv ct) ps sp := by
  refine ⟨len, fun A outer s H args us vs Q E room quiet env bnd vals want => ?_⟩
  have same_len := len _ _ _ _ want
  have inK : K.In s.heap := env.mod.kin.keeps fun b o e => (env.bs b o e).1
  have noLim : s.heap.NoLimit := env.mod.nolimit.keeps fun b o e => (env.bs b o e).1
  have kinds : ∀ z ∈ ps.zip us, scope.names.lookup z.1 = some .local ∨ (scope.names.lookup z.1 = some .cell ∧ ((cellsFrom (s.heap.objs.size + 1) scope.names []).lookup z.1).isSome = true) := by
    rintro ⟨n, v⟩ hz
    rcases S.par n (List.of_mem_zip hz).1 with q | q
    · exact .inl q
    · exact .inr ⟨q, PySem.W.cellsFrom_some _ _ _ (.inl q)⟩
  refine codeAny_call_function room.depth (inK _ _ lk) rfl S.co S.gen rfl (PySem.W.codeRec_of inK hcd) (bnd _ _ _ _ ?_)
  refine wpAny_newFunctionEnv_cells S.kind kinds fun env' same s1 x => ?_
  subst same
  refine ⟨noLim.keeps x.toInCall.keep, codeAny_func ?_⟩
  obtain ⟨t, run, holds⟩ := hbody A outer s H vs Q E (room.deeper _) quiet want
  have I0 : Inv (cxOf CX P w K mg base N qual scope f cdv A outer s H E) [] (start N vs) H s1 := inv_start S room.hd env same_len vals x
  refine wpAny_mono (run.run [] s1 (start N vs) H _ I0 holds) (fun fl s2 hs => ?_) fun e s2 hs => hs
  cases fl with
  | ret u => exact hs.elim fun v h => h.elim fun _ h => h.elim fun H2 h => ⟨v, H2, h.1.os, h.1.bare, h.1.base, h.1.hok, h.2.1, h.2.2⟩
  | next => exact hs.elim fun _ h => h.elim fun H2 h => ⟨V.non, H2, h.1.os, h.1.bare, h.1.base, h.1.hok, rfl, h.2⟩
  | brk => exact hs.elim fun _ h => h.elim fun _ h => h.2.elim
  | cont => exact hs.elim fun _ h => h.elim fun _ h => h.2.elim
end

section
variable {P : Program} {w : World} {K : PySem.W.Frag} {mg : Str → Option Value} {base : Heap}
/-- the rule for a def of the text that lets no exception out -/
theorem okG {x qual : Str} {st : Stmt} {f : Addr} {fd : FuncData} {N ps : List Str} {k : Nat} {sp : Sp} (F : Fun K x qual st f fd) (S : FnScope N ps (defScope st)) (len : ∀ vs H Q E, sp vs H Q E → vs.length = ps.length)
    (hbody : ∀ (cdv : Value) (A : Around) (outer : List Env) (s : Shared) (H : Hp) (vs : List V) (Q : VK) (E : XK), Room k (A.deeper (envOfC qual (defScope st) s.heap.objs.size f cdv)) → (A.deeper (envOfC qual (defScope st) s.heap.objs.size f cdv)).guards = some [] → sp vs H Q E →
      ∃ t, PSs (cxOf CX0 P w K mg base N qual (defScope st) f cdv A outer s H E).nox (defBody st) t ∧ t { nx := fun _ H' => Q .non H', rt := Q } (start N vs) H) : FnG P w K mg base CX0 (k + 1) f fd ps sp := by
  obtain ⟨oc, od, kV, doc, pm, an, cdv, ct, osl, rfl, lk, hcd⟩ := F.ex
  refine fn_ofG lk hcd S len fun A outer s H vs Q E room quiet want => ?_
  obtain ⟨t, h, q⟩ := hbody cdv A outer s H vs Q E room quiet want
  exact ⟨t, h.nox, q⟩

/-- a def of the text that may be called by its name -/
structure Df (P : Program) (w : World) (K : PySem.W.Frag) (mg : Str → Option Value) (base : Heap) (k : Nat) (x : Str) (ps : List Str) (sp : Sp) : Prop where
  ex : ∃ (f : Addr) (fd : FuncData), FnG P w K mg base CX0 k f fd ps sp ∧ mg x = some (.ref f) ∧ PySem.W.keepIn K (.ref f) = true ∧ Binds K fd ps []
theorem Df.up {j k : Nat} {x : Str} {ps : List Str} {sp : Sp} (D : Df P w K mg base j x ps sp) (h : j ≤ k) : Df P w K mg base k x ps sp := by
  obtain ⟨f, fd, F, r⟩ := D.ex
  exact ⟨f, fd, F.up h, r⟩
theorem Df.imp {k : Nat} {x : Str} {ps : List Str} {sp sp' : Sp} (D : Df P w K mg base k x ps sp) (h : ∀ vs H Q E, sp' vs H Q E → sp vs H Q E) : Df P w K mg base k x ps sp' := by
  obtain ⟨f, fd, F, r⟩ := D.ex
  exact ⟨f, fd, F.imp h, r⟩
end

/-- room for calls where nothing is being shown -/
structure Rm (k : Nat) (A : Around) : Prop where
  room : Room k A
  still : A.guards = some []
theorem Rm.mono {j k : Nat} {A : Around} (r : Rm k A) (h : j ≤ k) : Rm j A := ⟨r.room.mono h, r.still⟩

section
variable {X : Cx} {CX : CXT} {k : Nat} {x : Str} {f : Addr} {fd : FuncData} {ps : List Str} {sp : Sp} {E : XK} {p pos : Pos} {e : Expr} {es : List Expr} {t : TA}
theorem run_fnG {pins : List (Addr × Obj)} {σ : L2.St} {H : Hp} {s : Shared} {Q : VK} {us ds : List Value} {vs dvs : List V} (F : FnG X.prog X.w X.K X.mg X.base CX k f fd ps sp) (hr : Rm k X.A) (hb : Binds X.K fd ps ds) (hd : Vals dvs ds) (hx : Passes CX X E)
    (I : Inv X pins σ H s) (r : Vals vs us) (h : sp (vs ++ dvs) H Q E) : wpAny (model X.prog X.w) X.A (call (.ref f) us) (EP X pins σ Q) X.xe s := by
  have both : Vals (vs ++ dvs) (us ++ ds) := r.append hd
  have many : (us ++ ds).length = ps.length := both.length ▸ F.len _ _ _ _ h
  refine wpAny_call (codeAny_mono (F.run X.A X.stack s H ⟨us, []⟩ (us ++ ds) (vs ++ dvs) Q E hr.room hr.still I.env0 (hb s us I.kIn many) both h) fun out s' got => ?_)
  match out, got with
  | .error e, got => exact hx pins σ H s e s' I got
  | .ok (.ret u), got => exact I.after got
  | .ok .next, got => exact got.elim
  | .ok .brk, got => exact got.elim
  | .ok .cont, got => exact got.elim
theorem pe_callD (D : Df X.prog X.w X.K X.mg X.base k x ps sp) (hr : Rm k X.A) (hg : Gl X x) (ha : PA X (e :: es) t) (hdb : (x == ("__debug__" : Str)) = false := by decide)
    (he : starEach (e :: es) X.env = (false, eval e X.env) :: starEach es X.env := by rfl) (hpl : (backTo pos (starEach es X.env)).any (·.1) = false := by rfl) : PE X (.Call (.Name x p) (e :: es) [] pos) (tCall sp [] E0 t) := by
  obtain ⟨f, fd, F, hm, hk, hb⟩ := D.ex
  refine ⟨fun pins s σ H Q I h => ?_⟩
  refine wpAny_Call_Name_kw (ld_glob I hg hm ?_ hdb)
  refine PySem.W.callWith_K (h₀ := X.base) I.ok.mod.kin hk (thn (ha.run pos pins s σ H _ I h) fun us s1 ⟨vs, H1, I1, r, q⟩ => ⟨I1.kIn, ?_⟩) he hpl
  exact run_fnG F hr hb .nil pass0 I1 r q
end
end Gd

namespace Gd
open PySem PySem.Spec PyProof.Rows L2
/-- a law's def called by its caller, from the heap behind the top: only the script may be tracked -/
theorem end_call {P : Program} {w : World} {K : PySem.W.Frag} {mg mb : Str → Option Value} {k : Nat} {fa a : Addr} {fd : FuncData} {x : Str} {sp : Sp} {s : Shared} {vs : List Value} {ns : List Int}
    (inK : K.In s.heap) (hns : s.heap.Ns mainGlobals mg) (hb : s.heap.Ns builtinsNs mb) (hbb : ∀ y : Str, y ≠ "__name__" → mb y = bootBuiltins y) (hlim : s.heap.NoLimit) (gens : s.gens = #[])
    (here : s.heap.get? a = some { cls := .type "list", data := .seq vs.toArray }) (ia : IntsAre vs ns) (many : ns.length ≤ sizeLine) (room : Room k callerA)
    (F : ∀ base : Heap, K.In base → base.Ns mainGlobals mg → FnG P w K mg base CX0 k fa fd [x] sp) (binds : ∀ (s : Shared) (u : Value), BindsTo s fd ⟨[u], []⟩ [(x, u)])
    (want : ∀ H : Hp, Only H → SqL K H a (ns.map V.int) → sp [.ref a] H (fun v _ => v = .bl true) E0) :
    codeAny (model P w) callerA (.call (.ref fa) ⟨[.ref a], []⟩) (fun r s' => r = .ok (.ret (.bool true)) ∧ OldK s.heap s'.heap ∧ s'.os = s.os ∧ AllBare s'.gens) s := by
  have vals : Vals (ns.map V.int) vs := vals_ints ia
  suffices go : ∀ H : Hp, Only H → SqL K H a (ns.map V.int) → HOk P w H s.heap → (∀ b u, H b = some u → b = a ∧ K.lookup a = none) →
      codeAny (model P w) callerA (.call (.ref fa) ⟨[.ref a], []⟩) (fun r s' => r = .ok (.ret (.bool true)) ∧ OldK s.heap s'.heap ∧ s'.os = s.os ∧ AllBare s'.gens) s by
    cases isK : K.lookup a with
    | some o =>
      have same := (inK a o isK).symm.trans here
      cases same
      refine go (fun _ => none) (fun _ => .inl rfl) (.inr ⟨_, vs.toArray, _, isK, rfl, rfl, rfl, ?_, ?_⟩) (fun b u z => ?_) (fun b u z => ?_)
      · rw [List.size_toArray, ia.length]
        exact many
      · exact vals
      · exact absurd z (by simp)
      · exact absurd z (by simp)
    | none =>
      let H : Hp := fun b => if b = a then some (.frz { cls := .type "list", data := .seq vs.toArray } (.lst (ns.map V.int))) else none
      have at_a : H a = some (.frz { cls := .type "list", data := .seq vs.toArray } (.lst (ns.map V.int))) := if_pos rfl
      have off_a : ∀ b, b ≠ a → H b = none := fun b z => if_neg z
      have isa : ∀ b u, H b = some u → b = a := fun b u z => Classical.byContradiction fun q => by
        rw [off_a b q] at z
        cases z
      refine go H (fun b => ?_) (.inl (.inr ⟨_, at_a⟩)) (fun b u z => ?_) (fun b u z => ⟨isa b u z, isK⟩)
      · by_cases q : b = a
        · exact .inr ⟨_, _, q ▸ at_a⟩
        · exact .inl (off_a b q)
      · obtain rfl := isa b u z
        have z' := at_a.symm.trans z
        cases z'
        refine ⟨here, ?_, vs, _, vals, here⟩
        rw [List.length_map]
        exact many
  intro H only seqs hok lone
  have plain : ∀ {b : Addr} {o : Obj}, s.heap.get? b = some o → H b = none → (hidT s.heap H).get? b = some o := fun q n => hidT_get q n
  have noDict : ∀ {b : Addr} {o : Obj} {es : Array DictEntry} {ep : Nat}, s.heap.get? b = some o → o.data = .dict es ep → H b = none := by
    intro b o es ep q d
    cases z : H b with
    | none => rfl
    | some u =>
      obtain rfl := (lone b u z).1
      have q' := here.symm.trans q
      cases q'
      cases d
  have keepNs : ∀ {b : Addr} {m : Str → Option Value}, s.heap.Ns b m → (hidT s.heap H).Ns b m := by
    rintro b m ⟨o, es, ep, q, d, r⟩
    exact ⟨o, es, ep, plain q (noDict q d), d, r⟩
  have inB : K.In (hidT s.heap H) := by
    intro b o q
    refine plain (inK b o q) ?_
    cases z : H b with
    | none => rfl
    | some u =>
      obtain ⟨rfl, n⟩ := lone b u z
      rw [n] at q
      cases q
  have md : Mod K mg (hidT s.heap H) := ⟨inB, keepNs hns, ⟨mb, keepNs hb, hbb⟩, hlim.elim fun mc h => ⟨mc, keepNs h.1, h.2⟩⟩
  have env : Env0 P w K mg (hidT s.heap H) callerA [] s H :=
    ⟨rfl, md, fun b o q => of_hidT q, Nat.le_of_eq (hidT_size _ _), trivial, fun b z => (nomatch z), hok, .of_eq gens⟩
  have ran := (F _ inB (keepNs hns)).run callerA [] s H ⟨[.ref a], []⟩ [.ref a] [.ref a] _ _ room rfl env (binds s (.ref a)) (.cons rfl .nil) (want H only seqs)
  refine codeAny_mono ran fun out s' got => ?_
  match out, got with
  | .error e, got => exact got.elim
  | .ok .next, got => exact got.elim
  | .ok .brk, got => exact got.elim
  | .ok .cont, got => exact got.elim
  | .ok (.ret u), got =>
    obtain ⟨v, H', os, bare, un, hok', r, q⟩ := got
    obtain rfl : v = .bl true := q
    obtain rfl : u = Value.bool true := r
    refine ⟨rfl, OldK.of_keep fun b o q => ?_, os, bare⟩
    rcases only b with z | ⟨ob, xs, z⟩
    · exact un.keep b o q z (fun n => (nomatch n)) (fun n => (nomatch n))
    · have old := (hok b _ z).1
      have new := (hok' b _ (un.frzs b ob _ z)).1
      have same := q.symm.trans old
      cases same
      exact new
/-- the goal that the head leaves -/
theorem end_walk {l : PySem.W.OpenLaw} {n k : Nat} {q : Program} {loose : List Str} {XP : (Str → Option Value) → Heap → Prop} {YP : World → Heap → Prop} {d : DefRec} {K : Params → PySem.W.Frag} {sp : PySem.W.Frag → Sp} {x : Str}
    (hn : l.most = some n) (hn2 : n ≤ sizeLine) (hdf : d.params.defaults = []) (hr : Room k callerA) (hY : ∀ (w : World) (h : Heap), YP w h → (K w.params).In h)
    (F : ∀ (w : World) (mg : Str → Option Value) (fa : Addr) (h : Heap), (K w.params).In h → h.Ns mainGlobals mg → mg d.name = some (.ref fa) →
      ∃ fd : FuncData, (∀ (s : Shared) (u : Value), BindsTo s fd ⟨[u], []⟩ [(x, u)]) ∧ ∀ base : Heap, (K w.params).In base → base.Ns mainGlobals mg → FnG l.prog w (K w.params) mg base CX0 k fa fd [x] (sp (K w.params)))
    (want : ∀ (K : PySem.W.Frag) (H : Hp) (a : Addr) (ns : List Int), ns.length ≤ n → SqL K H a (ns.map V.int) → sp K [.ref a] H (fun v _ => v = .bl true) E0) :
    PySem.W.WalkO q loose XP YP l.row.toRowW d [] (fun f vs => PySem.call f vs) := by
  refine Att.attach_call hn hdf fun w s₀ s₁ mg mb fa o pm cd doc a vs ns G Y ho hd hcd hmg hobj hints hlen gens => ?_
  have inK := hY w _ Y
  obtain ⟨fd, hb, hF⟩ := F w mg fa _ inK G.T.g hmg
  exact end_call inK G.T.g G.T.b G.T.builtins G.T.nolimit gens hobj hints (Nat.le_trans hlen hn2) hr hF hb fun H _ hS => want _ H a ns hlen hS
end Gd

namespace Gd
open PySem PySem.Spec PyProof.Rows L2

/-! ### operators that the layer lacks -/
section
variable {X : Cx}
theorem op_powW : OpR X (binaryOp .Pow) (rI (fun i j => 0 ≤ j ∧ (Builtin.Int.intBits i : Int) * j ≤ 2 ^ 27) fun i j => .int (i ^ j.toNat)) := by
  intro pins s σ H x y v u Q I rx ry h
  obtain ⟨i, j, rfl, rfl, ⟨h1, h2⟩, q⟩ := h
  obtain ⟨t, rfl⟩ := rx
  obtain ⟨t', rfl⟩ := ry
  exact pow_int h1 h2 ⟨.int _, H, I.tok _, ⟨_, rfl⟩, q⟩
theorem op_mulS : OpR X (binaryOp .Mult) (fun x y H Q => ∃ a n, x = .str a ∧ y = .int n ∧ MulOk a n ∧ Q (.str (Txt.mul a n)) H) := by
  intro pins s σ H x y v u Q I rx ry h
  obtain ⟨a, n, rfl, rfl, ok, q⟩ := h
  obtain ⟨t, rfl⟩ := rx
  obtain ⟨t', rfl⟩ := ry
  exact SB.mul ok fun t' k => ⟨.str _, H, I.tok k, ⟨t', rfl⟩, q⟩
end

/-! ### repr of data (no dicts) -/
/-- data that repr can show: numbers written out, signs that exist, of some size -/
structure Sh (d : PyData) : Prop where
  short : d.leavesShort 600 = true
  can : d.showable = true
  plain : d.hasDict = false
  few : d.weight ≤ 20000
  low : d.depth ≤ 60
theorem Sh.len {d : PyData} (h : Sh d) : d.shown.length ≤ sizeLine := by
  have h1 := PyData.shown_le 600 (by decide) d h.short
  have h2 := h.few
  have h3 : sizeLine = 16777216 := by decide
  omega
section
variable {X : Cx} {k : Nat}
theorem call_repr (hr : Rm k X.A) : CallR X (.builtin "repr") (fun xs H Q => ∃ x d, xs = [x] ∧ Dp X.K H x d ∧ Sh d ∧ Q (.str d.shown) H) := by
  intro pins s σ H xs us Q I r h
  obtain ⟨x, d, rfl, hd, sh, q⟩ := h
  obtain ⟨u, rfl, rx⟩ := vals1 r
  have un := hr.room.units
  have le := sh.len
  cases hd with
  | non =>
    cases rx
    exact PySem.P.repr_of_none ⟨.str _, H, I.tok _, ⟨_, rfl⟩, q⟩
  | bl b =>
    cases rx
    exact PySem.P.repr_of_bool ⟨.str _, H, I.tok _, ⟨_, rfl⟩, by cases b <;> exact q⟩
  | int i =>
    obtain ⟨t, rfl⟩ := rx
    have hc := sh.can
    simp only [PyData.showable] at hc
    exact PySem.P.repr_of_int (of_decide_eq_true hc) ⟨.str _, H, I.tok _, ⟨_, rfl⟩, q⟩
  | str z =>
    obtain ⟨t, rfl⟩ := rx
    exact PySem.P.repr_of_str ⟨.str _, H, I.tok _, ⟨_, rfl⟩, q⟩ le
  | lst hs ha =>
    cases rx
    obtain ⟨as, rd⟩ := Dp.reads I _ _ _ (Dp.lst hs ha) rfl
    refine PySem.repr_of_reads' rd sh.can (fun z => absurd z (by rw [sh.plain]; decide)) hr.still (by have := sh.low; omega) (fun b o e => e) (fun h' u tk keep => ?_) le
    exact ⟨.str _, H, I.kept keep, ⟨u, rfl⟩, q⟩
  | tup hs ha =>
    cases rx
    obtain ⟨as, rd⟩ := Dp.reads I _ _ _ (Dp.tup hs ha) rfl
    refine PySem.repr_of_reads' rd sh.can (fun z => absurd z (by rw [sh.plain]; decide)) hr.still (by have := sh.low; omega) (fun b o e => e) (fun h' u tk keep => ?_) le
    exact ⟨.str _, H, I.kept keep, ⟨u, rfl⟩, q⟩
end
end Gd

/-! Gd4: the dice (a list of three numbers that the rolls change) as a thing of which only this much is known. -/
namespace Gd
open PySem PySem.Spec PyProof.Rows L2
abbrev three (x y z : Int) : HO := .lst [.int x, .int y, .int z]
/-- a list of three numbers, the first one not negative -/
def Dice (a : Addr) : HO := .ext fun h => ∃ (x y z : Int) (its : List Value) (n : Nat), 0 ≤ x ∧ Vals [.int x, .int y, .int z] its ∧ h.get? a = some { cls := .type "list", data := .seq its.toArray n }
section
variable {P : Program} {w : World} {H H' : Hp} {h h' : Heap} {a : Addr} {x y z : Int} {fs ex : List Addr}
theorem dice_show (ok : HOk P w H h) (e : H a = some (Dice a)) : ∃ x y z : Int, 0 ≤ x ∧ HOk P w (upd H a (three x y z)) h := by
  obtain ⟨⟨x, y, z, its, n, h0, vals, at_a⟩, _, _⟩ := (show ObjOk P w H h a (Dice a) from ok a _ e)
  refine ⟨x, y, z, h0, fun b u q => ?_⟩
  by_cases same : b = a
  · subst same
    rw [upd_same] at q
    cases q
    exact ⟨by show 3 ≤ sizeLine; decide, its, n, vals, at_a⟩
  · rw [upd_ne same] at q
    refine (ok b u q).stay (fun c v _ r => r) (fun c r => ?_) (fun c xs r => ?_)
    · rw [upd_ne (ne_of r e (by intro n; cases n))]
      exact r
    · rw [upd_ne (ne_of r e (by intro n; cases n))]
      exact r
theorem dice_hide (ok : HOk P w H h) (e : H a = some (three x y z)) (h0 : 0 ≤ x) : HOk P w (upd H a (Dice a)) h := by
  obtain ⟨_, its, n, vals, at_a⟩ := (show ObjOk P w H h a (three x y z) from ok a _ e)
  intro b u q
  by_cases same : b = a
  · subst same
    rw [upd_same] at q
    cases q
    exact ⟨⟨x, y, z, its, n, h0, vals, at_a⟩, ⟨_, at_a⟩, fun h1 h2 ⟨x, y, z, its, n, g0, g1, g2⟩ keep => ⟨x, y, z, its, n, g0, g1, keep _ g2⟩⟩
  · rw [upd_ne same] at q
    refine (ok b u q).stay (fun c v _ r => r) (fun c r => ?_) (fun c xs r => ?_)
    · rw [upd_ne (ne_of r e (by intro n; cases n))]
      exact r
    · rw [upd_ne (ne_of r e (by intro n; cases n))]
      exact r
theorem un_show (e : H a = some (Dice a)) (un : Un fs ex (upd H a (three x y z)) H' h h') : Un fs ex H H' h h' := by
  have off : ∀ b, H b = none → (upd H a (three x y z)) b = none := fun b n => by
    rw [upd_ne (fun q => by rw [q, e] at n; cases n)]
    exact n
  have off' : ∀ b u, H b = some u → u ≠ Dice a → (upd H a (three x y z)) b = some u := fun b u q d => by
    rw [upd_ne (ne_of q e d)]
    exact q
  exact ⟨fun b o q n => un.keep b o q (off b n), fun b o q n => un.slot b o q (off b n), fun b o q n => un.free b o q (off b n), un.there,
    fun b xs q => un.tups b xs (off' b _ q (by intro n; cases n)), fun b o u q => un.frzs b o u (off' b _ q (by intro n; cases n)), fun b ps q => un.tbls b ps (off' b _ q (by intro n; cases n))⟩
theorem un_hide (e : H' a = some (three x y z)) (un : Un fs ex H H' h h') : Un fs ex H (upd H' a (Dice a)) h h' := by
  have on : ∀ b u, H' b = some u → u ≠ three x y z → (upd H' a (Dice a)) b = some u := fun b u q d => by
    rw [upd_ne (ne_of q e d)]
    exact q
  refine ⟨un.keep, un.slot, fun b o q n hx => ?_, un.there, fun b xs q => on b _ (un.tups b xs q) (by intro n; cases n), fun b o u q => on b _ (un.frzs b o u q) (by intro n; cases n), fun b ps q => ?_⟩
  · have r := un.free b o q n hx
    rw [upd_ne (fun s => by rw [s, e] at r; cases r)]
    exact r
  · obtain ⟨more, r⟩ := un.tbls b ps q
    exact ⟨more, on b _ r (by intro n; cases n)⟩
theorem upd_back (e : H a = some (Dice a)) : upd (upd H a (three x y z)) a (Dice a) = H := by
  funext b
  by_cases same : b = a
  · subst same
    rw [upd_same, e]
  · rw [upd_ne same, upd_ne same]
theorem Env0.dice {K : PySem.W.Frag} {mg : Str → Option Value} {base : Heap} {A : Around} {outer : List Env} {s : Shared} (e : H a = some (Dice a)) (env : Env0 P w K mg base A outer s H) (ok : HOk P w (upd H a (three x y z)) s.heap) : Env0 P w K mg base A outer s (upd H a (three x y z)) := by
  have off : ∀ b, H b = none → (upd H a (three x y z)) b = none := fun b n => by
    rw [upd_ne (fun q => by rw [q, e] at n; cases n)]
    exact n
  exact ⟨env.frames, env.mod, fun b o q => ⟨(env.bs b o q).1, off b (env.bs b o q).2⟩, env.bsz, env.funs, fun b z => off b (env.frf b z), ok, env.bare⟩
end

section
variable {P : Program} {w : World} {K : PySem.W.Frag} {mg : Str → Option Value} {base : Heap} {k : Nat} {f : Addr} {fd : FuncData} {ps : List Str}
/-- a roll, told by the list -/
def spRoll0 : Sp := fun vs H Q _ => ∃ (a : Addr) (n x y z : Int), vs = [.ref a, .int n] ∧ (0 < n ∧ n < 1073741824) ∧ 0 ≤ x ∧ H a = some (three x y z) ∧ ∀ r x' y' z', 0 ≤ r → r < n → 0 ≤ x' → Q (.int r) (upd H a (three x' y' z'))
/-- a roll: some number below the bound -/
def spRoll : Sp := fun vs H Q _ => ∃ (a : Addr) (n : Int), vs = [.ref a, .int n] ∧ (0 < n ∧ n < 1073741824) ∧ H a = some (Dice a) ∧ ∀ r, 0 ≤ r → r < n → Q (.int r) H
theorem roll_hidden (F : FnG P w K mg base CX0 k f fd ps spRoll0) (len : ps.length = 2) : FnG P w K mg base CX0 k f fd ps spRoll := by
  refine ⟨fun vs H Q E h => ?_, fun A outer s H args us vs Q E room quiet env bnd vals want => ?_⟩
  · obtain ⟨a, n, rfl, _⟩ := h
    exact len.symm
  · obtain ⟨a, n, rfl, hn, e, q⟩ := want
    obtain ⟨x, y, z, h0, ok⟩ := dice_show env.hok e
    refine codeAny_mono (F.run A outer s (upd H a (three x y z)) args us _ (fun v H' => ∃ r x' y' z', v = .int r ∧ 0 ≤ r ∧ r < n ∧ 0 ≤ x' ∧ H' = upd H a (three x' y' z')) E room quiet (Env0.dice e env ok) bnd vals
      ⟨a, n, x, y, z, rfl, hn, h0, upd_same, fun r x' y' z' r0 r1 p0 => ⟨r, x', y', z', rfl, r0, r1, p0, upd_upd⟩⟩) fun out s' got => ?_
    match out, got with
    | .error e, got => exact got.elim
    | .ok .next, got => exact got.elim
    | .ok .brk, got => exact got.elim
    | .ok .cont, got => exact got.elim
    | .ok (.ret u), got =>
      obtain ⟨v, H', os, bare, un, ok', rv, r, x', y', z', rfl, r0, r1, p0, rfl⟩ := got
      have un' := un_hide upd_same (un_show e un)
      have hk := dice_hide ok' upd_same p0
      rw [upd_back e] at un' hk
      exact ⟨.int r, H, os, bare, un', hk, rv, q r r0 r1⟩
/-- new dice, told by the list -/
def spDice0 (K : PySem.W.Frag) : Sp := fun vs H Q _ => ∃ (a : Addr) (ns : List Int) (i : Int), vs = [.ref a, .int i] ∧ (0 ≤ i ∧ i < 63) ∧ SqL K H a (ns.map V.int) ∧ ns.length ≤ 63 ∧ ∀ p x y z, H p = none → 0 ≤ x → Q (.ref p) (upd H p (three x y z))
/-- new dice -/
def spDice (K : PySem.W.Frag) : Sp := fun vs H Q _ => ∃ (a : Addr) (ns : List Int) (i : Int), vs = [.ref a, .int i] ∧ (0 ≤ i ∧ i < 63) ∧ SqL K H a (ns.map V.int) ∧ ns.length ≤ 63 ∧ ∀ p, H p = none → Q (.ref p) (upd H p (Dice p))
theorem dice_hidden (F : FnG P w K mg base CX0 k f fd ps (spDice0 K)) (len : ps.length = 2) : FnG P w K mg base CX0 k f fd ps (spDice K) := by
  refine ⟨fun vs H Q E h => ?_, fun A outer s H args us vs Q E room quiet env bnd vals want => ?_⟩
  · obtain ⟨a, ns, i, rfl, _⟩ := h
    exact len.symm
  · obtain ⟨a, ns, i, rfl, hi, hS, many, q⟩ := want
    refine codeAny_mono (F.run A outer s H args us _ (fun v H' => ∃ p x y z, v = .ref p ∧ H p = none ∧ 0 ≤ x ∧ H' = upd H p (three x y z)) E room quiet env bnd vals
      ⟨a, ns, i, rfl, hi, hS, many, fun p x y z hp p0 => ⟨p, x, y, z, rfl, hp, p0, rfl⟩⟩) fun out s' got => ?_
    match out, got with
    | .error e, got => exact got.elim
    | .ok .next, got => exact got.elim
    | .ok .brk, got => exact got.elim
    | .ok .cont, got => exact got.elim
    | .ok (.ret u), got =>
      obtain ⟨v, H', os, bare, un, ok', rv, p, x', y', z', rfl, hp, p0, rfl⟩ := got
      have un' := un_hide upd_same un
      have hk := dice_hide ok' upd_same p0
      rw [upd_upd] at un' hk
      exact ⟨.ref p, _, os, bare, un', hk, rv, q p hp⟩
end
end Gd

/-! Gd5: readings made plain; kinds of values -/
namespace Gd
open PySem PySem.Spec PyProof.Rows L2
theorem seq_cut {t u : TS} {D : Ends} {σ : L2.St} {H : Hp} (h : ∀ k, k = u D → t { D with nx := k } σ H) : tSeq t u D σ H := h _ rfl
section
variable {CX : CXT} {P : Program} {w : World} {K : PySem.W.Frag} {mg : Str → Option Value} {base : Heap} {N : List Str} {q : Str} {sc : Scope} {f : Addr} {cd : Value} {A : Around} {o : List Env} {s : Shared} {H : Hp} {E : XK}
theorem cx_K : (cxOf CX P w K mg base N q sc f cd A o s H E).K = K := rfl
theorem cx_Kn : (cxOf CX P w K mg base N q sc f cd A o s H E).nox.K = K := rfl
end
/-- the kinds of values that the laws pass -/
inductive Kd (H : Hp) : V → String → Prop
  | non : Kd H .non "NoneType"
  | bl (b : Bool) : Kd H (.bl b) "bool"
  | int (i : Int) : Kd H (.int i) "int"
  | str {x : Str} (h : x.length ≤ sizeLine) : Kd H (.str x) "str"
  | lst {a : Addr} {xs : List V} : H a = some (.lst xs) → Kd H (.ref a) "list"
  | tup {a : Addr} {xs : List V} : H a = some (.tup xs) → Kd H (.ref a) "tuple"
  | dic {a : Addr} {kvs : List (Key × V)} : H a = some (.dK kvs) → Kd H (.ref a) "dict"
theorem Kd.ty {K : PySem.W.Frag} {H : Hp} {v : V} {T : String} (h : Kd H v T) : TyX K H v (.type T) := by
  cases h with
  | non => exact .base .non
  | bl b => exact .base (.bl b)
  | int i => exact .base (.int i)
  | @str x _ => exact .base (.str x)
  | lst h => exact .base (.lst h)
  | tup h => exact .base (.tup h)
  | dic h => exact .base (.dK h)
theorem isi_of {K : PySem.W.Frag} {H : Hp} {v : V} {T T' : String} {b : Bool} {Q : VK} (h : Kd H v T) (e : kitB T T' = some b) (q : Q (.bl b) H) : rIsi K [v, .ty T'] H Q :=
  ⟨v, .ty T', .type T, .type T', b, rfl, .ty T', h.ty, kit_ty e, q⟩
theorem len_str {K : PySem.W.Frag} {H : Hp} {x : Str} {n : Nat} : LenV K (.str x) H n ↔ x.length ≤ sizeLine ∧ n = x.length := Iff.rfl
theorem tyV_str {K : PySem.W.Frag} {H : Hp} {T : String} {x : Str} : tyV K T (.str x) H ↔ T = "str" := Iff.rfl
section
variable {X : Cx}
theorem call_intI : CallR X (.type "int") (fun xs H Q => ∃ i, xs = [.int i] ∧ Q (.int i) H) := fun pins s σ H xs us Q I r h => call_int1 pins s σ H xs us Q I r (.inl h)
theorem call_intB : CallR X (.type "int") (fun xs H Q => ∃ k, xs = [.bl k] ∧ Q (.int (if k then 1 else 0)) H) := fun pins s σ H xs us Q I r h => call_int1 pins s σ H xs us Q I r (.inr h)
end
theorem sq_lst {K : PySem.W.Frag} {H : Hp} {a : Addr} {xs : List V} (h : H a = some (.lst xs)) : SqL K H a xs := .inl (.inl h)
theorem sq_tup {K : PySem.W.Frag} {H : Hp} {a : Addr} {xs : List V} (h : H a = some (.tup xs)) : SqT K H a xs := .inl (.inl h)
end Gd

namespace Gd
open PySem PySem.Spec PyProof.Rows L2
/-- a small letter -/
def low (c : Nat) : Bool := decide (97 ≤ c ∧ c ≤ 122)
theorem low_alpha : ∀ c : Fin 128, Unicode.isAlpha c.val = (low c.val || decide (65 ≤ c.val ∧ c.val ≤ 90)) := by decide +kernel
theorem low_lower : ∀ c : Fin 128, Unicode.isLower c.val = low c.val := by decide +kernel
theorem low_upper : ∀ c : Fin 128, (Unicode.isUpper c.val || Unicode.isTitle c.val) = decide (65 ≤ c.val ∧ c.val ≤ 90) := by decide +kernel
/-- a letter's text of at most 8000 signs -/
def isText : V → Bool
  | .str x => decide (x.length ≤ 8000) && x.cps.toList.all low
  | _ => false
theorem isText_str (x : Str) : isText (.str x) = (decide (x.length ≤ 8000) && x.cps.toList.all low) := rfl
theorem list_low : ∀ l : List Nat, l ≠ [] → (l.all (fun c => decide (c < 128)) && (l.all Unicode.isAlpha && (l.any Unicode.isLower && !l.any fun c => Unicode.isUpper c || Unicode.isTitle c))) = l.all low := by
  intro l ne
  rw [Bool.eq_iff_iff]
  simp only [Bool.and_eq_true, List.all_eq_true, List.any_eq_true, Bool.not_eq_true', decide_eq_true_eq, List.any_eq_false]
  constructor
  · rintro ⟨h1, h2, _, h4⟩ c hc
    have a := low_alpha ⟨c, h1 c hc⟩
    have u := low_upper ⟨c, h1 c hc⟩
    have h4' := h4 c hc
    rw [h2 c hc] at a
    simp only at a u
    rw [u] at h4'
    cases l1 : low c with
    | true => rfl
    | false =>
      rw [l1] at a
      simp only [Bool.false_or] at a
      exact absurd a.symm h4'
  · intro h
    have lt : ∀ c ∈ l, c < 128 := fun c hc => by
      have := h c hc
      unfold low at this
      have := of_decide_eq_true this
      omega
    refine ⟨lt, fun c hc => ?_, ?_, fun c hc => ?_⟩
    · have a := low_alpha ⟨c, lt c hc⟩
      simp only at a
      rw [a, h c hc]
      rfl
    · obtain ⟨c, r, rfl⟩ := List.exists_cons_of_ne_nil ne
      have m : c ∈ c :: r := List.mem_cons_self
      have a := low_lower ⟨c, lt c m⟩
      simp only at a
      exact ⟨c, m, by rw [a]; exact h c m⟩
    · have u := low_upper ⟨c, lt c hc⟩
      simp only at u
      rw [u]
      have := h c hc
      unfold low at this
      have := of_decide_eq_true this
      intro z
      have := of_decide_eq_true z
      omega
theorem text_low {x : Str} (ne : x.cps.toList ≠ []) : (Txt.isascii x && (Txt.isalpha x && Txt.islower x)) = x.cps.toList.all low := by
  rw [← list_low _ ne]
  have pos : decide (x.length > 0) = true := by
    refine decide_eq_true ?_
    have : x.cps.toList.length = x.length := by simp [Str.length]
    cases e : x.cps.toList with
    | nil => exact absurd e ne
    | cons c r =>
      rw [e] at this
      simp only [List.length_cons] at this
      omega
  unfold Txt.isascii Txt.isalpha Txt.islower
  rw [pos]
  simp only [← Array.all_toList, ← Array.any_toList, Bool.true_and]
end Gd
namespace Gd
open PySem PySem.Spec PyProof.Rows L2
/-- the signs of a join without a separator -/
theorem join0 : ∀ ys : List Str, (Txt.join (Str.ofString "") ys).cps.toList = (ys.map fun y => y.cps.toList).flatten := by
  intro ys
  rw [show Txt.join (Str.ofString "") ys = Str.join (Str.ofString "") ys from PySem.StrLaws.glued_eq_join _ _]
  induction ys with
  | nil => rfl
  | cons x r ih =>
    cases r with
    | nil => simp [Str.join]
    | cons y r =>
      rw [show Str.join (Str.ofString "") (x :: y :: r) = x ++ Str.ofString "" ++ Str.join (Str.ofString "") (y :: r) from rfl]
      rw [show (x ++ Str.ofString "" ++ Str.join (Str.ofString "") (y :: r)).cps.toList = x.cps.toList ++ (Str.ofString "").cps.toList ++ (Str.join (Str.ofString "") (y :: r)).cps.toList by simp [Str.cps_append]]
      rw [ih, show (Str.ofString "").cps.toList = [] from rfl, List.append_nil]
      rfl
theorem str_len (x : Str) : x.cps.toList.length = x.length := by simp [Str.length]
abbrev sg (c : Nat) : Str := ⟨#[c]⟩
theorem signs_join (cs : List Nat) : (Txt.join (Str.ofString "") (cs.map sg)).cps.toList = cs := by
  rw [join0, List.map_map]
  induction cs with
  | nil => rfl
  | cons c r ih =>
    rw [List.map_cons, List.flatten_cons, ih]
    rfl
theorem signs_sum : ∀ l : List Nat, ((l.map sg).map fun y : Str => y.length).sum = l.length := by
  intro l
  induction l with
  | nil => rfl
  | cons c r ih =>
    rw [List.map_cons, List.map_cons, List.sum_cons, ih, List.length_cons, Nat.add_comm]
    rfl
/-- values that are signs -/
theorem signs_of {P : Nat → Prop} : ∀ {ys : List V}, (∀ (i : Nat) (y : V), ys[i]? = some y → ∃ c, y = .str (sg c) ∧ P c) → ∃ cs : List Nat, ys = (cs.map sg).map V.str ∧ ∀ c ∈ cs, P c
  | [], _ => ⟨[], rfl, fun _ h => nomatch h⟩
  | y :: r, h => by
    obtain ⟨c, rfl, hc⟩ := h 0 y rfl
    obtain ⟨cs, rfl, h2⟩ := signs_of (ys := r) fun i z e => h (i + 1) z e
    refine ⟨c :: cs, rfl, fun d hd => ?_⟩
    rcases List.mem_cons.mp hd with rfl | hd
    · exact hc
    · exact h2 d hd
/-- an integer of at most sixty digits -/
def isInteger : V → Bool
  | .int i => decide (i.natAbs < 10 ^ 60)
  | _ => false
def isSign : V → Bool
  | .str x => isText (.str x) && decide (x.length = 1)
  | _ => false
def isPiece : V → Bool
  | .str x => isText (.str x) && decide (1 ≤ x.length ∧ x.length ≤ 5)
  | _ => false
/-- a def that tells a truth of a value -/
def spKind (g : V → Bool) : Sp := fun vs H Q _ => ∃ v T, vs = [v] ∧ Kd H v T ∧ Q (.bl (g v)) H
end Gd

/-! Gd6: comprehensions whose elements only add to the heap -/
namespace Gd
open PySem PySem.Spec PyProof.Rows L2
theorem same_new {H : Hp} {p : Addr} {o : HO} (h : H p = none) : Same H (upd H p o) := fun b u e => by
  rw [upd_ne (ne_of_none e h)]
  exact e
/-- a thing that the older heap does not know may be anything -/
theorem same_over {H H' : Hp} {p : Addr} {o : HO} (e : Same H H') (h : H p = none) : Same H (upd H' p o) := fun b u q => by
  rw [upd_ne (ne_of_none q h)]
  exact e b u q
theorem Same.sqt {K : PySem.W.Frag} {H H' : Hp} {a : Addr} {xs : List V} (e : Same H H') (h : SqT K H a xs) : SqT K H' a xs := by
  rcases h with (h | ⟨o, h⟩) | h
  · exact .inl (.inl (e a _ h))
  · exact .inl (.inr ⟨o, e a _ h⟩)
  · exact .inr h
/-- [.. for x in range(..)] -/
theorem lc_rangeG {lo : Int} {n slot : Nat} {te : TE} {vs : List Nat} {σ : L2.St} {H1 : Hp} {D : Addr} {Qd : Hp → Prop} (R : Nat → V → Prop) (hD : H1 D = none) (hn : n ≤ 100000)
    (hw : ∀ x, wipe ((wipe σ vs).set slot (some x)) vs = wipe σ vs)
    (hs : ∀ (i : Nat) (H : Hp), i < n → Same H1 H → ∀ Q : VK, (∀ y H', Same H H' → R i y → Q y H') → te ((wipe σ vs).set slot (some (.int (lo + i)))) H Q)
    (hd : ∀ (H : Hp) (ys : List V), Same H1 H → H D = some (.lst ys) → ys.length = n → (∀ i y, ys[i]? = some y → R i y) → Qd H) :
    ∃ W : Nat → Nat → Hp → Prop, (∃ m, W 0 m (upd H1 D (.lst []))) ∧ ∀ i m H, W i m H →
      ((Itr lo n).stop i H ∧ Qd H) ∨ ((Itr lo n).go i H ∧ ∃ Nx : Hp → Prop, (∀ H', Nx H' → ∃ m', m' < m ∧ W (i + 1) m' H') ∧ ∀ x H', (Itr lo n).yld i H x H' → gName slot x (wipe σ vs) H' fun σ2 H2 => wipe σ2 vs = wipe σ vs ∧ tYes σ2 H2 fun b H3 =>
        if b = true then te σ2 H3 fun y H4 => ∃ acc, H4 D = some (.lst acc) ∧ acc.length < sizeLine ∧ Nx (upd H4 D (.lst (acc ++ [y]))) else Nx H3) := by
  refine lc_range (fun i H => Same H1 H ∧ ∃ ys, H D = some (.lst ys) ∧ ys.length = i ∧ ∀ i y, ys[i]? = some y → R i y) ⟨same_new hD, [], upd_same, rfl, fun i y e => by cases e⟩ ?_ ?_
  · rintro i H hi ⟨sm, ys, hd, rfl, hr⟩
    refine ⟨hw _, ?_⟩
    simp only [tYes, reduceIte]
    refine hs ys.length H hi sm _ fun y H' sm' ry => ⟨ys, sm' _ _ hd, Nat.lt_of_lt_of_le (by omega) (show 100000 ≤ sizeLine by decide), same_over (sm.trans sm') hD, _, upd_same, by rw [List.length_append]; rfl, fun j z e => ?_⟩
    by_cases lt : j < ys.length
    · rw [List.getElem?_append_left lt] at e
      exact hr j z e
    · rw [List.getElem?_append_right (by omega)] at e
      have z0 : j - ys.length = 0 := by
        cases q : j - ys.length with
        | zero => rfl
        | succ k =>
          rw [q] at e
          cases e
      rw [z0] at e
      cases e
      have : j = ys.length := by omega
      rw [this]
      exact ry
  · rintro H ⟨sm, ys, h, l, hr⟩
    exact hd H ys sm h l hr
/-- [.. for x in xs if ..], the test told by a function of the item -/
theorem lc_listG {K : PySem.W.Frag} {a : Addr} {xs : List V} {slot : Nat} {tt : TT} {te : TE} {vs : List Nat} {σ : L2.St} {H1 : Hp} {D : Addr} {Qd : Hp → Prop} (f : V → Bool) (g : V → V) (hD : H1 D = none) (hS : SqL K H1 a xs) (hn : xs.length ≤ 100000)
    (hw : ∀ x, wipe ((wipe σ vs).set slot (some x)) vs = wipe σ vs)
    (ht : ∀ (x : V) (H : Hp), x ∈ xs → Same H1 H → ∀ Q : Bool → Hp → Prop, (∀ H', Same H H' → Q (f x) H') → tt ((wipe σ vs).set slot (some x)) H Q)
    (hs : ∀ (x : V) (H : Hp), x ∈ xs → f x = true → Same H1 H → ∀ Q : VK, (∀ H', Same H H' → Q (g x) H') → te ((wipe σ vs).set slot (some x)) H Q)
    (hd : ∀ (H : Hp), Same H1 H → H D = some (.lst ((xs.filter f).map g)) → Qd H) :
    ∃ W : Nat → Nat → Hp → Prop, (∃ m, W 0 m (upd H1 D (.lst []))) ∧ ∀ i m H, W i m H →
      ((Itl K a).stop i H ∧ Qd H) ∨ ((Itl K a).go i H ∧ ∃ Nx : Hp → Prop, (∀ H', Nx H' → ∃ m', m' < m ∧ W (i + 1) m' H') ∧ ∀ x H', (Itl K a).yld i H x H' → gName slot x (wipe σ vs) H' fun σ2 H2 => wipe σ2 vs = wipe σ vs ∧ tt σ2 H2 fun b H3 =>
        if b = true then te σ2 H3 fun y H4 => ∃ acc, H4 D = some (.lst acc) ∧ acc.length < sizeLine ∧ Nx (upd H4 D (.lst (acc ++ [y]))) else Nx H3) := by
  refine lc_list (K := K) (a := a) (xs := xs) (fun i H => Same H1 H ∧ H D = some (.lst (((xs.take i).filter f).map g))) ⟨same_new hD, upd_same⟩ (fun i H _ h => h.1.seq hS) ?_ ?_
  · rintro i x H hi ⟨sm, h⟩
    have hx : x ∈ xs := List.mem_of_getElem? hi
    refine ⟨hw _, ht x H hx sm _ fun H' sm' => ?_⟩
    have et : xs.take (i + 1) = xs.take i ++ [x] := by rw [List.take_add_one, hi] <;> rfl
    cases e : f x with
    | true =>
      refine iteT (hs x H' hx e (sm.trans sm') _ fun H2 sm2 => ?_)
      refine ⟨_, sm2 _ _ (sm' _ _ h), Nat.lt_of_le_of_lt ?_ (show 100000 < sizeLine by decide), same_over ((sm.trans sm').trans sm2) hD, ?_⟩
      · rw [List.length_map]
        have h1 := List.length_filter_le f (xs.take i)
        rw [List.length_take] at h1
        omega
      · rw [upd_same, et, List.filter_append, List.map_append]
        simp only [List.filter_cons, e, List.filter_nil, if_true, List.map_cons, List.map_nil]
    | false =>
      refine iteF ⟨sm.trans sm', ?_⟩
      rw [et, List.filter_append]
      simp only [List.filter_cons, e, List.filter_nil, Bool.false_eq_true, if_false, List.append_nil]
      exact sm' _ _ h
  · rintro H ⟨sm, h⟩
    rw [List.take_length] at h
    exact hd H sm h
end Gd
namespace Gd
open PySem PySem.Spec PyProof.Rows L2
/-! ### what is new, its heap told by what is known of it -/
def New (H : Hp) (o : HO) (Q : VK) : Prop := ∀ p H', H p = none → Same H H' → H' p = some o → Q (.ref p) H'
theorem New.use {H : Hp} {o : HO} {Q : VK} (h : New H o Q) : ∀ p, H p = none → Q (.ref p) (upd H p o) := fun p hp => h p _ hp (same_new hp) upd_same
def upA (t : TA) : TA := fun σ H Q => ∃ R : List V → Hp → Prop, t σ H R ∧ ∀ x H', R x H' → Q x H'
def upE (t : TE) : TE := fun σ H Q => ∃ R : VK, t σ H R ∧ ∀ x H', R x H' → Q x H'
theorem pa_up {X : Cx} {es : List Expr} {t : TA} (h : PA X es t) : PA X es (upA t) := ⟨fun pos pins s σ H Q I ⟨R, hr, m⟩ =>
  thn (h.run pos pins s σ H R I hr) fun us s' ⟨vs, H', I', r, q⟩ => ⟨vs, H', I', r, m _ _ q⟩⟩
theorem pe_up {X : Cx} {e : Expr} {t : TE} (h : PE X e t) : PE X e (upE t) := ⟨fun pins s σ H Q I ⟨R, hr, m⟩ =>
  thn (h.run pins s σ H R I hr) fun us s' ⟨v, H', I', r, q⟩ => ⟨v, H', I', r, m _ _ q⟩⟩
theorem pe_weak {X : Cx} {e : Expr} {t t' : TE} (h : PE X e t) (w : ∀ σ H Q, t' σ H Q → t σ H Q) : PE X e t' := ⟨fun pins s σ H Q I hw => h.run pins s σ H Q I (w _ _ _ hw)⟩
def tLstN (t : TA) : TE := fun σ H Q => t σ H fun xs H1 => xs.length ≤ sizeLine ∧ New H1 (.lst xs) Q
def tTupN (t : TA) : TE := fun σ H Q => t σ H fun xs H1 => xs.length ≤ sizeLine ∧ New H1 (.tup xs) Q
def tDNewN : TE := fun σ H Q => New H (.dK []) Q
theorem pe_lstN {X : Cx} {es : List Expr} {t : TA} {pos : Pos} (h : PA X es t) : PE X (.List es pos) (tLstN t) :=
  pe_weak (pe_lst (pa_up h)) fun _ _ _ hw => ⟨_, hw, fun _ _ ⟨l, n⟩ => ⟨l, n.use⟩⟩
theorem pe_tupN {X : Cx} {es : List Expr} {t : TA} {x1} {pos : Pos} (h : PA X es t) : PE X (.Tuple es x1 pos) (tTupN t) :=
  pe_weak (pe_tup (pa_up h)) fun _ _ _ hw => ⟨_, hw, fun _ _ ⟨l, n⟩ => ⟨l, n.use⟩⟩
theorem pe_dnewN {X : Cx} {pos : Pos} : PE X (.Dict [] [] pos) tDNewN := pe_weak pe_dnewK fun _ _ _ hw => hw.use
/-- True comes out, what stood stands -/
def spRight : Sp := fun vs H Q _ => ∃ a : Addr, vs = [.ref a] ∧ H a = some (Dice a) ∧ ∀ H', Same H H' → Q (.bl true) H'
theorem same_at {A B : Hp} (h : Same A B) {b : Addr} {o : HO} (e : A b = some o) : B b = some o := h b o e
theorem same_go {A B C : Hp} (h : Same B C) (e : Same A B) : Same A C := e.trans h
theorem dp_boolsAll {K : PySem.W.Frag} {H : Hp} : ∀ bs : List Bool, DpAll K H (bs.map V.bl) (bs.map PyData.bool)
  | [] => .nil
  | b :: r => .cons (.bl b) (dp_boolsAll r)
theorem dp_bools {K : PySem.W.Frag} {H : Hp} {p : Addr} {bs : List Bool} (h : H p = some (.lst (bs.map V.bl))) : Dp K H (.ref p) (.list (bs.map PyData.bool)) := .lst (sq_lst h) (dp_boolsAll bs)
theorem sh_bools (bs : List Bool) (h : bs.length ≤ 1000) : Sh (.list (bs.map PyData.bool)) := by
  have all : PyData.leavesShortAll 600 (bs.map PyData.bool) = true ∧ PyData.showableAll (bs.map PyData.bool) = true ∧ PyData.hasDictAll (bs.map PyData.bool) = false ∧ PyData.weightAll (bs.map PyData.bool) = bs.length ∧ PyData.depthAll (bs.map PyData.bool) = 0 := by
    clear h
    induction bs with
    | nil => simp only [List.map_nil, PyData.leavesShortAll, PyData.showableAll, PyData.hasDictAll, PyData.weightAll, PyData.depthAll, List.length_nil, and_self]
    | cons b r ih =>
      obtain ⟨i1, i2, i3, i4, i5⟩ := ih
      simp only [List.map_cons, PyData.leavesShortAll, PyData.leavesShort, PyData.showableAll, PyData.showable, PyData.hasDictAll, PyData.hasDict, PyData.weightAll, PyData.weight, PyData.depthAll, PyData.depth, i1, i2, i3, i4, i5, Bool.and_self, Bool.or_self, List.length_cons, true_and]
      refine ⟨by omega, rfl⟩
  obtain ⟨e1, e2, e3, e4, e5⟩ := all
  refine ⟨by simp only [PyData.leavesShort]; exact e1, by simp only [PyData.showable]; exact e2, by simp only [PyData.hasDict]; exact e3, ?_, ?_⟩
  · simp only [PyData.weight]
    omega
  · simp only [PyData.depth]
    omega
/-! ### more that is new -/
theorem op_weak {X : Cx} {f : Value → Value → Sem Value} {r r' : R2} (h : OpR X f r) (wk : ∀ x y H Q, r' x y H Q → r x y H Q) : OpR X f r' := fun pins s σ H x y v u Q I rx ry hr => h pins s σ H x y v u Q I rx ry (wk _ _ _ _ hr)
theorem call_weak {X : Cx} {f : Value} {r r' : List V → Hp → VK → Prop} (h : CallR X f r) (wk : ∀ xs H Q, r' xs H Q → r xs H Q) : CallR X f r' := fun pins s σ H xs us Q I rx hr => h pins s σ H xs us Q I rx (wk _ _ _ hr)
def rCatN : R2 := fun x y H Q => ∃ l b xs zs, x = .ref l ∧ y = .ref b ∧ H l = some (.lst xs) ∧ H b = some (.lst zs) ∧ xs.length + zs.length ≤ sizeLine ∧ New H (.lst (xs ++ zs)) Q
theorem op_catN {X : Cx} : OpR X (binaryOp .Add) rCatN := op_weak op_cat fun _ _ _ _ ⟨l, b, xs, zs, h1, h2, h3, h4, h5, n⟩ => ⟨l, b, xs, zs, h1, h2, h3, h4, h5, n.use⟩
def rRepN : R2 := fun x y H Q => ∃ l k xs, x = .ref l ∧ y = .int k ∧ H l = some (.lst xs) ∧ -(2 ^ 63) ≤ k ∧ k < 2 ^ 63 ∧ xs.length * k.toNat ≤ sizeLine ∧ New H (.lst (List.replicate k.toNat xs).flatten) Q
theorem op_repN {X : Cx} : OpR X (binaryOp .Mult) rRepN := op_weak op_rep fun _ _ _ _ ⟨l, k, xs, h1, h2, h3, h4, h5, h6, n⟩ => ⟨l, k, xs, h1, h2, h3, h4, h5, h6, n.use⟩
def rSlLN (K : PySem.W.Frag) : V → Option Int → Option Int → Hp → VK → Prop := fun x lo hi H Q => ∃ a xs, x = .ref a ∧ SqL K H a xs ∧ New H (.lst (cutV xs lo hi)) Q
def rListN (K : PySem.W.Frag) : List V → Hp → VK → Prop := fun xs H Q => ∃ p ys, xs = [.ref p] ∧ (SqL K H p ys ∨ SqT K H p ys) ∧ New H (.lst ys) Q
theorem call_listN {X : Cx} : CallR X (.type "list") (rListN X.K) := call_weak call_list_of fun _ _ _ ⟨p, ys, h1, h2, n⟩ => ⟨p, ys, h1, h2, n.use⟩
end Gd

namespace Gd
open PySem PySem.Spec PyProof.Rows L2
theorem isText_low {x : Str} (h : ∀ c ∈ x.cps.toList, low c = true) (l : x.length ≤ 8000) : isText (.str x) = true := by
  rw [isText_str, decide_eq_true l, List.all_eq_true.mpr h]
  rfl
theorem isText_bad {x : Str} {c : Nat} (hc : c ∈ x.cps.toList) (h : low c = false) : isText (.str x) = false := by
  rw [isText_str]
  have e : x.cps.toList.all low = false := by
    rw [List.all_eq_false]
    exact ⟨c, hc, by rw [h]; decide⟩
  rw [e, Bool.and_false]
theorem isSign_str (x : Str) : isSign (.str x) = (isText (.str x) && decide (x.length = 1)) := rfl
theorem isPiece_str (x : Str) : isPiece (.str x) = (isText (.str x) && decide (1 ≤ x.length ∧ x.length ≤ 5)) := rfl
theorem isSign_bad {x : Str} (h : isText (.str x) = false) : isSign (.str x) = false := by rw [isSign_str, h, Bool.false_and]
theorem isPiece_bad {x : Str} (h : isText (.str x) = false) : isPiece (.str x) = false := by rw [isPiece_str, h, Bool.false_and]
theorem app_list (x y : Str) : (x ++ y).cps.toList = x.cps.toList ++ y.cps.toList := by
  rw [Str.cps_append, Array.toList_append]
theorem app_len (x y : Str) : (x ++ y).length = x.length + y.length := strLen_append x y
theorem cutS_list (z : Str) (lo hi : Option Int) : (cutS z lo hi).cps.toList = (z.cps.toList.drop (HT.sIx z.length 0 lo)).take (HT.sIx z.length z.length hi - HT.sIx z.length 0 lo) := by simp [cutS]
theorem cutS_len (z : Str) (lo hi : Option Int) : (cutS z lo hi).length = min (HT.sIx z.length z.length hi - HT.sIx z.length 0 lo) (z.length - HT.sIx z.length 0 lo) := by
  rw [← str_len, cutS_list, List.length_take, List.length_drop, str_len]
theorem cutS_le (z : Str) (lo hi : Option Int) : (cutS z lo hi).length ≤ z.length := by
  rw [cutS_len]
  omega
theorem cutS_mem {z : Str} {lo hi : Option Int} {c : Nat} (h : c ∈ (cutS z lo hi).cps.toList) : c ∈ z.cps.toList := by
  rw [cutS_list] at h
  exact List.mem_of_mem_drop (List.mem_of_mem_take h)
theorem sIx_pos {n d : Nat} {v : Int} (h : 0 ≤ v) : HT.sIx n d (some v) = min v.toNat n := by
  have e := HT.sIx_nat n d v.toNat
  rw [show ((v.toNat : Nat) : Int) = v by omega] at e
  exact e
end Gd
namespace Gd
open PySem PySem.Spec PyProof.Rows L2
theorem shown_eq {xs ys : List Bool} (e : xs = ys) : decide ((PyData.list (xs.map .bool)).shown = (PyData.list (ys.map .bool)).shown) = true := by
  rw [e, decide_eq_true rfl]
end Gd

/-! Gd7: list(text) -/
namespace Gd
open PySem PySem.Spec PyProof.Rows L2
section
variable {prog : Program} {w : World} {A : Around} {E : Value → Shared → Prop} {s : Shared} {x : Str} {t : Tok}
theorem hint_str {Q : Bool → Shared → Prop} (q : Q false s) : wpAny (model prog w) A (Builtin.List.listLengthHint (.str x t)) Q E s := by
  have ty : s.TypeIs (.str x t) "str" := typeIs_str s x t
  unfold Builtin.List.listLengthHint
  refine wpAny_bind (wpAny_specialOf ty PySem.F.slot_str_len.lookup ?_)
  generalize name : ("str.__len__" : String) = id1
  wp_delta
  rw [show splitId id1 = some ("str", "__len__") from by subst name; decide +kernel]
  subst name
  refine wpAny_bind (wpAny_isInstance (b := true) (T := "str") ty (by rw [isSubtype_type]; kernel_rfl) ?_)
  refine wpAny_ite_split (fun no => absurd no (by decide)) (fun _ => wpAny_ite_split (fun _ => ?_) (fun no => absurd (by decide +kernel) no))
  exact wpAny_bind (wpAny_typeOf ty (wpAny_pure q))
theorem extend_str {R : Result → Shared → Prop} (hh : A.handled = none) (S : Addr) (res : Value) (c₀ : Nat) (hS : s.heap.get? S = some { cls := .type "list", data := .seq #[] c₀ }) (hn : x.cps.size ≤ sizeLine)
    (done : ∀ h' tk acc c, (∀ b o, b ≠ S → s.heap.get? b = some o → h'.get? b = some o) → h'.get? S = some { cls := .type "list", dict := none, data := .seq acc c, slots := #[] } → ItemsOf (SignAt x) acc x.cps.size → R (.ok (.ret res)) { s with heap := h', toks := tk }) :
    wpAny (model prog w) A.in1 (Builtin.List.listExtendWith (.ref S) (.str x t) res)
      (fun fin s' => match fin with | .done f => R (.ok f) s' | .again c' => c'.quiet = true ∧ codeAny (model prog w) A c' R s') (fun e s' => R (.error e) s') s := by
  have away : S ≠ s.heap.objs.size := Nat.ne_of_lt (Heap.lt_size hS)
  unfold Builtin.List.listExtendWith
  refine wpAny_bind (wpAny_typeOf (T := "str") (typeIs_str s x t) ?_)
  have other : Builtin.List.listSameRef (.ref S) (.str x t) = false := rfl
  have nl : (Value.type "str" == Value.type "list") = false := by decide
  have nt : (Value.type "str" == Value.type "tuple") = false := by decide
  simp only [other, nl, nt, Bool.or_false, Bool.false_eq_true, if_false]
  refine wpAny_bind (wpAny_pyIter_str fun oI St walks st => ?_)
  have W := walks A.in1 hh
  have off : S ∉ [s.heap.objs.size] := fun m => away (List.mem_singleton.mp m)
  have go : ∀ (h : Heap) (c₁ tk : Nat), St 0 h → (∀ b o, b ≠ S → s.heap.get? b = some o → h.get? b = some o) → h.get? S = some { cls := .type "list", data := .seq #[] c₁ } →
      codeAny (model prog w) A (.builtin "list.extend.loop" ⟨[.ref S, .ref s.heap.objs.size, res], []⟩) R { s with heap := h, toks := tk } := fun h c₁ tk hst keep at_S =>
    codeAny_extend_loopS W.toS hn S off res x.cps.size 0 _ #[] c₁ rfl (Nat.zero_le _) hst at_S (ItemsOf.nil _) fun s' acc c moved at_S' items => by
      rw [Moved.eq_with moved]
      refine done s'.heap s'.toks acc c (fun b o hb e => moved.heap b o (fun m => ?_) (keep b o hb e)) at_S' items
      rcases List.mem_cons.mp m with same | m
      · exact hb same
      · exact Nat.lt_irrefl _ (List.mem_singleton.mp m ▸ Heap.lt_size e)
  have at1 := Heap.get?_push_of_some oI hS
  refine wpAny_bind (wpAny_holding (hint_str ?_))
  refine wpAny_ite_split (fun _ => ?_) (fun _ => wpAny_pure ⟨plainId_quiet PySem.F.plain_extend_loop _, go _ c₀ _ st (fun b o _ e => Heap.get?_push_of_some _ e) at1⟩)
  refine wpAny_bind (wpAny_rule (wpAny_bind ?_))
  show wpAny _ _ (updateSeq S (·.push .none) >>= fun _ => updateSeq S (·.pop)) _ _ _
  refine wpAny_bind (wpAny_updateSeq at1 rfl ?_)
  have at2 := Heap.get?_update_self (Obj.mapSeq (·.push Value.none)) at1 rfl
  refine wpAny_updateSeq (hz := by seq_fits) at2 rfl ?_
  have at3 := Heap.get?_update_self (Obj.mapSeq (·.pop)) at2 rfl
  have oth : ∀ b o, b ≠ S → (s.heap.push oI).get? b = some o → (((s.heap.push oI).update S (Obj.mapSeq (·.push Value.none))).update S (Obj.mapSeq (·.pop))).get? b = some o := fun b o hb e => by
    rw [Heap.get?_update_other _ _ hb.symm, Heap.get?_update_other _ _ hb.symm]
    exact e
  exact wpAny_pure ⟨plainId_quiet PySem.F.plain_extend_loop _, go _ _ _ (W.frame 0 _ _ st fun b m o e => oth b o (fun same => off (same ▸ m)) e) (fun b o hb e => oth b o hb (Heap.get?_push_of_some _ e)) at3⟩
theorem list_of_str {Q : Value → Shared → Prop} (hh : A.handled = none) (hn : x.cps.size ≤ sizeLine)
    (done : ∀ h' tk acc c, (∀ b o, s.heap.get? b = some o → h'.get? b = some o) → h'.get? s.heap.objs.size = some { cls := .type "list", dict := none, data := .seq acc c, slots := #[] } → ItemsOf (SignAt x) acc x.cps.size → Q (.ref s.heap.objs.size) { s with heap := h', toks := tk }) :
    wpAny (model prog w) A (call (.type "list") [.str x t]) Q E s := by
  refine callType_codes (Q₁ := fun obj s₁ => obj = .ref s.heap.objs.size ∧ s₁ = { s with heap := s.heap.push { cls := .type "list", data := .seq #[] } }) PySem.F.called_list (PySem.F.typeCall_list_1 _) PySem.F.entry_list_init
    (code_list_new _ ⟨rfl, rfl⟩) fun obj s₁ ⟨e1, e2⟩ => ?_
  subst e1 e2
  have at0 : (s.heap.push { cls := .type "list", data := .seq #[] }).get? s.heap.objs.size = some { cls := .type "list", data := .seq #[] } := Heap.get?_push_size _ rfl
  refine ⟨⟨_, at0, rfl⟩, PySem.F.args_list_init_2 _ _, ?_⟩
  show wpAny _ _ (do let old ← Builtin.List.listItems (.ref s.heap.objs.size); Builtin.List.listUpdate (.ref s.heap.objs.size) (fun _ => #[]); letGo old.toList.reverse; Builtin.List.listExtendWith (.ref s.heap.objs.size) (.str x t) .none) _ _ _
  refine wpAny_bind ?_
  unfold Builtin.List.listItems
  refine wpAny_bind (wpAny_seqItems at0 rfl (wpAny_pure ?_))
  show wpAny _ _ (updateSeq s.heap.objs.size (fun _ => #[]) >>= fun _ => letGo (#[] : Array Value).toList.reverse >>= fun _ => Builtin.List.listExtendWith (.ref s.heap.objs.size) (.str x t) .none) _ _ _
  refine wpAny_bind (wpAny_updateSeq at0 rfl (wpAny_bind (wpAny_letGo ?_)))
  have at1 := Heap.get?_update_self (Obj.mapSeq (fun _ => (#[] : Array Value))) at0 rfl
  refine extend_str (A := A.in1) hh _ .none _ at1 hn fun h' tk acc c keep at2 items => ⟨rfl, done h' tk acc c (fun b o e => ?_) at2 items⟩
  have ne : b ≠ s.heap.objs.size := Nat.ne_of_lt (Heap.lt_size e)
  exact keep b o ne ((Heap.get?_update_other _ _ ne.symm).trans (Heap.get?_push_of_some _ e))
end
theorem vals_signs {x : Str} {acc : Array Value} (h : ItemsOf (SignAt x) acc x.cps.size) : Vals ((x.cps.toList.map sg).map V.str) acc.toList := by
  have len : acc.toList.length = x.cps.toList.length := by rw [Array.length_toList, h.1, Array.length_toList]
  have at' : ∀ (j : Nat) (c : Nat) (v : Value), x.cps.toList[j]? = some c → acc.toList[j]? = some v → ∃ u, v = .str (sg c) u := fun j c v e1 e2 => by
    obtain ⟨c', u, e3, rfl⟩ := h.2 j v (by rw [← Array.getElem?_toList]; exact e2)
    rw [← Array.getElem?_toList, e1] at e3
    cases e3
    exact ⟨u, rfl⟩
  generalize acc.toList = vs at len at'
  generalize x.cps.toList = cs at len at'
  clear h
  induction cs generalizing vs with
  | nil =>
    cases vs with
    | nil => exact .nil
    | cons v r => simp at len
  | cons c r ih =>
    cases vs with
    | nil => simp at len
    | cons v vs =>
      obtain ⟨u, rfl⟩ := at' 0 c v rfl rfl
      exact .cons ⟨u, rfl⟩ (ih vs (by simpa using len) fun j c v e1 e2 => at' (j + 1) c v (by simpa using e1) (by simpa using e2))
def rListStr : List V → Hp → VK → Prop := fun xs H Q => ∃ x : Str, xs = [.str x] ∧ x.length ≤ sizeLine ∧ New H (.lst ((x.cps.toList.map sg).map V.str)) Q
theorem call_listStr {X : Cx} (hc : X.calm = true) : CallR X (.type "list") rListStr := by
  intro pins s σ H xs us Q I r h
  obtain ⟨x, rfl, hn, q⟩ := h
  obtain ⟨u, rfl, t, rfl⟩ := vals1 r
  refine list_of_str (I.ok.hd hc) hn fun h' tk acc c keep at0 items => ?_
  refine ⟨.ref s.heap.objs.size, upd H s.heap.objs.size (.lst ((x.cps.toList.map sg).map V.str)), I.laid keep (Nat.le_refl _) (show ObjOk X.prog X.w _ _ _ (.lst ((x.cps.toList.map sg).map V.str)) from ⟨?_, acc.toList, c, vals_signs items, ?_⟩), rfl, q.use _ (I.hok.fresh (Nat.le_refl _))⟩
  · rw [List.length_map, List.length_map, str_len]
    exact hn
  · rw [Array.toArray_toList]
    exact at0
end Gd
namespace Gd
open PySem PySem.Spec PyProof.Rows L2
theorem fold_app : ∀ (l : List (Array Nat)) (acc : Array Nat), (l.foldl (· ++ ·) acc).toList = acc.toList ++ (l.map Array.toList).flatten
  | [], acc => by simp
  | a :: r, acc => by
    rw [List.foldl_cons, fold_app r, Array.toList_append, List.map_cons, List.flatten_cons, List.append_assoc]
theorem mul_list {x : Str} {n : Nat} (h : 2 ≤ n) (pos : 0 < x.length) : (Txt.mul x (n : Int)).cps.toList = (List.replicate n x.cps.toList).flatten := by
  unfold Txt.mul
  rw [if_neg (by omega), if_neg (by
    rw [Bool.or_eq_true, beq_iff_eq, beq_iff_eq]
    omega)]
  show (List.foldl (· ++ ·) #[] (List.replicate (n : Int).toNat x.cps)).toList = _
  rw [fold_app, Int.toNat_natCast]
  simp
theorem mul_len {x : Str} {n : Nat} (h : 2 ≤ n) (pos : 0 < x.length) : (Txt.mul x (n : Int)).length = n * x.length := by
  rw [← str_len, mul_list h pos, List.length_flatten, List.map_replicate, List.sum_replicate_nat, str_len]
theorem mul_mem {x : Str} {n : Nat} (h : 2 ≤ n) (pos : 0 < x.length) {c : Nat} (hc : c ∈ (Txt.mul x (n : Int)).cps.toList) : c ∈ x.cps.toList := by
  rw [mul_list h pos] at hc
  obtain ⟨l, hl, hc⟩ := List.mem_flatten.mp hc
  rw [List.eq_of_mem_replicate hl] at hc
  exact hc
theorem mulOk {x : Str} {n : Nat} (h : 2 ≤ n) (hn : n ≤ 100000) (le : x.length ≤ 100) : MulOk x (n : Int) := by
  refine ⟨?_, fun _ _ => ?_, fun _ _ => ?_⟩
  · rw [decide_eq_false (by omega), decide_eq_false (by omega)]
    rfl
  · have big : (100000 : Int) ≤ (2 ^ 63 - 1) / (n : Int) := by
      refine (Int.le_ediv_iff_mul_le (by omega)).mpr ?_
      omega
    omega
  · have : x.length * (n : Int).toNat ≤ 100 * 100000 := Nat.mul_le_mul le (by omega)
    refine decide_eq_false (p := x.length * (n : Int).toNat > sizeLine) ?_
    have e : sizeLine = 16777216 := by decide
    omega
end Gd

/-! Gd8: sets of texts: made of a text, a list or a tuple of texts; sorted -/
namespace Gd
open PySem PySem.Spec PyProof.Rows L2
def textOf (e : Int × Value) : Str := match e.2 with
  | .str x _ => x
  | _ => Str.empty
def IsT (w : World) (e : Int × Value) : Prop := ∃ x tk, e.2 = Value.str x tk ∧ e.1 = hashStr w x
/-- a set of texts at a: S its members, n their number; its table can be walked -/
def TextSet (w : World) (h : Heap) (a : Addr) (S : Str → Bool) (n : Nat) : Prop :=
  ∃ o es ep t, h.get? a = some o ∧ o.ExactSet ∧ o.data = .set es ep t ∧ (∀ e ∈ es.toList, IsT w e) ∧ (es.toList.map textOf).Nodup ∧ (∀ k, S k = true ↔ k ∈ es.toList.map textOf) ∧
    es.size < scanBound ∧ t.fits es.size = true ∧ es.size = n ∧ Ris t.place.toList ∧ (w.params.followText "set-order" = true ∨ t.led = true)
section
variable {P : Program} {w : World} {h h' : Heap} {a : Addr} {S : Str → Bool} {n : Nat}
theorem TextSet.keep (R : TextSet w h a S n) (k : ∀ o, h.get? a = some o → h'.get? a = some o) : TextSet w h' a S n := by
  obtain ⟨o, es, ep, t, at_a, r⟩ := R
  exact ⟨o, es, ep, t, k o at_a, r⟩
theorem TextSet.same {S' : Str → Bool} (R : TextSet w h a S n) (e : ∀ k, S' k = S k) : TextSet w h a S' n := by
  obtain rfl : S' = S := funext e
  exact R
theorem isT_elems {l : List (Int × Value)} (g : ∀ e ∈ l, IsT w e) : ElemsOf (PySem.strKind P w) l := by
  intro e he
  obtain ⟨x, tk, e1, e2⟩ := g e he
  refine ⟨⟨x, ?_, e2⟩, ?_⟩
  · rw [e1]
    exact strKind_is _ _ _ _
  · rw [e1]
    rfl
theorem isT_is {e : Int × Value} (g : IsT w e) (x : Str) : (PySem.strKind P w).is x e.2 = true ↔ textOf e = x := by
  obtain ⟨y, tk, e1, _⟩ := g
  have e2 : textOf e = y := by
    unfold textOf
    rw [e1]
  rw [e2, e1]
  constructor
  · intro q
    obtain ⟨u, q⟩ := Value.isStrOf_shape (x := x) (v := .str y tk) q
    cases q
    rfl
  · rintro rfl
    exact strKind_is _ _ _ _
theorem isT_mem {l : List (Int × Value)} (g : ∀ e ∈ l, IsT w e) (x : Str) : x ∈ l.map textOf ↔ ∃ e ∈ l, (PySem.strKind P w).is x e.2 = true := by
  rw [List.mem_map]
  exact ⟨fun ⟨e, he, q⟩ => ⟨e, he, (isT_is (g e he) x).mpr q⟩, fun ⟨e, he, q⟩ => ⟨e, he, (isT_is (g e he) x).mp q⟩⟩
end
section
variable {P : Program} {w : World} {A : Around} {E : Value → Shared → Prop} {s : Shared} {a : Addr} {S : Str → Bool} {n : Nat}
theorem text_tail {g : Bool → Sem Unit} (quiet : ∀ (b : Bool) (s₁ : Shared) (Q' : Unit → Shared → Prop), Q' () s₁ → wpAny (model P w) A (g b) Q' E s₁)
    {o : Obj} {es : Array (Int × Value)} {ep : Nat} {t : SetTable} (at_a : s.heap.get? a = some o) (ex : o.ExactSet) (dt : o.data = .set es ep t)
    {es1 : Array (Int × Value)} {t2 : SetTable} {S' : Str → Bool} (good : ∀ e ∈ es1.toList, IsT w e) (nd : (es1.toList.map textOf).Nodup) (mem : ∀ k, S' k = true ↔ k ∈ es1.toList.map textOf)
    (few : es1.size < scanBound) (fit : t2.fits es1.size = true) (rise : Ris t2.place.toList) (led : w.params.followText "set-order" = true ∨ t2.led = true) {wasDummy : Bool} {R : Option Bool → Shared → Prop}
    (done : ∀ h', Heap.SameBut a s.heap h' → TextSet w h' a S' es1.size → R (some true) { s with heap := h' }) :
    wpAny (model P w) A (do
        storeSet a es1 t2
        if (!wasDummy && t2.tooFull) = true then do
            g (relayAll t2 es1 (SetTable.grown es1.size)).2.2
            storeSet a (relayAll t2 es1 (SetTable.grown es1.size)).1 (relayAll t2 es1 (SetTable.grown es1.size)).2.1
            pure (some true)
          else pure (some true)) R E s := by
  refine wpAny_bind (wpAny_storeSet_of at_a dt ?_ (fits_of_scanBound few))
  have at1 := store_at (es' := es1) (t' := t2) at_a dt
  have but1 := Heap.SameBut.update s.heap a (Obj.putSet es1 t2)
  split
  · have perm := relayAll_perm t2 es1 (SetTable.grown es1.size)
    have fit3 := relayAll_fits t2 es1 (SetTable.grown es1.size)
    have rise3 := relayAll_ris t2 es1 (SetTable.grown es1.size)
    have led3 := relayAll_led t2 es1 (SetTable.grown es1.size)
    generalize relayAll t2 es1 (SetTable.grown es1.size) = out at perm fit3 rise3 led3 ⊢
    rcases out with ⟨es2, t3, gave⟩
    dsimp only at perm fit3 rise3 led3 ⊢
    have size2 : es2.size = es1.size := by simpa using perm.length_eq
    have few2 : es2.size < scanBound := size2 ▸ few
    refine wpAny_bind (quiet _ _ _ (wpAny_bind (wpAny_storeSet_of at1 rfl ?_ (fits_of_scanBound few2))))
    have at2 := store_at (es' := es2) (t' := t3) at1 rfl
    refine wpAny_pure (done _ (but1.trans (Heap.SameBut.update _ a _)) ⟨_, es2, _, t3, at2, ex, rfl, fun e he => good e (perm.mem_iff.mp he), ?_, fun k => ?_, few2, fit3, size2, rise3, led.imp id fun z => led3.trans z⟩)
    · exact (perm.map textOf).nodup_iff.mpr nd
    · exact (mem k).trans (perm.map textOf).mem_iff.symm
  · exact wpAny_pure (done _ but1 ⟨_, es1, _, t2, at1, ex, rfl, good, nd, mem, few, fit, rfl, rise, led⟩)
theorem text_add {x : Str} {tk : Tok} {Q : Bool → Shared → Prop} (R : TextSet w s.heap a S n) (room : n + 1 < scanBound)
    (done : ∀ h', Heap.SameBut a s.heap h' → TextSet w h' a (fun j => S j || decide (j = x)) (if S x = true then n else n + 1) → Q (!S x) { s with heap := h' }) :
    wpAny (model P w) A (setAddHashed a (.str x tk) ((PySem.strKind P w).hash x)) Q E s := by
  obtain ⟨o, es, ep, t, at_a, ex, dt, good, nd, mem, few, fit, size, rise, led⟩ := R
  have key : (PySem.strKind P w).is x (.str x tk) = true := strKind_is _ _ _ _
  have scan : (Value.str x tk).scannable = true := rfl
  have elems : ElemsOf (PySem.strKind P w) es.toList := isT_elems good
  unfold setAddHashed setAddHashedIn
  refine wpAny_holding (wpAny_bind (wpAny_setState_of at_a dt fit ?_))
  dsimp only
  rw [byScan_of scan few elems]
  simp only [↓reduceIte]
  unfold setAddByScan
  refine wpAny_bind (wpAny_bind (wpAny_rule (wpAny_bind (wpAny_setScan_of key at_a dt fit elems ?_))))
  cases found : List.findIdx? (fun e => (PySem.strKind P w).is x e.2) es.toList with
  | some j =>
    dsimp only
    obtain ⟨lt, hit, _⟩ := List.findIdx?_eq_some_iff_getElem.mp found
    have isIn : S x = true := (mem x).mpr ((isT_mem (P := P) good x).mpr ⟨es.toList[j], List.getElem_mem lt, hit⟩)
    have q := done s.heap (Heap.SameBut.refl a s.heap) ⟨o, es, ep, t, at_a, ex, dt, good, nd, fun i => ?_, few, fit, by rw [if_pos isIn]; exact size, rise, led⟩
    · rw [isIn] at q
      exact wpAny_pure (wpAny_pure q)
    · rw [Bool.or_eq_true, decide_eq_true_eq, ← mem i]
      exact ⟨fun z => z.elim id (fun e => e ▸ isIn), .inl⟩
  | none =>
    dsimp only
    have notIn : x ∉ es.toList.map textOf := fun z => by
      obtain ⟨e, he, q⟩ := (isT_mem (P := P) good x).mp z
      have c := List.findIdx?_eq_none_iff.mp found e he
      rw [q] at c
      cases c
    have out : S x = false := Bool.eq_false_iff.mpr fun q => notIn ((mem x).mp q)
    have perm := layNew_perm t es ((PySem.strKind P w).hash x) (.str x tk)
    have fit1 := layNew_fits t es ((PySem.strKind P w).hash x) (.str x tk)
    have rise1 := layNew_ris t es ((PySem.strKind P w).hash x) (.str x tk) rise
    have led1 := layNew_led t es ((PySem.strKind P w).hash x) (.str x tk)
    generalize layNew t es ((PySem.strKind P w).hash x) (.str x tk) = out2 at perm fit1 rise1 led1 ⊢
    rcases out2 with ⟨es1, t1, wasDummy, gave⟩
    dsimp only at perm fit1 rise1 led1 ⊢
    rw [Array.toList_push] at perm
    have perm2 : es1.toList.Perm (((PySem.strKind P w).hash x, Value.str x tk) :: es.toList) := perm.trans (List.perm_append_singleton _ _)
    have keys : (es1.toList.map textOf).Perm (x :: es.toList.map textOf) := perm2.map textOf
    have good1 : ∀ e ∈ es1.toList, IsT w e := fun e he => (List.mem_cons.mp (perm2.mem_iff.mp he)).elim (fun z => z ▸ ⟨x, tk, rfl, rfl⟩) (good e)
    have nd1 : (es1.toList.map textOf).Nodup := keys.nodup_iff.mpr (List.nodup_cons.mpr ⟨notIn, nd⟩)
    have mem1 : ∀ i, (S i || decide (i = x)) = true ↔ i ∈ es1.toList.map textOf := fun i => by
      rw [Bool.or_eq_true, decide_eq_true_eq, mem i, keys.mem_iff, List.mem_cons, or_comm]
    have size1 : es1.size = n + 1 := by simpa [size] using perm2.length_eq
    have few1 : es1.size < scanBound := size1 ▸ room
    have led2 : w.params.followText "set-order" = true ∨ t1.led = true := led.imp id fun z => led1.trans z
    have fin : ∀ h', Heap.SameBut a s.heap h' → TextSet w h' a (fun j => S j || decide (j = x)) es1.size → Q true { s with heap := h' } := fun h' but r => by
      have q := done h' but
      rw [out, if_neg Bool.false_ne_true] at q
      exact q (size1 ▸ r)
    refine wpAny_bind ?_
    have gw : ∀ (b : Bool) {s₁ : Shared} {Q' : Unit → Shared → Prop}, Q' () s₁ → wpAny (model P w) A (match b with | true => rule "set.scan.the-table-gave-way" | false => pure ()) Q' E s₁ := by
      intro b s₁ Q' q
      cases b
      · exact wpAny_pure q
      · exact wpAny_rule q
    refine gw _ ?_
    split
    · refine wpAny_bind ?_
      rw [hashByValue_scannable 8 scan]
      refine wpAny_pure (text_tail ?_ at_a ex dt good1 nd1 mem1 few1 ?_ ?_ ?_ ?_)
      · intro b s₁ Q' q
        cases b <;> first | exact wpAny_pure q | exact wpAny_rule q
      · first | (split <;> first | exact fit1 | exact SetTable.fits_plain_off fit1) | exact fit1
      · first | (split <;> exact rise1) | exact rise1
      · first | (split <;> exact led2) | exact led2
      · intro h' but r
        exact wpAny_pure (fin h' but r)
    · refine wpAny_bind (wpAny_pure ?_)
      simp only [↓reduceIte]
      refine text_tail ?_ at_a ex dt good1 nd1 mem1 few1 fit1 rise1 led2 ?_
      · intro b s₁ Q' q
        cases b <;> first | exact wpAny_pure q | exact wpAny_rule q
      · intro h' but r
        exact wpAny_pure (fin h' but r)
end
end Gd

namespace Gd
open PySem PySem.Spec PyProof.Rows L2
abbrev bareSet (w : World) : Obj := { cls := .type "set", dict := none, data := .set #[] 0 (.fresh 0 0 (!w.params.followText "set-order")) }
theorem text_fresh {w : World} {h : Heap} {a : Addr} (e : h.get? a = some (bareSet w)) : TextSet w h a (fun _ => false) 0 := by
  refine ⟨_, #[], 0, _, e, ⟨rfl, rfl, rfl⟩, rfl, fun e he => by simp at he, by simp, fun k => by simp, by decide, by rfl, rfl, List.Pairwise.nil, ?_⟩
  show _ ∨ (!w.params.followText "set-order") = true
  cases w.params.followText "set-order"
  · exact .inr rfl
  · exact .inl rfl
/-- the texts of a list are few -/
def FewIn (xs : List Str) : Prop := ∀ l : List Str, l.Nodup → (∀ k ∈ l, k ∈ xs) → l.length + 1 < scanBound
theorem TextSet.room {w : World} {h : Heap} {a : Addr} {S : Str → Bool} {n : Nat} (R : TextSet w h a S n) {xs : List Str} (few : FewIn xs) (sub : ∀ k, S k = true → k ∈ xs) : n + 1 < scanBound := by
  obtain ⟨o, es, ep, t, _, _, _, _, nd, mem, _, _, size, _⟩ := R
  have := few _ nd fun k hk => sub k ((mem k).mpr hk)
  rw [List.length_map, Array.length_toList, size] at this
  exact this
section
variable {P : Program} {w : World} {A : Around} {E : Value → Shared → Prop} {s : Shared}
/-- the loop that fills a set: one text a turn -/
theorem text_loop {I : Addr} {fp wr : List Addr} {G : Array GenState → Array GenState → Prop} {n : Nat} {Pv : Nat → Value → Prop} {St : Nat → Shared → Prop} {R : Result → Shared → Prop}
    (W : WalksS P w A.in1 I fp wr G n Pv St) (S : Addr) (off : S ∉ fp) (xs : List Str) (len : n = xs.length) (few : FewIn xs) (is : ∀ i v, Pv i v → ∃ x t, xs[i]? = some x ∧ v = .str x t) :
    ∀ (left i : Nat) (s : Shared), n - i = left → i ≤ n → St i s → (∃ c, TextSet w s.heap S (fun j => decide (j ∈ xs.take i)) c) →
      (∀ s' c, Moved (S :: wr) G s s' → TextSet w s'.heap S (fun j => decide (j ∈ xs)) c → R (.ok (.ret .none)) s') →
      codeAny (model P w) A (.builtin "set.update.loop" ⟨[.ref S, .ref I], []⟩) R s := by
  have offw : S ∉ wr := fun m => off (W.sub _ m)
  have more : ∀ b ∈ wr, b ∈ S :: wr := fun b m => List.mem_cons_of_mem _ m
  intro left
  induction left with
  | zero =>
    rintro i s none le st ⟨c, set⟩ done
    obtain rfl : i = n := by omega
    refine codeAny_builtin PyProof.Rows.F.entry_set_update_loop ?_
    rw [Around.under_plainId PyProof.Rows.F.plain_set_update_loop _]
    show wpAny _ A.in1 (pyNext (.ref I) >>= _) _ _ s
    refine wpAny_bind (W.done s _ _ st fun s' moved => ?_)
    rw [show xs.take i = xs from List.take_of_length_le (by omega)] at set
    exact wpAny_pure (done s' c (moved.mono more) (set.keep fun o e => moved.heap S o offw e))
  | succ left ih =>
    rintro i s some_ le st ⟨c, set⟩ done
    have lt : i < n := by omega
    refine codeAny_builtin PyProof.Rows.F.entry_set_update_loop ?_
    rw [Around.under_plainId PyProof.Rows.F.plain_set_update_loop _]
    show wpAny _ A.in1 (pyNext (.ref I) >>= _) _ _ s
    refine wpAny_bind (W.item i s _ _ lt st fun v s' pv st' moved => ?_)
    obtain ⟨x, t, at_i, rfl⟩ := is i v pv
    have set' : TextSet w s'.heap S (fun j => decide (j ∈ xs.take i)) c := set.keep fun o e => moved.heap S o offw e
    show wpAny _ A.in1 (holding [Value.str x t] (setAdd S (.str x t)) >>= _) _ _ s'
    refine wpAny_bind (wpAny_holding ?_)
    unfold setAdd
    refine wpAny_holding (wpAny_bind ((PySem.strKind P w).pyHash (k := x) (strKind_is _ _ _ _) ?_))
    refine text_add (s := { s' with toks := s'.toks + 1 }) set' (set'.room few fun k hk => List.mem_of_mem_take (of_decide_eq_true hk)) fun h' but set2 => ?_
    have set3 : TextSet w h' S (fun j => decide (j ∈ xs.take (i + 1))) (if decide (x ∈ xs.take i) = true then c else c + 1) := set2.same fun j => by
      rw [List.take_add_one, at_i]
      simp [List.mem_append]
    refine wpAny_pure ⟨plainId_quiet PyProof.Rows.F.plain_set_update_loop _, ih (i + 1) _ (by omega) lt (W.frame _ s' _ _ st' (Nat.le_succ _) fun b m o e => ?_) ⟨_, set3⟩ fun s2 c2 moved2 fin => ?_⟩
    · rw [but.2 b (fun q : b = S => off (q ▸ m))]
      exact e
    · refine done s2 c2 (Moved.trans W.gtrans ((moved.mono more).then_heap (Nat.le_succ _) fun b o m e => ?_) moved2) fin
      rw [but.2 b (fun q : b = S => m (q ▸ List.mem_cons_self))]
      exact e
/-- what a set of texts is made of: a value that is walked, text by text -/
structure TextSrc (P : Program) (w : World) (T : String) (v : Value) (xs : List Str) (OK : Heap → Prop) : Prop where
  ty : ∀ s : Shared, OK s.heap → s.TypeIs v T
  keep : ∀ h h' : Heap, OK h → (∀ b o, h.get? b = some o → h'.get? b = some o) → OK h'
  noSet : isSubtype (.type T) (.type "set") = pure false
  noFro : isSubtype (.type T) (.type "frozenset") = pure false
  noDict : (Value.type T == Value.type "dict") = false
  iter : ∀ (A : Around) (s : Shared) (E : Value → Shared → Prop) (Q : Value → Shared → Prop), OK s.heap →
    (∀ (oI : Obj) (St : Nat → Heap → Prop) (fp : List Addr), (∀ b ∈ fp, b = s.heap.objs.size ∨ ∃ o, s.heap.get? b = some o ∧ o.cls = .type T) →
      (∀ A' : Around, A'.handled = none → Walks P w A' s.heap.objs.size fp [s.heap.objs.size] xs.length (fun i u => ∃ x t, xs[i]? = some x ∧ u = .str x t) St) → St 0 (s.heap.push oI) → Q (.ref s.heap.objs.size) { s with heap := s.heap.push oI }) → wpAny (model P w) A (pyIter v) Q E s
set_option maxHeartbeats 8000000 in
theorem set_of_texts {T : String} {v : Value} {xs : List Str} {OK : Heap → Prop} (src : TextSrc P w T v xs OK) (notSet : T ≠ "set") {Q : Value → Shared → Prop} (hh : A.handled = none) (ok : OK s.heap) (few : FewIn xs)
    (done : ∀ (h' : Heap) (tk c : Nat), TextSet w h' s.heap.objs.size (fun j => decide (j ∈ xs)) c → (∀ b o, s.heap.get? b = some o → h'.get? b = some o) → Q (.ref s.heap.objs.size) { s with heap := h', toks := tk }) :
    wpAny (model P w) A (call (.type "set") [v]) Q E s := by
  obtain ⟨c, tl, hmro⟩ := PySem.F.called_set.mro
  have hmade := PySem.F.called_set.made
  have hsub := PySem.F.called_set.sub
  refine wpAny_call (codeAny_of_tree ?_)
  show wpAny _ _ (callAny (.type "set") _) _ _ _
  refine wpAny_pure ⟨Code.quiet_builtin _ (by decide +kernel), codeAny_builtin PySem.F.entry_type_call ?_⟩
  rw [Around.under_plain (weight_type_call_type "set" [v] []) rfl]
  have h1 := PySem.F.called_set.notType
  have h2 := PySem.F.called_set.canCreate
  have hct := PySem.F.typeCall_set_1 v
  repeat (any_goals (first | assumption | wp_step))
  refine codeAny_mono (code_set_led1 v (E := E) (Q₁ := fun obj s₁ => obj = .ref s.heap.objs.size ∧ s₁ = { s with heap := s.heap.push (bareSet w) }) ⟨rfl, rfl⟩) fun r s₁ made => ?_
  match r, made with
  | .error e, made => exact made
  | .ok .next, made => exact made.elim
  | .ok .brk, made => exact made.elim
  | .ok .cont, made => exact made.elim
  | .ok (.ret obj), made =>
    obtain ⟨rfl, rfl⟩ := made
    have at_S : (s.heap.push (bareSet w)).get? s.heap.objs.size = some (bareSet w) := Heap.get?_push_size _ rfl
    have isSet : Shared.TypeIs { s with heap := s.heap.push (bareSet w) } (.ref s.heap.objs.size) "set" := ⟨_, at_S, rfl⟩
    have hli := PySem.F.called_set.init.lookup
    have hbi := PySem.F.called_set.init.bind (.ref s.heap.objs.size)
    repeat (any_goals (first | assumption | wp_step))
    refine codeAny_mono (codeAny_call_builtin (R := wants (fun r s₂ => r = .none ∧ ∃ h' tk c, s₂ = { s with heap := h', toks := tk } ∧ TextSet w h' s.heap.objs.size (fun j => decide (j ∈ xs)) c ∧ (∀ b o, s.heap.get? b = some o → h'.get? b = some o)) E)
      PySem.F.called_set.init.plain PySem.F.entry_set_init (check_set_init_1 isSet ?_)) fun r₂ s₂ ran => ?_
    · have ok1 : OK (s.heap.push (bareSet w)) := src.keep _ _ ok fun b o e => Heap.get?_push_of_some _ e
      have isT : Shared.TypeIs { s with heap := s.heap.push (bareSet w) } v T := src.ty _ ok1
      have noSet := src.noSet
      have noFro := src.noFro
      have noDict := src.noDict
      unfold Builtin.«set.__init__» noKeywords Builtin.Frozenset.updateFrom
      generalize hPI : pyIter = PI
      wp_walk
      subst hPI
      refine src.iter _ _ _ _ ok1 fun oI St fp own walks st => ?_
      refine wpAny_bind (wpAny_runValue ?_)
      have hh3 : A.in1.in1.in1.handled = none := hh
      have off : s.heap.objs.size ∉ fp := fun m => by
        rcases own _ m with q | ⟨o, q, cls⟩
        · rw [Heap.size_push] at q
          exact absurd q (Nat.ne_of_lt (Nat.lt_succ_self _))
        · have same := at_S.symm.trans q
          cases same
          exact notSet (by cases cls; rfl)
      refine text_loop (walks _ hh3).toS s.heap.objs.size off xs rfl few (fun i u h => h) (xs.length - 0) 0 _ rfl (Nat.zero_le _) st ⟨0, (text_fresh (Heap.get?_push_of_some _ at_S)).same fun k => ?_⟩ fun s' c' moved set => ?_
      · simp
      · obtain ⟨h', g', d', tk', os'⟩ := s'
        obtain rfl : g' = s.gens := moved.gens
        obtain rfl : d' = s.drawn := moved.drawn
        obtain rfl : os' = s.os := moved.os
        show wpAny _ _ _ _ _ _
        refine wpAny_pure ?_
        show wpAny _ _ (ret Value.none) _ _ _
        refine wpAny_pure ⟨rfl, h', tk', c', rfl, set, fun b o e => moved.heap b o (fun m => ?_) (Heap.get?_push_of_some _ (Heap.get?_push_of_some _ e))⟩
        have lt : b < s.heap.objs.size := Heap.lt_size e
        rcases List.mem_cons.mp m with q | q
        · exact absurd q (Nat.ne_of_lt lt)
        · have q2 := List.mem_singleton.mp q
          rw [Heap.size_push] at q2
          exact absurd q2 (Nat.ne_of_lt (Nat.lt_succ_of_lt lt))
    · match r₂, ran with
      | .error e, ran => exact ran
      | .ok .next, ran => exact ran.elim
      | .ok .brk, ran => exact ran.elim
      | .ok .cont, ran => exact ran.elim
      | .ok (.ret r), ran =>
        obtain ⟨rfl, h', tk, c2, rfl, set, keep⟩ := ran
        repeat (any_goals (first | assumption | wp_step))
        exact done _ _ _ set keep
end
end Gd

/-! M3: the order of texts; sorted lists of texts -/
namespace Gd
open PySem PySem.Spec PyProof.Rows L2
/-- not greater, in Python's order of texts -/
def leT (a b : Str) : Bool := !decide (b.cps.toList < a.cps.toList)
theorem leT_iff {a b : Str} : leT a b = true ↔ ¬ b.cps.toList < a.cps.toList := by
  unfold leT
  rw [Bool.not_eq_true', decide_eq_false_iff_not]
theorem leT_trans (a b c : Str) (h1 : leT a b = true) (h2 : leT b c = true) : leT a c = true := by
  rw [leT_iff, List.not_lt] at *
  exact List.le_trans h1 h2
theorem leT_total (a b : Str) : (leT a b || leT b a) = true := by
  rw [Bool.or_eq_true, leT_iff, leT_iff, List.not_lt, List.not_lt]
  exact List.le_total _ _
theorem leT_anti {a b : Str} (h1 : leT a b = true) (h2 : leT b a = true) : a = b := by
  rw [leT_iff, List.not_lt] at *
  exact str_eq_of_lists (List.le_antisymm h1 h2)
def sortT (xs : List Str) : List Str := xs.mergeSort leT
theorem sortT_perm (xs : List Str) : (sortT xs).Perm xs := List.mergeSort_perm xs leT
theorem sortT_sorted (xs : List Str) : (sortT xs).Pairwise (fun a b => leT a b = true) := List.pairwise_mergeSort leT_trans leT_total xs
theorem sorted_unique : ∀ {l1 l2 : List Str}, l1.Pairwise (fun a b => leT a b = true) → l2.Pairwise (fun a b => leT a b = true) → l1.Perm l2 → l1 = l2
  | [], l2, _, _, p => by rw [List.nil_perm.mp p]
  | x :: r, [], _, _, p => by
    have := p.length_eq
    simp at this
  | x :: r, y :: t, h1, h2, p => by
    rw [List.pairwise_cons] at h1 h2
    have e : x = y := by
      have hx : x ∈ y :: t := p.mem_iff.mp List.mem_cons_self
      have hy : y ∈ x :: r := p.mem_iff.mpr List.mem_cons_self
      rcases List.mem_cons.mp hx with e | hx
      · exact e
      · rcases List.mem_cons.mp hy with e | hy
        · exact e.symm
        · exact leT_anti (h1.1 y hy) (h2.1 x hx)
    subst e
    rw [sorted_unique h1.2 h2.2 (List.Perm.cons_inv p)]
theorem rising_all : ∀ {l : List Str} {p : Str}, risingS p l = true → (∀ x ∈ l, leT p x = true) ∧ l.Pairwise (fun a b => leT a b = true)
  | [], _, _ => ⟨fun _ h => (nomatch h), .nil⟩
  | x :: r, p, h => by
    have hp : leT p x = true ∧ risingS x r = true := by
      unfold risingS at h
      simp only [leT, ltCps_eq] at *
      simpa using h
    obtain ⟨h1, h2⟩ := rising_all hp.2
    refine ⟨fun y hy => ?_, List.pairwise_cons.mpr ⟨h1, h2⟩⟩
    rcases List.mem_cons.mp hy with rfl | hy
    · exact hp.1
    · exact leT_trans _ _ _ hp.1 (h1 y hy)
theorem sortedS_pairwise : ∀ {l : List Str}, sortedS l = true → l.Pairwise (fun a b => leT a b = true)
  | [], _ => .nil
  | x :: r, h => by
    obtain ⟨h1, h2⟩ := rising_all (p := x) (l := r) h
    exact List.pairwise_cons.mpr ⟨h1, h2⟩
theorem sortedS_is {ys xs : List Str} (h : sortedS ys = true) (p : ys.Perm xs) : ys = sortT xs :=
  sorted_unique (sortedS_pairwise h) (sortT_sorted xs) (p.trans (sortT_perm xs).symm)
end Gd

/-! Gd10: set(..) of texts and sorted(..) of it, as rules -/
namespace Gd
open PySem PySem.Spec PyProof.Rows L2
theorem walks_mono {prog : Program} {w : World} {A : Around} {I : Addr} {fp wr : List Addr} {n : Nat} {P P' : Nat → Value → Prop} {St : Nat → Heap → Prop} (W : Walks prog w A I fp wr n P St) (hP : ∀ i v, i < n → P i v → P' i v) : Walks prog w A I fp wr n P' St where
  sub := W.sub
  frame := W.frame
  item := fun i s Q E hi st hQ => W.item i s Q E hi st fun v h' tk hv st' hk => hQ v h' tk (hP i v hi hv) st' hk
  done := W.done
  self := W.self
def uniq : List Str → List Str
  | [] => []
  | x :: r => if x ∈ r then uniq r else x :: uniq r
theorem mem_uniq {y : Str} : ∀ {xs : List Str}, y ∈ uniq xs ↔ y ∈ xs
  | [] => Iff.rfl
  | x :: r => by
    unfold uniq
    split
    · next h =>
      rw [mem_uniq (xs := r), List.mem_cons]
      exact ⟨.inr, fun z => z.elim (fun e => e ▸ h) id⟩
    · rw [List.mem_cons, List.mem_cons, mem_uniq (xs := r)]
theorem nodup_uniq : ∀ xs : List Str, (uniq xs).Nodup
  | [] => .nil
  | x :: r => by
    unfold uniq
    split
    · exact nodup_uniq r
    · next h => exact List.nodup_cons.mpr ⟨fun m => h (mem_uniq.mp m), nodup_uniq r⟩
/-- the different texts of a list, ascending -/
def ascT (xs : List Str) : List Str := sortT (uniq xs)
theorem mem_ascT {y : Str} {xs : List Str} : y ∈ ascT xs ↔ y ∈ xs := (sortT_perm _).mem_iff.trans mem_uniq
theorem nodup_ascT (xs : List Str) : (ascT xs).Nodup := (sortT_perm _).nodup_iff.mpr (nodup_uniq xs)
/-- a set of these texts -/
def SetTx (w : World) (a : Addr) (xs : List Str) : HO := .ext fun h => ∃ n, TextSet w h a (fun j => decide (j ∈ xs)) n
theorem setTx_ok {P : Program} {w : World} {H : Hp} {h : Heap} {a : Addr} {xs : List Str} {n : Nat} (R : TextSet w h a (fun j => decide (j ∈ xs)) n) : ObjOk P w H h a (SetTx w a xs) := by
  refine ⟨⟨n, R⟩, ?_, fun h1 h2 ⟨m, q⟩ k => ⟨m, q.keep k⟩⟩
  obtain ⟨o, es, ep, t, e, _⟩ := R
  exact ⟨o, e⟩
/-- what a set of texts may be made of -/
def TextsIn (K : PySem.W.Frag) (H : Hp) (x : V) (xs : List Str) : Prop :=
  (∃ z : Str, x = .str z ∧ z.length ≤ sizeLine ∧ xs = z.cps.toList.map sg) ∨ (∃ a, x = .ref a ∧ SqL K H a (xs.map V.str)) ∨ ∃ a, x = .ref a ∧ SqT K H a (xs.map V.str)
theorem src_str {P : Program} {w : World} {z : Str} {t : Tok} : TextSrc P w "str" (.str z t) (z.cps.toList.map sg) (fun _ => True) where
  ty := fun s _ => typeIs_str s z t
  keep := fun _ _ _ _ => trivial
  noSet := by rw [isSubtype_type]; kernel_rfl
  noFro := by rw [isSubtype_type]; kernel_rfl
  noDict := by decide
  iter := fun A s E Q _ h => wpAny_pyIter_str fun oI St walks st => h oI St _ (fun b m => .inl (List.mem_singleton.mp m)) (fun A' hA' => by
    have W := walks_mono (P' := fun i u => ∃ x t, (z.cps.toList.map sg)[i]? = some x ∧ u = .str x t) (walks A' hA') fun i v _ ⟨c, u, e, ev⟩ => ⟨sg c, u, by
      rw [List.getElem?_map, Array.getElem?_toList, e]
      rfl, ev⟩
    rw [show (z.cps.toList.map sg).length = z.cps.size by rw [List.length_map, Array.length_toList]]
    exact W) st
theorem items_texts {items : Array Value} {xs : List Str} (v : Vals (xs.map V.str) items.toList) : (∀ (i : Nat) (u : Value), items[i]? = some u → ∃ x t, xs[i]? = some x ∧ u = .str x t) ∧ xs.length = items.size := by
  have len : xs.length = items.size := by
    have := v.length
    rw [List.length_map, Array.length_toList] at this
    exact this
  refine ⟨fun i u e => ?_, len⟩
  have lt : i < xs.length := by
    rw [len]
    exact (Array.getElem?_eq_some_iff.mp e).1
  have g : (xs.map V.str)[i]? = some (.str xs[i]) := by
    rw [List.getElem?_map, List.getElem?_eq_getElem lt]
    rfl
  obtain ⟨u', e', t, rfl⟩ := v.get g
  rw [Array.getElem?_toList, e] at e'
  cases e'
  exact ⟨xs[i], t, List.getElem?_eq_getElem lt, rfl⟩
theorem src_list {P : Program} {w : World} {l : Addr} {items : Array Value} {xs : List Str} (v : Vals (xs.map V.str) items.toList) : TextSrc P w "list" (.ref l) xs (fun h => h.IsList l items) where
  ty := fun s ok => ok.typeIs
  keep := fun h h' ok k => ok.at fun o e => k l o e
  noSet := by rw [isSubtype_type]; kernel_rfl
  noFro := by rw [isSubtype_type]; kernel_rfl
  noDict := by decide
  iter := fun A s E Q ok h => wpAny_pyIter_list ok (h _ (fun i k => k.IsListIter s.heap.objs.size l i ∧ k.IsList l items) [s.heap.objs.size, l] (fun b m => by
      rcases List.mem_cons.mp m with q | q
      · exact .inl q
      · obtain rfl := List.mem_singleton.mp q
        obtain ⟨o, e, c, _⟩ := ok
        exact .inr ⟨o, e, c⟩) (fun A' hA' => by
      rw [(items_texts v).2]
      refine walks_mono (Walks.list hA' _ l (Nat.ne_of_lt (by obtain ⟨o, e, _⟩ := ok; exact Heap.lt_size e)) items) fun i u _ e => (items_texts v).1 i u e)
    ⟨⟨_, Heap.get?_push_size _ rfl, rfl, rfl⟩, ok.push _⟩)
theorem src_tuple {P : Program} {w : World} {l : Addr} {items : Array Value} {xs : List Str} (v : Vals (xs.map V.str) items.toList) : TextSrc P w "tuple" (.ref l) xs (fun h => h.IsTuple l items) where
  ty := fun s ok => ok.typeIs
  keep := fun h h' ok k => ok.at fun o e => k l o e
  noSet := by rw [isSubtype_type]; kernel_rfl
  noFro := by rw [isSubtype_type]; kernel_rfl
  noDict := by decide
  iter := fun A s E Q ok h => wpAny_pyIter_tuple ok (h _ (fun i k => k.IsTupleIter s.heap.objs.size l i ∧ k.IsTuple l items) [s.heap.objs.size, l] (fun b m => by
      rcases List.mem_cons.mp m with q | q
      · exact .inl q
      · obtain rfl := List.mem_singleton.mp q
        obtain ⟨o, e, c, _⟩ := ok
        exact .inr ⟨o, e, c⟩) (fun A' hA' => by
      rw [(items_texts v).2]
      refine walks_mono (Walks.tuple hA' _ l (Nat.ne_of_lt (by obtain ⟨o, e, _⟩ := ok; exact Heap.lt_size e)) items) fun i u _ e => (items_texts v).1 i u e)
    ⟨⟨_, Heap.get?_push_size _ rfl, rfl, rfl⟩, ok.push _⟩)
section
variable {X : Cx}
def rSetT (K : PySem.W.Frag) (w : World) : List V → Hp → VK → Prop := fun vs H Q => ∃ x xs, vs = [x] ∧ TextsIn K H x xs ∧ FewIn xs ∧ ∀ p H', H p = none → Same H H' → H' p = some (SetTx w p xs) → Q (.ref p) H'
theorem set_end {pins : List (Addr × Obj)} {s : Shared} {σ : L2.St} {H : Hp} {Q : VK} {xs : List Str} {A : Around} (I : Inv X pins σ H s) (q : ∀ p H', H p = none → Same H H' → H' p = some (SetTx X.w p xs) → Q (.ref p) H') :
    ∀ (h' : Heap) (tk c : Nat), TextSet X.w h' s.heap.objs.size (fun j => decide (j ∈ xs)) c → (∀ b o, s.heap.get? b = some o → h'.get? b = some o) → EP X pins σ Q (.ref s.heap.objs.size) { s with heap := h', toks := tk } :=
  fun h' tk c set keep => ⟨.ref s.heap.objs.size, upd H s.heap.objs.size (SetTx X.w s.heap.objs.size xs), I.laid keep (Nat.le_refl _) (setTx_ok set), rfl,
    q _ _ (I.hok.fresh (Nat.le_refl _)) (same_new (I.hok.fresh (Nat.le_refl _))) upd_same⟩
theorem call_setT (hc : X.calm = true) : CallR X (.type "set") (rSetT X.K X.w) := by
  intro pins s σ H vs us Q I r h
  obtain ⟨x, xs, rfl, from_, few, q⟩ := h
  obtain ⟨u, rfl, rx⟩ := vals1 r
  rcases from_ with ⟨z, rfl, le, rfl⟩ | ⟨a, rfl, hS⟩ | ⟨a, rfl, hS⟩
  · obtain ⟨t, rfl⟩ := rx
    exact set_of_texts src_str (by decide) (I.ok.hd hc) trivial few (set_end (A := X.A) I q)
  · obtain rfl : u = .ref a := rx
    obtain ⟨its, rv, ⟨o, n, ho, hcl, hd0, hd⟩, hz⟩ := I.list hS
    exact set_of_texts (src_list (items := its.toArray) rv) (by decide) (I.ok.hd hc) ⟨o, ho, hcl, n, hd⟩ few (set_end (A := X.A) I q)
  · obtain rfl : u = .ref a := rx
    obtain ⟨its, rv, tup, hz⟩ := I.tuple hS
    obtain ⟨o, ho, hcl, n, hd⟩ := tup
    exact set_of_texts (src_tuple (items := its.toArray) rv) (by decide) (I.ok.hd hc) ⟨o, ho, hcl, n, hd⟩ few (set_end (A := X.A) I q)
end
end Gd

/-! Gd11: sorted(..) of a set of texts -/
namespace Gd
open PySem PySem.Spec PyProof.Rows L2
theorem sortT_eq_of {ys xs : List Str} (h : sortedS ys = true) (p : ys.Perm xs) : ys = sortT xs := sortedS_is h p
theorem nodup_perm {l1 l2 : List Str} (d1 : l1.Nodup) (d2 : l2.Nodup) (m : ∀ x, x ∈ l1 ↔ x ∈ l2) : l1.Perm l2 :=
  (List.perm_ext_iff_of_nodup d1 d2).mpr m
theorem strs_of_texts {w : World} : ∀ {vs : List Value}, (∀ v ∈ vs, ∃ x tk, v = Value.str x tk) → StrsAre vs (vs.map fun v => textOf (0, v))
  | [], _ => .nil
  | v :: r, h => by
    obtain ⟨x, tk, rfl⟩ := h v (List.mem_cons_self ..)
    exact .cons _ _ (strs_of_texts (w := w) fun u m => h u (List.mem_cons_of_mem _ m))
section
variable {P : Program} {w : World} {A : Around} {E : Value → Shared → Prop} {s : Shared} {a : Addr}
theorem sorted_textset {S : Str → Bool} {n : Nat} {xs : List Str} {Q : Value → Shared → Prop} (R : TextSet w s.heap a S n) (hS : ∀ k, S k = true ↔ k ∈ xs) (hh : A.handled = none)
    (hQ : ∀ s' p (out : Array Value) (c : Nat), (∀ b o, s.heap.get? b = some o → s'.heap.get? b = some o) → s'.gens = s.gens → s'.os = s.os → s.heap.objs.size ≤ p →
      s'.heap.get? p = some (seqObj "list" out c) → StrsAre out.toList (ascT xs) → Q (.ref p) s') :
    wpAny (model P w) A (call (.builtin "sorted") [.ref a]) Q E s := by
  obtain ⟨o, es, ep, t, ho, hex, hd, g, nd, hm, hb, hf, hn, hr, hl⟩ := R
  refine Calls.call_function_entry PyProof.Rows.kind_sorted PyProof.Rows.plain_sorted PyProof.Rows.entry_sorted (PyProof.Rows.args_sorted1 _) ?_
  unfold Builtin.«sorted»
  refine wpAny_bind (m := checkCount "sorted" 1 1 _) (wpAny_pure ?_)
  refine wpAny_bind (collect_set (A := A.in1) hh ⟨o, ho, hex.1, hd⟩ hf hb hr hl fun s1 vs k1 hz g1 o1 pm => ?_)
  have hvl : vs.length ≤ sizeLine := by
    rw [pm.length_eq, List.length_map, Array.length_toList]
    exact fits_of_scanBound hb
  have hI : StrsAre vs (vs.map fun v => textOf (0, v)) := strs_of_texts (w := w) fun v hv => by
    obtain ⟨e, he, q⟩ := List.mem_map.mp (pm.mem_iff.mp hv)
    obtain ⟨k, tk, h1, _⟩ := g e he
    exact ⟨k, tk, by rw [← q]; exact h1⟩
  have pk : (vs.map fun v => textOf (0, v)).Perm (es.toList.map textOf) := by
    have q := pm.map fun v => textOf (0, v)
    rw [List.map_map] at q
    exact q
  refine wpAny_bind (wpAny_newList ?_ hvl)
  have hoL : (s1.heap.push (seqObj "list" vs.toArray 0)).get? s1.heap.objs.size = some (seqObj "list" vs.toArray 0) := Heap.get?_push_size _ rfl
  refine wpAny_bind (wpAny_holding (wpAny_call_entry PyProof.Rows.slot_list_sort ⟨_, hoL, rfl⟩ PyProof.Rows.entry_list_sort
    (list_sort_treeKAny strKind_oneLt hoL hI.keysOf (fun v₁ v₂ rest e => keyKind_strs (by rw [← e]; exact hI)) hvl fun st' hp hs => ⟨_, rfl, ?_⟩) (PyProof.Rows.args_list_sort _)))
  obtain ⟨ys, g1', g2, g3⟩ := sorted_out_str hI hp hs
  obtain ⟨c, hc⟩ := PyProof.Rows.sortedHeap_at (vs := vs) (out := (arrOf st').map (·.2)) hoL
  have hys : ys = ascT xs := sortT_eq_of g3 ((g2.trans pk).trans (nodup_perm nd (nodup_uniq xs) fun k => ((hm k).symm.trans (hS k)).trans mem_uniq.symm))
  subst hys
  refine wpAny_pure ⟨_, rfl, hQ _ s1.heap.objs.size ((arrOf st').map (·.2)) c (fun b u e => ?_) g1 o1 hz hc g1'⟩
  have q := k1 b u e
  have hlt := Heap.lt_size q
  show (PyProof.Rows.sortedHeap (s1.heap.push (seqObj "list" vs.toArray 0)) s1.heap.objs.size vs _).get? b = some u
  rw [PyProof.Rows.sortedHeap_old (Nat.ne_of_lt hlt) (by rw [size_push']; exact Nat.lt_succ_of_lt hlt)]
  exact Heap.get?_push_of_some _ q
end
section
variable {X : Cx}
def rSortedTx (w : World) : List V → Hp → VK → Prop := fun vs H Q => ∃ (a : Addr) (xs : List Str), vs = [.ref a] ∧ H a = some (SetTx w a xs) ∧ xs.length ≤ sizeLine ∧ New H (.lst ((ascT xs).map V.str)) Q
theorem setTx_get {pins : List (Addr × Obj)} {σ : L2.St} {H : Hp} {s : Shared} {a : Addr} {xs : List Str} (I : Inv X pins σ H s) (e : H a = some (SetTx X.w a xs)) : ∃ n, TextSet X.w s.heap a (fun j => decide (j ∈ xs)) n :=
  (I.hok a _ e).1
theorem len_uniq : ∀ xs : List Str, (uniq xs).length ≤ xs.length
  | [] => Nat.le_refl _
  | x :: r => by
    unfold uniq
    split
    · exact Nat.le_succ_of_le (len_uniq r)
    · exact Nat.succ_le_succ (len_uniq r)
theorem len_ascT (xs : List Str) : (ascT xs).length ≤ xs.length := by
  unfold ascT
  rw [(sortT_perm _).length_eq]
  exact len_uniq xs
theorem cr_sortedTx (hc : X.calm = true) : CallR X (.builtin "sorted") (rSortedTx X.w) := by
  intro pins s σ H vs us Q I r h
  obtain ⟨a, xs, rfl, ha, few, q⟩ := h
  obtain ⟨n, R⟩ := setTx_get I ha
  rw [Vals.ref1 r]
  refine sorted_textset R (fun k => decide_eq_true_iff) (I.ok.hd hc) fun s' p out c k g o hp hg hi => ?_
  have hlen : ((ascT xs).map V.str).length ≤ sizeLine := by
    rw [List.length_map]
    exact Nat.le_trans (len_ascT xs) few
  have hn : H p = none := I.hok.fresh hp
  have J : Inv X pins σ (upd H p (.lst ((ascT xs).map V.str))) { s with heap := s'.heap, gens := s'.gens, drawn := s'.drawn, toks := s'.toks } :=
    I.call (ch := []) (Un.laid k hp hn) (I.hok.laid k hp ⟨hlen, out.toList, c, vals_of_strs hi, hg⟩) (by rw [g]; exact I.bare) (fun _ z => nomatch z)
  have e : s' = { s with heap := s'.heap, gens := s'.gens, drawn := s'.drawn, toks := s'.toks } := by
    cases s'
    cases s
    cases o
    rfl
  rw [e]
  exact ⟨.ref p, _, J, rfl, q.use p hn⟩
end
end Gd

/-! Gd12: the special methods of a class of the text, as rules; promises that know how many objects stand. -/
namespace Gd
open PySem PySem.Spec PyProof.Rows L2

/-- a def of the text by its place: the promise, and what a call needs -/
structure Dk (P : Program) (w : World) (K : PySem.W.Frag) (mg : Str → Option Value) (base : Heap) (k : Nat) (f : Addr) (ps : List Str) (sp : Sp) : Prop where
  ex : ∃ fd : FuncData, FnOk P w K mg base CX0 k f fd ps sp ∧ Binds K fd ps []
theorem Dk.up {P : Program} {w : World} {K : PySem.W.Frag} {mg : Str → Option Value} {base : Heap} {j k : Nat} {f : Addr} {ps : List Str} {sp : Sp} (D : Dk P w K mg base j f ps sp) (h : j ≤ k) : Dk P w K mg base k f ps sp := by
  obtain ⟨fd, F, b⟩ := D.ex
  exact ⟨fd, ⟨F.len, fun A outer s H args us vs Q E hr => F.run A outer s H args us vs Q E (hr.mono h)⟩, b⟩
theorem Dk.imp {P : Program} {w : World} {K : PySem.W.Frag} {mg : Str → Option Value} {base : Heap} {k : Nat} {f : Addr} {ps : List Str} {sp sp' : Sp} (D : Dk P w K mg base k f ps sp) (h : ∀ vs H Q E, sp' vs H Q E → sp vs H Q E) : Dk P w K mg base k f ps sp' := by
  obtain ⟨fd, F, b⟩ := D.ex
  exact ⟨fd, ⟨fun vs H Q E q => F.len vs H Q E (h _ _ _ _ q), fun A outer s H args us vs Q E hr he hb hv hs => F.run A outer s H args us vs Q E hr he hb hv (h _ _ _ _ hs)⟩, b⟩
/-- .. that has a name -/
structure Dn (P : Program) (w : World) (K : PySem.W.Frag) (mg : Str → Option Value) (base : Heap) (k : Nat) (x : Str) (ps : List Str) (sp : Sp) : Prop where
  ex : ∃ f : Addr, Dk P w K mg base k f ps sp ∧ mg x = some (.ref f) ∧ PySem.W.keepIn K (.ref f) = true
theorem Dn.df {P : Program} {w : World} {K : PySem.W.Frag} {mg : Str → Option Value} {base : Heap} {k : Nat} {x : Str} {ps : List Str} {sp : Sp} (D : Dn P w K mg base k x ps sp) : Df P w K mg base k x ps sp := by
  obtain ⟨f, ⟨fd, F, b⟩, m, kp⟩ := D.ex
  exact ⟨f, fd, FnG.of F, m, kp, b⟩
theorem Dn.imp {P : Program} {w : World} {K : PySem.W.Frag} {mg : Str → Option Value} {base : Heap} {k : Nat} {x : Str} {ps : List Str} {sp sp' : Sp} (D : Dn P w K mg base k x ps sp) (h : ∀ vs H Q E, sp' vs H Q E → sp vs H Q E) : Dn P w K mg base k x ps sp' := by
  obtain ⟨f, F, r⟩ := D.ex
  exact ⟨f, F.imp h, r⟩
theorem Dn.up {P : Program} {w : World} {K : PySem.W.Frag} {mg : Str → Option Value} {base : Heap} {j k : Nat} {x : Str} {ps : List Str} {sp : Sp} (D : Dn P w K mg base j x ps sp) (h : j ≤ k) : Dn P w K mg base k x ps sp := by
  obtain ⟨f, F, r⟩ := D.ex
  exact ⟨f, F.up h, r⟩

section
variable {X : Cx} {k : Nat} {x : Str} {f C : Addr} {ps : List Str} {sp : Sp} {p pos : Pos} {e : Expr} {es : List Expr} {t : TA}
theorem run_dk {pins : List (Addr × Obj)} {σ : L2.St} {H : Hp} {s : Shared} {Q : VK} {us : List Value} {vs : List V} (D : Dk X.prog X.w X.K X.mg X.base k f ps sp) (hr : Room k X.A)
    (I : Inv X pins σ H s) (r : Vals vs us) (h : sp vs H Q E0) : wpAny (model X.prog X.w) X.A (call (.ref f) us) (EP X pins σ Q) X.xe s := by
  obtain ⟨fd, F, hb⟩ := D.ex
  exact run_fn F hr hb .nil pass0 I r (by rw [List.append_nil]; exact h)
theorem run_dk1 {pins : List (Addr × Obj)} {σ : L2.St} {H : Hp} {s : Shared} {Q : VK} {us : List Value} {vs : List V} {E : Value → Shared → Prop} (D : Dk X.prog X.w X.K X.mg X.base k f ps sp) (hr : Room (k + 1) X.A)
    (I : Inv X pins σ H s) (r : Vals vs us) (h : sp vs H Q E0) : wpAny (model X.prog X.w) X.A.in1 (call (.ref f) us) (EP X pins σ Q) E s := by
  obtain ⟨fd, F, hb⟩ := D.ex
  have hl : us.length = ps.length := by
    rw [← r.length]
    exact F.len _ _ _ _ h
  refine wpAny_call (codeAny_mono (F.run X.A.in1 X.stack s H ⟨us, []⟩ us vs Q E0 hr.in1 I.env0.in1 (by
    have := hb s us I.kIn (by rw [List.append_nil]; exact hl)
    rw [List.append_nil] at this
    exact this) r h) fun r s' hq => ?_)
  cases r with
  | error er => exact (pass0 (X := X.nox) pins σ H s er s' (I.wish _) hq).elim
  | ok fl =>
    cases fl with
    | ret u => exact I.after hq
    | next => exact False.elim hq
    | brk => exact False.elim hq
    | cont => exact False.elim hq
theorem pe_callN (D : Dn X.prog X.w X.K X.mg X.base k x ps sp) (hr : Room k X.A) (hg : Gl X x) (ha : PA X (e :: es) t) (hdb : (x == ("__debug__" : Str)) = false := by decide)
    (he : starEach (e :: es) X.env = (false, eval e X.env) :: starEach es X.env := by rfl) (hpl : (backTo pos (starEach es X.env)).any (·.1) = false := by rfl) : PE X (.Call (.Name x p) (e :: es) [] pos) (tCall sp [] E0 t) := by
  obtain ⟨f, ⟨fd, F, hb⟩, hm, hk⟩ := D.ex
  exact pe_call F hr hg hm hk hb .nil pass0 ha hdb he hpl

/-- a special method of the class at C -/
structure Own (K : PySem.W.Frag) (C : Addr) (m : Str) (f : Addr) : Prop where
  at_ : PySem.W.findIn K (.ref C) m = some (some (.ref f))
  fn : PySem.W.isFn K (.ref f) = true
/-- x in o, o of the class at C -/
def rInOwn (C : Addr) (sp : Sp) (neg : Bool) : R2 := fun x y H Q => ∃ a dx fs, y = .ref a ∧ H a = some (.ins C dx fs) ∧ sp [.ref a, x] H (fun v H' => ∃ b : Bool, v = .bl b ∧ Q (.bl (b != neg)) H') E0
theorem op_inOwn (O : Own X.K C "__contains__" f) (D : Dk X.prog X.w X.K X.mg X.base k f ps sp) (hr : Room k X.A) : OpR X (compareOp .In) (rInOwn C sp false) := by
  intro pins s σ H x y v u Q I rx ry ⟨a, dx, fs, ey, ha, h⟩
  subst ey
  cases ry
  obtain ⟨mA, J, _⟩ := ins_get I.hok ha
  obtain ⟨od, J, _⟩ := J.look
  obtain ⟨m, hF⟩ := I.fr
  refine PySem.W.in_K hF I.ok.mod.kin J O.at_ O.fn (wpAny_mono (run_dk (vs := [.ref a, x]) D hr I (.cons rfl (.cons rx .nil)) h) (fun r s' q => ?_) fun _ _ z => z)
  obtain ⟨z, H', I', rz, b, rfl, q⟩ := q
  cases rz
  rw [Bool.bne_false] at q
  exact wpAny_truthy_bool ⟨.bl b, H', I', rfl, q⟩
theorem op_notinOwn (O : Own X.K C "__contains__" f) (D : Dk X.prog X.w X.K X.mg X.base k f ps sp) (hr : Room k X.A) : OpR X (compareOp .NotIn) (rInOwn C sp true) := by
  intro pins s σ H x y v u Q I rx ry ⟨a, dx, fs, ey, ha, h⟩
  subst ey
  cases ry
  obtain ⟨mA, J, _⟩ := ins_get I.hok ha
  obtain ⟨od, J, _⟩ := J.look
  obtain ⟨m, hF⟩ := I.fr
  refine PySem.W.notIn_K hF I.ok.mod.kin J O.at_ O.fn (wpAny_mono (run_dk (vs := [.ref a, x]) D hr I (.cons rfl (.cons rx .nil)) h) (fun r s' q => ?_) fun _ _ z => z)
  obtain ⟨z, H', I', rz, b, rfl, q⟩ := q
  cases rz
  rw [Bool.bne_true] at q
  exact wpAny_truthy_bool ⟨.bl (!b), H', I', rfl, q⟩
/-- x op y, both of the class at C -/
def rBinOwn (C : Addr) (sp : Sp) : R2 := fun x y H Q => ∃ a dx fs b dy gs, x = .ref a ∧ y = .ref b ∧ H a = some (.ins C dx fs) ∧ H b = some (.ins C dy gs) ∧ sp [.ref a, .ref b] H Q E0
theorem cmpBack_of {pins : List (Addr × Obj)} {σ : L2.St} {Q : VK} {v : Value} {s : Shared} (h : EP X pins σ Q v s) : PySem.W.CmpBack (EP X pins σ Q) v s := by
  obtain ⟨z, H', I', rz, q⟩ := h
  have e : EP X pins σ Q v s := ⟨z, H', I', rz, q⟩
  cases v <;> first | exact e | skip
  cases z <;> first | (obtain ⟨t, ht⟩ := rz; cases ht) | cases rz
theorem op_binOwn {op : Operator} (O : Own X.K C (PySem.dunder op.info.2) f) (self : PySem.W.selfFirst X.K C = true) (D : Dk X.prog X.w X.K X.mg X.base k f ps sp) (hr : Room k X.A) : OpR X (binaryOp op) (rBinOwn C sp) := by
  intro pins s σ H x y v u Q I rx ry ⟨a, dx, fs, b, dy, gs, ex, ey, ha, hb, h⟩
  subst ex
  subst ey
  cases rx
  cases ry
  obtain ⟨mA, J, _⟩ := ins_get I.hok ha
  obtain ⟨od, J, _⟩ := J.look
  obtain ⟨mB, J', _⟩ := ins_get I.hok hb
  obtain ⟨od', J', _⟩ := J'.look
  obtain ⟨m, hF⟩ := I.fr
  exact PySem.W.binop_K hF I.ok.mod.kin J J'.type self O.at_ O.fn (wpAny_mono (run_dk (vs := [.ref a, .ref b]) D hr I (.cons rfl (.cons rfl .nil)) h) (fun r s' q => cmpBack_of q) fun _ _ z => z)
theorem op_eqOwn (O : Own X.K C "__eq__" f) (D : Dk X.prog X.w X.K X.mg X.base k f ps sp) (hr : Room k X.A) : OpR X (compareOp .Eq) (rBinOwn C sp) := by
  intro pins s σ H x y v u Q I rx ry ⟨a, dx, fs, b, dy, gs, ex, ey, ha, hb, h⟩
  subst ex
  subst ey
  cases rx
  cases ry
  obtain ⟨mA, J, _⟩ := ins_get I.hok ha
  obtain ⟨od, J, _⟩ := J.look
  obtain ⟨mB, J', _⟩ := ins_get I.hok hb
  obtain ⟨od', J', _⟩ := J'.look
  obtain ⟨m, hF⟩ := I.fr
  show wpAny (model X.prog X.w) X.A (richCompare .Eq (.ref a) (.ref b)) (EP X pins σ Q) X.xe s
  exact PySem.W.cmp_K (op := .Eq) (tb := .ref C) hr.units0 hF I.ok.mod.kin J J'.type (by simp [PySem.W.notFirst]) O.at_ O.fn (wpAny_mono (run_dk (vs := [.ref a, .ref b]) D hr I (.cons rfl (.cons rfl .nil)) h) (fun r s' q => cmpBack_of q) fun _ _ z => z)
/-- o[i] -/
def rIxOwn (C : Addr) (sp : Sp) : R2 := fun x y H Q => ∃ a dx fs, x = .ref a ∧ H a = some (.ins C dx fs) ∧ sp [.ref a, y] H Q E0
theorem pe_ixOwn {a b : Expr} {ta tb : TE} (O : Own X.K C "__getitem__" f) (fi : PySem.W.fnIn X.K f = true) (D : Dk X.prog X.w X.K X.mg X.base k f ps sp) (hr : Room (k + 1) X.A) (ha : PE X a ta) (hb : PE X b tb)
    (hs : ∀ o i, subscripted b true o i = runValue (.builtin "lifetime.subscript" ⟨[o, i], []⟩)) : PE X (.Subscript a b pos) (tOp (rIxOwn C sp) ta tb) := by
  refine ⟨fun pins s σ H Q I h => ?_⟩
  refine Subscript_ (binT ha hb I h fun v u s2 x y H2 I2 rx ry q => ?_)
  obtain ⟨c, dx, fs, ex, hc, q⟩ := q
  subst ex
  cases rx
  obtain ⟨mA, J, _⟩ := ins_get I2.hok hc
  obtain ⟨od, J, _⟩ := J.look
  obtain ⟨m, hF⟩ := I2.fr
  exact PySem.W.sub_K hF I2.ok.mod.kin J O.at_ fi O.fn (run_dk1 (vs := [.ref c, y]) D hr I2 (.cons rfl (.cons ry .nil)) q) (hs _ _)
/-- len(o) -/
def rLenOwn (C : Addr) (sp : Sp) : List V → Hp → VK → Prop := fun xs H Q => ∃ a dx fs, xs = [.ref a] ∧ H a = some (.ins C dx fs) ∧ sp [.ref a] H (fun v H' => ∃ n : Nat, v = .int n ∧ (n : Int) < 2 ^ 63 ∧ Q (.int n) H') E0
theorem call_lenOwn (O : Own X.K C "__len__" f) (D : Dk X.prog X.w X.K X.mg X.base k f ps sp) (hr : Room (k + 1) X.A) : CallR X (.builtin "len") (rLenOwn C sp) := by
  intro pins s σ H xs us Q I r ⟨a, dx, fs, ex, ha, h⟩
  subst ex
  obtain ⟨u, rfl, ru⟩ := vals1 r
  cases ru
  obtain ⟨mA, J, _⟩ := ins_get I.hok ha
  obtain ⟨od, J, _⟩ := J.look
  obtain ⟨m, hF⟩ := I.fr
  refine PySem.W.len_K hF I.ok.mod.kin J O.at_ O.fn (wpAny_mono (run_dk1 (vs := [.ref a]) D hr I (.cons rfl .nil) h) (fun r s' q => ?_) fun _ _ z => z)
  obtain ⟨z, H', I', rz, n, rfl, le, q⟩ := q
  obtain ⟨t, rfl⟩ := rz
  exact ⟨⟨by omega, le⟩, .int n, H', I'.tok _, ⟨_, rfl⟩, q⟩
end
end Gd

/-! Gd13: for x in o, o of a class of the text whose __iter__ is iter(of a tuple). -/
namespace Gd
open PySem PySem.Spec PyProof.Rows L2 ItX

/-- a promise that knows how many objects stand when the call begins -/
structure FnS (P : Program) (w : World) (K : PySem.W.Frag) (mg : Str → Option Value) (base : Heap) (CX : CXT) (k : Nat) (f : Addr) (fd : FuncData) (ps : List Str) (sp : Nat → Sp) : Prop where
  len : ∀ n vs H Q E, sp n vs H Q E → vs.length = ps.length
  run : ∀ (A : Around) (outer : List Env) (s : Shared) (H : Hp) (args : Args) (us : List Value) (vs : List V) (Q : VK) (E : XK), Room k A → Env0 P w K mg base A outer s H →
    BindsTo s fd args (ps.zip us) → Vals vs us → sp s.heap.objs.size vs H Q E → codeAny (model P w) A (.call (.ref f) args) (CR CX outer P w H s Q E) s
section
variable {P : Program} {w : World} {K : PySem.W.Frag} {mg : Str → Option Value} {base : Heap} {CX : CXT} {k : Nat} {f : Addr} {fd : FuncData} {ps : List Str} {sp : Nat → Sp}
theorem fn_ofS {name qual : Str} {params : Arguments} {body : List Stmt} {scope : Scope} {kV doc pm cdv ct oc : Value} {an od : Option Addr} {osl : Array (Option Value)} {N : List Str}
    (lk : K.lookup f = some ⟨oc, od, .func (PySem.W.fnOf name qual params body scope .none kV doc pm an cdv ct), osl⟩) (hcd : PySem.W.codeIn K cdv qual = true) (S : FnScope N ps scope)
    (len : ∀ n vs H Q E, sp n vs H Q E → vs.length = ps.length)
    (hbody : ∀ (A : Around) (outer : List Env) (s : Shared) (H : Hp) (vs : List V) (Q : VK) (E : XK), Room k (A.deeper (envOfC qual scope s.heap.objs.size f cdv)) → sp s.heap.objs.size vs H Q E →
      ∃ t, PSs (cxOf CX P w K mg base N qual scope f cdv A outer s H E) body t ∧ t { nx := fun _ H' => Q .non H', rt := Q } (start N vs) H) :
    FnS P w K mg base CX (k + 1) f (PySem.W.fnOf name qual params body scope .none kV doc pm an cdv ct) ps sp := by
  refine ⟨len, fun A outer s H args us vs Q E room env bnd vals want => ?_⟩
  have same_len := len _ _ _ _ _ want
  have inK : K.In s.heap := env.mod.kin.keeps fun b o e => (env.bs b o e).1
  have noLim : s.heap.NoLimit := env.mod.nolimit.keeps fun b o e => (env.bs b o e).1
  have kinds : ∀ z ∈ ps.zip us, scope.names.lookup z.1 = some .local ∨ (scope.names.lookup z.1 = some .cell ∧ ((cellsFrom (s.heap.objs.size + 1) scope.names []).lookup z.1).isSome = true) := by
    rintro ⟨n, v⟩ hz
    rcases S.par n (List.of_mem_zip hz).1 with q | q
    · exact .inl q
    · exact .inr ⟨q, PySem.W.cellsFrom_some _ _ _ (.inl q)⟩
  refine codeAny_call_function room.depth (inK _ _ lk) rfl S.co S.gen rfl (PySem.W.codeRec_of inK hcd) (bnd _ _ _ _ ?_)
  refine wpAny_newFunctionEnv_cells S.kind kinds fun env' same s1 x => ?_
  subst same
  refine ⟨noLim.keeps x.toInCall.keep, codeAny_func ?_⟩
  obtain ⟨t, run, holds⟩ := hbody A outer s H vs Q E (room.deeper _) want
  have I0 : Inv (cxOf CX P w K mg base N qual scope f cdv A outer s H E) [] (start N vs) H s1 := inv_start S room.hd env same_len vals x
  refine wpAny_mono (run.run [] s1 (start N vs) H _ I0 holds) (fun fl s2 hs => ?_) fun e s2 hs => hs
  cases fl with
  | ret u => exact hs.elim fun v h => h.elim fun _ h => h.elim fun H2 h => ⟨v, H2, h.1.os, h.1.bare, h.1.base, h.1.hok, h.2.1, h.2.2⟩
  | next => exact hs.elim fun _ h => h.elim fun H2 h => ⟨V.non, H2, h.1.os, h.1.bare, h.1.base, h.1.hok, rfl, h.2⟩
  | brk => exact hs.elim fun _ h => h.elim fun _ h => h.2.elim
  | cont => exact hs.elim fun _ h => h.elim fun _ h => h.2.elim
end

/-- a tuple's iterator at its place -/
abbrev tupIt (t : Addr) (i : Nat) : Obj := { cls := .type "tuple_iterator", data := .fields #[.ref t, rawInt i] }
def ItU (t it : Addr) : HO := .ext fun h => h.IsTupleIter it t 0
theorem itU_ok {P : Program} {w : World} {H : Hp} {h : Heap} {t it : Addr} (e : h.IsTupleIter it t 0) : ObjOk P w H h it (ItU t it) := by
  refine ⟨e, ?_, fun h1 h2 q k => q.at k⟩
  obtain ⟨o, e, _⟩ := e
  exact ⟨o, e⟩
section
variable {prog : Program} {w : World} {A : Around} {E : Value → Shared → Prop} {s : Shared}
theorem call_iterTup {l : Addr} {items : Array Value} {Q : Value → Shared → Prop} (hl : s.heap.IsTuple l items) (h : Q (.ref s.heap.objs.size) { s with heap := s.heap.push { cls := .type "tuple_iterator", data := .fields #[.ref l, .int 0 0] } }) : wpAny (model prog w) A (call (.builtin "iter") [.ref l]) Q E s := by
  refine Calls.call_function_entry (by decide +kernel) (by decide +kernel) PySem.W.kdk_entry_iter (PySem.W.kdk_args_iter _) ?_
  unfold Builtin.«iter»
  refine wpAny_bind (m := someArgs "iter" 1 2 _) (wpAny_of_eq (a := [Value.ref l]) (by first | rfl | kernel_rfl!) ?_)
  show wpAny _ _ (pyIter (.ref l) >>= _) _ _ _
  refine wpAny_bind (wpAny_pyIter_tuple hl ?_)
  exact wpAny_pure ⟨_, rfl, h⟩
end
/-- iter(t), t a tuple: the iterator stands at n or above -/
def rIterU (K : PySem.W.Frag) (n : Nat) : List V → Hp → VK → Prop := fun xs H Q => ∃ (l : Addr) (zs : List V), xs = [.ref l] ∧ SqT K H l zs ∧ ∀ it, H it = Option.none → n ≤ it → Q (.ref it) (upd H it (ItU l it))
section
variable {X : Cx}
theorem call_iterU : CallR X (.builtin "iter") (rIterU X.K X.s_0.heap.objs.size) := by
  intro pins s σ H xs us Q I r h
  obtain ⟨l, zs, rfl, hq, q⟩ := h
  obtain ⟨u, rfl, ru⟩ := vals1 r
  cases ru
  obtain ⟨its, rv, pl, hz⟩ := I.tuple hq
  refine call_iterTup (show s.heap.IsTuple l its.toArray from pl) ?_
  exact ⟨.ref s.heap.objs.size, _, I.laid (t' := s.toks) (fun b u e => Heap.get?_push_of_some _ e) (Nat.le_refl _) (itU_ok ⟨_, Heap.get?_push_size _ rfl, rfl, rfl⟩), rfl, q _ (I.hok.fresh (Nat.le_refl _)) I.sz⟩
end
/-- what __iter__ promises: o's attribute fl is a tuple, and its iterator comes out -/
def spIter (K : PySem.W.Frag) (C : Addr) (fl : Str) (n : Nat) : Sp := fun vs H Q _ => ∃ a dx fs t zs, vs = [.ref a] ∧ H a = some (.ins C dx fs) ∧ fs.lookup fl = some (.ref t) ∧ SqT K H t zs ∧ ∀ it, H it = Option.none → n ≤ it → Q (.ref it) (upd H it (ItU t it))
structure Ds (P : Program) (w : World) (K : PySem.W.Frag) (mg : Str → Option Value) (base : Heap) (k : Nat) (f : Addr) (ps : List Str) (sp : Nat → Sp) : Prop where
  ex : ∃ fd : FuncData, FnS P w K mg base CX0 k f fd ps sp ∧ Binds K fd ps []
/-- for x in o -/
def iOwn (K : PySem.W.Frag) (C : Addr) (fl : Str) (te : TE) : TI := fun σ H R => te σ H fun x H1 => ∃ a dx fs t zs, x = .ref a ∧ H1 a = some (.ins C dx fs) ∧ fs.lookup fl = some (.ref t) ∧ SqT K H1 t zs ∧ R (Itt K t) H1
section
variable {X : Cx} {tg : Expr} {k : Nat} {f C : Addr} {fl : Str} {ps : List Str} {e : Expr} {te : TE}
theorem nextSlot {s : Shared} {it t : Addr} {i : Nat} (st : s.heap.IsTupleIter it t i) {M : Model} {A : Around} {E : Value → Shared → Prop} {Q : Value → Shared → Prop} (h : Q (.ref it) s) : PySem.W.OwitIt M A Q E (.ref it) s := by
  unfold PySem.W.OwitIt
  exact wpAny_specialOf st.typeIs PySem.F.slot_tuple_iterator_next.lookup h
theorem pi_own (he : PE X e te) (O : Own X.K C "__iter__" f) (D : Ds X.prog X.w X.K X.mg X.base k f ps (spIter X.K C fl)) (hr : Room k X.A) : PI X tg e (iOwn X.K C fl te) := by
  refine ⟨fun pins s σ H R I h => ?_⟩
  refine thn (he.run pins s σ H _ I h) fun v s1 ⟨x, H1, I1, r1, a, dx, fs, t, zs, ex, ha, lk, tp, q⟩ => ?_
  subst ex
  obtain rfl : v = Value.ref a := r1
  obtain ⟨mA, J, _⟩ := ins_get I1.hok ha
  obtain ⟨od, J, _⟩ := J.look
  obtain ⟨m, hF⟩ := I1.fr
  obtain ⟨fd, F, hb⟩ := D.ex
  refine PySem.W.owit_iter hF I1.ok.mod.kin J O.at_ O.fn ?_
  have want : spIter X.K C fl s1.heap.objs.size [.ref a] H1 (fun v H2 => ∃ it, v = .ref it ∧ H1 it = none ∧ s1.heap.objs.size ≤ it ∧ H2 = upd H1 it (ItU t it)) E0 := ⟨a, dx, fs, t, zs, rfl, ha, lk, tp, fun it n le => ⟨it, rfl, n, le, rfl⟩⟩
  have hl : ([Value.ref a] ++ []).length = ps.length := (F.len _ [.ref a] _ _ _ want)
  refine wpAny_call (codeAny_mono (F.run X.A X.stack s1 H1 ⟨[.ref a], []⟩ [.ref a] [.ref a] _ E0 hr I1.env0 (by
    have := hb s1 [.ref a] I1.kIn hl
    rw [List.append_nil] at this
    exact this) (.cons rfl .nil) want) fun r s' hq => ?_)
  cases r with
  | error er => exact (pass0 (X := X) pins σ H1 s1 er s' I1 hq)
  | ok fl =>
    cases fl with
    | ret u =>
      obtain ⟨z, H2, I2, rz, it, rfl, n, le, rfl⟩ := I1.after hq
      cases rz
      have st : s'.heap.IsTupleIter it t 0 := (I2.hok it _ upd_same).1
      refine nextSlot st ?_
      have I3 := inv_drop I2 (show upd H1 it (ItU t it) it = some (.ext _) from upd_same)
      have fp := inv_fp I2 (show upd H1 it (ItU t it) it = some (ItU t it) from upd_same) (Nat.le_trans I1.sz le)
      rw [dropH_upd n] at I3 fp
      refine ⟨it, [it], _, _, H1, rfl, I3, turn_tuple t it, st, fun b hb => ?_, q⟩
      have e : b = it := by simpa using hb
      rw [e]
      exact fp
    | next => exact False.elim hq
    | brk => exact False.elim hq
    | cont => exact False.elim hq
end
end Gd

/-! Gd14: dicts from texts to integers. -/
namespace Gd
open PySem PySem.Spec PyProof.Rows L2 L2.DX
/-- a dict from texts to integers, as the heap has it -/
def pr (L : List (Str × Int)) : List (Key × V) := L.map fun p => (Sum.inr p.1, V.int p.2)
theorem pr_len {L : List (Str × Int)} : (pr L).length = L.length := List.length_map ..
theorem valV_pr {z : Str} : ∀ {L : List (Str × Int)}, valV (pr L) (Sum.inr z) = (L.lookup z).map V.int
  | [] => rfl
  | (k, v) :: r => by
    show valV ((Sum.inr k, V.int v) :: pr r) (Sum.inr z) = _
    by_cases e : k = z
    · rw [valV_pos (p := ((Sum.inr k : Key), V.int v)) (by rw [e]), e, List.lookup_cons_self]
      rfl
    · rw [valV_neg (p := ((Sum.inr k : Key), V.int v)) (fun h => e (Sum.inr.inj h)), valV_pr, List.lookup_cons, show (z == k) = false from beq_eq_false_iff_ne.mpr (Ne.symm e)]
/-- d[k] = v on such lists -/
def putP (L : List (Str × Int)) (k : Str) (v : Int) : List (Str × Int) := if (L.any fun p => decide (p.1 = k)) = true then L.map (fun p => if p.1 = k then (p.1, v) else p) else L ++ [(k, v)]
theorem putK_pr {L : List (Str × Int)} {k : Str} {v : Int} : putK (pr L) (Sum.inr k) (V.int v) = pr (putP L k v) := by
  unfold putK putP pr
  have e1 : (L.map fun p : Str × Int => ((Sum.inr p.1 : Key), V.int p.2)).any (fun kv => decide (kv.1 = Sum.inr k)) = L.any (fun p => decide (p.1 = k)) := by
    rw [List.any_map]
    congr 1
    funext p
    show decide ((Sum.inr p.1 : Key) = Sum.inr k) = decide (p.1 = k)
    rw [decide_eq_decide]
    exact ⟨Sum.inr.inj, fun h => by rw [h]⟩
  rw [e1]
  split
  · rw [List.map_map, List.map_map]
    refine List.map_congr_left fun p _ => ?_
    show (if (Sum.inr p.1 : Key) = Sum.inr k then ((Sum.inr p.1 : Key), V.int v) else (Sum.inr p.1, V.int p.2)) = _
    by_cases e : p.1 = k
    · rw [if_pos (by rw [e])]
      show _ = (fun p : Str × Int => ((Sum.inr p.1 : Key), V.int p.2)) (if p.1 = k then (p.1, v) else p)
      rw [if_pos e]
    · rw [if_neg (fun h => e (Sum.inr.inj h))]
      show _ = (fun p : Str × Int => ((Sum.inr p.1 : Key), V.int p.2)) (if p.1 = k then (p.1, v) else p)
      rw [if_neg e]
  · rw [List.map_append]
    rfl
theorem lookup_putP {L : List (Str × Int)} {k z : Str} {v : Int} : (putP L k v).lookup z = if z = k then some v else L.lookup z := by
  have h := valV_put (pr L) (Sum.inr k) (Sum.inr z) (V.int v)
  rw [putK_pr, valV_pr, valV_pr] at h
  have inj : ∀ {a b : Option Int}, a.map V.int = b.map V.int → a = b := fun {a b} e => by
    cases a <;> cases b <;> simp_all
  refine inj (h.trans ?_)
  by_cases e : z = k
  · rw [if_pos (by rw [e]), if_pos e]
    rfl
  · rw [if_neg (fun h => e (Sum.inr.inj h)), if_neg e]
theorem putP_new {L : List (Str × Int)} {k : Str} {v : Int} (h : k ∉ L.map (·.1)) : putP L k v = L ++ [(k, v)] := by
  unfold putP
  rw [if_neg]
  simp only [List.any_eq_true, decide_eq_true_eq, not_exists, not_and]
  exact fun p m e => h (List.mem_map.mpr ⟨p, m, e⟩)
theorem nodup_putP {L : List (Str × Int)} {k : Str} {v : Int} (nd : (L.map (·.1)).Nodup) : ((putP L k v).map (·.1)).Nodup := by
  by_cases h : k ∈ L.map (·.1)
  · have e : (putP L k v).map (·.1) = L.map (·.1) := by
      unfold putP
      obtain ⟨p, m, e⟩ := List.mem_map.mp h
      rw [if_pos (List.any_eq_true.mpr ⟨p, m, decide_eq_true e⟩), List.map_map]
      refine List.map_congr_left fun p _ => ?_
      show (if p.1 = k then (p.1, v) else p).1 = p.1
      split <;> rfl
    rw [e]
    exact nd
  · rw [putP_new h, List.map_append]
    refine List.nodup_append.mpr ⟨nd, by simp, fun a m b mb => ?_⟩
    obtain rfl : b = k := by simpa using mb
    exact fun e => h (e ▸ m)
theorem mem_look {z : Str} : ∀ {L : List (Str × Int)}, z ∈ L.map (·.1) ↔ (L.lookup z).isSome = true
  | [] => ⟨fun h => (nomatch h), fun h => (nomatch h)⟩
  | (k, v) :: r => by
    rw [List.map_cons, List.mem_cons, mem_look, List.lookup_cons]
    by_cases e : z = k
    · rw [show (z == k) = true from beq_iff_eq.mpr e]
      exact ⟨fun _ => rfl, fun _ => .inl e⟩
    · rw [show (z == k) = false from beq_eq_false_iff_ne.mpr e]
      exact ⟨fun h => h.elim (fun h => absurd h e) id, .inr⟩
theorem mem_putP {L : List (Str × Int)} {k z : Str} {v : Int} : z ∈ (putP L k v).map (·.1) ↔ z = k ∨ z ∈ L.map (·.1) := by
  rw [mem_look, mem_look, lookup_putP]
  split
  · next e => simp [e]
  · next e => simp [e]
/-- the same prices at the same pieces -/
def eqPr (L M : List (Str × Int)) : Bool := L.length == M.length && L.all fun p => M.lookup p.1 == some p.2
theorem hits_pr {A : Around} {s : Shared} {M : List (Str × Int)} {vb : List (Key × Value)} (rb : KV (pr M) vb) : ∀ {L : List (Str × Int)} {va : List (Key × Value)}, KV (pr L) va → ∃ b, PySem.W.KeqHits A s vb va b ∧ b = L.all fun p => M.lookup p.1 == some p.2
  | [], _, ra => by
    have ra' : KV ([] : List (Key × V)) _ := ra
    unfold KV at ra'
    cases ra'
    exact ⟨true, .nil, rfl⟩
  | (k, i) :: r, va, ra => by
    have ra' : KV ((Sum.inr k, V.int i) :: pr r) va := ra
    unfold KV at ra'
    cases ra' with
    | @cons _ q _ qs h t =>
      obtain ⟨b, hb, e⟩ := hits_pr rb (L := r) (va := qs) t
      obtain ⟨k', v⟩ := q
      obtain ⟨h1, h2⟩ := h
      have h1' : (Sum.inr k : Key) = k' := h1
      subst h1'
      have rv : RelO (valV (pr M) (Sum.inr k)) (valueAt vb (Sum.inr k)) := rb.val (Sum.inr k)
      rw [valV_pr] at rv
      cases em : M.lookup k with
      | none =>
        rw [em] at rv
        cases ev : valueAt vb (Sum.inr k) with
        | some y =>
          rw [ev] at rv
          exact (show False from rv).elim
        | none =>
          refine ⟨false, .miss ev, ?_⟩
          rw [List.all_cons]
          show false = (M.lookup k == some i && _)
          rw [em]
          rfl
      | some j =>
        rw [em] at rv
        obtain ⟨y, ey, ry⟩ := rv.some_of
        refine ⟨eqV (.int i) (.int j) && b, .hit ey (eqAt_V (y := .int i) (x := .int j) h2 ry rfl rfl) hb, ?_⟩
        rw [List.all_cons, e]
        show _ = (M.lookup k == some i && _)
        rw [em]
        congr 1
        show decide (i = j) = (some j == some i)
        by_cases q : i = j
        · rw [q, decide_eq_true rfl]
          exact (beq_iff_eq.mpr rfl).symm
        · rw [decide_eq_false q]
          exact (beq_eq_false_iff_ne.mpr fun z => q (Option.some.inj z).symm).symm
section
variable {X : Cx}
def rEqPr : R2 := fun x y H Q => ∃ a b L M, x = .ref a ∧ y = .ref b ∧ H a = some (.dK (pr L)) ∧ H b = some (.dK (pr M)) ∧ Q (.bl (eqPr L M)) H
theorem op_eqPr (hu : X.A.units < cLine) : OpR X (compareOp .Eq) rEqPr := by
  intro pins s σ H x y v u Q I rx ry h
  obtain ⟨a, b, L, M, rfl, rfl, ea, eb, q⟩ := h
  obtain rfl : v = Value.ref a := rx
  obtain rfl : u = Value.ref b := ry
  obtain ⟨_, ya, va, ra, da⟩ := (show ObjOk X.prog X.w H s.heap a (.dK (pr L)) from I.hok a _ ea)
  obtain ⟨_, yb, vb, rb, db⟩ := (show ObjOk X.prog X.w H s.heap b (.dK (pr M)) from I.hok b _ eb)
  obtain ⟨r, hits, er⟩ := hits_pr (A := X.A.in1) (s := s) rb ra
  refine PySem.W.keq_eq (knd := mixKind X.prog X.w) (r := r) ya yb da db hu (fun _ => hits) (fin_bl I q ?_)
  unfold eqPr
  rw [er, ← ra.length, ← rb.length, pr_len, pr_len]
/-- z in d, z not in d -/
def rInPr (neg : Bool) : R2 := fun x y H Q => ∃ z d L, x = .str z ∧ y = .ref d ∧ Rd H d (.dK (pr L)) ∧ Q (.bl ((L.lookup z).isSome != neg)) H
theorem dget_pr {H : Hp} {d : Addr} {L : List (Str × Int)} {z : Str} (h : Rd H d (.dK (pr L))) : DGet H d (.str z) ((L.lookup z).map V.int) := .inl ⟨pr L, Sum.inr z, h, rfl, by rw [valV_pr]⟩
theorem op_inPr (hu : X.A.units + 1 < cLine) : OpR X (compareOp .In) (rInPr false) := by
  intro pins s σ H x y v u Q I rx ry ⟨z, d, L, ex, ey, hd, q⟩
  subst ex
  subst ey
  cases ry
  refine d_in hu I (dget_pr (z := z) hd) rx fun s' I' => fin_bl I' q ?_
  rw [Bool.bne_false, Option.isSome_map]
theorem op_notinPr (hu : X.A.units + 1 < cLine) : OpR X (compareOp .NotIn) (rInPr true) := by
  intro pins s σ H x y v u Q I rx ry ⟨z, d, L, ex, ey, hd, q⟩
  subst ex
  subst ey
  cases ry
  refine d_notIn hu I (dget_pr (z := z) hd) rx fun s' I' => fin_bl I' q ?_
  rw [Bool.bne_true, Option.isSome_map]
/-- d.items() -/
def rItemsD : V → List V → Hp → VK → Prop := fun x xs H Q => ∃ (a : Addr) (kvs : List (Key × V)), x = .ref a ∧ xs = [] ∧ Rd H a (.dK kvs) ∧ ∀ p H', H p = none → Same H H' → H' p = some (itemsO p a) → Q (.ref p) H'
theorem mt_itemsD : MtR X "dict.items" rItemsD := by
  intro pins s σ H x xs v us Q I rx rxs h
  obtain ⟨a, kvs, rfl, rfl, ha, q⟩ := h
  cases rx
  cases rxs
  obtain ⟨z, lo, vs, rel, dd⟩ := dk_rd I.hok ha
  have hf : H s.heap.objs.size = none := I.hok.fresh (Nat.le_refl _)
  refine call_meetsIn PySem.F.slot_dict_items dd.typeIs PySem.F.entry_dict_items (PySem.F.args_dict_items_1 _) (meets_dict_items (mixKind X.prog X.w) a lo) ⟨⟨vs, dd⟩, ?_⟩
  exact ⟨.ref s.heap.objs.size, upd H s.heap.objs.size (itemsO s.heap.objs.size a), I.laid (t' := s.toks) (fun b u e => Heap.get?_push_of_some _ e) (Nat.le_refl _) (itemsO_ok (Heap.get?_push_size _ rfl)), rfl, q _ _ hf (same_new hf) upd_same⟩
end
end Gd

/-! Gd15: list(d.items()), tuple(d), max(d.values()). -/
namespace Gd
open PySem PySem.Spec PyProof.Rows L2 L2.DX
/-- a list of new pairs (text, integer) -/
def PairsAt (H : Hp) (l : Addr) (L : List (Str × Int)) : Prop := ∃ ps : List Addr, H l = some (.lst (ps.map V.ref)) ∧ Paired (fun b (e : Str × Int) => H b = some (.tup [.str e.1, .int e.2])) ps L
theorem PairsAt.up {H H' : Hp} {l : Addr} {L : List (Str × Int)} (p : PairsAt H l L) (k : Same H H') : PairsAt H' l L := by
  obtain ⟨ps, a, r⟩ := p
  exact ⟨ps, k _ _ a, Paired.mapP r fun b e h => k _ _ h⟩
theorem paired_get {α β : Type} {F : α → β → Prop} : ∀ {as : List α} {bs : List β}, as.length = bs.length → (∀ (j : Nat) (a : α), as[j]? = some a → ∃ b, bs[j]? = some b ∧ F a b) → Paired F as bs
  | [], [], _, _ => .nil
  | [], _ :: _, h, _ => by simp at h
  | _ :: _, [], h, _ => by simp at h
  | a :: as, b :: bs, h, f => by
    obtain ⟨b', e, r⟩ := f 0 a rfl
    obtain rfl : b = b' := by simpa using e
    exact .cons r (paired_get (by simpa using h) fun j x e => f (j + 1) x (by simpa using e))
theorem refs_vals : ∀ as : List Addr, Vals (as.map V.ref) (as.map Value.ref)
  | [] => .nil
  | _ :: r => .cons rfl (refs_vals r)
/-- what a made pair is -/
theorem kv_at {L : List (Str × Int)} {vs : List (Key × Value)} (rel : KV (pr L) vs) {j : Nat} {k : Key} {x : Value} (e : vs[j]? = some (k, x)) : ∃ e : Str × Int, L[j]? = some e ∧ k = Sum.inr e.1 ∧ RelV (.int e.2) x := by
  obtain ⟨v, h1, h2⟩ := KV.at' rel e
  unfold pr at h1
  rw [List.getElem?_map] at h1
  cases hj : L[j]? with
  | none =>
    rw [hj] at h1
    cases h1
  | some q =>
    rw [hj] at h1
    have h3 : ((Sum.inr q.1 : Key), V.int q.2) = (k, v) := Option.some.inj h1
    injection h3 with h4 h5
    exact ⟨q, rfl, h4.symm, h5 ▸ h2⟩
theorem key_str {P : Program} {w : World} {z : Str} {v : Value} (h : (mixKind P w).is (Sum.inr z) v = true) : ∃ t, v = .str z t := by
  have q := keyIs_rel (k := Sum.inr z) (v := v) h
  exact q
section
variable {X : Cx}
def rListI : List V → Hp → VK → Prop := fun xs H Q => ∃ p a L, xs = [.ref p] ∧ H p = some (itemsO p a) ∧ Rd H a (.dK (pr L)) ∧ ∀ l H', H l = none → Same H H' → PairsAt H' l L → Q (.ref l) H'
theorem call_listI (hc : X.calm = true) : CallR X (.type "list") rListI := by
  intro pins s σ H xs us Q I r ⟨p, a, L, ex, hp, ha, q⟩
  subst ex
  obtain rfl := Vals.ref1 r
  have view : s.heap.IsItemsView p a := (show ObjOk X.prog X.w H s.heap p (itemsO p a) from I.hok p _ hp).1
  obtain ⟨z, lo, vs, rel, dd⟩ := dk_rd I.hok ha
  obtain ⟨ep, hat⟩ := dd.dictAt
  have hlen : vs.length = L.length := rel.length.symm.trans pr_len
  rw [pr_len] at z
  refine PySem.W.kdx_call (knd := mixKind X.prog X.w) (kvs := vs) (ep := ep) (I.ok.hd hc) view hat (by rw [hlen]; exact z) fun h' tk acc c as hk hS hl hG hacc => ?_
  have hn0 : H s.heap.objs.size = none := I.hok.fresh (Nat.le_refl _)
  have nd : as.Nodup := List.Pairwise.imp (fun h => Nat.ne_of_lt h) hG.rise
  have I1 : Inv X pins σ (upd H s.heap.objs.size (.lst (as.map V.ref))) { s with heap := h', toks := tk } := I.laid (t' := tk) hk (Nat.le_refl _)
    (show ObjOk X.prog X.w _ _ _ (.lst (as.map V.ref)) from ⟨by rw [List.length_map, hl, hlen]; exact z, acc.toList, c, by rw [hacc]; exact refs_vals as, by rw [Array.toArray_toList]; exact hS⟩)
  have made : ∀ (j : Nat) (b : Addr), as[j]? = some b → ∃ e : Str × Int, L[j]? = some e ∧ ∀ H2, ObjOk X.prog X.w H2 h' b (.tup [.str e.1, .int e.2]) := fun j b hj => by
    obtain ⟨key, k, x, e1, e2, e3⟩ := hG.pairs j b hj
    obtain ⟨e, h1, rfl, h3⟩ := kv_at rel e1
    obtain ⟨t, rfl⟩ := key_str e2
    exact ⟨e, h1, fun H2 => ⟨by rw [sizeLine_eq]; show 2 ≤ 16777216; omega, [.str e.1 t, x], .cons ⟨t, rfl⟩ (.cons h3 .nil), ⟨_, e3, rfl, 0, rfl⟩⟩⟩
  obtain ⟨H2, I3, g, qt⟩ := takeT (P := fun b vs => ∃ (j : Nat) (e : Str × Int), as[j]? = some b ∧ L[j]? = some e ∧ vs = [.str e.1, .int e.2]) I as _ I1 nd fun b hb => by
    obtain ⟨j, hj⟩ := List.mem_iff_getElem?.mp hb
    obtain ⟨e, he, ok⟩ := made j b hj
    have lt := hG.above b hb
    exact ⟨Nat.le_of_lt lt, by rw [upd_ne (Nat.ne_of_gt lt)]; exact I.hok.fresh (Nat.le_of_lt lt), _, ⟨j, e, hj, he, rfl⟩, ok⟩
  refine ⟨.ref s.heap.objs.size, H2, I3, rfl, q _ _ hn0 (fun b o e => g b o (by rw [upd_ne (ne_of_none e hn0)]; exact e)) ⟨as, g _ _ upd_same, paired_get (hl.trans hlen) fun j b hj => ?_⟩⟩
  obtain ⟨vs', ⟨j', e, h1, h2, rfl⟩, h3⟩ := qt b (List.mem_of_getElem? hj)
  have lt : j < as.length := (List.getElem?_eq_some_iff.mp hj).1
  have same : j = j' := (List.getElem?_inj lt nd).mp (hj.trans h1.symm)
  subst same
  exact ⟨e, h2, h3⟩

/-- tuple(d): its keys -/
def rTupD : List V → Hp → VK → Prop := fun xs H Q => ∃ a L, xs = [.ref a] ∧ Rd H a (.dK (pr L)) ∧ New H (.tup (L.map fun p => V.str p.1)) Q
end
section
variable {prog : Program} {w : World} {A : Around} {E : Value → Shared → Prop} {s : Shared} {r : Addr} {kvs : List (Key × Value)} {ep : Nat}
theorem code_tuple_new_dict {Q₁ : Value → Shared → Prop} (hh : A.handled = none) (lo : (r == sysModules) = false) (hT : s.TypeIs (.ref r) "dict") (hat : s.heap.DictAt (mixKind prog w) r kvs ep) (hlen : kvs.length ≤ sizeLine)
    (h : ∀ (h' : Heap) (tk : Nat) (acc : Array Value), (∀ b o, s.heap.get? b = some o → h'.get? b = some o) → ItemsOf (fun i v => ∃ k x, kvs[i]? = some (k, x) ∧ keyIs k v = true) acc kvs.length →
      Q₁ (.ref h'.objs.size) { s with heap := h'.push { cls := .type "tuple", data := .seq acc }, toks := tk }) :
    codeAny (model prog w) A (.call (.builtin "tuple.__new__") ⟨[.type "tuple", .ref r], []⟩) (wants Q₁ E) s := by
  refine codeAny_of_tree ?_
  show wpAny _ A.in1 (do checkBuiltinCall "tuple.__new__" ⟨[.type "tuple", .ref r], []⟩; again (.builtin "tuple.__new__" ⟨[.type "tuple", .ref r], []⟩)) _ _ s
  refine wpAny_bind (wpAny_of_eq (F.newCall_tuple_1 _) (wpAny_pure ⟨plainId_quiet F.plain_tuple_new _, codeAny_builtin F.entry_tuple_new ?_⟩))
  rw [Around.under_plainId F.plain_tuple_new _]
  have hsub := sub_tuple_self
  have hinit := init_tuple_lookup
  have hmh := madeHere_tuple
  have hh1 : A.in1.handled = none := hh
  wp_walk using wpAny_typeOf hT, PySem.W.kdu_collect (A := A.in1) (PySem.W.kdl_dict (knd := mixKind prog w) (kvs := kvs) (ep := ep) lo) hh1 hat hlen
  intro h' tk acc hk hacc
  show wpAny _ _ (Builtin.Tuple.tupleExact acc.toList.toArray >>= fun v => ret v) _ _ _
  unfold Builtin.Tuple.tupleExact
  refine wpAny_bind (wpAny_newObj_type ?_ (by show acc.toList.toArray.size ≤ sizeLine; simp only [Array.toArray_toList]; rw [hacc.1]; exact hlen))
  refine wpAny_pure ?_
  have e : acc.toList.toArray = acc := by simp
  rw [e]
  exact h h' tk acc hk hacc
end
section
variable {X : Cx}
theorem call_tupD (hc : X.calm = true) : CallR X (.type "tuple") rTupD := by
  intro pins s σ H xs us Q I r ⟨a, L, ex, ha, q⟩
  subst ex
  obtain rfl := Vals.ref1 r
  obtain ⟨z, lo, vs, rel, dd⟩ := dk_rd I.hok ha
  obtain ⟨ep, hat⟩ := dd.dictAt
  have hlen : vs.length = L.length := rel.length.symm.trans pr_len
  rw [pr_len] at z
  refine callType_codes (Q₁ := fun obj s₁ => s₁.TypeIs obj "tuple" ∧ EP X pins σ Q obj s₁) F.called_tuple (F.typeCall_tuple_1 _) F.entry_object_init
    (code_tuple_new_dict (A := X.A.in1) (I.ok.hd hc) lo dd.typeIs hat (by rw [hlen]; exact z) fun h' tk acc hk hacc => ⟨⟨_, Heap.get?_push_size _ rfl, rfl⟩, ?_⟩) fun obj s₁ h₁ => ?_
  · have ek : (L.map fun p => V.str p.1) = vs.map fun p => kV p.1 := by
      have e := congrArg (List.map kV) rel.keys
      unfold pr at e
      rw [List.map_map, List.map_map, List.map_map] at e
      exact e
    have hv : Vals (vs.map fun p => kV p.1) acc.toList := keys_at (by rw [Array.length_toList]; exact hacc.1) fun j v e => hacc.2 j v (by rw [← Array.getElem?_toList]; exact e)
    have I1 : Inv X pins σ H { s with heap := h', toks := tk } := I.kept (t' := tk) hk
    have hn := I1.hok.fresh (Nat.le_refl h'.objs.size)
    have I2 : Inv X pins σ (upd H h'.objs.size (.tup (L.map fun p => V.str p.1))) { s with heap := h'.push { cls := .type "tuple", data := .seq acc }, toks := tk } :=
      I1.laid (t' := tk) (fun b o e => Heap.get?_push_of_some _ e) (Nat.le_refl _) (show ObjOk X.prog X.w _ _ _ (.tup _) from ⟨by rw [List.length_map]; exact z, acc.toList, by rw [ek]; exact hv, by
        rw [Array.toArray_toList]
        exact IsTup.new _ _⟩)
    exact ⟨.ref h'.objs.size, _, I2, rfl, q.use _ hn⟩
  · exact ⟨h₁.1, F.args_object_init_2 obj _, object_init_meets F.called_tuple.init.lookup F.called_tuple.made (by decide) X.prog X.w X.A.in1 _ s₁ ⟨h₁.1, rfl, h₁.2⟩⟩

/-- d.values() -/
def valsO (p a : Addr) : HO := .ext fun h => h.get? p = some { cls := .type "dict_values", data := .fields #[.ref a] }
def rValuesD : V → List V → Hp → VK → Prop := fun x xs H Q => ∃ (a : Addr) (kvs : List (Key × V)), x = .ref a ∧ xs = [] ∧ Rd H a (.dK kvs) ∧ ∀ p H', H p = none → Same H H' → H' p = some (valsO p a) → Q (.ref p) H'
theorem mt_valuesD : MtR X "dict.values" rValuesD := by
  intro pins s σ H x xs v us Q I rx rxs h
  obtain ⟨a, kvs, rfl, rfl, ha, q⟩ := h
  cases rx
  cases rxs
  obtain ⟨z, lo, vs, rel, dd⟩ := dk_rd I.hok ha
  have hf : H s.heap.objs.size = none := I.hok.fresh (Nat.le_refl _)
  refine call_meetsIn PySem.F.slot_dict_values dd.typeIs PySem.F.entry_dict_values (PySem.F.args_dict_values_1 _) (meets_dict_values (mixKind X.prog X.w) a lo) ⟨⟨vs, dd⟩, ?_⟩
  refine ⟨.ref s.heap.objs.size, upd H s.heap.objs.size (valsO s.heap.objs.size a), I.laid (t' := s.toks) (fun b u e => Heap.get?_push_of_some _ e) (Nat.le_refl _) ?_, rfl, q _ _ hf (same_new hf) upd_same⟩
  have e : (s.heap.push { cls := .type "dict_values", data := .fields #[.ref a] }).get? s.heap.objs.size = some { cls := .type "dict_values", data := .fields #[.ref a] } := Heap.get?_push_size _ rfl
  exact ⟨e, ⟨_, e⟩, fun h1 h2 q k => k _ q⟩
/-- max(d.values()) -/
def rMaxV : List V → Hp → VK → Prop := fun xs H Q => ∃ p a L, xs = [.ref p] ∧ H p = some (valsO p a) ∧ Rd H a (.dK (pr L)) ∧ L ≠ [] ∧ ∀ m, m ∈ L.map (·.2) → (∀ j ∈ L.map (·.2), j ≤ m) → Q (.int m) H
theorem call_maxV (hc : X.calm = true) : CallR X (.builtin "max") rMaxV := by
  intro pins s σ H xs us Q I r ⟨p, a, L, ex, hp, ha, hne, q⟩
  subst ex
  obtain rfl := Vals.ref1 r
  have view : s.heap.get? p = some { cls := .type "dict_values", data := .fields #[.ref a] } := (show ObjOk X.prog X.w H s.heap p (valsO p a) from I.hok p _ hp).1
  obtain ⟨_, lo, vs, rel, dof⟩ := dk_rd I.hok ha
  obtain ⟨ep, dat⟩ := dof.dictAt
  obtain ⟨ob, es, ho, ex, hdat, hko, hpr, hnd⟩ := id dat
  have hlv : vs.length = (L.map (·.2)).length := by rw [← rel.length, pr_len, List.length_map]
  have hlen : 0 < vs.length := by
    rw [hlv, List.length_map]
    exact List.length_pos_iff.mpr hne
  have hval : ∀ (i : Nat) (v : Value), (∃ k, vs[i]? = some (k, v)) → ∃ t, v = Value.int ((L.map (·.2)).getD i 0) t := fun i v ⟨k, hk⟩ => by
    obtain ⟨e, h1, _, t, h3⟩ := kv_at rel hk
    refine ⟨t, ?_⟩
    rw [h3, List.getD_eq_getElem?_getD, List.getElem?_map, h1]
    rfl
  refine call_max_walk (wpAny_pyIter_values (v := p) (d := a) ⟨_, view, rfl, rfl⟩ dat ?_)
  have hlt : a < s.heap.objs.size := Heap.lt_size ho
  refine ⟨_, _, _, _, _, _, _, rfl, Walks.dictValues (knd := mixKind X.prog X.w) (A := X.A.in1) (I.ok.hd hc) s.heap.objs.size a (Nat.ne_of_lt hlt) vs ep,
    ⟨⟨_, Heap.get?_push_size _ rfl, rfl, rfl⟩, dat.keep fun b u e => Heap.get?_push_of_some _ e⟩, fun b hb => ?_, hlen, CmpOf.ints_gt (fun i => (L.map (·.2)).getD i 0) hval, fun v h' tk hP hk => ?_⟩
  · show b < (s.heap.push _).objs.size
    rw [Heap.size_push]
    rcases List.mem_cons.mp hb with e | hb
    · rw [e]
      exact Nat.lt_succ_self _
    · have e : b = a := List.mem_singleton.mp hb
      rw [e]
      exact Nat.lt_succ_of_lt hlt
  · obtain ⟨t, rfl⟩ := hval _ v hP
    obtain ⟨b1, b2⟩ := argBest_gt (fun i => (L.map (·.2)).getD i 0) (vs.length - 1)
    refine ⟨.int _, H, I.kept (t' := tk) fun b u e => hk b u (fun hmem => ?_) (Heap.get?_push_of_some _ e), ⟨t, rfl⟩, q _ ?_ fun j hj => ?_⟩
    · have e1 : b = s.heap.objs.size := List.mem_singleton.mp hmem
      rw [e1] at e
      exact absurd (Heap.lt_size e) (Nat.lt_irrefl _)
    · have hb : argBest (fun i j => decide ((L.map (·.2)).getD i 0 > (L.map (·.2)).getD j 0)) (vs.length - 1) < (L.map (·.2)).length := by omega
      rw [List.getD_eq_getElem?_getD, List.getElem?_eq_getElem hb]
      exact List.getElem_mem hb
    · obtain ⟨i, hi, e⟩ := List.mem_iff_getElem.mp hj
      have e2 : (L.map (·.2)).getD i 0 = j := by
        rw [List.getD_eq_getElem?_getD, List.getElem?_eq_getElem hi, ← e]
        rfl
      rw [← e2]
      exact b2 i (by omega)
end
end Gd

/-! Gd16: sorted(d.items()), d from texts to integers. -/
namespace Gd
open PySem PySem.Spec PyProof.Rows L2 L2.DX DT
open PySem.W (kat_kind kat_lt kat_cons kat_go kat_yes kat_no kat_nil KatLex KatTups)
/-- how many of these texts stand in front -/
def rankT (xs : List Str) (z : Str) : Int := ((xs.countP fun y => decide (y.cps.toList < z.cps.toList) : Nat) : Int)
theorem countP_lt {α : Type} {p q : α → Bool} : ∀ {xs : List α}, (∀ y ∈ xs, p y = true → q y = true) → (∃ y ∈ xs, p y = false ∧ q y = true) → xs.countP p < xs.countP q
  | [], _, h => by
    obtain ⟨y, m, _⟩ := h
    cases m
  | x :: r, sub, ⟨y, m, py, qy⟩ => by
    rw [List.countP_cons, List.countP_cons]
    have le : r.countP p ≤ r.countP q := List.countP_mono_left fun z mz => sub z (List.mem_cons_of_mem _ mz)
    rcases List.mem_cons.mp m with rfl | m
    · rw [py, qy]
      simp only [Bool.false_eq_true, if_false, if_true]
      omega
    · have lt := countP_lt (p := p) (q := q) (xs := r) (fun z mz => sub z (List.mem_cons_of_mem _ mz)) ⟨y, m, py, qy⟩
      have hx := sub x (List.mem_cons_self ..)
      cases hp : p x with
      | false =>
        rw [if_neg Bool.false_ne_true]
        omega
      | true =>
        rw [hx hp]
        simp only [if_true]
        omega
theorem rank_lt {xs : List Str} {a b : Str} (ma : a ∈ xs) (mb : b ∈ xs) : decide (a.cps.toList < b.cps.toList) = decide (rankT xs a < rankT xs b) := by
  rw [decide_eq_decide]
  unfold rankT
  constructor
  · intro h
    refine Int.ofNat_lt.mpr (countP_lt (fun y _ p => ?_) ⟨a, ma, decide_eq_false (List.lt_irrefl _), decide_eq_true h⟩)
    exact decide_eq_true (List.lt_trans (of_decide_eq_true p) h)
  · intro h
    apply Classical.byContradiction
    intro n
    have le : xs.countP (fun y => decide (y.cps.toList < b.cps.toList)) ≤ xs.countP (fun y => decide (y.cps.toList < a.cps.toList)) := List.countP_mono_left fun y _ p => by
      have p' : y.cps.toList < b.cps.toList := of_decide_eq_true p
      refine decide_eq_true (Classical.byContradiction fun q => ?_)
      have q1 : a.cps.toList ≤ y.cps.toList := List.not_lt.mp q
      exact n (List.lt_of_le_of_lt q1 p')
    omega
/-- v is a tuple of the text y and the integer i -/
def PairSI (h : Heap) (v : Value) (y : Str) (i : Int) : Prop := ∃ (a : Addr) (o : Obj) (n : Nat) (t u : Tok), v = .ref a ∧ h.get? a = some o ∧ o.cls = .type "tuple" ∧ o.data = .seq #[.str y t, .int i u] n
/-- the text of a pair, read off the heap -/
def fstT (h : Heap) (v : Value) : Str := txOf (seqAt0 h (refOf (some v)))
theorem PairSI.tx {h : Heap} {v : Value} {y : Str} {i : Int} (x : PairSI h v y i) : fstT h v = y := by
  obtain ⟨a, o, n, t, u, rfl, ho, hc, hd⟩ := x
  show txOf (seqAt0 h a) = y
  rw [seqAt0_of (items := #[.str y t, .int i u]) ⟨o, ho, hc, n, hd⟩]
  rfl
section
variable {prog : Program} {w : World} {A : Around} {E : Value → Shared → Prop} {s : Shared}
theorem firsts_si {h : Heap} : ∀ vs : List Value, (∀ v ∈ vs, ∃ y i, PairSI h v y i) → ∃ fs : List Value, KatTups h vs fs ∧ fs.length = vs.length ∧ ∀ f ∈ fs, ∃ (x : Str) (t : Tok), f = Value.str x t
  | [], _ => ⟨[], KatTups.nil, rfl, fun f hf => by simp at hf⟩
  | v :: vs, x => by
    obtain ⟨fs, k, hl, hi⟩ := firsts_si vs fun u hu => x u (List.mem_cons_of_mem _ hu)
    obtain ⟨y, i, a, o, n, t, u, rfl, ho, hc, hd⟩ := x v (List.mem_cons_self ..)
    refine ⟨.str y t :: fs, KatTups.cons ho hc hd rfl k, by rw [List.length_cons, List.length_cons, hl], fun f hf => ?_⟩
    rcases List.mem_cons.mp hf with rfl | hf
    · exact ⟨y, t, rfl⟩
    · exact hi f hf
theorem kind_si {vs : List Value} {xs : List Str} (h2 : 2 ≤ vs.length) (x : ∀ v ∈ vs, ∃ y i, PairSI s.heap v y i ∧ y ∈ xs) (one : ∀ v ∈ vs, ∀ u ∈ vs, ∀ y i j, PairSI s.heap v y i → PairSI s.heap u y j → i = j) (Q : SortKind → Shared → Prop)
    (h : ∀ κ, TS.Cmp prog w A s κ (pairsOf vs) (fun v => rankT xs (fstT s.heap v)) → Q κ s) : wpAny (model prog w) A (keyKind' vs.toArray) Q E s := by
  obtain ⟨fs, k, hl, hi⟩ := firsts_si vs fun v m => by
    obtain ⟨y, i, p, _⟩ := x v m
    exact ⟨y, i, p⟩
  refine kat_kind (T := Value.type "str") k (by omega) (fun f hf => ?_) rfl (h _ ?_)
  · obtain ⟨z, t, rfl⟩ := hi f hf
    exact .now
  · intro p q hp hq Q' E' hQ
    rw [pairsOf_toList] at hp hq
    have mp := (mem_zip_self hp).2
    have mq := (mem_zip_self hq).2
    obtain ⟨y, i, py, my⟩ := x _ mp
    obtain ⟨z, j, pz, mz⟩ := x _ mq
    have hQ' : Q' (decide (y.cps.toList < z.cps.toList)) s := by
      rw [rank_lt my mz]
      have hQ2 : Q' (decide (rankT xs (fstT s.heap p.1) < rankT xs (fstT s.heap q.1))) s := hQ
      rw [py.tx, pz.tx] at hQ2
      exact hQ2
    have same : y = z → i = j := fun e => one _ mp _ mq y i j py (e ▸ pz)
    obtain ⟨a, o, n, t, u, e1, ho, hc, hd⟩ := py
    obtain ⟨a', o', n', t', u', e2, ho', hc', hd'⟩ := pz
    rw [e1, e2]
    refine kat_lt ho hd ho' hd' ?_
    show KatLex prog w A true false Q' [(Value.str y t, Value.str z t'), (Value.int i u, Value.int j u')] 0 s
    by_cases e : y = z
    · have irr : decide (y.cps.toList < z.cps.toList) = false := by
        rw [e]
        exact decide_eq_false (List.lt_irrefl _)
      rw [irr] at hQ'
      refine kat_cons (SeqAt.EqAt.str_str (A := A) (s := s) y t z t' prog w _ _ ?_)
      refine kat_go (fun _ => ?_) (fun e0 => absurd (beq_iff_eq.mpr e) (by rw [e0]; exact Bool.false_ne_true))
      refine kat_yes (kat_cons (SeqAt.EqAt.int_int (A := A) (s := s) i u j u' prog w _ _ ?_))
      refine kat_go (fun _ => ?_) (fun e0 => absurd (beq_iff_eq.mpr (same e)) (by rw [e0]; exact Bool.false_ne_true))
      exact kat_yes (kat_nil hQ')
    · refine kat_cons (SeqAt.EqAt.str_str (A := A) (s := s) y t z t' prog w _ _ ?_)
      refine kat_go (fun e0 => absurd (beq_iff_eq.mp e0) e) (fun _ => ?_)
      exact kat_no (oneLt_str hQ')
end
section
variable {X : Cx}
/-- texts ascend -/
def AscP (L : List (Str × Int)) : Prop := (L.map (·.1)).Pairwise fun a b => leT a b = true
def rSortedI : List V → Hp → VK → Prop := fun xs H Q => ∃ p a L, xs = [.ref p] ∧ H p = some (itemsO p a) ∧ Rd H a (.dK (pr L)) ∧ (L.map (·.1)).Nodup ∧ L ≠ [] ∧ L.length < 64 ∧ ∀ l H' M, H l = none → Same H H' → PairsAt H' l M → M.Perm L → AscP M → Q (.ref l) H'
theorem nodup_inj {L : List (Str × Int)} (nd : (L.map (·.1)).Nodup) {j k : Nat} {e f : Str × Int} (h1 : L[j]? = some e) (h2 : L[k]? = some f) (h : e.1 = f.1) : j = k := by
  have lt : j < (L.map (·.1)).length := by
    rw [List.length_map]
    exact (List.getElem?_eq_some_iff.mp h1).1
  refine (List.getElem?_inj lt nd).mp ?_
  rw [List.getElem?_map, List.getElem?_map, h1, h2]
  exact congrArg some h
theorem cr_sortedI (hc : X.calm = true) : CallR X (.builtin "sorted") rSortedI := by
  intro pins s σ H xs us Q I r ⟨p, a, L, ex, hp, ha, nodup, hne, h64, q⟩
  subst ex
  obtain rfl := Vals.ref1 r
  have view : s.heap.IsItemsView p a := (show ObjOk X.prog X.w H s.heap p (itemsO p a) from I.hok p _ hp).1
  obtain ⟨z, lo, vs, rel, dd⟩ := dk_rd I.hok ha
  obtain ⟨ep, hat⟩ := dd.dictAt
  have hlen : vs.length = L.length := rel.length.symm.trans pr_len
  rw [pr_len] at z
  refine Calls.call_function_entry PyProof.Rows.kind_sorted PyProof.Rows.plain_sorted PyProof.Rows.entry_sorted (PyProof.Rows.args_sorted1 _) ?_
  unfold Builtin.«sorted»
  refine wpAny_bind (m := checkCount "sorted" 1 1 _) (wpAny_pure ?_)
  refine wpAny_bind (PySem.W.kdx_collect (A := X.A.in1) (knd := mixKind X.prog X.w) (kvs := vs) (ep := ep) (I.ok.hd hc) view hat (by rw [hlen]; exact z) fun h' tk as hk hl hG => ?_)
  refine wpAny_bind (wpAny_newList ?_ (by rw [List.length_map, hl, hlen]; exact z))
  have nd : as.Nodup := List.Pairwise.imp (fun h => Nat.ne_of_lt h) hG.rise
  have hal : as.length = L.length := hl.trans hlen
  have hle : s.heap.objs.size ≤ h'.objs.size := by
    cases ea : as with
    | nil =>
      rw [ea] at hal
      exact absurd (List.length_eq_zero_iff.mp hal.symm) hne
    | cons b r =>
      have m : b ∈ as := by
        rw [ea]
        exact List.mem_cons_self ..
      exact Nat.le_of_lt (Nat.lt_trans (hG.above b m) (hG.there m))
  have hob : (h'.push { cls := .type "list", data := .seq (as.map Value.ref).toArray }).get? h'.objs.size = some (seqObj "list" (as.map Value.ref).toArray 0) := Heap.get?_push_size _ rfl
  have ka0 : ∀ b o, h'.get? b = some o → (h'.push { cls := .type "list", data := .seq (as.map Value.ref).toArray }).get? b = some o := fun b o e => Heap.get?_push_of_some _ e
  generalize hh2 : h'.push { cls := .type "list", data := .seq (as.map Value.ref).toArray } = h2 at hob ka0 ⊢
  have ka := ka0
  have ne0 : ∀ b o, h'.get? b = some o → b ≠ h'.objs.size := fun b o e => Nat.ne_of_lt (Heap.lt_size e)
  have made : ∀ (j : Nat) (b : Addr), as[j]? = some b → ∃ (e : Str × Int) (t u : Tok), L[j]? = some e ∧ h'.get? b = some { cls := .type "tuple", data := .seq #[.str e.1 t, .int e.2 u] } := fun j b hj => by
    obtain ⟨key, k, x, e1, e2, e3⟩ := hG.pairs j b hj
    obtain ⟨e, h1, rfl, u, rfl⟩ := kv_at rel e1
    obtain ⟨t, rfl⟩ := key_str e2
    exact ⟨e, t, u, h1, e3⟩
  have pin : ∀ (j : Nat) (b : Addr), as[j]? = some b → ∃ e : Str × Int, L[j]? = some e ∧ PairSI (TS.midHeap h2 h'.objs.size (as.map Value.ref)) (.ref b) e.1 e.2 := fun j b hj => by
    obtain ⟨e, t, u, he, hg⟩ := made j b hj
    exact ⟨e, he, b, _, 0, t, u, rfl, TS.midHeap_old (ne0 _ _ hg) (ka _ _ hg), rfl, rfl⟩
  have at_ : ∀ v ∈ as.map Value.ref, ∃ (j : Nat) (b : Addr) (e : Str × Int), v = .ref b ∧ as[j]? = some b ∧ L[j]? = some e ∧ PairSI (TS.midHeap h2 h'.objs.size (as.map Value.ref)) (.ref b) e.1 e.2 := fun v hv => by
    obtain ⟨b, hb, rfl⟩ := List.mem_map.mp hv
    obtain ⟨j, hj⟩ := List.mem_iff_getElem?.mp hb
    obtain ⟨e, he, ps⟩ := pin j b hj
    exact ⟨j, b, e, rfl, hj, he, ps⟩
  have det : ∀ {h : Heap} {v : Value} {y y' : Str} {i i' : Int}, PairSI h v y i → PairSI h v y' i' → y = y' ∧ i = i' := fun {h v y y' i i'} p1 p2 => by
    obtain ⟨a1, o1, n1, t1, u1, e1, g1, c1, d1⟩ := p1
    obtain ⟨a2, o2, n2, t2, u2, e2, g2, c2, d2⟩ := p2
    rw [e1] at e2
    cases e2
    rw [g1] at g2
    cases g2
    rw [d1] at d2
    injection d2 with d3 d4
    have l := congrArg Array.toList d3
    injection l with l1 l2
    injection l1 with l3
    injection l2 with l4
    injection l4 with l5
    exact ⟨l3, l5⟩
  refine wpAny_bind (wpAny_holding (wpAny_call_entry PyProof.Rows.slot_list_sort ⟨_, hob, rfl⟩ PyProof.Rows.entry_list_sort
    (SK.plain_sort (s := { s with heap := h2, toks := tk }) (r := fun v => rankT (L.map (·.1)) (fstT (TS.midHeap h2 h'.objs.size (as.map Value.ref)) v)) hob (by rw [List.length_map]; omega) (fun h2' Qk hQk => ?_) fun ps out o1 o2 o3 => ⟨.none, rfl, ?_⟩) (PyProof.Rows.args_list_sort _)))
  · refine kind_si (s := { s with heap := TS.midHeap h2 h'.objs.size (as.map Value.ref), toks := tk }) (xs := L.map (·.1)) h2' (fun v hv => ?_) (fun v hv u hu y i j pv pu => ?_) Qk hQk
    · obtain ⟨j, b, e, rfl, hj, he, ps⟩ := at_ v hv
      exact ⟨e.1, e.2, ps, List.mem_map.mpr ⟨e, List.mem_of_getElem? he, rfl⟩⟩
    · obtain ⟨j1, b1, e1, rfl, hj1, he1, ps1⟩ := at_ v hv
      obtain ⟨j2, b2, e2, rfl, hj2, he2, ps2⟩ := at_ u hu
      obtain ⟨m1, m2⟩ := det pv ps1
      obtain ⟨m3, m4⟩ := det pu ps2
      have jj := nodup_inj nodup he1 he2 (m1.symm.trans m3)
      subst jj
      rw [he1] at he2
      cases he2
      rw [m2, m4]
  · refine wpAny_pure ⟨_, rfl, ?_⟩
    show EP X pins σ Q (.ref h'.objs.size) { s with heap := sortedHeap h2 h'.objs.size (as.map Value.ref) out, toks := tk }
    obtain ⟨zs, pz, ez⟩ := perm_lift (fun z : Addr × Str × Int => (Value.ref z.1, Value.ref z.1)) o2 (as.zip L) (zip_self Value.ref as L hal)
    have idx : ∀ z ∈ zs, ∃ j : Nat, as[j]? = some z.1 ∧ L[j]? = some z.2 := fun z' hz' => by
      obtain ⟨j, hj⟩ := List.mem_iff_getElem?.mp (pz.mem_iff.mp hz')
      exact ⟨j, List.getElem?_zip_eq_some.mp hj⟩
    have hout : out.toList = zs.map fun z => Value.ref z.1 := by
      rw [o1, ← ez, List.map_map]
      all_goals rfl
    have hperm : (zs.map (·.2)).Perm L := by
      have e := pz.map (·.2)
      have m2 : (as.zip L).map (·.2) = L := List.map_snd_zip (by rw [hal]; exact Nat.le_refl _)
      rw [m2] at e
      exact e
    have hsort : AscP (zs.map (·.2)) := by
      rw [← ez, List.pairwise_map] at o3
      unfold AscP
      rw [List.map_map, List.pairwise_map]
      refine List.Pairwise.imp_of_mem (fun {x y} hx hy h => ?_) o3
      obtain ⟨j, j1, j2⟩ := idx x hx
      obtain ⟨i, i1, i2⟩ := idx y hy
      obtain ⟨e1, he1, pe1⟩ := pin j _ j1
      obtain ⟨e2, he2, pe2⟩ := pin i _ i1
      rw [j2] at he1
      rw [i2] at he2
      cases he1
      cases he2
      have h' : rankT (L.map (·.1)) (fstT (TS.midHeap h2 h'.objs.size (as.map Value.ref)) (.ref x.1)) ≤ rankT (L.map (·.1)) (fstT (TS.midHeap h2 h'.objs.size (as.map Value.ref)) (.ref y.1)) := h
      rw [pe1.tx, pe2.tx] at h'
      refine leT_iff.mpr fun lt => ?_
      have lt : y.2.1.cps.toList < x.2.1.cps.toList := lt
      have := rank_lt (xs := L.map (·.1)) (List.mem_map.mpr ⟨_, List.mem_of_getElem? i2, rfl⟩) (List.mem_map.mpr ⟨_, List.mem_of_getElem? j2, rfl⟩)
      rw [decide_eq_true lt] at this
      have := of_decide_eq_true this.symm
      omega
    have kF : ∀ b o, b ≠ h'.objs.size → h2.get? b = some o → (sortedHeap h2 h'.objs.size (as.map Value.ref) out).get? b = some o := fun b o hb e => (PyProof.Rows.sortedHeap_old hb (Heap.lt_size e)).trans e
    have kS : ∀ b o, s.heap.get? b = some o → (sortedHeap h2 h'.objs.size (as.map Value.ref) out).get? b = some o := fun b o e => kF b o (ne0 _ _ (hk b o e)) (ka _ _ (hk b o e))
    obtain ⟨eF, heF⟩ := PyProof.Rows.sortedHeap_at (vs := as.map Value.ref) (out := out) hob
    have I1 : Inv X pins σ H { s with heap := sortedHeap h2 h'.objs.size (as.map Value.ref) out, toks := tk } := I.kept (t' := tk) kS
    have hn0 : H h'.objs.size = none := I.hok.fresh hle
    have hzl : zs.length = L.length := by
      have e := hperm.length_eq
      rw [List.length_map] at e
      exact e
    have I2 : Inv X pins σ (upd H h'.objs.size (.lst ((zs.map (·.1)).map V.ref))) { s with heap := sortedHeap h2 h'.objs.size (as.map Value.ref) out, toks := tk } :=
      I1.take (h' := sortedHeap h2 h'.objs.size (as.map Value.ref) out) (t' := tk) (fun b ob _ e => e) (I.fpOk hle hn0)
        ⟨by rw [List.length_map, List.length_map, hzl]; exact z, out.toList, eF, by
          rw [hout, show (zs.map fun z => Value.ref z.1) = (zs.map (·.1)).map Value.ref by rw [List.map_map]; rfl]
          exact refs_vals _, heF⟩
    obtain ⟨H2, I3, g, qt⟩ := takeT (P := fun b vs => ∃ (j : Nat) (e : Str × Int), as[j]? = some b ∧ L[j]? = some e ∧ vs = [.str e.1, .int e.2]) I as _ I2 nd fun b hb => by
      obtain ⟨j, hj⟩ := List.mem_iff_getElem?.mp hb
      obtain ⟨e, t, u, he, hg⟩ := made j b hj
      have lt := hG.above b hb
      exact ⟨Nat.le_of_lt lt, by rw [upd_ne (ne0 _ _ hg)]; exact I.hok.fresh (Nat.le_of_lt lt), _, ⟨j, e, hj, he, rfl⟩, fun H3 => ⟨(by rw [sizeLine_eq]; show 2 ≤ 16777216; omega), [Value.str e.1 t, Value.int e.2 u], .cons ⟨t, rfl⟩ (.cons ⟨u, rfl⟩ .nil), ⟨_, kF _ _ (ne0 _ _ hg) (ka _ _ hg), rfl, 0, rfl⟩⟩⟩
    refine ⟨.ref h'.objs.size, H2, I3, rfl, q _ _ (zs.map (·.2)) hn0 (fun b o e => g b o (by rw [upd_ne (ne_of_none e hn0)]; exact e)) ⟨zs.map (·.1), g _ _ upd_same, paired_get (by rw [List.length_map, List.length_map]) fun j b hj => ?_⟩ hperm hsort⟩
    rw [List.getElem?_map] at hj
    cases hzj : zs[j]? with
    | none =>
      rw [hzj] at hj
      cases hj
    | some zz =>
      rw [hzj] at hj
      obtain rfl : zz.1 = b := Option.some.inj hj
      refine ⟨zz.2, by rw [List.getElem?_map, hzj]; rfl, ?_⟩
      obtain ⟨j', j1, j2⟩ := idx zz (List.mem_of_getElem? hzj)
      obtain ⟨vs', ⟨j'', e, h1, h2', rfl⟩, h3⟩ := qt zz.1 (List.mem_of_getElem? j1)
      have lt : j' < as.length := (List.getElem?_eq_some_iff.mp j1).1
      have same : j' = j'' := (List.getElem?_inj lt nd).mp (j1.trans h1.symm)
      subst same
      rw [j2] at h2'
      cases h2'
      exact h3
end
end Gd

/-! Gd17: comprehensions over tuples, over d.items(), and those of dicts; what a lock leaves. -/
namespace Gd
open PySem PySem.Spec PyProof.Rows L2 L2.DX
theorem same_lock {H H2 : Hp} {d : Addr} {u f : HO} (hd : H d = some u) (sm : Same (upd H d f) H2) : Same H (upd H2 d u) := fun b o e => by
  by_cases h : b = d
  · subst h
    rw [hd] at e
    cases e
    exact upd_same
  · rw [upd_ne h]
    exact sm b o (by rw [upd_ne h]; exact e)
theorem lock_at {H2 : Hp} {d p : Addr} {u f o : HO} (at_d : H2 d = some f) (at_p : H2 p = some o) (ne : o ≠ f) : upd H2 d u p = some o := by
  rw [upd_ne (ne_of at_p at_d ne)]
  exact at_p
theorem Same.seqT {K : PySem.W.Frag} {H H' : Hp} {a : Addr} {xs : List V} (e : Same H H') (h : SqT K H a xs) : SqT K H' a xs := Gd.Same.sqt e h
/-- [.. for x in t if ..], t a tuple, the test told by a function of the item -/
theorem lc_tupG {K : PySem.W.Frag} {a : Addr} {xs : List V} {slot : Nat} {tt : TT} {te : TE} {vs : List Nat} {σ : L2.St} {H1 : Hp} {D : Addr} {Qd : Hp → Prop} (f : V → Bool) (g : V → V) (hD : H1 D = none) (hS : SqT K H1 a xs) (hn : xs.length ≤ 100000)
    (hw : ∀ x, wipe ((wipe σ vs).set slot (some x)) vs = wipe σ vs)
    (ht : ∀ (x : V) (H : Hp), x ∈ xs → Same H1 H → ∀ Q : Bool → Hp → Prop, (∀ H', Same H H' → Q (f x) H') → tt ((wipe σ vs).set slot (some x)) H Q)
    (hs : ∀ (x : V) (H : Hp), x ∈ xs → f x = true → Same H1 H → ∀ Q : VK, (∀ H', Same H H' → Q (g x) H') → te ((wipe σ vs).set slot (some x)) H Q)
    (hd : ∀ (H : Hp), Same H1 H → H D = some (.lst ((xs.filter f).map g)) → Qd H) :
    ∃ W : Nat → Nat → Hp → Prop, (∃ m, W 0 m (upd H1 D (.lst []))) ∧ ∀ i m H, W i m H →
      ((Itt K a).stop i H ∧ Qd H) ∨ ((Itt K a).go i H ∧ ∃ Nx : Hp → Prop, (∀ H', Nx H' → ∃ m', m' < m ∧ W (i + 1) m' H') ∧ ∀ x H', (Itt K a).yld i H x H' → gName slot x (wipe σ vs) H' fun σ2 H2 => wipe σ2 vs = wipe σ vs ∧ tt σ2 H2 fun b H3 =>
        if b = true then te σ2 H3 fun y H4 => ∃ acc, H4 D = some (.lst acc) ∧ acc.length < sizeLine ∧ Nx (upd H4 D (.lst (acc ++ [y]))) else Nx H3) := by
  refine lc_tup (K := K) (a := a) (xs := xs) (fun i H => Same H1 H ∧ H D = some (.lst (((xs.take i).filter f).map g))) ⟨same_new hD, upd_same⟩ (fun i H _ h => Gd.Same.sqt h.1 hS) ?_ ?_
  · rintro i x H hi ⟨sm, h⟩
    have hx : x ∈ xs := List.mem_of_getElem? hi
    refine ⟨hw _, ht x H hx sm _ fun H' sm' => ?_⟩
    have et : xs.take (i + 1) = xs.take i ++ [x] := by rw [List.take_add_one, hi] <;> rfl
    cases e : f x with
    | true =>
      refine iteT (hs x H' hx e (sm.trans sm') _ fun H2 sm2 => ?_)
      refine ⟨_, sm2 _ _ (sm' _ _ h), Nat.lt_of_le_of_lt ?_ (show 100000 < sizeLine by decide), same_over ((sm.trans sm').trans sm2) hD, ?_⟩
      · rw [List.length_map]
        have h1 := List.length_filter_le f (xs.take i)
        rw [List.length_take] at h1
        omega
      · rw [upd_same, et, List.filter_append, List.map_append]
        simp only [List.filter_cons, e, List.filter_nil, if_true, List.map_cons, List.map_nil]
    | false =>
      refine iteF ⟨sm.trans sm', ?_⟩
      rw [et, List.filter_append]
      simp only [List.filter_cons, e, List.filter_nil, Bool.false_eq_true, if_false, List.append_nil]
      exact sm' _ _ h
  · rintro H ⟨sm, h⟩
    rw [List.take_length] at h
    exact hd H sm h
theorem pr_get {L : List (Str × Int)} {i : Nat} {k : Key} {v : V} (h : (pr L)[i]? = some (k, v)) : ∃ e : Str × Int, L[i]? = some e ∧ k = Sum.inr e.1 ∧ v = V.int e.2 := by
  unfold pr at h
  rw [List.getElem?_map] at h
  cases hj : L[i]? with
  | none =>
    rw [hj] at h
    cases h
  | some q =>
    rw [hj] at h
    have h3 : ((Sum.inr q.1 : Key), V.int q.2) = (k, v) := Option.some.inj h
    injection h3 with h4 h5
    exact ⟨q, rfl, h4.symm, h5.symm⟩
/-- [.. for k, v in d.items()] -/
theorem lc_itemsG {K : PySem.W.Frag} {d : Addr} {o : Obj} {L : List (Str × Int)} {s1 s2 : Nat} {te : TE} {vs : List Nat} {σ : L2.St} {H1 : Hp} {D : Addr} {Qd : Hp → Prop} (f : Str × Int → V) (hD : H1 D = none) (h0 : H1 d = some (.frz o (.dK (pr L)))) (hn : L.length ≤ 100000)
    (hw : ∀ x y, wipe (((wipe σ vs).set s1 (some x)).set s2 (some y)) vs = wipe σ vs)
    (hs : ∀ (e : Str × Int) (H : Hp), e ∈ L → Same H1 H → ∀ Q : VK, (∀ H', Same H H' → Q (f e) H') → te (((wipe σ vs).set s1 (some (.str e.1))).set s2 (some (.int e.2))) H Q)
    (hd : ∀ (H : Hp), Same H1 H → H D = some (.lst (L.map f)) → Qd H) :
    ∃ W : Nat → Nat → Hp → Prop, (∃ m, W 0 m (upd H1 D (.lst []))) ∧ ∀ i m H, W i m H →
      ((Iti d o (pr L)).stop i H ∧ Qd H) ∨ ((Iti d o (pr L)).go i H ∧ ∃ Nx : Hp → Prop, (∀ H', Nx H' → ∃ m', m' < m ∧ W (i + 1) m' H') ∧ ∀ x H', (Iti d o (pr L)).yld i H x H' → gTup K 2 (gCons (gName s1) (gCons (gName s2) gNil)) x (wipe σ vs) H' fun σ2 H2 => wipe σ2 vs = wipe σ vs ∧ tYes σ2 H2 fun b H3 =>
        if b = true then te σ2 H3 fun y H4 => ∃ acc, H4 D = some (.lst acc) ∧ acc.length < sizeLine ∧ Nx (upd H4 D (.lst (acc ++ [y]))) else Nx H3) := by
  refine ⟨fun i m H => m = L.length - i ∧ i ≤ L.length ∧ Same H1 H ∧ H D = some (.lst ((L.take i).map f)), ⟨L.length - 0, rfl, Nat.zero_le _, same_new hD, upd_same⟩, ?_⟩
  rintro i m H ⟨rfl, hi, sm, h⟩
  have hd' := sm _ _ h0
  by_cases hlt : i < L.length
  · refine .inr ⟨⟨hd', by rw [pr_len]; exact hlt⟩, fun H' => Same H1 H' ∧ H' D = some (.lst ((L.take (i + 1)).map f)), fun H' p' => ⟨L.length - (i + 1), by omega, rfl, hlt, p'⟩, fun x H' y => ?_⟩
    obtain ⟨T, k, v, hk, rfl, hT, rfl⟩ := y
    obtain ⟨e, he, rfl, rfl⟩ := pr_get hk
    refine ⟨T, [.str e.1, .int e.2], rfl, sq_tup upd_same, rfl, _, _, rfl, _, _, rfl, rfl, hw _ _, ?_⟩
    simp only [tYes, reduceIte]
    refine hs e _ (List.mem_of_getElem? he) (sm.trans (same_new hT)) _ fun H2 sm2 => ?_
    refine ⟨_, sm2 _ _ (by rw [upd_ne (ne_of_none h hT)]; exact h), Nat.lt_of_le_of_lt ?_ (show 100000 < sizeLine by decide), same_over ((sm.trans (same_new hT)).trans sm2) hD, ?_⟩
    · rw [List.length_map, List.length_take]
      omega
    · rw [upd_same, List.take_add_one, he, List.map_append]
      rfl
  · have e : i = L.length := by omega
    refine .inl ⟨⟨hd', by rw [pr_len]; omega⟩, hd H sm ?_⟩
    rw [e, List.take_length] at h
    exact h
/-- {z: .. for z in zs}, zs a list of texts -/
theorem dc_textsG {K : PySem.W.Frag} {a : Addr} {zs : List Str} {slot : Nat} {tv : TE} {vs : List Nat} {σ : L2.St} {H1 : Hp} {D : Addr} {Qd : Hp → Prop} (val : Str → Int) (hD : H1 D = none) (hS : SqL K H1 a (zs.map V.str)) (nd : zs.Nodup) (hn : zs.length ≤ 100000)
    (hw : ∀ x, wipe ((wipe σ vs).set slot (some x)) vs = wipe σ vs) (hk : ∀ x, ((wipe σ vs).set slot (some x))[slot]? = some (some x))
    (hs : ∀ (z : Str) (H : Hp), z ∈ zs → Same H1 H → ∀ Q : VK, (∀ H', Same H H' → Q (.int (val z)) H') → tv ((wipe σ vs).set slot (some (.str z))) H Q)
    (hd : ∀ (H : Hp), Same H1 H → H D = some (.dK (pr (zs.map fun z => (z, val z)))) → Qd H) :
    ∃ W : Nat → Nat → Hp → Prop, (∃ m, W 0 m (upd H1 D (.dK []))) ∧ ∀ i m H, W i m H →
      ((Itl K a).stop i H ∧ Qd H) ∨ ((Itl K a).go i H ∧ ∃ Nx : Hp → Prop, (∀ H', Nx H' → ∃ m', m' < m ∧ W (i + 1) m' H') ∧ ∀ x H', (Itl K a).yld i H x H' → gName slot x (wipe σ vs) H' fun σ2 H2 => wipe σ2 vs = wipe σ vs ∧ tYes σ2 H2 fun b H3 =>
        if b = true then tVar slot σ2 H3 fun y H4 => tv σ2 H4 fun z H5 => ∃ kvs k, y = kV k ∧ H5 D = some (.dK kvs) ∧ kvs.length < sizeLine ∧ Nx (upd H5 D (.dK (putK kvs k z))) else Nx H3) := by
  refine ⟨fun i m H => m = zs.length - i ∧ i ≤ zs.length ∧ Same H1 H ∧ H D = some (.dK (pr ((zs.take i).map fun z => (z, val z)))), ⟨zs.length - 0, rfl, Nat.zero_le _, same_new hD, upd_same⟩, ?_⟩
  rintro i m H ⟨rfl, hi, sm, h⟩
  have q : SqL K H a (zs.map V.str) := sm.seq hS
  by_cases hlt : i < zs.length
  · have hz : zs[i]? = some zs[i] := List.getElem?_eq_getElem hlt
    refine .inr ⟨⟨_, .str zs[i], q, by rw [List.getElem?_map, hz]; rfl⟩, fun H' => Same H1 H' ∧ H' D = some (.dK (pr ((zs.take (i + 1)).map fun z => (z, val z)))), fun H' p' => ⟨zs.length - (i + 1), by omega, rfl, hlt, p'⟩, fun x H' y => ?_⟩
    obtain ⟨rfl, y⟩ := y
    have ex := y _ q
    rw [List.getElem?_map, hz] at ex
    cases ex
    refine ⟨hw _, ?_⟩
    simp only [tYes, reduceIte]
    refine ⟨_, hk _, ?_⟩
    refine hs zs[i] _ (List.getElem_mem hlt) sm _ fun H2 sm2 => ?_
    refine ⟨_, Sum.inr zs[i], rfl, sm2 _ _ h, Nat.lt_of_le_of_lt ?_ (show 100000 < sizeLine by decide), same_over (sm.trans sm2) hD, ?_⟩
    · rw [pr_len, List.length_map, List.length_take]
      omega
    · rw [upd_same, putK_pr, putP_new, List.take_add_one, hz, List.map_append]
      · rfl
      · rw [List.map_map, show ((fun p : Str × Int => p.1) ∘ fun z => (z, val z)) = id from rfl, List.map_id]
        intro m
        obtain ⟨j, hj, e⟩ := List.mem_iff_getElem.mp m
        rw [List.length_take] at hj
        rw [List.getElem_take] at e
        have lt : j < zs.length := by omega
        have := (List.getElem?_inj (i := j) (j := i) lt nd).mp (by rw [List.getElem?_eq_getElem lt, hz, e])
        omega
  · have e : i = zs.length := by omega
    refine .inl ⟨⟨_, q, by rw [List.length_map]; omega⟩, hd H sm ?_⟩
    rw [e, List.take_length] at h
    exact h
end Gd

/-! Gd18: dict(..) and tuple(..) with the new heap told by what is known of it; classes made, properties read. -/
namespace Gd
open PySem PySem.Spec PyProof.Rows L2 L2.DX
def mergeP (L M : List (Str × Int)) : List (Str × Int) := M.foldl (fun acc e => putP acc e.1 e.2) L
theorem mergeK_pr : ∀ {M L : List (Str × Int)}, mergeK (pr L) (pr M) = pr (mergeP L M)
  | [], L => rfl
  | (k, v) :: r, L => by
    show mergeK (putK (pr L) (Sum.inr k) (V.int v)) (pr r) = _
    rw [putK_pr, mergeK_pr]
    rfl
theorem mergeP_new : ∀ {M L : List (Str × Int)}, ((L ++ M).map (·.1)).Nodup → mergeP L M = L ++ M
  | [], L, _ => (List.append_nil L).symm
  | (k, v) :: r, L, nd => by
    have e1 : ((L ++ (k, v) :: r).map (·.1)) = L.map (·.1) ++ k :: r.map (·.1) := by rw [List.map_append]; rfl
    have h1 : k ∉ L.map (·.1) := fun m => by
      rw [e1] at nd
      exact (List.nodup_append.mp nd).2.2 k m k (List.mem_cons_self ..) rfl
    show mergeP (putP L k v) r = _
    rw [putP_new h1, mergeP_new (by rw [List.append_assoc]; exact nd), List.append_assoc]
    rfl
theorem nodup_mergeP : ∀ {M L : List (Str × Int)}, (L.map (·.1)).Nodup → ((mergeP L M).map (·.1)).Nodup
  | [], L, nd => nd
  | (k, v) :: r, L, nd => nodup_mergeP (M := r) (nodup_putP (k := k) (v := v) nd)
theorem mem_mergeP {z : Str} : ∀ {M L : List (Str × Int)}, z ∈ (mergeP L M).map (·.1) ↔ z ∈ L.map (·.1) ∨ z ∈ M.map (·.1)
  | [], L => ⟨.inl, fun h => h.elim id fun h => (nomatch h)⟩
  | (k, v) :: r, L => by
    show z ∈ (mergeP (putP L k v) r).map (·.1) ↔ _
    rw [mem_mergeP, mem_putP, List.map_cons, List.mem_cons]
    constructor
    · rintro ((h | h) | h)
      · exact .inr (.inl h)
      · exact .inl h
      · exact .inr (.inr h)
    · rintro (h | h | h)
      · exact .inl (.inr h)
      · exact .inl (.inl h)
      · exact .inr h
theorem all_putP {p : Int → Prop} {L : List (Str × Int)} {k : Str} {v : Int} (h : ∀ e ∈ L, p e.2) (hv : p v) : ∀ e ∈ putP L k v, p e.2 := by
  intro e m
  unfold putP at m
  split at m
  · obtain ⟨f, mf, rfl⟩ := List.mem_map.mp m
    split
    · exact hv
    · exact h f mf
  · rcases List.mem_append.mp m with m | m
    · exact h e m
    · obtain rfl : e = (k, v) := by simpa using m
      exact hv
theorem all_mergeP {p : Int → Prop} : ∀ {M L : List (Str × Int)}, (∀ e ∈ L, p e.2) → (∀ e ∈ M, p e.2) → ∀ e ∈ mergeP L M, p e.2
  | [], L, h, _ => h
  | (k, v) :: r, L, h, h' => all_mergeP (M := r) (all_putP h (h' (k, v) (List.mem_cons_self ..))) fun e m => h' e (List.mem_cons_of_mem _ m)
section
variable {X : Cx}
/-- dict(d), d a dict of prices: a copy -/
def rDictC : List V → Hp → VK → Prop := fun xs H Q => ∃ a L, xs = [.ref a] ∧ Rd H a (.dK (pr L)) ∧ New H (.dK (pr L)) Q
theorem call_dictC : CallR X (.type "dict") rDictC := call_weak call_dictD fun _ _ _ ⟨a, L, h1, h2, n⟩ => ⟨a, pr L, h1, h2, n.use⟩
/-- dict(xs), xs a list of pairs -/
def rDictL : List V → Hp → VK → Prop := fun xs H Q => ∃ a L, xs = [.ref a] ∧ PairsAt H a L ∧ New H (.dK (pr (mergeP [] L))) Q
theorem call_dictL (hc : X.calm = true) : CallR X (.type "dict") rDictL := call_weak (call_dictP hc) fun xs H Q ⟨a, L, h1, ⟨ps, h2, h3⟩, n⟩ => by
  refine ⟨a, ps, pr L, h1, sq_lst h2, ?_, ?_⟩
  · clear h2 n
    induction h3 with
    | nil => exact .nil
    | cons h _ ih => exact .cons (sq_tup h) ih
  · have e : mergeK [] (pr L) = pr (mergeP [] L) := mergeK_pr (L := [])
    rw [e]
    exact n.use
/-- tuple(xs) -/
def rTupleN (K : PySem.W.Frag) : List V → Hp → VK → Prop := fun xs H Q => ∃ p ys, xs = [.ref p] ∧ ((SqL K H p ys ∧ New H (.tup ys) Q) ∨ (SqT K H p ys ∧ Q (.ref p) H))
theorem call_tupleN : CallR X (.type "tuple") (rTupleN X.K) := call_weak call_tuple_of fun _ _ _ ⟨p, ys, h1, h⟩ => ⟨p, ys, h1, h.imp (fun h => ⟨h.1, h.2.use⟩) id⟩
/-- list(d): its keys -/
def rListD' : List V → Hp → VK → Prop := fun xs H Q => ∃ a L, xs = [.ref a] ∧ Rd H a (.dK (pr L)) ∧ New H (.lst (L.map fun p => V.str p.1)) Q
theorem call_listD' (hc : X.calm = true) : CallR X (.type "list") rListD' := call_weak (call_listD hc) fun _ _ _ ⟨a, L, h1, h2, n⟩ => ⟨a, pr L, h1, h2, by
  have e : (pr L).map (fun kv => kV kv.1) = L.map fun p => V.str p.1 := by
    unfold pr
    rw [List.map_map]
    rfl
  rw [e]
  exact n.use⟩
/-- sorted(d): its keys, ascending -/
def rSortedD : List V → Hp → VK → Prop := fun xs H Q => ∃ a L, xs = [.ref a] ∧ Rd H a (.dK (pr L)) ∧ L.length < 64 ∧ New H (.lst ((sortT (L.map (·.1))).map V.str)) Q
theorem cr_sortedD (hc : X.calm = true) : CallR X (.builtin "sorted") rSortedD := call_weak (call_sortedD hc) fun _ _ _ ⟨a, L, h1, h2, h3, n⟩ => ⟨a, pr L, L.map (·.1), h1, h2, by
  unfold pr
  rw [List.map_map, List.map_map]
  rfl, by rw [List.length_map]; exact h3, fun ys p pm so hp => by
    rw [sortT_eq_of so pm]
    exact n.use p hp⟩
/-- sorted(xs), xs a list of few texts -/
def rSortedL (K : PySem.W.Frag) : List V → Hp → VK → Prop := fun xs H Q => ∃ a zs, xs = [.ref a] ∧ SqL K H a (zs.map V.str) ∧ zs.length < 64 ∧ New H (.lst ((sortT zs).map V.str)) Q
/-- len(d) -/
def rLenP : List V → Hp → VK → Prop := fun xs H Q => ∃ a L, xs = [.ref a] ∧ H a = some (.dK (pr L)) ∧ Q (.int L.length) H
theorem call_lenP : CallR X (.builtin "len") rLenP := call_weak call_lenD fun _ _ _ ⟨a, L, h1, h2, q⟩ => ⟨a, pr L, h1, h2, by rw [pr_len]; exact q⟩
variable {k : Nat} {x m : Str} {f C p g : Addr} {ps : List Str} {sp : Sp} {pp pos : Pos} {e : Expr} {es : List Expr} {t : TA} {ta : TE}
theorem pe_makeD (M : Mk X.K C f) (D : Dk X.prog X.w X.K X.mg X.base k f ps sp) (hr : Room (k + 1) X.A) (hg : Gl X x) (hm : X.mg x = some (.ref C)) (ha : PA X (e :: es) t) (hdb : (x == ("__debug__" : Str)) = false := by decide)
    (he : starEach (e :: es) X.env = (false, eval e X.env) :: starEach es X.env := by rfl) (hpl : (backTo pos (starEach es X.env)).any (·.1) = false := by rfl) : PE X (.Call (.Name x pp) (e :: es) [] pos) (tMake C sp [] E0 t) := by
  obtain ⟨fd, F, hb⟩ := D.ex
  exact pe_make M F hr hg hm hb .nil pass0 ha hdb he hpl
theorem pe_propD (he : PE X e ta) (c : Cls X.K C) (hp : PropOf X.K C m p g) (D : Dk X.prog X.w X.K X.mg X.base k g ps sp) (hr : Room (k + 1) X.A) (hab : attributeBase e m X.env (eval e X.env) = eval e X.env) : PE X (.Attribute e m pos) (tProp C sp [] E0 ta) := by
  obtain ⟨fd, F, hb⟩ := D.ex
  exact pe_prop he c hp F hr hb .nil pass0 hab
theorem pe_methD {o : Expr} {apos : Pos} {pl : Sem Bool} (he : PE X o ta) (c : Cls X.K C) (hm : Meth X.K C m f) (D : Dk X.prog X.w X.K X.mg X.base k f ps sp) (hr : Room k X.A) (ha : PA X (e :: es) t)
    (hst : starEach (e :: es) X.env = (false, eval e X.env) :: starEach es X.env := by rfl) (hpl : (backTo pos (starEach es X.env)).any (·.1) = false := by rfl)
    (ht : eval (.Call (.Attribute o m apos) (e :: es) [] pos) X.env = (do
      let ov ← eval o X.env
      standAt apos.atName
      let (f, first) ← holding [ov] (getMethod ov m pl)
      callWith pos f first (backTo pos (starEach (e :: es) X.env)) (backToKw pos (keywordEach [] X.env))) := by rfl) :
    PE X (.Call (.Attribute o m apos) (e :: es) [] pos) (tMeth C m sp [] E0 ta t) := by
  obtain ⟨fd, F, hb⟩ := D.ex
  exact pe_meth he c hm F hr hb .nil pass0 ha hst hpl ht
theorem pe_fldK {K : PySem.W.Frag} {fl : Str} (he : PE X e ta) (hK : X.K = K) (hb : attributeBase e fl X.env (eval e X.env) = eval e X.env) : PE X (.Attribute e fl pos) (tFld K ta fl) := by
  subst hK
  exact pe_fld he hb
variable {T : String} {name : Str} {id : String} {r : V → List V → Hp → VK → Prop} {o : Expr} {to : TE} {apos cpos : Pos}
theorem pe_bm0K {K : PySem.W.Frag} (pa : PlainAttrs T) (slot : Slot T name id) (hty : typeOf (.builtin id) = pure (.type "method_descriptor")) (hm : MtR X id r) (ho : PE X o to) (hK : X.K = K)
    (hbase : attributeBase o name X.env (eval o X.env) = eval o X.env := by rfl) (hline : (apos.endLine == cpos.line) = true := by rfl) : PE X (.Call (.Attribute o name apos) [] [] cpos) (tBM0 K T r to) := by
  subst hK
  exact pe_bm0 pa slot hty hm ho hbase hline
theorem pe_bmK {K : PySem.W.Frag} (pa : PlainAttrs T) (slot : Slot T name id) (hty : typeOf (.builtin id) = pure (.type "method_descriptor")) (hm : MtR X id r) (ho : PE X o to) (ha : PA X (e :: es) t) (hK : X.K = K)
    (hbase : attributeBase o name X.env (eval o X.env) = eval o X.env := by rfl)
    (hfew : ((backTo cpos (starEach (e :: es) X.env)).all (fun x => !x.1) && (backToKw cpos (keywordEach [] X.env)).all (fun x => x.1.isSome)
      && decide ((e :: es).length + ([] : List Keyword).length + (if ([] : List Keyword).isEmpty then 0 else 1) < 30)) = true := by rfl)
    (hline : (apos.endLine == cpos.line) = true := by rfl) (hs : starEach (e :: es) X.env = (false, eval e X.env) :: starEach es X.env := by rfl) (hplain : (backTo cpos (starEach es X.env)).any (·.1) = false := by rfl) :
    PE X (.Call (.Attribute o name apos) (e :: es) [] cpos) (tBM K T r to t) := by
  subst hK
  exact pe_bm pa slot hty hm ho ha hbase hfew hline hs hplain
end
end Gd

/-! M4: what prices a book takes -/
namespace Gd
open PySem PySem.Spec PyProof.Rows L2
def isPrice : V → Bool
  | .int i => decide (1 ≤ i ∧ i ≤ 99)
  | _ => false
/-- the signs of these texts, one by one -/
def sgs (zs : List Str) : List Str := (zs.map fun z => z.cps.toList.map sg).flatten
theorem join_sgs (zs : List Str) : (Txt.join (Str.ofString "") zs).cps.toList.map sg = sgs zs := by
  rw [join0, List.map_flatten, List.map_map]
  rfl
theorem len_sgs : ∀ zs : List Str, (sgs zs).length = (zs.map (·.length)).sum
  | [] => rfl
  | z :: r => by
    show ((z.cps.toList.map sg) ++ sgs r).length = z.length + (r.map (·.length)).sum
    rw [List.length_append, List.length_map, len_sgs, str_len]
theorem len_join (zs : List Str) : (Txt.join (Str.ofString "") zs).length = (zs.map (·.length)).sum := by
  rw [← len_sgs, ← join_sgs, List.length_map, str_len]
theorem nodup_le : ∀ {l xs : List Str}, l.Nodup → (∀ k ∈ l, k ∈ xs) → l.length ≤ xs.length
  | [], _, _, _ => Nat.zero_le _
  | a :: r, xs, nd, sub => by
    obtain ⟨h1, h2⟩ := List.nodup_cons.mp nd
    have ma := sub a (List.mem_cons_self ..)
    have ih := nodup_le (l := r) (xs := xs.erase a) h2 fun k m => (List.mem_erase_of_ne (a := k) (b := a) fun e => h1 (e ▸ m)).mpr (sub k (List.mem_cons_of_mem _ m))
    rw [List.length_erase_of_mem ma] at ih
    have pos := List.length_pos_of_mem ma
    rw [List.length_cons]
    omega
theorem few_of {xs : List Str} (h : xs.length ≤ 4000) : FewIn xs := fun l nd sub => by
  have le : l.length ≤ xs.length := nodup_le nd sub
  have e : scanBound = 4096 := rfl
  omega
/-- the signs of the pieces, ascending -/
def sigsP (L : List (Str × Int)) : List Str := ascT (sgs (L.map (·.1)))
/-- whether a dict from texts to integers makes a book -/
def arePr (L : List (Str × Int)) : Bool := decide (1 ≤ L.length ∧ L.length ≤ 12) && (L.all fun e => isPiece (.str e.1) && isPrice (.int e.2)) && decide ((sigsP L).length ≤ 4) && (sigsP L).all fun z => (L.lookup z).isSome
theorem sum_five : ∀ {zs : List Str}, (∀ z ∈ zs, z.length ≤ 5) → (zs.map (·.length)).sum ≤ 5 * zs.length
  | [], _ => Nat.le_refl _
  | z :: r, h => by
    have h1 := h z (List.mem_cons_self ..)
    have h2 := sum_five (zs := r) fun y m => h y (List.mem_cons_of_mem _ m)
    rw [List.map_cons, List.sum_cons, List.length_cons]
    omega
theorem piece_len {x : Str} (h : isPiece (.str x) = true) : 1 ≤ x.length ∧ x.length ≤ 5 := by
  rw [isPiece_str, Bool.and_eq_true] at h
  exact of_decide_eq_true h.2
theorem piece_low {x : Str} (h : isPiece (.str x) = true) : ∀ c ∈ x.cps.toList, low c = true := by
  rw [isPiece_str, Bool.and_eq_true, isText_str, Bool.and_eq_true] at h
  exact List.all_eq_true.mp h.1.2
end Gd

/-! M5: a book as it stands -/
namespace Gd
open PySem PySem.Spec PyProof.Rows L2
theorem lookup_nodup : ∀ {L : List (Str × Int)}, (L.map (·.1)).Nodup → ∀ e ∈ L, L.lookup e.1 = some e.2
  | [], _, e, m => by cases m
  | (k, v) :: r, nd, e, m => by
    obtain ⟨h1, h2⟩ := List.nodup_cons.mp nd
    rcases List.mem_cons.mp m with rfl | m
    · exact List.lookup_cons_self
    · have ne : (e.1 == k) = false := beq_eq_false_iff_ne.mpr fun z => h1 (List.mem_map.mpr ⟨e, m, z⟩)
      rw [List.lookup_cons, ne]
      exact lookup_nodup h2 e m
theorem lookup_mem : ∀ {L : List (Str × Int)} {z : Str} {v : Int}, L.lookup z = some v → (z, v) ∈ L
  | [], z, v, h => by cases h
  | (k, u) :: r, z, v, h => by
    rw [List.lookup_cons] at h
    by_cases e : z = k
    · rw [show (z == k) = true from beq_iff_eq.mpr e] at h
      have : u = v := Option.some.inj h
      rw [e, this]
      exact List.mem_cons_self ..
    · rw [show (z == k) = false from beq_eq_false_iff_ne.mpr e] at h
      exact List.mem_cons_of_mem _ (lookup_mem h)
/-- the prices by ascending pieces -/
def sortP (L : List (Str × Int)) : List (Str × Int) := (sortT (L.map (·.1))).map fun z => (z, (L.lookup z).getD 0)
theorem sortP_keys (L : List (Str × Int)) : (sortP L).map (·.1) = sortT (L.map (·.1)) := by
  unfold sortP
  rw [List.map_map]
  exact List.map_id' _
theorem sortP_asc (L : List (Str × Int)) : AscP (sortP L) := by
  unfold AscP
  rw [sortP_keys]
  exact sortT_sorted _
theorem sortP_nodup {L : List (Str × Int)} (nd : (L.map (·.1)).Nodup) : ((sortP L).map (·.1)).Nodup := by
  rw [sortP_keys]
  exact (sortT_perm _).nodup_iff.mpr nd
theorem sortP_len (L : List (Str × Int)) : (sortP L).length = L.length := by
  have h := congrArg List.length (sortP_keys L)
  rw [List.length_map, (sortT_perm _).length_eq, List.length_map] at h
  exact h
theorem mem_sortP {L : List (Str × Int)} (nd : (L.map (·.1)).Nodup) {e : Str × Int} : e ∈ sortP L ↔ e ∈ L := by
  unfold sortP
  rw [List.mem_map]
  constructor
  · rintro ⟨z, m, rfl⟩
    obtain ⟨f, mf, rfl⟩ := List.mem_map.mp ((sortT_perm _).mem_iff.mp m)
    rw [lookup_nodup nd f mf]
    exact mf
  · intro m
    refine ⟨e.1, (sortT_perm _).mem_iff.mpr (List.mem_map.mpr ⟨e, m, rfl⟩), ?_⟩
    rw [lookup_nodup nd e m]
    rfl
theorem lookup_eq {L M : List (Str × Int)} (n1 : (L.map (·.1)).Nodup) (n2 : (M.map (·.1)).Nodup) (h : ∀ e, e ∈ L ↔ e ∈ M) (z : Str) : L.lookup z = M.lookup z := by
  cases e1 : L.lookup z with
  | some v => exact (lookup_nodup n2 (z, v) ((h _).mp (lookup_mem e1))).symm
  | none =>
    cases e2 : M.lookup z with
    | none => rfl
    | some v =>
      have := lookup_nodup n1 (z, v) ((h _).mpr (lookup_mem e2))
      rw [e1] at this
      cases this
theorem lookup_sortP {L : List (Str × Int)} (nd : (L.map (·.1)).Nodup) (z : Str) : (sortP L).lookup z = L.lookup z := lookup_eq (sortP_nodup nd) nd (fun _ => mem_sortP nd) z
theorem ascT_eq {xs ys : List Str} (h : ∀ z, z ∈ xs ↔ z ∈ ys) : ascT xs = ascT ys :=
  sorted_unique (sortT_sorted _) (sortT_sorted _) (((sortT_perm _).trans (nodup_perm (nodup_uniq xs) (nodup_uniq ys) fun z => by rw [mem_uniq, mem_uniq, h])).trans (sortT_perm _).symm)
theorem mem_sgs {z : Str} {zs : List Str} : z ∈ sgs zs ↔ ∃ x ∈ zs, ∃ c ∈ x.cps.toList, z = sg c := by
  unfold sgs
  simp only [List.mem_flatten, List.mem_map]
  constructor
  · rintro ⟨l, ⟨x, mx, rfl⟩, ml⟩
    obtain ⟨c, mc, ec⟩ := List.mem_map.mp ml
    exact ⟨x, mx, c, mc, ec.symm⟩
  · rintro ⟨x, mx, c, mc, rfl⟩
    exact ⟨_, ⟨x, mx, rfl⟩, List.mem_map.mpr ⟨c, mc, rfl⟩⟩
theorem sigsP_eq {L M : List (Str × Int)} (h : ∀ z, z ∈ L.map (·.1) ↔ z ∈ M.map (·.1)) : sigsP L = sigsP M := ascT_eq fun z => by
  rw [mem_sgs, mem_sgs]
  exact ⟨fun ⟨x, mx, r⟩ => ⟨x, (h x).mp mx, r⟩, fun ⟨x, mx, r⟩ => ⟨x, (h x).mpr mx, r⟩⟩
theorem all_mem {α : Type} {p : α → Bool} {l m : List α} (h : ∀ e, e ∈ l ↔ e ∈ m) : l.all p = m.all p := by
  rw [Bool.eq_iff_iff, List.all_eq_true, List.all_eq_true]
  exact ⟨fun f e m => f e ((h e).mpr m), fun f e m => f e ((h e).mp m)⟩
theorem arePr_eq {L M : List (Str × Int)} (n1 : (L.map (·.1)).Nodup) (n2 : (M.map (·.1)).Nodup) (h : ∀ e, e ∈ L ↔ e ∈ M) (l : L.length = M.length) : arePr L = arePr M := by
  have hk : ∀ z, z ∈ L.map (·.1) ↔ z ∈ M.map (·.1) := fun z => by
    rw [List.mem_map, List.mem_map]
    exact ⟨fun ⟨e, m, q⟩ => ⟨e, (h e).mp m, q⟩, fun ⟨e, m, q⟩ => ⟨e, (h e).mpr m, q⟩⟩
  unfold arePr
  rw [l, all_mem h, sigsP_eq hk]
  congr 1
  congr 1
  funext z
  rw [lookup_eq n1 n2 h]
theorem arePr_sortP {L : List (Str × Int)} (nd : (L.map (·.1)).Nodup) : arePr (sortP L) = arePr L := arePr_eq (sortP_nodup nd) nd (fun _ => mem_sortP nd) (sortP_len L)
/-- m is the greatest of these -/
def IsMx (m : Int) (l : List Int) : Prop := m ∈ l ∧ ∀ j ∈ l, j ≤ m
/-- the attributes of a book -/
def flds (d t al : Addr) (m n : Int) : List (Str × V) := [("_prices", .ref d), ("_pieces", .ref t), ("_alphabet", .ref al), ("_longest", .int m), ("_dearest", .int n)]
/-- a book of these prices stands at b -/
structure BookAt (C : Addr) (H : Hp) (b : Addr) (L : List (Str × Int)) : Prop where
  ex : ∃ dx d t al m n, H b = some (.ins C dx (flds d t al m n)) ∧ H d = some (.dK (pr L)) ∧ H t = some (.tup (L.map fun p => V.str p.1)) ∧ H al = some (.tup ((sigsP L).map V.str)) ∧ IsMx m (L.map fun e => (e.1.length : Int)) ∧ IsMx n (L.map (·.2))
  asc : AscP L
  nd : (L.map (·.1)).Nodup
  good : arePr L = true
theorem BookAt.up {C : Addr} {H H' : Hp} {b : Addr} {L : List (Str × Int)} (B : BookAt C H b L) (k : Same H H') : BookAt C H' b L := by
  obtain ⟨⟨dx, d, t, al, m, n, h1, h2, h3, h4, h5⟩, r1, r2, r3⟩ := B
  exact ⟨⟨dx, d, t, al, m, n, k _ _ h1, k _ _ h2, k _ _ h3, k _ _ h4, h5⟩, r1, r2, r3⟩
/-- what good prices are -/
theorem good_len {L : List (Str × Int)} (g : arePr L = true) : 1 ≤ L.length ∧ L.length ≤ 12 := by
  unfold arePr at g
  simp only [Bool.and_eq_true] at g
  exact of_decide_eq_true g.1.1.1
theorem good_all {L : List (Str × Int)} (g : arePr L = true) : ∀ e ∈ L, isPiece (.str e.1) = true ∧ 1 ≤ e.2 ∧ e.2 ≤ 99 := fun e m => by
  unfold arePr at g
  simp only [Bool.and_eq_true] at g
  have h := List.all_eq_true.mp g.1.1.2 e m
  rw [Bool.and_eq_true] at h
  exact ⟨h.1, of_decide_eq_true h.2⟩
theorem good_sigs {L : List (Str × Int)} (g : arePr L = true) : (sigsP L).length ≤ 4 := by
  unfold arePr at g
  simp only [Bool.and_eq_true] at g
  exact of_decide_eq_true g.1.2
theorem good_has {L : List (Str × Int)} (g : arePr L = true) : ∀ z ∈ sigsP L, z ∈ L.map (·.1) := fun z m => by
  unfold arePr at g
  simp only [Bool.and_eq_true] at g
  exact mem_look.mpr (List.all_eq_true.mp g.2 z m)
/-- all but b stays -/
def SameB (b : Addr) (H H' : Hp) : Prop := ∀ c o, c ≠ b → H c = some o → H' c = some o
theorem sameB_of {b : Addr} {H H' : Hp} (k : Same H H') : SameB b H H' := fun c o _ e => k c o e
theorem SameB.step {b : Addr} {H H1 H2 : Hp} {o : HO} (k : SameB b H H1) (s : Same H1 H2) : SameB b H (upd H2 b o) := fun c u n e => by
  rw [upd_ne n]
  exact s c u (k c u n e)
theorem new_at {H : Hp} {b p : Addr} {x y o : HO} (ab : H b = some x) (ap : H p = some o) (ne : o ≠ x) : upd H b y p = some o := by
  rw [upd_ne (ne_of ap ab ne)]
  exact ap
end Gd

/-! Gd19: loops over d.items() and over the keys of d; what / and & make of two price lists -/
namespace Gd
open PySem PySem.Spec PyProof.Rows L2 L2.DX
/-- for k, v in d.items(): Pv by the turn, the frame's values and the heap -/
theorem for_itemsG {d : Addr} {o : Obj} {L : List (Str × Int)} {g : TG} {tb : TS} {D : Ends} {σ : L2.St} {H : Hp} (Pv : Nat → L2.St → Hp → Prop) (h0 : Pv 0 σ H) (hd : ∀ i σ H, i ≤ L.length → Pv i σ H → H d = some (.frz o (.dK (pr L))))
    (hs : ∀ i e σ H T, L[i]? = some e → Pv i σ H → H T = none → g (.ref T) σ (upd H T (.tup [.str e.1, .int e.2])) fun σ2 H2 => tb { D with nx := Pv (i + 1), ct := Pv (i + 1), bk := D.nx } σ2 H2) (hend : ∀ σ H, Pv L.length σ H → D.nx σ H) :
    ∃ W : Nat → Nat → L2.St → Hp → Prop, (∃ m, W 0 m σ H) ∧ ∀ i m σ H, W i m σ H →
      ((Iti d o (pr L)).stop i H ∧ D.nx σ H) ∨ ((Iti d o (pr L)).go i H ∧ ∃ N : L2.St → Hp → Prop, (∀ σ' H', N σ' H' → ∃ m', m' < m ∧ W (i + 1) m' σ' H') ∧ ∀ x H', (Iti d o (pr L)).yld i H x H' → g x σ H' fun σ2 H2 => tb { D with nx := N, ct := N, bk := D.nx } σ2 H2) := by
  refine ⟨fun i m σ H => m = L.length - i ∧ i ≤ L.length ∧ Pv i σ H, ⟨L.length - 0, rfl, Nat.zero_le _, h0⟩, ?_⟩
  rintro i m σ H ⟨rfl, hi, p⟩
  have at_d := hd i σ H hi p
  by_cases hlt : i < L.length
  · refine .inr ⟨⟨at_d, by rw [pr_len]; exact hlt⟩, Pv (i + 1), fun σ' H' p' => ⟨L.length - (i + 1), by omega, rfl, hlt, p'⟩, fun x H' y => ?_⟩
    obtain ⟨T, k, v, hk, rfl, hT, rfl⟩ := y
    obtain ⟨e, he, rfl, rfl⟩ := pr_get hk
    exact hs i e σ H T he p hT
  · have e : i = L.length := by omega
    subst e
    exact .inl ⟨⟨at_d, by rw [pr_len]; exact Nat.le_refl _⟩, hend σ H p⟩
/-- for k in d -/
theorem for_keysG {d : Addr} {o : Obj} {L : List (Str × Int)} {g : TG} {tb : TS} {D : Ends} {σ : L2.St} {H : Hp} (Pv : Nat → L2.St → Hp → Prop) (h0 : Pv 0 σ H) (hd : ∀ i σ H, i ≤ L.length → Pv i σ H → H d = some (.frz o (.dK (pr L))))
    (hs : ∀ i e σ H, L[i]? = some e → Pv i σ H → g (.str e.1) σ H fun σ2 H2 => tb { D with nx := Pv (i + 1), ct := Pv (i + 1), bk := D.nx } σ2 H2) (hend : ∀ σ H, Pv L.length σ H → D.nx σ H) :
    ∃ W : Nat → Nat → L2.St → Hp → Prop, (∃ m, W 0 m σ H) ∧ ∀ i m σ H, W i m σ H →
      ((Itk d o (pr L)).stop i H ∧ D.nx σ H) ∨ ((Itk d o (pr L)).go i H ∧ ∃ N : L2.St → Hp → Prop, (∀ σ' H', N σ' H' → ∃ m', m' < m ∧ W (i + 1) m' σ' H') ∧ ∀ x H', (Itk d o (pr L)).yld i H x H' → g x σ H' fun σ2 H2 => tb { D with nx := N, ct := N, bk := D.nx } σ2 H2) := by
  refine ⟨fun i m σ H => m = L.length - i ∧ i ≤ L.length ∧ Pv i σ H, ⟨L.length - 0, rfl, Nat.zero_le _, h0⟩, ?_⟩
  rintro i m σ H ⟨rfl, hi, p⟩
  have at_d := hd i σ H hi p
  by_cases hlt : i < L.length
  · refine .inr ⟨⟨at_d, by rw [pr_len]; exact hlt⟩, Pv (i + 1), fun σ' H' p' => ⟨L.length - (i + 1), by omega, rfl, hlt, p'⟩, fun x H' y => ?_⟩
    obtain ⟨rfl, k, v, hk, rfl⟩ := y
    obtain ⟨e, he, rfl, rfl⟩ := pr_get hk
    exact hs i e σ _ he p
  · have e : i = L.length := by omega
    subst e
    exact .inl ⟨⟨at_d, by rw [pr_len]; exact Nat.le_refl _⟩, hend σ H p⟩
/-- what stays under a lock, but for b -/
theorem sameB_lock {b d : Addr} {H H2 : Hp} {u f : HO} (hd : H d = some u) (sm : SameB b (upd H d f) H2) : SameB b H (upd H2 d u) := fun c o n e => by
  by_cases h : c = d
  · subst h
    rw [hd] at e
    cases e
    exact upd_same
  · rw [upd_ne h]
    exact sm c o n (by rw [upd_ne h]; exact e)
theorem same_of_new {p : Addr} {H H1 H2 : Hp} (hp : H p = none) (s1 : Same H H1) (s2 : SameB p H1 H2) : Same H H2 := fun c o e => s2 c o (fun z => by
  rw [z, hp] at e
  cases e) (s1 c o e)
/-- the prices of one / another -/
def lesser (i j : Int) : Int := if j < i then j else i
def orP (L M : List (Str × Int)) : List (Str × Int) := M.foldl (fun acc e => putP acc e.1 (lesser e.2 ((acc.lookup e.1).getD e.2))) L
def greater (i j : Int) : Int := if j > i then j else i
def andP (L M : List (Str × Int)) : List (Str × Int) := ((L.map (·.1)).filter fun z => (M.lookup z).isSome).map fun z => (z, greater ((L.lookup z).getD 0) ((M.lookup z).getD 0))
theorem orP_snoc (L M : List (Str × Int)) (e : Str × Int) : orP L (M ++ [e]) = putP (orP L M) e.1 (lesser e.2 (((orP L M).lookup e.1).getD e.2)) := by
  unfold orP
  rw [List.foldl_append]
  rfl
theorem orP_nodup : ∀ (M L : List (Str × Int)), (L.map (·.1)).Nodup → ((orP L M).map (·.1)).Nodup
  | [], _, nd => nd
  | e :: r, L, nd => orP_nodup r (putP L e.1 (lesser e.2 ((L.lookup e.1).getD e.2))) (nodup_putP nd)
theorem orP_len : ∀ (M L : List (Str × Int)), (orP L M).length ≤ L.length + M.length
  | [], L => Nat.le_refl _
  | e :: r, L => by
    have h1 := orP_len r (putP L e.1 (lesser e.2 ((L.lookup e.1).getD e.2)))
    have h2 : (putP L e.1 (lesser e.2 ((L.lookup e.1).getD e.2))).length ≤ L.length + 1 := by
      unfold putP
      split
      · rw [List.length_map]
        omega
      · rw [List.length_append]
        exact Nat.le_refl _
    have h3 : (orP L (e :: r)) = orP (putP L e.1 (lesser e.2 ((L.lookup e.1).getD e.2))) r := rfl
    rw [h3, List.length_cons]
    omega
theorem andP_nodup {L M : List (Str × Int)} (nd : (L.map (·.1)).Nodup) : ((andP L M).map (·.1)).Nodup := by
  unfold andP
  rw [List.map_map]
  show (List.map id _).Nodup
  rw [List.map_id]
  exact nd.filter _
end Gd

/-! M6: least prices of texts -/
namespace Gd
open PySem PySem.Spec PyProof.Rows L2
def minL : List Int → Int
  | [] => 0
  | [x] => x
  | x :: y :: r => let m := minL (y :: r); if x ≤ m then x else m
theorem minL_spec : ∀ {l : List Int}, l ≠ [] → minL l ∈ l ∧ ∀ y ∈ l, minL l ≤ y
  | [], h => absurd rfl h
  | [x], _ => ⟨List.mem_singleton.mpr rfl, fun y m => by rw [List.mem_singleton.mp m]; exact Int.le_refl _⟩
  | x :: y :: r, _ => by
    obtain ⟨h1, h2⟩ := minL_spec (l := y :: r) (by simp)
    show (if x ≤ minL (y :: r) then x else minL (y :: r)) ∈ x :: y :: r ∧ ∀ z ∈ x :: y :: r, (if x ≤ minL (y :: r) then x else minL (y :: r)) ≤ z
    split
    · next h =>
      refine ⟨List.mem_cons_self .., fun z m => ?_⟩
      rcases List.mem_cons.mp m with rfl | m
      · exact Int.le_refl _
      · exact Int.le_trans h (h2 z m)
    · next h =>
      refine ⟨List.mem_cons_of_mem _ h1, fun z m => ?_⟩
      rcases List.mem_cons.mp m with rfl | m
      · omega
      · exact h2 z m
theorem minL_is {l : List Int} {m : Int} (h1 : m ∈ l) (h2 : ∀ y ∈ l, m ≤ y) : m = minL l := by
  obtain ⟨h3, h4⟩ := minL_spec (l := l) (List.ne_nil_of_mem h1)
  exact Int.le_antisymm (h2 _ h3) (h4 _ h1)
/-- the first n signs -/
def pre (z : Str) (n : Nat) : Str := cutS z none (some (n : Int))
theorem pre_list (z : Str) (n : Nat) : (pre z n).cps.toList = z.cps.toList.take n := by
  unfold pre
  rw [cutS_list, sIx_pos (Int.natCast_nonneg n), Int.toNat_natCast]
  show (z.cps.toList.drop 0).take (min n z.length - 0) = _
  rw [List.drop_zero, Nat.sub_zero, ← str_len, ← List.take_eq_take_min]
theorem pre_len {z : Str} {n : Nat} (h : n ≤ z.length) : (pre z n).length = n := by
  rw [← str_len, pre_list, List.length_take, str_len]
  omega
theorem ends_le {x y : Str} (h : Txt.endswith x y = true) : y.length ≤ x.length := by
  unfold Txt.endswith at h
  rw [Bool.and_eq_true] at h
  have := of_decide_eq_true h.1
  omega
/-- the pieces with which the first n signs end -/
def lastP (L : List (Str × Int)) (z : Str) (n : Nat) : List (Str × Int) := L.filter fun e => Txt.endswith (pre z n) e.1
def costsP (L : List (Str × Int)) (z : Str) (acc : List Int) (n : Nat) : List Int := (lastP L z n).map fun e => acc.getD (n - e.1.length) 0 + e.2
/-- the least prices of the first signs -/
def leastL (L : List (Str × Int)) (z : Str) : Nat → List Int
  | 0 => [0]
  | n + 1 => leastL L z n ++ [minL (costsP L z (leastL L z n) (n + 1))]
theorem leastL_len (L : List (Str × Int)) (z : Str) : ∀ n, (leastL L z n).length = n + 1
  | 0 => rfl
  | n + 1 => by
    show (leastL L z n ++ [_]).length = _
    rw [List.length_append, leastL_len L z n]
    rfl
def leastP (L : List (Str × Int)) (z : Str) : Int := (leastL L z z.length).getD z.length 0
theorem atI_last {α : Type} {xs : List α} {n : Nat} (h : xs.length = n + 1) : atI xs (-1) = xs[n]? := by
  unfold atI ixN
  rw [if_neg (by omega), if_pos (by omega), h]
  show xs[((-1 : Int) + ((n + 1 : Nat) : Int)).toNat]? = _
  rw [show ((-1 : Int) + ((n + 1 : Nat) : Int)).toNat = n by omega]
end Gd

/-! M7: tuples of texts compared -/
namespace Gd
open PySem PySem.Spec PyProof.Rows L2
theorem dp_strsAll {K : PySem.W.Frag} {H : Hp} : ∀ zs : List Str, DpAll K H (zs.map V.str) (zs.map PyData.str)
  | [] => .nil
  | z :: r => .cons (.str z) (dp_strsAll r)
theorem eqv_strsAll : ∀ xs ys : List Str, PyData.eqvAll (xs.map PyData.str) (ys.map PyData.str) = decide (xs = ys)
  | [], [] => by simp only [List.map_nil, PyData.eqvAll, decide_true]
  | [], _ :: _ => by simp [PyData.eqvAll]
  | _ :: _, [] => by simp [PyData.eqvAll]
  | x :: xs, y :: ys => by
    rw [List.map_cons, List.map_cons, PyData.eqvAll, eqv_strsAll xs ys]
    have e : PyData.eqv (.str x) (.str y) = decide (x = y) := by
      rw [PyData.eqv]
      by_cases h : x = y
      · rw [h, decide_eq_true rfl]
        exact beq_iff_eq.mpr rfl
      · rw [decide_eq_false h]
        exact beq_eq_false_iff_ne.mpr h
    rw [e]
    by_cases h1 : x = y <;> by_cases h2 : xs = ys <;> simp [h1, h2]
theorem eqv_strs (xs ys : List Str) : PyData.eqv (.tuple (xs.map PyData.str)) (.tuple (ys.map PyData.str)) = decide (xs = ys) := by
  rw [PyData.eqv]
  exact eqv_strsAll xs ys
theorem low_strOk : ∀ c : Fin 128, PyData.strOk (sg c.val) = true := by decide +kernel
theorem shaped_strs {zs : List Str} (h : ∀ z ∈ zs, PyData.strOk z = true) : SeqAt.shaped (.tuple (zs.map PyData.str)) = true := by
  have all : PyData.canLayAll0 (zs.map PyData.str) = true ∧ PyData.depthAll (zs.map PyData.str) = 0 := by
    induction zs with
    | nil => simp only [List.map_nil, PyData.canLayAll0, PyData.depthAll, and_self]
    | cons z r ih =>
      obtain ⟨i1, i2⟩ := ih fun y m => h y (List.mem_cons_of_mem _ m)
      simp only [List.map_cons, PyData.canLayAll0, PyData.canLay0, PyData.depthAll, PyData.depth, i1, i2, h z (List.mem_cons_self ..), Bool.and_self, true_and]
      rfl
  unfold SeqAt.shaped
  rw [Bool.and_eq_true]
  refine ⟨by rw [PyData.canLay0]; exact all.1, decide_eq_true ?_⟩
  rw [PyData.depth, all.2]
  decide
/-- the signs of good prices are small letters -/
theorem sigs_low {L : List (Str × Int)} (g : arePr L = true) : ∀ z ∈ sigsP L, ∃ c, low c = true ∧ z = sg c := fun z m => by
  obtain ⟨x, mx, c, mc, rfl⟩ := mem_sgs.mp (mem_ascT.mp m)
  obtain ⟨e, me, rfl⟩ := List.mem_map.mp mx
  exact ⟨c, piece_low (good_all g e me).1 c mc, rfl⟩
theorem sigs_ok {L : List (Str × Int)} (g : arePr L = true) : ∀ z ∈ sigsP L, PyData.strOk z = true := fun z m => by
  obtain ⟨c, hc, rfl⟩ := sigs_low g z m
  have lt : c < 128 := by
    have := of_decide_eq_true hc
    omega
  exact low_strOk ⟨c, lt⟩
theorem ends_sign {z : Str} {n c : Nat} (h : z.cps.toList[n]? = some c) : Txt.endswith (pre z (n + 1)) (sg c) = true := by
  have lt : n < z.length := by
    rw [← str_len]
    exact (List.getElem?_eq_some_iff.mp h).1
  have l1 : (pre z (n + 1)).length = n + 1 := pre_len lt
  have l2 : (sg c).length = 1 := rfl
  have at_n : (pre z (n + 1)).cps.toList[n]? = some c := by
    rw [pre_list, List.getElem?_take, if_pos (Nat.lt_succ_self n)]
    exact h
  obtain ⟨h1, h2⟩ := (PySem.StrLaws.subAt_one (pre z (n + 1)) c n).mpr at_n
  unfold Txt.endswith
  rw [Bool.and_eq_true]
  refine ⟨decide_eq_true (by rw [l1, l2]; omega), ?_⟩
  rw [l1, l2]
  exact h2
theorem last_ne {L : List (Str × Int)} {z : Str} (h : ∀ c ∈ z.cps.toList, sg c ∈ L.map (·.1)) : ∀ n, n < z.length → lastP L z (n + 1) ≠ [] := fun n lt => by
  have lt' : n < z.cps.toList.length := by
    rw [str_len]
    exact lt
  obtain ⟨e, me, ee⟩ := List.mem_map.mp (h _ (List.getElem_mem lt'))
  have : e ∈ lastP L z (n + 1) := List.mem_filter.mpr ⟨me, by rw [ee]; exact ends_sign (List.getElem?_eq_getElem lt')⟩
  exact List.ne_nil_of_mem this
/-- each sign of a piece of good prices is a piece of other prices with these signs -/
theorem sign_in {L M : List (Str × Int)} (g : arePr L = true) (same : sigsP L = sigsP M) {e : Str × Int} (m : e ∈ M) : ∀ c ∈ e.1.cps.toList, sg c ∈ L.map (·.1) := fun c mc => by
  refine good_has g _ ?_
  rw [same]
  exact mem_ascT.mpr (mem_sgs.mpr ⟨e.1, List.mem_map.mpr ⟨e, m, rfl⟩, c, mc, rfl⟩)
/-- the first piece that costs more by L -/
def dearer (L M : List (Str × Int)) : V := match M.find? fun e => decide (e.2 < leastP L e.1) with
  | some e => .str e.1
  | none => .non
theorem find_at {α : Type} {p : α → Bool} : ∀ {l : List α} {i : Nat} {e : α}, l[i]? = some e → p e = true → (∀ x ∈ l.take i, p x = false) → l.find? p = some e
  | [], i, e, h, _, _ => by simp at h
  | x :: r, 0, e, h, pe, _ => by
    have : x = e := by simpa using h
    subst this
    exact List.find?_cons_of_pos pe
  | x :: r, i + 1, e, h, pe, no => by
    have px := no x (by rw [List.take_succ_cons]; exact List.mem_cons_self ..)
    rw [List.find?_cons_of_neg (by rw [px]; exact Bool.false_ne_true)]
    exact find_at (i := i) (by simpa using h) pe fun y m => no y (by rw [List.take_succ_cons]; exact List.mem_cons_of_mem _ m)
theorem erase_perm {α : Type} : ∀ {l : List α} {k : Nat} (h : k < l.length), (l[k] :: l.eraseIdx k).Perm l
  | _ :: _, 0, _ => List.Perm.refl _
  | x :: r, k + 1, h => (List.Perm.swap x (r[k]'(Nat.lt_of_succ_lt_succ h)) _).trans ((erase_perm (l := r) (k := k) (Nat.lt_of_succ_lt_succ h)).cons x)
theorem eqv_listStrs (xs ys : List Str) : PyData.eqv (.list (xs.map PyData.str)) (.list (ys.map PyData.str)) = decide (xs = ys) := by
  rw [PyData.eqv]
  exact eqv_strsAll xs ys
theorem shaped_listStrs {zs : List Str} (h : ∀ z ∈ zs, PyData.strOk z = true) : SeqAt.shaped (.list (zs.map PyData.str)) = true := by
  have q := shaped_strs h
  have e1 : PyData.canLay0 (.list (zs.map PyData.str)) = PyData.canLay0 (.tuple (zs.map PyData.str)) := by simp only [PyData.canLay0]
  have e2 : PyData.depth (.list (zs.map PyData.str)) = PyData.depth (.tuple (zs.map PyData.str)) := by simp only [PyData.depth]
  unfold SeqAt.shaped at q ⊢
  rw [e1, e2]
  exact q
end Gd

/-! M8: price lists over some signs and some longer pieces; what / and & make of them is a book again -/
namespace Gd
open PySem PySem.Spec PyProof.Rows L2
/-- S: some letters; M: some pieces over them -/
structure Menu (S M : List Str) : Prop where
  few : S.length ≤ 4
  sign : ∀ z ∈ S, ∃ c, low c = true ∧ z = sg c
  many : M.length ≤ 8
  piece : ∀ z ∈ M, isPiece (.str z) = true ∧ ∀ c ∈ z.cps.toList, sg c ∈ S
/-- prices of some of them: the sign s is one of them, and with each piece its signs -/
structure Plain (S M : List Str) (s : Str) (L : List (Str × Int)) : Prop where
  nd : (L.map (·.1)).Nodup
  key : ∀ z ∈ L.map (·.1), z ∈ S ++ M
  price : ∀ e ∈ L, 1 ≤ e.2 ∧ e.2 ≤ 99
  first : s ∈ L.map (·.1)
  closed : ∀ z ∈ L.map (·.1), ∀ c ∈ z.cps.toList, sg c ∈ L.map (·.1)
theorem isPiece_sg {c : Nat} (h : low c = true) : isPiece (.str (sg c)) = true := by
  rw [isPiece_str, Bool.and_eq_true]
  exact ⟨isText_low (fun d hd => by
    have : d = c := by simpa using hd
    rw [this]
    exact h) (show (1 : Nat) ≤ 8000 by decide), decide_eq_true ⟨Nat.le_refl _, (show (1 : Nat) ≤ 5 by decide)⟩⟩
section
variable {S M : List Str} {s : Str} {L : List (Str × Int)}
theorem Menu.all (m : Menu S M) {z : Str} (h : z ∈ S ++ M) : isPiece (.str z) = true ∧ ∀ c ∈ z.cps.toList, sg c ∈ S := by
  rcases List.mem_append.mp h with h | h
  · obtain ⟨c, hc, rfl⟩ := m.sign z h
    refine ⟨isPiece_sg hc, fun d hd => ?_⟩
    have : d = c := by simpa using hd
    rw [this]
    exact h
  · exact m.piece z h
theorem Plain.good (m : Menu S M) (p : Plain S M s L) : arePr L = true := by
  have len : L.length ≤ (S ++ M).length := by
    have h := nodup_le p.nd p.key
    rw [List.length_map] at h
    exact h
  have pos : 1 ≤ L.length := by
    have h := List.length_pos_of_mem p.first
    rw [List.length_map] at h
    exact h
  have f := m.few
  have g := m.many
  rw [List.length_append] at len
  have sub : ∀ z ∈ sigsP L, z ∈ S ∧ z ∈ L.map (·.1) := fun z mz => by
    obtain ⟨x, mx, c, mc, rfl⟩ := mem_sgs.mp (mem_ascT.mp mz)
    exact ⟨(m.all (p.key x mx)).2 c mc, p.closed x mx c mc⟩
  unfold arePr
  simp only [Bool.and_eq_true]
  refine ⟨⟨⟨decide_eq_true ⟨pos, by omega⟩, List.all_eq_true.mpr fun e me => ?_⟩, decide_eq_true ?_⟩, List.all_eq_true.mpr fun z mz => mem_look.mp (sub z mz).2⟩
  · rw [Bool.and_eq_true]
    exact ⟨(m.all (p.key e.1 (List.mem_map.mpr ⟨e, me, rfl⟩))).1, decide_eq_true (p.price e me)⟩
  · have h := nodup_le (l := sigsP L) (nodup_ascT _) fun z mz => (sub z mz).1
    exact Nat.le_trans h m.few
end
/-! ### prices by pieces -/
def orO : Option Int → Option Int → Option Int
  | some i, some j => some (lesser j i)
  | some i, none => some i
  | none, j => j
def andO : Option Int → Option Int → Option Int
  | some i, some j => some (greater i j)
  | _, _ => none
theorem lookup_orP : ∀ {M L : List (Str × Int)}, (M.map (·.1)).Nodup → ∀ z : Str, (orP L M).lookup z = orO (L.lookup z) (M.lookup z)
  | [], L, _, z => by
    show L.lookup z = orO (L.lookup z) none
    cases L.lookup z <;> rfl
  | (k, v) :: r, L, nd, z => by
    obtain ⟨h1, h2⟩ := List.nodup_cons.mp nd
    show (orP (putP L k (lesser v ((L.lookup k).getD v))) r).lookup z = _
    rw [lookup_orP h2, lookup_putP, List.lookup_cons]
    by_cases e : z = k
    · rw [← e] at h1 ⊢
      have nr : r.lookup z = none := by
        cases q : r.lookup z with
        | none => rfl
        | some w => exact absurd (mem_look.mpr (by rw [q]; rfl)) h1
      rw [if_pos rfl, nr, show (z == z) = true from beq_iff_eq.mpr rfl]
      cases L.lookup z with
      | none =>
        show some (lesser v v) = some v
        unfold lesser
        rw [if_neg (Int.lt_irrefl _)]
      | some i => rfl
    · rw [if_neg e, show (z == k) = false from beq_eq_false_iff_ne.mpr e]
theorem lookup_andP {L M : List (Str × Int)} (z : Str) : (andP L M).lookup z = andO (L.lookup z) (M.lookup z) := by
  unfold andP
  have gen : ∀ {l : List Str} {f : Str → Int}, (l.map fun y => (y, f y)).lookup z = if z ∈ l then some (f z) else none := by
    intro l f
    induction l with
    | nil => rfl
    | cons y r ih =>
      rw [List.map_cons, List.lookup_cons, ih]
      by_cases e : z = y
      · subst e
        rw [show (z == z) = true from beq_iff_eq.mpr rfl, if_pos (List.mem_cons_self ..)]
      · rw [show (z == y) = false from beq_eq_false_iff_ne.mpr e]
        by_cases m : z ∈ r
        · rw [if_pos m, if_pos (List.mem_cons_of_mem _ m)]
        · rw [if_neg m, if_neg fun h => (List.mem_cons.mp h).elim e m]
  rw [gen]
  cases e1 : L.lookup z with
  | none =>
    exact if_neg fun h => by
      have := mem_look.mp (List.mem_filter.mp h).1
      rw [e1] at this
      cases this
  | some i =>
    cases e2 : M.lookup z with
    | none =>
      exact if_neg fun h => by
        have := (List.mem_filter.mp h).2
        rw [e2] at this
        cases this
    | some j =>
      rw [if_pos (List.mem_filter.mpr ⟨mem_look.mpr (by rw [e1]; rfl), by rw [e2]; rfl⟩)]
      rfl
theorem keys_orP {L M : List (Str × Int)} (nd : (M.map (·.1)).Nodup) {z : Str} : z ∈ (orP L M).map (·.1) ↔ z ∈ L.map (·.1) ∨ z ∈ M.map (·.1) := by
  rw [mem_look, mem_look, mem_look, lookup_orP nd]
  cases L.lookup z <;> cases M.lookup z <;> simp [orO, andO]
theorem keys_andP {L M : List (Str × Int)} {z : Str} : z ∈ (andP L M).map (·.1) ↔ z ∈ L.map (·.1) ∧ z ∈ M.map (·.1) := by
  rw [mem_look, mem_look, mem_look, lookup_andP]
  cases L.lookup z <;> cases M.lookup z <;> simp [orO, andO]
section
variable {S N : List Str} {s : Str} {L M : List (Str × Int)}
theorem price_of {L : List (Str × Int)} (p : ∀ e ∈ L, 1 ≤ e.2 ∧ e.2 ≤ 99) {z : Str} {i : Int} (h : L.lookup z = some i) : 1 ≤ i ∧ i ≤ 99 := p (z, i) (lookup_mem h)
theorem Plain.or (p : Plain S N s L) (q : Plain S N s M) : Plain S N s (orP L M) where
  nd := orP_nodup M L p.nd
  key := fun z mz => ((keys_orP q.nd).mp mz).elim (p.key z) (q.key z)
  price := fun e me => by
    have h := lookup_nodup (orP_nodup M L p.nd) e me
    rw [lookup_orP q.nd] at h
    cases e1 : L.lookup e.1 with
    | none =>
      cases e2 : M.lookup e.1 with
      | none =>
        rw [e1, e2] at h
        cases h
      | some j =>
        rw [e1, e2] at h
        rw [← Option.some.inj h]
        exact price_of q.price e2
    | some i =>
      cases e2 : M.lookup e.1 with
      | none =>
        rw [e1, e2] at h
        rw [← Option.some.inj h]
        exact price_of p.price e1
      | some j =>
        rw [e1, e2] at h
        rw [← Option.some.inj h]
        have h1 := price_of p.price e1
        have h2 := price_of q.price e2
        unfold lesser
        split
        · exact h1
        · exact h2
  first := (keys_orP q.nd).mpr (.inl p.first)
  closed := fun z mz c mc => (keys_orP q.nd).mpr (((keys_orP q.nd).mp mz).imp (fun h => p.closed z h c mc) fun h => q.closed z h c mc)
theorem Plain.and (p : Plain S N s L) (q : Plain S N s M) : Plain S N s (andP L M) where
  nd := andP_nodup p.nd
  key := fun z mz => p.key z (keys_andP.mp mz).1
  price := fun e me => by
    have h := lookup_nodup (andP_nodup (M := M) p.nd) e me
    rw [lookup_andP] at h
    cases e1 : L.lookup e.1 with
    | none =>
      rw [e1] at h
      cases h
    | some i =>
      cases e2 : M.lookup e.1 with
      | none =>
        rw [e1, e2] at h
        cases h
      | some j =>
        rw [e1, e2] at h
        rw [← Option.some.inj h]
        have h1 := price_of p.price e1
        have h2 := price_of q.price e2
        unfold greater
        split
        · exact h2
        · exact h1
  first := keys_andP.mpr ⟨p.first, q.first⟩
  closed := fun z mz c mc => keys_andP.mpr ⟨p.closed z (keys_andP.mp mz).1 c mc, q.closed z (keys_andP.mp mz).2 c mc⟩
theorem Plain.sort (p : Plain S N s L) : Plain S N s (sortP L) := by
  have k : ∀ {z}, z ∈ (sortP L).map (·.1) ↔ z ∈ L.map (·.1) := fun {z} => by
    rw [sortP_keys]
    exact (sortT_perm _).mem_iff
  exact ⟨sortP_nodup p.nd, fun z mz => p.key z (k.mp mz), fun e me => p.price e ((mem_sortP p.nd).mp me), k.mpr p.first, fun z mz c mc => k.mpr (p.closed z (k.mp mz) c mc)⟩
end
/-- two sorted lists with the same prices -/
theorem asc_eq {L M : List (Str × Int)} (n1 : (L.map (·.1)).Nodup) (n2 : (M.map (·.1)).Nodup) (a1 : AscP L) (a2 : AscP M) (h : ∀ z, L.lookup z = M.lookup z) : L = M := by
  have keys : L.map (·.1) = M.map (·.1) := sorted_unique a1 a2 (nodup_perm n1 n2 fun z => by rw [mem_look, mem_look, h])
  have back : ∀ {l : List (Str × Int)}, (l.map (·.1)).Nodup → l = (l.map (·.1)).map fun z => (z, (l.lookup z).getD 0) := fun {l} nd => by
    rw [List.map_map]
    refine Eq.trans (List.map_id l).symm (List.map_congr_left fun e me => ?_)
    show e = (e.1, (l.lookup e.1).getD 0)
    rw [lookup_nodup nd e me]
    rfl
  rw [back n1, back n2, keys]
  exact List.map_congr_left fun z _ => by rw [h]
theorem eqPr_iff {L M : List (Str × Int)} (n1 : (L.map (·.1)).Nodup) (n2 : (M.map (·.1)).Nodup) : eqPr L M = true ↔ ∀ z, L.lookup z = M.lookup z := by
  unfold eqPr
  rw [Bool.and_eq_true, List.all_eq_true, beq_iff_eq]
  constructor
  · rintro ⟨len, all⟩ z
    have sub : ∀ k ∈ L.map (·.1), k ∈ M.map (·.1) := fun k mk => by
      obtain ⟨e, me, rfl⟩ := List.mem_map.mp mk
      exact mem_look.mpr (by rw [beq_iff_eq.mp (all e me)]; rfl)
    cases e1 : L.lookup z with
    | some i => exact (beq_iff_eq.mp (all (z, i) (lookup_mem e1))).symm
    | none =>
      cases e2 : M.lookup z with
      | none => rfl
      | some j =>
        exfalso
        have mz : z ∈ M.map (·.1) := mem_look.mpr (by rw [e2]; rfl)
        have nz : z ∉ L.map (·.1) := fun h => by
          have := mem_look.mp h
          rw [e1] at this
          cases this
        have h := nodup_le (l := z :: L.map (·.1)) (xs := M.map (·.1)) (List.nodup_cons.mpr ⟨nz, n1⟩) fun k mk => (List.mem_cons.mp mk).elim (fun h => h ▸ mz) (sub k)
        rw [List.length_cons, List.length_map, List.length_map] at h
        omega
  · intro h
    refine ⟨?_, fun e me => by rw [← h, lookup_nodup n1 e me]; exact beq_iff_eq.mpr rfl⟩
    have p := (nodup_perm n1 n2 fun z => by rw [mem_look, mem_look, h]).length_eq
    rw [List.length_map, List.length_map] at p
    exact p
theorem vals_strs' {p : Str → Prop} : ∀ {ys : List V}, (∀ y ∈ ys, ∃ z, y = V.str z ∧ p z) → ∃ S : List Str, ys = S.map V.str ∧ ∀ z ∈ S, p z
  | [], _ => ⟨[], rfl, fun _ h => (nomatch h)⟩
  | y :: r, h => by
    obtain ⟨z, rfl, hz⟩ := h y (List.mem_cons_self ..)
    obtain ⟨S, rfl, h2⟩ := vals_strs' (ys := r) fun x m => h x (List.mem_cons_of_mem _ m)
    refine ⟨z :: S, rfl, fun w m => ?_⟩
    rcases List.mem_cons.mp m with rfl | m
    · exact hz
    · exact h2 w m
abbrev ABC : Str := Str.ofString "abcdefghijklmnopqrstuvwxyz"
theorem abc_low : ∀ c ∈ ABC.cps.toList, low c = true := by decide +kernel
theorem abc_nodup : ((ABC.cps.toList.map sg).map V.str).Nodup := by decide +kernel
/-- some letters -/
theorem some_letters {ys rest : List V} (pm : (ys ++ rest).Perm ((ABC.cps.toList.map sg).map V.str)) : ∃ S : List Str, ys = S.map V.str ∧ S.Nodup ∧ ∀ z ∈ S, ∃ c, low c = true ∧ z = sg c := by
  obtain ⟨S, rfl, h⟩ := vals_strs' (p := fun z => ∃ c, low c = true ∧ z = sg c) (ys := ys) fun y m => by
    obtain ⟨z, mz, rfl⟩ := List.mem_map.mp (pm.mem_iff.mp (List.mem_append.mpr (.inl m)))
    obtain ⟨c, mc, rfl⟩ := List.mem_map.mp mz
    exact ⟨_, rfl, c, abc_low c mc, rfl⟩
  have nd := (List.nodup_append.mp (pm.nodup_iff.mpr abc_nodup)).1
  exact ⟨S, rfl, (List.pairwise_map.mp nd).imp fun h e => h (congrArg V.str e), h⟩
theorem sum_one : ∀ {zs : List Str}, (∀ z ∈ zs, z.length = 1) → (zs.map (·.length)).sum = zs.length
  | [], _ => rfl
  | z :: r, h => by
    rw [List.map_cons, List.sum_cons, h z (List.mem_cons_self ..), sum_one fun y m => h y (List.mem_cons_of_mem _ m), List.length_cons]
    omega
theorem join_piece {S zs : List Str} (low_ : ∀ z ∈ S, ∃ c, low c = true ∧ z = sg c) (h : ∀ z ∈ zs, z ∈ S) (l1 : 1 ≤ zs.length) (l2 : zs.length ≤ 5) : isPiece (.str (Txt.join (Str.ofString "") zs)) = true ∧ ∀ c ∈ (Txt.join (Str.ofString "") zs).cps.toList, sg c ∈ S := by
  have one : ∀ z ∈ zs, z.length = 1 := fun z m => by
    obtain ⟨c, _, rfl⟩ := low_ z (h z m)
    rfl
  have len : (Txt.join (Str.ofString "") zs).length = zs.length := by rw [len_join, sum_one one]
  have mem : ∀ c ∈ (Txt.join (Str.ofString "") zs).cps.toList, sg c ∈ S ∧ low c = true := fun c mc => by
    rw [join0] at mc
    obtain ⟨l, ml, mc⟩ := List.mem_flatten.mp mc
    obtain ⟨z, mz, rfl⟩ := List.mem_map.mp ml
    obtain ⟨d, hd, rfl⟩ := low_ z (h z mz)
    obtain rfl : c = d := by simpa using mc
    exact ⟨h _ mz, hd⟩
  refine ⟨?_, fun c mc => (mem c mc).1⟩
  rw [isPiece_str, Bool.and_eq_true]
  exact ⟨isText_low (fun c mc => (mem c mc).2) (by omega), decide_eq_true (by omega)⟩
/-- prices of some letters, the first among them, and of pieces over these -/
theorem plain_of {S M O Y : List Str} {s : Str} {L : List (Str × Int)} (lowS : ∀ z ∈ S, ∃ c, low c = true ∧ z = sg c) (hO : ∀ z ∈ O, z ∈ S) (s0 : s ∈ O) (hY : ∀ z ∈ Y, z ∈ M ∧ z.cps.toList.all (fun c => decide (sg c ∈ O)) = true) (keys : L.map (·.1) = O ++ Y) (good : ∀ e ∈ L, 1 ≤ e.2 ∧ e.2 ≤ 99) : Plain S M s (mergeP [] L) where
  nd := nodup_mergeP List.nodup_nil
  key := fun z mz => by
    rcases (mem_mergeP.mp mz) with h | h
    · cases h
    · rw [keys] at h
      rcases List.mem_append.mp h with h | h
      · exact List.mem_append.mpr (.inl (hO z h))
      · exact List.mem_append.mpr (.inr (hY z h).1)
  price := all_mergeP (p := fun v => 1 ≤ v ∧ v ≤ 99) (fun e m => (nomatch m)) good
  first := mem_mergeP.mpr (.inr (by rw [keys]; exact List.mem_append.mpr (.inl s0)))
  closed := fun z mz c mc => by
    refine mem_mergeP.mpr (.inr ?_)
    rcases (mem_mergeP.mp mz) with h | h
    · cases h
    · rw [keys] at h ⊢
      refine List.mem_append.mpr (.inl ?_)
      rcases List.mem_append.mp h with h | h
      · obtain ⟨d, _, rfl⟩ := lowS z (hO z h)
        obtain rfl : c = d := by simpa using mc
        exact h
      · exact of_decide_eq_true (List.all_eq_true.mp (hY z h).2 c mc)
end Gd

/-! Gd20: rules that name the frozen part K, for the blocks of comprehensions; comprehensions with tests that roll. -/
namespace Gd
open PySem PySem.Spec PyProof.Rows L2
section
variable {X : Cx} {K : PySem.W.Frag}
theorem op_inK (h : X.K = K) : OpR X (compareOp .In) (rIn K false) := by
  subst h
  exact op_in_seq
theorem op_notInK (h : X.K = K) : OpR X (compareOp .NotIn) (rIn K true) := by
  subst h
  exact op_notIn_seq
theorem op_eqDK (h : X.K = K) (hu : X.A.units + 64 < cLine) : OpR X (compareOp .Eq) (rEqD K) := by
  subst h
  exact op_eqD hu
theorem op_neDK (h : X.K = K) (hu : X.A.units + 64 < cLine) : OpR X (compareOp .NotEq) (rNeD K) := by
  subst h
  exact op_neD hu
theorem call_lenK (h : X.K = K) : CallR X (.builtin "len") (fun xs H Q => ∃ x n, xs = [x] ∧ LenV K x H n ∧ Q (.int n) H) := by
  subst h
  exact call_len
theorem ix_listK (h : X.K = K) : IxR X (rIxL K) := by
  subst h
  exact ix_list
end
/-- [x for x in xs if ..], the test may roll: what must stay stays -/
theorem lc_subG {K : PySem.W.Frag} {a : Addr} {xs : List V} {slot : Nat} {tt : TT} {te : TE} {vs : List Nat} {σ : L2.St} {H1 : Hp} {D : Addr} {Qd : Hp → Prop} (must : V → Prop) (hD : H1 D = none) (hS : SqL K H1 a xs) (hn : xs.length ≤ 100000)
    (hw : ∀ x, wipe ((wipe σ vs).set slot (some x)) vs = wipe σ vs)
    (ht : ∀ (x : V) (H : Hp), x ∈ xs → Same H1 H → ∀ Q : Bool → Hp → Prop, (∀ b H', Same H H' → (must x → b = true) → Q b H') → tt ((wipe σ vs).set slot (some x)) H Q)
    (hs : ∀ (x : V) (H : Hp), x ∈ xs → Same H1 H → ∀ Q : VK, (∀ H', Same H H' → Q x H') → te ((wipe σ vs).set slot (some x)) H Q)
    (hd : ∀ (H : Hp) (ys : List V), Same H1 H → H D = some (.lst ys) → ys.Sublist xs → (∀ x ∈ xs, must x → x ∈ ys) → Qd H) :
    ∃ W : Nat → Nat → Hp → Prop, (∃ m, W 0 m (upd H1 D (.lst []))) ∧ ∀ i m H, W i m H →
      ((Itl K a).stop i H ∧ Qd H) ∨ ((Itl K a).go i H ∧ ∃ Nx : Hp → Prop, (∀ H', Nx H' → ∃ m', m' < m ∧ W (i + 1) m' H') ∧ ∀ x H', (Itl K a).yld i H x H' → gName slot x (wipe σ vs) H' fun σ2 H2 => wipe σ2 vs = wipe σ vs ∧ tt σ2 H2 fun b H3 =>
        if b = true then te σ2 H3 fun y H4 => ∃ acc, H4 D = some (.lst acc) ∧ acc.length < sizeLine ∧ Nx (upd H4 D (.lst (acc ++ [y]))) else Nx H3) := by
  refine lc_list (K := K) (a := a) (xs := xs) (fun i H => Same H1 H ∧ ∃ ys, H D = some (.lst ys) ∧ ys.Sublist (xs.take i) ∧ ∀ x ∈ xs.take i, must x → x ∈ ys) ⟨same_new hD, [], upd_same, List.Sublist.refl _, fun x m => by simp at m⟩ (fun i H _ h => h.1.seq hS) ?_ ?_
  · rintro i x H hi ⟨sm, ys, h, sub, mu⟩
    have hx : x ∈ xs := List.mem_of_getElem? hi
    have et : xs.take (i + 1) = xs.take i ++ [x] := by rw [List.take_add_one, hi] <;> rfl
    refine ⟨hw _, ht x H hx sm _ fun b H' sm' hb => ?_⟩
    cases b with
    | true =>
      refine iteT (hs x H' hx (sm.trans sm') _ fun H2 sm2 => ?_)
      refine ⟨_, sm2 _ _ (sm' _ _ h), Nat.lt_of_le_of_lt ?_ (show 100000 < sizeLine by decide), same_over ((sm.trans sm').trans sm2) hD, _, upd_same, ?_, fun y my hy => ?_⟩
      · have h1 := sub.length_le
        rw [List.length_take] at h1
        omega
      · rw [et]
        exact sub.append (List.Sublist.refl _)
      · rw [et] at my
        rcases List.mem_append.mp my with my | my
        · exact List.mem_append.mpr (.inl (mu y my hy))
        · exact List.mem_append.mpr (.inr my)
    | false =>
      refine iteF ⟨sm.trans sm', ys, sm' _ _ h, ?_, fun y my hy => ?_⟩
      · rw [et]
        exact sub.trans (List.sublist_append_left _ _)
      · rw [et] at my
        rcases List.mem_append.mp my with my | my
        · exact mu y my hy
        · obtain rfl : y = x := by simpa using my
          exact absurd (hb hy) Bool.false_ne_true
  · rintro H ⟨sm, ys, h, sub, mu⟩
    rw [List.take_length] at sub mu
    exact hd H ys sm h sub mu
/-- [c for c in z if ..], z a text -/
theorem lc_strG {z : Str} {slot : Nat} {tt : TT} {te : TE} {vs : List Nat} {σ : L2.St} {H1 : Hp} {D : Addr} {Qd : Hp → Prop} (f : Str → Bool) (hD : H1 D = none) (hn : z.length ≤ 100000)
    (hw : ∀ x, wipe ((wipe σ vs).set slot (some x)) vs = wipe σ vs)
    (ht : ∀ (c : Nat) (H : Hp), c ∈ z.cps.toList → Same H1 H → ∀ Q : Bool → Hp → Prop, (∀ H', Same H H' → Q (f (sg c)) H') → tt ((wipe σ vs).set slot (some (.str (sg c)))) H Q)
    (hs : ∀ (c : Nat) (H : Hp), c ∈ z.cps.toList → Same H1 H → ∀ Q : VK, (∀ H', Same H H' → Q (.str (sg c)) H') → te ((wipe σ vs).set slot (some (.str (sg c)))) H Q)
    (hd : ∀ (H : Hp), Same H1 H → H D = some (.lst (((z.cps.toList.map sg).filter f).map V.str)) → Qd H) :
    ∃ W : Nat → Nat → Hp → Prop, (∃ m, W 0 m (upd H1 D (.lst []))) ∧ ∀ i m H, W i m H →
      ((Its z).stop i H ∧ Qd H) ∨ ((Its z).go i H ∧ ∃ Nx : Hp → Prop, (∀ H', Nx H' → ∃ m', m' < m ∧ W (i + 1) m' H') ∧ ∀ x H', (Its z).yld i H x H' → gName slot x (wipe σ vs) H' fun σ2 H2 => wipe σ2 vs = wipe σ vs ∧ tt σ2 H2 fun b H3 =>
        if b = true then te σ2 H3 fun y H4 => ∃ acc, H4 D = some (.lst acc) ∧ acc.length < sizeLine ∧ Nx (upd H4 D (.lst (acc ++ [y]))) else Nx H3) := by
  have size : z.cps.size = z.cps.toList.length := (Array.length_toList).symm
  have zl : z.cps.toList.length = z.length := str_len z
  refine ⟨fun i m H => m = z.cps.toList.length - i ∧ i ≤ z.cps.toList.length ∧ Same H1 H ∧ H D = some (.lst ((((z.cps.toList.take i).map sg).filter f).map V.str)), ⟨_, rfl, Nat.zero_le _, same_new hD, upd_same⟩, ?_⟩
  rintro i m H ⟨rfl, hi, sm, h⟩
  by_cases hlt : i < z.cps.toList.length
  · refine .inr ⟨(by show i < z.cps.size; rw [size]; exact hlt), fun H' => Same H1 H' ∧ H' D = some (.lst ((((z.cps.toList.take (i + 1)).map sg).filter f).map V.str)), fun H' p' => ⟨_, by omega, rfl, hlt, p'⟩, fun x H' y => ?_⟩
    obtain ⟨rfl, c, hc, rfl⟩ := y
    have hc' : z.cps.toList[i]? = some c := by
      rw [Array.getElem?_toList]
      exact hc
    have mc : c ∈ z.cps.toList := List.mem_of_getElem? hc'
    have et : ((z.cps.toList.take (i + 1)).map sg) = ((z.cps.toList.take i).map sg) ++ [sg c] := by
      rw [List.take_add_one, hc', List.map_append]
      rfl
    refine ⟨hw _, ht c _ mc sm _ fun H2 sm2 => ?_⟩
    cases e : f (sg c) with
    | true =>
      refine iteT (hs c H2 mc (sm.trans sm2) _ fun H3 sm3 => ?_)
      refine ⟨_, sm3 _ _ (sm2 _ _ h), Nat.lt_of_le_of_lt ?_ (show 100000 < sizeLine by decide), same_over ((sm.trans sm2).trans sm3) hD, ?_⟩
      · rw [List.length_map]
        have h1 := List.length_filter_le f ((z.cps.toList.take i).map sg)
        rw [List.length_map, List.length_take] at h1
        omega
      · rw [upd_same, et, List.filter_append, List.map_append]
        simp only [List.filter_cons, e, List.filter_nil, if_true, List.map_cons, List.map_nil]
    | false =>
      refine iteF ⟨sm.trans sm2, ?_⟩
      rw [et, List.filter_append]
      simp only [List.filter_cons, e, List.filter_nil, Bool.false_eq_true, if_false, List.append_nil]
      exact sm2 _ _ h
  · have e : i = z.cps.toList.length := by omega
    refine .inl ⟨(by show z.cps.size ≤ i; rw [size]; omega), hd H sm ?_⟩
    rw [e, List.take_length] at h
    exact h
theorem inV_strs {x : Str} : ∀ zs : List Str, inV (.str x) (zs.map V.str) = decide (x ∈ zs) := by
  intro zs
  unfold inV
  rw [List.any_map, Bool.eq_iff_iff, List.any_eq_true, decide_eq_true_eq]
  constructor
  · rintro ⟨y, my, e⟩
    have : y = x := by
      have e' : decide (y = x) = true := e
      exact of_decide_eq_true e'
    exact this ▸ my
  · intro m
    exact ⟨x, m, (decide_eq_true rfl : decide (x = x) = true)⟩
theorem flat_strs (zs : List Str) : (zs.map V.str).all flatV = true := by
  rw [List.all_map]
  exact List.all_eq_true.mpr fun _ _ => rfl
/-- [(z, ..) for z in zs], zs a list of texts -/
theorem lc_pairsG {K : PySem.W.Frag} {a : Addr} {zs : List Str} {slot : Nat} {te : TE} {vs : List Nat} {σ : L2.St} {H1 : Hp} {D : Addr} {Qd : Hp → Prop} (p : Int → Prop) (hD : H1 D = none) (hS : SqL K H1 a (zs.map V.str)) (hn : zs.length ≤ 100000)
    (hw : ∀ x, wipe ((wipe σ vs).set slot (some x)) vs = wipe σ vs)
    (hs : ∀ (z : Str) (H : Hp), z ∈ zs → Same H1 H → ∀ Q : VK, (∀ b v H', Same H H' → H' b = some (.tup [.str z, .int v]) → p v → Q (.ref b) H') → te ((wipe σ vs).set slot (some (.str z))) H Q)
    (hd : ∀ (H : Hp) (L : List (Str × Int)), Same H1 H → PairsAt H D L → L.map (·.1) = zs → (∀ e ∈ L, p e.2) → Qd H) :
    ∃ W : Nat → Nat → Hp → Prop, (∃ m, W 0 m (upd H1 D (.lst []))) ∧ ∀ i m H, W i m H →
      ((Itl K a).stop i H ∧ Qd H) ∨ ((Itl K a).go i H ∧ ∃ Nx : Hp → Prop, (∀ H', Nx H' → ∃ m', m' < m ∧ W (i + 1) m' H') ∧ ∀ x H', (Itl K a).yld i H x H' → gName slot x (wipe σ vs) H' fun σ2 H2 => wipe σ2 vs = wipe σ vs ∧ tYes σ2 H2 fun b H3 =>
        if b = true then te σ2 H3 fun y H4 => ∃ acc, H4 D = some (.lst acc) ∧ acc.length < sizeLine ∧ Nx (upd H4 D (.lst (acc ++ [y]))) else Nx H3) := by
  refine lc_list (K := K) (a := a) (xs := zs.map V.str) (fun i H => Same H1 H ∧ ∃ L, PairsAt H D L ∧ L.map (·.1) = zs.take i ∧ ∀ e ∈ L, p e.2) ⟨same_new hD, [], ⟨[], upd_same, .nil⟩, rfl, fun e m => (nomatch m)⟩ (fun i H _ h => h.1.seq hS) ?_ ?_
  · rintro i x H hi ⟨sm, L, ⟨ps, at_D, prs⟩, keys, good⟩
    rw [List.getElem?_map] at hi
    obtain ⟨z, hz, rfl⟩ := Option.map_eq_some_iff.mp hi
    refine ⟨hw _, ?_⟩
    simp only [tYes, reduceIte]
    refine hs z H (List.mem_of_getElem? hz) sm _ fun b v H2 sm2 at_b pv => ?_
    have at_D2 := sm2 _ _ at_D
    have nb : b ≠ D := ne_of at_b at_D2 (fun w => nomatch w)
    have lp : ps.length = L.length := Paired.length prs
    have lL : L.length ≤ zs.length := by
      have h := congrArg List.length keys
      rw [List.length_map, List.length_take] at h
      omega
    refine ⟨_, at_D2, by rw [List.length_map, sizeLine_eq]; omega, same_over (sm.trans sm2) hD, L ++ [(z, v)], ⟨ps ++ [b], ?_, ?_⟩, ?_, ?_⟩
    · rw [upd_same, List.map_append]
      rfl
    · have keep : ∀ c o, o ≠ HO.lst (ps.map V.ref) → H2 c = some o → (upd H2 D (.lst (ps.map V.ref ++ [V.ref b]))) c = some o := fun c o n e => by
        rw [upd_ne (ne_of e at_D2 n)]
        exact e
      have app : ∀ {α β : Type} {F : α → β → Prop} {as : List α} {bs : List β} {x : α} {y : β}, Paired F as bs → F x y → Paired F (as ++ [x]) (bs ++ [y]) := fun {α β F as bs x y} h f => by
        induction h with
        | nil => exact .cons f .nil
        | cons r _ ih => exact .cons r ih
      exact app (Paired.mapP prs fun c e h => keep c _ (fun w => nomatch w) (sm2 _ _ h)) (keep b _ (fun w => nomatch w) at_b)
    · rw [List.map_append, keys, List.take_add_one, hz]
      rfl
    · intro e me
      rcases List.mem_append.mp me with me | me
      · exact good e me
      · obtain rfl := List.mem_singleton.mp me
        exact pv
  · rintro H ⟨sm, L, pa, keys, good⟩
    rw [List.length_map, List.take_length] at keys
    exact hd H L sm pa keys good
/-- [(z, ..) for z in d if ..], d a locked dict -/
theorem lc_kpairsG {d : Addr} {o : Obj} {L : List (Str × Int)} {slot : Nat} {tt : TT} {te : TE} {vs : List Nat} {σ : L2.St} {H1 : Hp} {D : Addr} {Qd : Hp → Prop} (f : Str → Bool) (val : Str → Int) (hD : H1 D = none) (h0 : H1 d = some (.frz o (.dK (pr L)))) (hn : L.length ≤ 100000)
    (hw : ∀ x, wipe ((wipe σ vs).set slot (some x)) vs = wipe σ vs)
    (ht : ∀ (e : Str × Int) (H : Hp), e ∈ L → Same H1 H → ∀ Q : Bool → Hp → Prop, (∀ H', Same H H' → Q (f e.1) H') → tt ((wipe σ vs).set slot (some (.str e.1))) H Q)
    (hs : ∀ (e : Str × Int) (H : Hp), e ∈ L → f e.1 = true → Same H1 H → ∀ Q : VK, (∀ b H', Same H H' → H' b = some (.tup [.str e.1, .int (val e.1)]) → Q (.ref b) H') → te ((wipe σ vs).set slot (some (.str e.1))) H Q)
    (hd : ∀ (H : Hp), Same H1 H → PairsAt H D (((L.map (·.1)).filter f).map fun z => (z, val z)) → Qd H) :
    ∃ W : Nat → Nat → Hp → Prop, (∃ m, W 0 m (upd H1 D (.lst []))) ∧ ∀ i m H, W i m H →
      ((Itk d o (pr L)).stop i H ∧ Qd H) ∨ ((Itk d o (pr L)).go i H ∧ ∃ Nx : Hp → Prop, (∀ H', Nx H' → ∃ m', m' < m ∧ W (i + 1) m' H') ∧ ∀ x H', (Itk d o (pr L)).yld i H x H' → gName slot x (wipe σ vs) H' fun σ2 H2 => wipe σ2 vs = wipe σ vs ∧ tt σ2 H2 fun b H3 =>
        if b = true then te σ2 H3 fun y H4 => ∃ acc, H4 D = some (.lst acc) ∧ acc.length < sizeLine ∧ Nx (upd H4 D (.lst (acc ++ [y]))) else Nx H3) := by
  refine ⟨fun i m H => m = L.length - i ∧ i ≤ L.length ∧ Same H1 H ∧ PairsAt H D ((((L.take i).map (·.1)).filter f).map fun z => (z, val z)), ⟨L.length - 0, rfl, Nat.zero_le _, same_new hD, [], upd_same, .nil⟩, ?_⟩
  rintro i m H ⟨rfl, hi, sm, ps, at_D, prs⟩
  have hd' := sm _ _ h0
  by_cases hlt : i < L.length
  · refine .inr ⟨⟨hd', by rw [pr_len]; exact hlt⟩, fun H' => Same H1 H' ∧ PairsAt H' D ((((L.take (i + 1)).map (·.1)).filter f).map fun z => (z, val z)), fun H' p' => ⟨L.length - (i + 1), by omega, rfl, hlt, p'⟩, fun x H' y => ?_⟩
    obtain ⟨rfl, k, v, hk, rfl⟩ := y
    obtain ⟨e, he, rfl, rfl⟩ := pr_get hk
    have me := List.mem_of_getElem? he
    have et : ((L.take (i + 1)).map (·.1)) = ((L.take i).map (·.1)) ++ [e.1] := by
      rw [List.take_add_one, he, List.map_append]
      rfl
    refine ⟨hw _, ht e _ me sm _ fun H2 sm2 => ?_⟩
    have up : PairsAt H2 D ((((L.take i).map (·.1)).filter f).map fun z => (z, val z)) := PairsAt.up ⟨ps, at_D, prs⟩ sm2
    cases q : f e.1 with
    | false =>
      refine iteF ⟨sm.trans sm2, ?_⟩
      rw [et, List.filter_append]
      simp only [List.filter_cons, q, List.filter_nil, Bool.false_eq_true, if_false, List.append_nil]
      exact up
    | true =>
      refine iteT (hs e H2 me q (sm.trans sm2) _ fun b H3 sm3 at_b => ?_)
      have at_D3 := sm3 _ _ (sm2 _ _ at_D)
      have prs3 := Paired.mapP prs fun c z h => sm3 _ _ (sm2 _ _ h)
      have lp : ps.length ≤ L.length := by
        have h1 := Paired.length prs
        have h2 := List.length_filter_le f ((L.take i).map (·.1))
        rw [List.length_map] at h1
        rw [List.length_map, List.length_take] at h2
        omega
      refine ⟨_, at_D3, by rw [List.length_map, sizeLine_eq]; omega, same_over ((sm.trans sm2).trans sm3) hD, ps ++ [b], ?_, ?_⟩
      · rw [upd_same, List.map_append]
        rfl
      · have keep : ∀ c u, u ≠ HO.lst (ps.map V.ref) → H3 c = some u → (upd H3 D (.lst (ps.map V.ref ++ [V.ref b]))) c = some u := fun c u n w => by
          rw [upd_ne (ne_of w at_D3 n)]
          exact w
        have app : ∀ {α β : Type} {F : α → β → Prop} {as : List α} {bs : List β} {x : α} {y : β}, Paired F as bs → F x y → Paired F (as ++ [x]) (bs ++ [y]) := fun {α β F as bs x y} h f => by
          induction h with
          | nil => exact .cons f .nil
          | cons r _ ih => exact .cons r ih
        rw [et, List.filter_append, List.map_append]
        simp only [List.filter_cons, q, List.filter_nil, if_true, List.map_cons, List.map_nil]
        exact app (Paired.mapP prs3 fun c z h => keep c _ (fun w => nomatch w) h) (keep b _ (fun w => nomatch w) at_b)
  · have e : i = L.length := by omega
    refine .inl ⟨⟨hd', by rw [pr_len]; omega⟩, hd H sm ?_⟩
    have h : PairsAt H D ((((L.take i).map (·.1)).filter f).map fun z => (z, val z)) := ⟨ps, at_D, prs⟩
    rw [e, List.take_length] at h
    exact h
end Gd

/-! M9: lists of pairs shown; the rules of / and & by pieces; what is nowhere dearer -/
namespace Gd
open PySem PySem.Spec PyProof.Rows L2
def pdP (L : List (Str × Int)) : PyData := .list (L.map fun e => .tuple [.str e.1, .int e.2])
theorem dp_pairs {K : PySem.W.Frag} {H : Hp} {l : Addr} {L : List (Str × Int)} (p : PairsAt H l L) : Dp K H (.ref l) (pdP L) := by
  obtain ⟨ps, a, r⟩ := p
  refine .lst (sq_lst a) ?_
  clear a
  induction r with
  | nil => exact .nil
  | cons h _ ih => exact .cons (.tup (sq_tup h) (.cons (.str _) (.cons (.int _) .nil))) ih
theorem small_shown : ∀ i : Fin 200, (PyData.int ((i.val : Int) - 100)).shown.length ≤ 600 := by decide +kernel
theorem sh_pairs {L : List (Str × Int)} (h : L.length ≤ 100) (small : ∀ e ∈ L, (e.1.length ≤ 5 ∧ ∀ c ∈ e.1.cps.toList, low c = true) ∧ e.2.natAbs ≤ 99) : Sh (pdP L) := by
  have all : PyData.leavesShortAll 600 (L.map fun e => PyData.tuple [.str e.1, .int e.2]) = true ∧ PyData.showableAll (L.map fun e => PyData.tuple [.str e.1, .int e.2]) = true ∧ PyData.hasDictAll (L.map fun e => PyData.tuple [.str e.1, .int e.2]) = false ∧ PyData.weightAll (L.map fun e => PyData.tuple [.str e.1, .int e.2]) ≤ 20 * L.length ∧ PyData.depthAll (L.map fun e => PyData.tuple [.str e.1, .int e.2]) ≤ 1 := by
    clear h
    induction L with
    | nil => simp only [List.map_nil, PyData.leavesShortAll, PyData.showableAll, PyData.hasDictAll, PyData.weightAll, PyData.depthAll, List.length_nil, true_and, Nat.mul_zero, Nat.le_refl, Nat.zero_le, and_self]
    | cons e r ih =>
      obtain ⟨i1, i2, i3, i4, i5⟩ := ih fun f m => small f (List.mem_cons_of_mem _ m)
      obtain ⟨⟨s1, s3⟩, s2⟩ := small e (List.mem_cons_self ..)
      simp only [List.map_cons, PyData.leavesShortAll, PyData.leavesShort, PyData.showableAll, PyData.showable, PyData.hasDictAll, PyData.hasDict, PyData.weightAll, PyData.weight, PyData.depthAll, PyData.depth, i1, i2, i3, Bool.and_self, Bool.or_self, List.length_cons, true_and, Bool.and_true, Bool.true_and]
      have shown : (PyData.int e.2).shown.length ≤ 600 := by
        have h := small_shown ⟨(e.2 + 100).toNat, by omega⟩
        rw [show (((e.2 + 100).toNat : Nat) : Int) - 100 = e.2 by omega] at h
        exact h
      have lg : e.2.natAbs.log2 < 7 := by
        by_cases z : e.2.natAbs = 0
        · rw [z]
          decide
        · exact (Nat.log2_lt z).mpr (by omega)
      have sz : e.1.cps.size = e.1.length := rfl
      refine ⟨?_, decide_eq_true (by omega), ?_, by omega⟩
      · rw [decide_eq_true shown, Bool.and_true, List.all_eq_true]
        intro c mc
        have := of_decide_eq_true (s3 c mc)
        exact decide_eq_true (Nat.lt_of_le_of_lt this.2 (by decide))
      · split <;> omega
  obtain ⟨e1, e2, e3, e4, e5⟩ := all
  unfold pdP
  refine ⟨by simp only [PyData.leavesShort]; exact e1, by simp only [PyData.showable]; exact e2, by simp only [PyData.hasDict]; exact e3, ?_, ?_⟩
  · simp only [PyData.weight]
    omega
  · simp only [PyData.depth]
    omega
theorem leastL_zero (A : List (Str × Int)) (z : Str) : ∀ n, (leastL A z n).getD 0 0 = 0
  | 0 => rfl
  | n + 1 => by
    have h := leastL_zero A z n
    show (leastL A z n ++ [_]).getD 0 0 = 0
    rw [List.getD_eq_getElem?_getD, List.getElem?_append_left (by rw [leastL_len]; omega), ← List.getD_eq_getElem?_getD]
    exact h
theorem pre_all (z : Str) : pre z z.length = z := str_eq_of_lists (by rw [pre_list, List.take_of_length_le (by rw [str_len]; exact Nat.le_refl _)])
theorem ends_self (z : Str) : Txt.endswith z z = true := by
  unfold Txt.endswith
  rw [Bool.and_eq_true]
  refine ⟨decide_eq_true (by omega), ?_⟩
  rw [Nat.sub_self, PySem.StrLaws.subAt_eq, List.drop_zero, List.take_of_length_le (by rw [str_len]; exact Nat.le_refl _)]
  exact beq_iff_eq.mpr rfl
theorem least_le {A : List (Str × Int)} {z : Str} {v : Int} (h : A.lookup z = some v) (l : 1 ≤ z.length) : leastP A z ≤ v := by
  obtain ⟨n, hn⟩ : ∃ n, z.length = n + 1 := ⟨z.length - 1, by omega⟩
  unfold leastP
  rw [hn]
  show (leastL A z n ++ [minL (costsP A z (leastL A z n) (n + 1))]).getD (n + 1) 0 ≤ v
  rw [List.getD_eq_getElem?_getD, List.getElem?_append_right (by rw [leastL_len]; exact Nat.le_refl _), leastL_len, Nat.sub_self]
  show minL (costsP A z (leastL A z n) (n + 1)) ≤ v
  have m : (0 : Int) + v ∈ costsP A z (leastL A z n) (n + 1) := by
    unfold costsP
    refine List.mem_map.mpr ⟨(z, v), List.mem_filter.mpr ⟨lookup_mem h, ?_⟩, ?_⟩
    · rw [← hn, pre_all]
      exact ends_self z
    · show (leastL A z n).getD (n + 1 - z.length) 0 + v = 0 + v
      rw [hn, Nat.sub_self, leastL_zero]
  have := (minL_spec (List.ne_nil_of_mem m)).2 _ m
  omega
theorem nowhere {A M : List (Str × Int)} (h : ∀ e ∈ M, 1 ≤ e.1.length ∧ ∃ v, A.lookup e.1 = some v ∧ v ≤ e.2) : dearer A M = .non := by
  unfold dearer
  rw [List.find?_eq_none.mpr fun e me => ?_]
  obtain ⟨l, v, hv, le⟩ := h e me
  have := least_le hv l
  rw [decide_eq_true_eq]
  omega
theorem mem_sigs {L : List (Str × Int)} {z : Str} : z ∈ sigsP L ↔ ∃ x ∈ L.map (·.1), ∃ c ∈ x.cps.toList, z = sg c := by
  unfold sigsP
  rw [mem_ascT, mem_sgs]
theorem sigs_sort {L : List (Str × Int)} : sigsP (sortP L) = sigsP L := sigsP_eq fun z => by
  rw [sortP_keys]
  exact (sortT_perm _).mem_iff
section
variable {S N : List Str} {s : Str} {L M : List (Str × Int)}
theorem sigs_or (q : (M.map (·.1)).Nodup) (same : sigsP L = sigsP M) : sigsP (orP L M) = sigsP L := by
  refine ascT_eq fun z => ?_
  rw [mem_sgs, mem_sgs]
  constructor
  · rintro ⟨x, mx, r⟩
    rcases (keys_orP q).mp mx with h | h
    · exact ⟨x, h, r⟩
    · have : z ∈ sigsP L := by
        rw [same]
        exact mem_sigs.mpr ⟨x, h, r⟩
      exact mem_sigs.mp this
  · rintro ⟨x, mx, r⟩
    exact ⟨x, (keys_orP q).mpr (.inl mx), r⟩
theorem sigs_and (p : Plain S N s L) (q : Plain S N s M) (same : sigsP L = sigsP M) : sigsP (andP L M) = sigsP L := by
  refine ascT_eq fun z => ?_
  rw [mem_sgs, mem_sgs]
  constructor
  · rintro ⟨x, mx, r⟩
    exact ⟨x, (keys_andP.mp mx).1, r⟩
  · rintro ⟨x, mx, c, mc, rfl⟩
    have h1 := p.closed x mx c mc
    have h2 : sg c ∈ M.map (·.1) := by
      have : sg c ∈ sigsP M := by
        rw [← same]
        exact mem_sigs.mpr ⟨x, mx, c, mc, rfl⟩
      obtain ⟨y, my, d, md, e⟩ := mem_sigs.mp this
      have := q.closed y my d md
      rw [← e] at this
      exact this
    exact ⟨sg c, keys_andP.mpr ⟨h1, h2⟩, c, by simp, rfl⟩
end
theorem eqv_boolsAll : ∀ xs : List Bool, PyData.eqvAll (xs.map PyData.bool) (xs.map PyData.bool) = true
  | [] => by simp only [List.map_nil, PyData.eqvAll]
  | x :: r => by
    rw [List.map_cons, PyData.eqvAll, eqv_boolsAll r, Bool.and_true]
    cases x <;> rfl
theorem shaped_bools (xs : List Bool) : SeqAt.shaped (.list (xs.map PyData.bool)) = true := by
  have all : PyData.canLayAll0 (xs.map PyData.bool) = true ∧ PyData.depthAll (xs.map PyData.bool) = 0 := by
    induction xs with
    | nil => simp only [List.map_nil, PyData.canLayAll0, PyData.depthAll, and_self]
    | cons z r ih =>
      obtain ⟨i1, i2⟩ := ih
      simp only [List.map_cons, PyData.canLayAll0, PyData.canLay0, PyData.depthAll, PyData.depth, i1, i2, Bool.and_self, true_and]
      rfl
  unfold SeqAt.shaped
  rw [Bool.and_eq_true]
  refine ⟨by rw [PyData.canLay0]; exact all.1, decide_eq_true ?_⟩
  rw [PyData.depth, all.2]
  decide
theorem eqv_bools (xs : List Bool) : PyData.eqv (.list (xs.map PyData.bool)) (.list (xs.map PyData.bool)) = true := by
  rw [PyData.eqv]
  exact eqv_boolsAll xs
section
variable {L M : List (Str × Int)}
theorem lesser_le (i j : Int) : lesser i j ≤ i ∧ lesser i j ≤ j := by
  unfold lesser
  split <;> omega
theorem le_greater (i j : Int) : i ≤ greater i j ∧ j ≤ greater i j := by
  unfold greater
  split <;> omega
theorem or_left (n1 : (L.map (·.1)).Nodup) (n2 : (M.map (·.1)).Nodup) (l : ∀ z ∈ L.map (·.1), 1 ≤ z.length) : dearer (sortP (orP L M)) L = .non := nowhere fun e me => by
  refine ⟨l e.1 (List.mem_map.mpr ⟨e, me, rfl⟩), ?_⟩
  rw [lookup_sortP (orP_nodup M L n1), lookup_orP n2, lookup_nodup n1 e me]
  cases M.lookup e.1 with
  | none => exact ⟨e.2, rfl, Int.le_refl _⟩
  | some j => exact ⟨_, rfl, (lesser_le j e.2).2⟩
theorem or_right (n1 : (L.map (·.1)).Nodup) (n2 : (M.map (·.1)).Nodup) (l : ∀ z ∈ M.map (·.1), 1 ≤ z.length) : dearer (sortP (orP L M)) M = .non := nowhere fun e me => by
  refine ⟨l e.1 (List.mem_map.mpr ⟨e, me, rfl⟩), ?_⟩
  rw [lookup_sortP (orP_nodup M L n1), lookup_orP n2, lookup_nodup n2 e me]
  cases L.lookup e.1 with
  | none => exact ⟨e.2, rfl, Int.le_refl _⟩
  | some i => exact ⟨_, rfl, (lesser_le e.2 i).1⟩
theorem and_look (n1 : (L.map (·.1)).Nodup) {e : Str × Int} (me : e ∈ sortP (andP L M)) : ∃ i j, L.lookup e.1 = some i ∧ M.lookup e.1 = some j ∧ e.2 = greater i j := by
  have h := lookup_nodup (andP_nodup (M := M) n1) e ((mem_sortP (andP_nodup n1)).mp me)
  rw [lookup_andP] at h
  cases e1 : L.lookup e.1 with
  | none =>
    rw [e1] at h
    cases h
  | some i =>
    cases e2 : M.lookup e.1 with
    | none =>
      rw [e1, e2] at h
      cases h
    | some j =>
      rw [e1, e2] at h
      exact ⟨i, j, rfl, rfl, (Option.some.inj h).symm⟩
theorem and_left (n1 : (L.map (·.1)).Nodup) (l : ∀ z ∈ L.map (·.1), 1 ≤ z.length) : dearer L (sortP (andP L M)) = .non := nowhere fun e me => by
  obtain ⟨i, j, h1, h2, h3⟩ := and_look n1 me
  exact ⟨l e.1 (mem_look.mpr (by rw [h1]; rfl)), i, h1, by rw [h3]; exact (le_greater i j).1⟩
theorem and_right (n1 : (L.map (·.1)).Nodup) (l : ∀ z ∈ L.map (·.1), 1 ≤ z.length) : dearer M (sortP (andP L M)) = .non := nowhere fun e me => by
  obtain ⟨i, j, h1, h2, h3⟩ := and_look n1 me
  exact ⟨l e.1 (mem_look.mpr (by rw [h1]; rfl)), j, h2, by rw [h3]; exact (le_greater i j).2⟩
end
end Gd

/-! M10: the rules of / and & -/
namespace Gd
open PySem PySem.Spec PyProof.Rows L2
section
variable {S N : List Str} {s : Str} {L M : List (Str × Int)}
theorem lkO (p : Plain S N s L) (q : Plain S N s M) (z : Str) : (sortP (orP L M)).lookup z = orO (L.lookup z) (M.lookup z) := by rw [lookup_sortP (orP_nodup M L p.nd), lookup_orP q.nd]
theorem lkA (p : Plain S N s L) (_ : Plain S N s M) (z : Str) : (sortP (andP L M)).lookup z = andO (L.lookup z) (M.lookup z) := by rw [lookup_sortP (andP_nodup p.nd), lookup_andP]
end
theorem lesser_min (i j : Int) : lesser i j = min i j := by
  unfold lesser
  split <;> omega
theorem greater_max (i j : Int) : greater i j = max i j := by
  unfold greater
  split <;> omega
theorem orO_comm (a b : Option Int) : orO a b = orO b a := by
  cases a <;> cases b <;> simp only [orO, lesser_min] <;> (congr 1; omega)
theorem andO_comm (a b : Option Int) : andO a b = andO b a := by
  cases a <;> cases b <;> simp only [andO, greater_max] <;> (congr 1; omega)
theorem orO_idem (a : Option Int) : orO a a = a := by
  cases a <;> simp only [orO, lesser_min] <;> (congr 1; omega)
theorem andO_idem (a : Option Int) : andO a a = a := by
  cases a <;> simp only [andO, greater_max] <;> (congr 1; omega)
theorem orO_assoc (a b c : Option Int) : orO (orO a b) c = orO a (orO b c) := by
  cases a <;> cases b <;> cases c <;> simp only [orO, lesser_min] <;> (congr 1; omega)
theorem andO_assoc (a b c : Option Int) : andO (andO a b) c = andO a (andO b c) := by
  cases a <;> cases b <;> cases c <;> simp only [andO, greater_max] <;> (congr 1; omega)
theorem abs1 (a b : Option Int) : orO a (andO a b) = a := by
  cases a <;> cases b <;> simp only [orO, andO, lesser_min, greater_max] <;> (congr 1; omega)
theorem abs2 (a b : Option Int) : andO a (orO a b) = a := by
  cases a <;> cases b <;> simp only [orO, andO, lesser_min, greater_max] <;> (congr 1; omega)
theorem dist1 (a b c : Option Int) : andO a (orO b c) = orO (andO a b) (andO a c) := by
  cases a <;> cases b <;> cases c <;> simp only [orO, andO, lesser_min, greater_max] <;> (congr 1; omega)
theorem dist2 (a b c : Option Int) : orO a (andO b c) = andO (orO a b) (orO a c) := by
  cases a <;> cases b <;> cases c <;> simp only [orO, andO, lesser_min, greater_max] <;> (congr 1; omega)
theorem or_and (a b : Option Int) : orO a b = a ↔ andO a b = b := by
  cases a <;> cases b <;> simp only [orO, andO, lesser_min, greater_max, reduceCtorEq, Option.some.injEq] <;> omega
section
variable {S N : List Str} {s : Str} {L M : List (Str × Int)}
theorem same_truth (p : Plain S N s L) (q : Plain S N s M) : eqPr (sortP (orP L M)) L = eqPr (sortP (andP L M)) M := by
  rw [Bool.eq_iff_iff, eqPr_iff (p.or q).sort.nd p.nd, eqPr_iff (p.and q).sort.nd q.nd]
  constructor
  · intro h z
    rw [lkA p q]
    have := h z
    rw [lkO p q] at this
    exact (or_and _ _).mp this
  · intro h z
    rw [lkO p q]
    have := h z
    rw [lkA p q] at this
    exact (or_and _ _).mpr this
end
/-- what stands besides a list that changes -/
theorem BookAt.upB {C : Addr} {H H' : Hp} {b D : Addr} {l : List V} {L : List (Str × Int)} (B : BookAt C H b L) (hD : H D = some (.lst l)) (k : SameB D H H') : BookAt C H' b L := by
  obtain ⟨⟨dx, d, t, al, m, n, h1, h2, h3, h4, h5⟩, r1, r2, r3⟩ := B
  exact ⟨⟨dx, d, t, al, m, n, k _ _ (ne_of h1 hD (fun z => nomatch z)) h1, k _ _ (ne_of h2 hD (fun z => nomatch z)) h2, k _ _ (ne_of h3 hD (fun z => nomatch z)) h3, k _ _ (ne_of h4 hD (fun z => nomatch z)) h4, h5⟩, r1, r2, r3⟩
/-- [.. for x in xs], each item told by what it has to do with x -/
theorem lc_relG {K : PySem.W.Frag} {a : Addr} {xs : List V} {slot : Nat} {te : TE} {vs : List Nat} {σ : L2.St} {H1 : Hp} {D : Addr} {Qd : Hp → Prop} (Rel : V → V → Hp → Prop) (mono : ∀ x y H H', Same H H' → Rel x y H → Rel x y H') (mono2 : ∀ x y H l o, H D = some (.lst l) → Rel x y H → Rel x y (upd H D o)) (hD : H1 D = none) (hS : SqL K H1 a xs) (hn : xs.length ≤ 100000)
    (hw : ∀ x, wipe ((wipe σ vs).set slot (some x)) vs = wipe σ vs)
    (hs : ∀ (x : V) (H : Hp), x ∈ xs → Same H1 H → ∀ Q : VK, (∀ y H', Same H H' → Rel x y H' → Q y H') → te ((wipe σ vs).set slot (some x)) H Q)
    (hd : ∀ (H : Hp) (ys : List V), Same H1 H → H D = some (.lst ys) → Paired (fun x y => Rel x y H) xs ys → Qd H) :
    ∃ W : Nat → Nat → Hp → Prop, (∃ m, W 0 m (upd H1 D (.lst []))) ∧ ∀ i m H, W i m H →
      ((Itl K a).stop i H ∧ Qd H) ∨ ((Itl K a).go i H ∧ ∃ Nx : Hp → Prop, (∀ H', Nx H' → ∃ m', m' < m ∧ W (i + 1) m' H') ∧ ∀ x H', (Itl K a).yld i H x H' → gName slot x (wipe σ vs) H' fun σ2 H2 => wipe σ2 vs = wipe σ vs ∧ tYes σ2 H2 fun b H3 =>
        if b = true then te σ2 H3 fun y H4 => ∃ acc, H4 D = some (.lst acc) ∧ acc.length < sizeLine ∧ Nx (upd H4 D (.lst (acc ++ [y]))) else Nx H3) := by
  refine lc_list (K := K) (a := a) (xs := xs) (fun i H => Same H1 H ∧ ∃ ys, H D = some (.lst ys) ∧ Paired (fun x y => Rel x y H) (xs.take i) ys) ⟨same_new hD, [], upd_same, .nil⟩ (fun i H _ h => h.1.seq hS) ?_ ?_
  · rintro i x H hi ⟨sm, ys, h, prs⟩
    refine ⟨hw _, ?_⟩
    simp only [tYes, reduceIte]
    refine hs x H (List.mem_of_getElem? hi) sm _ fun y H2 sm2 rel => ?_
    have h2 := sm2 _ _ h
    have app : ∀ {α β : Type} {F : α → β → Prop} {as : List α} {bs : List β} {x : α} {y : β}, Paired F as bs → F x y → Paired F (as ++ [x]) (bs ++ [y]) := fun {α β F as bs x y} h f => by
      induction h with
      | nil => exact .cons f .nil
      | cons r _ ih => exact .cons r ih
    have lp : ys.length ≤ xs.length := by
      have h1 := Paired.length prs
      rw [List.length_take] at h1
      omega
    refine ⟨ys, h2, by rw [sizeLine_eq]; omega, same_over (sm.trans sm2) hD, ys ++ [y], upd_same, ?_⟩
    rw [List.take_add_one, hi]
    exact app (Paired.mapP prs fun x y r => mono2 _ _ _ _ _ h2 (mono _ _ _ _ sm2 r)) (mono2 _ _ _ _ _ h2 rel)
  · rintro H ⟨sm, ys, h, prs⟩
    rw [List.take_length] at prs
    exact hd H ys sm h prs
theorem pr_inj : ∀ {L M : List (Str × Int)}, pr L = pr M → L = M
  | [], [], _ => rfl
  | [], _ :: _, h => by cases h
  | _ :: _, [], h => by cases h
  | (k, v) :: r, (k', v') :: r', h => by
    have h' : ((Sum.inr k : Key), V.int v) :: pr r = ((Sum.inr k' : Key), V.int v') :: pr r' := h
    injection h' with h1 h2
    injection h1 with h3 h4
    injection h3 with h5
    injection h4 with h6
    rw [h5, h6, pr_inj h2]
theorem paired3 {α β : Type} {F : α → β → Prop} {a b c : α} {ys : List β} (h : Paired F [a, b, c] ys) : ∃ x y z, ys = [x, y, z] ∧ F a x ∧ F b y ∧ F c z := by
  cases h with
  | cons r1 t1 =>
    cases t1 with
    | cons r2 t2 =>
      cases t2 with
      | cons r3 t3 =>
        cases t3
        exact ⟨_, _, _, rfl, r1, r2, r3⟩
theorem isRef {b : Addr} {v : V} (h : v = V.ref b) : v = V.ref b := h
end Gd

/-! Gd21: z.endswith(y, 0, n); comprehensions over the keys of a locked dict. -/
namespace Gd
open PySem PySem.Spec PySem.Builtin PySem.Builtin.Str PyProof.Rows L2 L2.DX
theorem gives_ends_within (x y : Str) (i j : Int) (t u v w' : Tok) : Gives («str.endswith» ⟨[.str x t, .str y u, .int i v, .int j w'], []⟩) (.val (.bool (fromIndex x.length i + y.length ≤ toIndexW x.length j && subAt x y (toIndexW x.length j - y.length)))) := by
  show Gives (ret (.bool (fromIndex x.length i + y.length ≤ toIndexW x.length j && subAt x y (toIndexW x.length j - y.length)))) _
  exact .of_eq rfl
theorem ends_within (x y : Str) (n : Nat) (h : n ≤ x.length) : (decide (fromIndex x.length 0 + y.length ≤ toIndexW x.length (n : Int)) && subAt x y (toIndexW x.length (n : Int) - y.length)) = Txt.endswith (pre x n) y := by
  have e1 : fromIndex x.length 0 = 0 := rfl
  have e2 : toIndexW x.length (n : Int) = n := by
    unfold toIndexW
    rw [if_neg (by omega)]
    omega
  unfold Txt.endswith
  rw [e1, e2, pre_len h]
  by_cases l : 0 + y.length ≤ n
  · rw [decide_eq_true l]
    congr 1
    rw [PySem.StrLaws.subAt_eq, PySem.StrLaws.subAt_eq, pre_list, List.drop_take, List.take_take]
    congr 2
    omega
  · rw [decide_eq_false l]
    rfl
section
variable {X : Cx}
theorem mt_endswith4 : MtR X "str.endswith" (fun x xs H Q => ∃ (a b : Str) (i j : Int), x = .str a ∧ xs = [.str b, .int i, .int j] ∧ Q (.bl (decide (fromIndex a.length i + b.length ≤ toIndexW a.length j) && subAt a b (toIndexW a.length j - b.length))) H) :=
  mt1II (g := fun a b i j => .bl (decide (fromIndex a.length i + b.length ≤ toIndexW a.length j) && subAt a b (toIndexW a.length j - b.length))) fun a b i j t u z y s _ h =>
    call_gives PySem.F.slot_str_endswith (typeIs_str _ _ _) PySem.F.entry_str_endswith (PySem.F.args_str_endswith_4 _ _ _ _) (gives_ends_within a b i j t u z y) (h _ s.toks rfl)
end
/-- [.. for z in d if ..], d a locked dict -/
theorem lc_keysG {d : Addr} {o : Obj} {L : List (Str × Int)} {slot : Nat} {tt : TT} {te : TE} {vs : List Nat} {σ : L2.St} {H1 : Hp} {D : Addr} {Qd : Hp → Prop} (f : Str → Bool) (g : Str → V) (hD : H1 D = none) (h0 : H1 d = some (.frz o (.dK (pr L)))) (hn : L.length ≤ 100000)
    (hw : ∀ x, wipe ((wipe σ vs).set slot (some x)) vs = wipe σ vs)
    (ht : ∀ (e : Str × Int) (H : Hp), e ∈ L → Same H1 H → ∀ Q : Bool → Hp → Prop, (∀ H', Same H H' → Q (f e.1) H') → tt ((wipe σ vs).set slot (some (.str e.1))) H Q)
    (hs : ∀ (e : Str × Int) (H : Hp), e ∈ L → f e.1 = true → Same H1 H → ∀ Q : VK, (∀ H', Same H H' → Q (g e.1) H') → te ((wipe σ vs).set slot (some (.str e.1))) H Q)
    (hd : ∀ (H : Hp), Same H1 H → H D = some (.lst (((L.map (·.1)).filter f).map g)) → Qd H) :
    ∃ W : Nat → Nat → Hp → Prop, (∃ m, W 0 m (upd H1 D (.lst []))) ∧ ∀ i m H, W i m H →
      ((Itk d o (pr L)).stop i H ∧ Qd H) ∨ ((Itk d o (pr L)).go i H ∧ ∃ Nx : Hp → Prop, (∀ H', Nx H' → ∃ m', m' < m ∧ W (i + 1) m' H') ∧ ∀ x H', (Itk d o (pr L)).yld i H x H' → gName slot x (wipe σ vs) H' fun σ2 H2 => wipe σ2 vs = wipe σ vs ∧ tt σ2 H2 fun b H3 =>
        if b = true then te σ2 H3 fun y H4 => ∃ acc, H4 D = some (.lst acc) ∧ acc.length < sizeLine ∧ Nx (upd H4 D (.lst (acc ++ [y]))) else Nx H3) := by
  refine ⟨fun i m H => m = L.length - i ∧ i ≤ L.length ∧ Same H1 H ∧ H D = some (.lst ((((L.take i).map (·.1)).filter f).map g)), ⟨L.length - 0, rfl, Nat.zero_le _, same_new hD, upd_same⟩, ?_⟩
  rintro i m H ⟨rfl, hi, sm, at_D⟩
  have hd' := sm _ _ h0
  by_cases hlt : i < L.length
  · refine .inr ⟨⟨hd', by rw [pr_len]; exact hlt⟩, fun H' => Same H1 H' ∧ H' D = some (.lst ((((L.take (i + 1)).map (·.1)).filter f).map g)), fun H' p' => ⟨L.length - (i + 1), by omega, rfl, hlt, p'⟩, fun x H' y => ?_⟩
    obtain ⟨rfl, k, v, hk, rfl⟩ := y
    obtain ⟨e, he, rfl, rfl⟩ := pr_get hk
    have me := List.mem_of_getElem? he
    have et : ((L.take (i + 1)).map (·.1)) = ((L.take i).map (·.1)) ++ [e.1] := by
      rw [List.take_add_one, he, List.map_append]
      rfl
    refine ⟨hw _, ht e _ me sm _ fun H2 sm2 => ?_⟩
    have at_D2 := sm2 _ _ at_D
    cases q : f e.1 with
    | false =>
      refine iteF ⟨sm.trans sm2, ?_⟩
      rw [et, List.filter_append]
      simp only [List.filter_cons, q, List.filter_nil, Bool.false_eq_true, if_false, List.append_nil]
      exact at_D2
    | true =>
      refine iteT (hs e H2 me q (sm.trans sm2) _ fun H3 sm3 => ?_)
      have at_D3 := sm3 _ _ at_D2
      refine ⟨_, at_D3, ?_, same_over ((sm.trans sm2).trans sm3) hD, ?_⟩
      · have h2 := List.length_filter_le f ((L.take i).map (·.1))
        rw [List.length_map, List.length_take] at h2
        rw [List.length_map, sizeLine_eq]
        omega
      · rw [upd_same, et, List.filter_append, List.map_append]
        simp only [List.filter_cons, q, List.filter_nil, if_true, List.map_cons, List.map_nil]
  · have e : i = L.length := by omega
    refine .inl ⟨⟨hd', by rw [pr_len]; omega⟩, hd H sm ?_⟩
    rw [e, List.take_length] at at_D
    exact at_D
end Gd

/-! M11: least prices by their last pieces; books nowhere dearer, for all texts -/
namespace Gd
open PySem PySem.Spec PyProof.Rows L2
theorem app_assoc (a b c : Str) : (a ++ b) ++ c = a ++ (b ++ c) := str_eq_of_lists (by rw [app_list, app_list, app_list, app_list, List.append_assoc])
theorem nil_of_len {z : Str} (h : z.length = 0) : z = Str.ofString "" := str_eq_of_lists (by
  have : z.cps.toList = [] := List.length_eq_zero_iff.mp (by rw [str_len]; exact h)
  rw [this]
  rfl)
theorem nil_app (z : Str) : Str.ofString "" ++ z = z := str_eq_of_lists (by rw [app_list]; rfl)
theorem app_nil (z : Str) : z ++ Str.ofString "" = z := str_eq_of_lists (by
  rw [app_list]
  exact List.append_nil _)
theorem pre_app (x y : Str) : pre (x ++ y) x.length = x := str_eq_of_lists (by rw [pre_list, app_list, ← str_len, List.take_left])
theorem pre_pre {z : Str} {m n : Nat} (h : m ≤ n) : pre (pre z n) m = pre z m := str_eq_of_lists (by rw [pre_list, pre_list, pre_list, List.take_take, Nat.min_eq_left h])
theorem ends_iff {z y : Str} : Txt.endswith z y = true ↔ ∃ x, z = x ++ y := by
  unfold Txt.endswith
  rw [Bool.and_eq_true, decide_eq_true_eq, Nat.zero_add]
  constructor
  · rintro ⟨l, h⟩
    refine ⟨pre z (z.length - y.length), str_eq_of_lists ?_⟩
    rw [PySem.StrLaws.subAt_eq] at h
    have e := beq_iff_eq.mp h
    rw [app_list, pre_list, ← e]
    rw [List.take_of_length_le (l := z.cps.toList.drop _) (by rw [List.length_drop, str_len]; omega), List.take_append_drop]
  · rintro ⟨x, rfl⟩
    refine ⟨by rw [app_len]; omega, ?_⟩
    rw [PySem.StrLaws.subAt_eq, app_len, Nat.add_sub_cancel, app_list, ← str_len x, List.drop_left, List.take_of_length_le (by rw [str_len]; exact Nat.le_refl _)]
    exact beq_iff_eq.mpr rfl
/-- the signs from i to j -/
def seg (z : Str) (i j : Nat) : Str := cutS z (some (i : Int)) (some (j : Int))
theorem sIx_n (n d k : Nat) : HT.sIx n d (some (k : Int)) = min k n := HT.sIx_nat n d k
theorem seg_list {z : Str} {i j : Nat} (h : i ≤ j) (hj : j ≤ z.length) : (seg z i j).cps.toList = (z.cps.toList.drop i).take (j - i) := by
  unfold seg
  rw [cutS_list, sIx_n, sIx_n, Nat.min_eq_left (show i ≤ z.length by omega), Nat.min_eq_left hj]
theorem seg_len {z : Str} {i j : Nat} (h : i ≤ j) (hj : j ≤ z.length) : (seg z i j).length = j - i := by
  rw [← str_len, seg_list h hj, List.length_take, List.length_drop, str_len]
  omega
theorem pre_seg {z : Str} {i j : Nat} (h : i ≤ j) (hj : j ≤ z.length) : pre z j = pre z i ++ seg z i j := str_eq_of_lists (by
  rw [app_list, pre_list, pre_list, seg_list h hj, List.take_add.symm.trans (congrArg (fun n => z.cps.toList.take n) (show i + (j - i) = j by omega))])
/-- the signs from i on -/
def suf (z : Str) (i : Nat) : Str := cutS z (some (i : Int)) none
theorem suf_seg (z : Str) (i : Nat) : suf z i = seg z i z.length := str_eq_of_lists (by
  unfold suf seg
  rw [cutS_list, cutS_list, sIx_n, sIx_n, Nat.min_self]
  rfl)
section
variable {L M : List (Str × Int)}
theorem leastL_at (L : List (Str × Int)) (z : Str) {k : Nat} : ∀ {n}, k ≤ n → (leastL L z n).getD k 0 = (leastL L z k).getD k 0
  | 0, h => by
    obtain rfl : k = 0 := by omega
    rfl
  | n + 1, h => by
    by_cases e : k = n + 1
    · rw [e]
    · have h' : k ≤ n := by omega
      show (leastL L z n ++ [_]).getD k 0 = _
      rw [List.getD_eq_getElem?_getD, List.getElem?_append_left (by rw [leastL_len]; omega), ← List.getD_eq_getElem?_getD]
      exact leastL_at L z h'
theorem leastL_pre (L : List (Str × Int)) (z : Str) {m : Nat} : ∀ {n}, n ≤ m → leastL L (pre z m) n = leastL L z n
  | 0, _ => rfl
  | n + 1, h => by
    show leastL L (pre z m) n ++ [minL (costsP L (pre z m) (leastL L (pre z m) n) (n + 1))] = leastL L z n ++ [minL (costsP L z (leastL L z n) (n + 1))]
    have ih : leastL L (pre z m) n = leastL L z n := leastL_pre L z (by omega)
    have el : lastP L (pre z m) (n + 1) = lastP L z (n + 1) := by
      unfold lastP
      rw [pre_pre h]
    unfold costsP
    rw [ih, el]
theorem leastP_pre (L : List (Str × Int)) {z : Str} {n : Nat} (h : n ≤ z.length) : leastP L (pre z n) = (leastL L z n).getD n 0 := by
  unfold leastP
  rw [pre_len h, leastL_pre L z (Nat.le_refl n)]
theorem leastP_nil (L : List (Str × Int)) : leastP L (Str.ofString "") = 0 := rfl
theorem costs_mem {z : Str} {n : Nat} (hz : z.length = n + 1) {v : Int} (hp : ∀ e ∈ L, 1 ≤ e.1.length) : v ∈ costsP L z (leastL L z n) (n + 1) ↔ ∃ x e, e ∈ L ∧ z = x ++ e.1 ∧ v = leastP L x + e.2 := by
  unfold costsP lastP
  rw [List.mem_map]
  have pz : pre z (n + 1) = z := by rw [← hz]; exact pre_all z
  constructor
  · rintro ⟨e, me, rfl⟩
    obtain ⟨m1, m2⟩ := List.mem_filter.mp me
    rw [pz] at m2
    obtain ⟨x, rfl⟩ := ends_iff.mp m2
    refine ⟨x, e, m1, rfl, ?_⟩
    have l1 := hp e m1
    rw [app_len] at hz
    have ex : n + 1 - e.1.length = x.length := by omega
    have := leastP_pre L (z := x ++ e.1) (n := x.length) (by rw [app_len]; omega)
    rw [pre_app] at this
    rw [ex, leastL_at L _ (show x.length ≤ n by omega), ← this]
  · rintro ⟨x, e, m1, rfl, rfl⟩
    refine ⟨e, List.mem_filter.mpr ⟨m1, ?_⟩, ?_⟩
    · rw [pz]
      exact ends_iff.mpr ⟨x, rfl⟩
    · have l1 := hp e m1
      rw [app_len] at hz
      have ex : n + 1 - e.1.length = x.length := by omega
      have := leastP_pre L (z := x ++ e.1) (n := x.length) (by rw [app_len]; omega)
      rw [pre_app] at this
      rw [ex, leastL_at L _ (show x.length ≤ n by omega), ← this]
theorem leastP_succ (L : List (Str × Int)) {z : Str} {n : Nat} (hz : z.length = n + 1) : leastP L z = minL (costsP L z (leastL L z n) (n + 1)) := by
  unfold leastP
  rw [hz]
  show (leastL L z n ++ [minL (costsP L z (leastL L z n) (n + 1))]).getD (n + 1) 0 = _
  rw [List.getD_eq_getElem?_getD, List.getElem?_append_right (by rw [leastL_len]; exact Nat.le_refl _), leastL_len, Nat.sub_self]
  rfl
theorem leastL_snoc (L : List (Str × Int)) {z : Str} {n : Nat} (h : n + 1 ≤ z.length) : leastL L z (n + 1) = leastL L z n ++ [leastP L (pre z (n + 1))] := by
  rw [leastP_pre L h]
  show leastL L z n ++ [minL (costsP L z (leastL L z n) (n + 1))] = leastL L z n ++ [(leastL L z n ++ [minL (costsP L z (leastL L z n) (n + 1))]).getD (n + 1) 0]
  rw [List.getD_eq_getElem?_getD, List.getElem?_append_right (by rw [leastL_len]; exact Nat.le_refl _), leastL_len, Nat.sub_self]
  rfl
/-- each sign of the text is a piece -/
def Cov (L : List (Str × Int)) (z : Str) : Prop := ∀ c ∈ z.cps.toList, sg c ∈ L.map (·.1)
theorem Cov.left {x y : Str} (h : Cov L (x ++ y)) : Cov L x := fun c m => h c (by rw [app_list]; exact List.mem_append.mpr (.inl m))
theorem Cov.right {x y : Str} (h : Cov L (x ++ y)) : Cov L y := fun c m => h c (by rw [app_list]; exact List.mem_append.mpr (.inr m))
theorem Cov.pre {z : Str} (h : Cov L z) (n : Nat) : Cov L (pre z n) := fun c m => h c (by
  rw [pre_list] at m
  exact List.mem_of_mem_take m)
theorem least_step (hp : ∀ e ∈ L, 1 ≤ e.1.length) {x : Str} {e : Str × Int} (m : e ∈ L) : leastP L (x ++ e.1) ≤ leastP L x + e.2 := by
  have l1 := hp e m
  obtain ⟨n, hn⟩ : ∃ n, (x ++ e.1).length = n + 1 := ⟨(x ++ e.1).length - 1, by rw [app_len]; omega⟩
  rw [leastP_succ L hn]
  have mc := (costs_mem hn hp (v := leastP L x + e.2)).mpr ⟨x, e, m, rfl, rfl⟩
  exact (minL_spec (List.ne_nil_of_mem mc)).2 _ mc
theorem least_last (hp : ∀ e ∈ L, 1 ≤ e.1.length) {z : Str} (hz : z.length ≠ 0) (cov : Cov L z) : ∃ x e, e ∈ L ∧ z = x ++ e.1 ∧ leastP L z = leastP L x + e.2 := by
  obtain ⟨n, hn⟩ : ∃ n, z.length = n + 1 := ⟨z.length - 1, by omega⟩
  rw [leastP_succ L hn]
  refine (costs_mem hn hp).mp (minL_spec ?_).1
  have := last_ne (L := L) (z := z) cov n (by omega)
  unfold costsP
  exact fun h => this (List.map_eq_nil_iff.mp h)
theorem least_app (hp : ∀ e ∈ L, 1 ≤ e.1.length) (x : Str) : ∀ n, ∀ y : Str, y.length ≤ n → Cov L y → leastP L (x ++ y) ≤ leastP L x + leastP L y
  | 0, y, h, _ => by
    have : y = Str.ofString "" := nil_of_len (by omega)
    rw [this, app_nil, leastP_nil]
    omega
  | n + 1, y, h, cov => by
    by_cases e0 : y.length = 0
    · have : y = Str.ofString "" := nil_of_len e0
      rw [this, app_nil, leastP_nil]
      omega
    · obtain ⟨x', e, me, rfl, el⟩ := least_last hp e0 cov
      have l1 := hp e me
      rw [app_len] at h
      have ih := least_app hp x n x' (by omega) cov.left
      have st := least_step hp (x := x ++ x') me
      rw [app_assoc] at st
      omega
theorem least_one (hp : ∀ e ∈ L, 1 ≤ e.1.length) {e : Str × Int} (m : e ∈ L) : leastP L e.1 ≤ e.2 := by
  have := least_step hp (x := Str.ofString "") m
  rw [nil_app, leastP_nil] at this
  omega
/-- nowhere dearer by pieces: nowhere dearer by texts -/
theorem least_all (h : ∀ e ∈ M, leastP L e.1 ≤ e.2) (hl : ∀ e ∈ L, 1 ≤ e.1.length) (hm : ∀ e ∈ M, 1 ≤ e.1.length) : ∀ n, ∀ z : Str, z.length ≤ n → Cov L z → Cov M z → leastP L z ≤ leastP M z
  | 0, z, l, _, _ => by
    have : z = Str.ofString "" := nil_of_len (by omega)
    rw [this]
    exact Int.le_refl _
  | n + 1, z, l, c1, c2 => by
    by_cases e0 : z.length = 0
    · have : z = Str.ofString "" := nil_of_len e0
      rw [this]
      exact Int.le_refl _
    · obtain ⟨x, e, me, rfl, el⟩ := least_last hm e0 c2
      have l1 := hm e me
      rw [app_len] at l
      have ih := least_all h hl hm n x (by omega) c1.left c2.left
      have st := least_app hl x e.1.length e.1 (Nat.le_refl _) c1.right
      have := h e me
      omega
theorem least_same (hl : ∀ e ∈ L, 1 ≤ e.1.length) (hm : ∀ e ∈ M, 1 ≤ e.1.length) (h : ∀ e, e ∈ L ↔ e ∈ M) {z : Str} (c : Cov L z) : leastP L z = leastP M z := by
  have c2 : Cov M z := fun k mk => by
    obtain ⟨e, me, ee⟩ := List.mem_map.mp (c k mk)
    exact List.mem_map.mpr ⟨e, (h e).mp me, ee⟩
  exact Int.le_antisymm (least_all (fun e me => least_one hl ((h e).mpr me)) hl hm _ z (Nat.le_refl _) c c2) (least_all (fun e me => least_one hm ((h e).mp me)) hm hl _ z (Nat.le_refl _) c2 c)
theorem dearer_non : dearer L M = .non ↔ ∀ e ∈ M, leastP L e.1 ≤ e.2 := by
  unfold dearer
  constructor
  · intro h e me
    cases q : M.find? fun e => decide (e.2 < leastP L e.1) with
    | some f =>
      rw [q] at h
      cases h
    | none =>
      have := List.find?_eq_none.mp q e me
      rw [decide_eq_true_eq] at this
      omega
  · intro h
    rw [List.find?_eq_none.mpr fun e me => ?_]
    rw [decide_eq_true_eq]
    have := h e me
    omega
/-- the costs of the last pieces that begin from lo on, by the law -/
def costJ (L : List (Str × Int)) (z : Str) (f : Nat → Int) (lo j stop : Nat) : List Int := (List.range j).filterMap fun i => (L.lookup (seg z (lo + i) stop)).map fun v => f (lo + i) + v
theorem costJ_succ (L : List (Str × Int)) (z : Str) (f : Nat → Int) (lo j stop : Nat) : costJ L z f lo (j + 1) stop = costJ L z f lo j stop ++ (match L.lookup (seg z (lo + j) stop) with | some v => [f (lo + j) + v] | none => []) := by
  unfold costJ
  rw [List.range_succ, List.filterMap_append]
  congr 1
  rw [List.filterMap_cons, List.filterMap_nil]
  cases L.lookup (seg z (lo + j) stop) <;> rfl
theorem costJ_len (L : List (Str × Int)) (z : Str) (f : Nat → Int) (lo j stop : Nat) : (costJ L z f lo j stop).length ≤ j := by
  have := List.length_filterMap_le (fun i => (L.lookup (seg z (lo + i) stop)).map fun v => f (lo + i) + v) (List.range j)
  rw [List.length_range] at this
  exact this
theorem costJ_min (nd : (L.map (·.1)).Nodup) (hp : ∀ e ∈ L, 1 ≤ e.1.length ∧ e.1.length ≤ 5) {z : Str} {stop : Nat} (h1 : 1 ≤ stop) (h2 : stop ≤ z.length) {f : Nat → Int} (hf : ∀ s, s < stop → f s = leastP L (pre z s)) (cov : Cov L (pre z stop)) :
    costJ L z f (stop - 5) (stop - (stop - 5)) stop ≠ [] ∧ minL (costJ L z f (stop - 5) (stop - (stop - 5)) stop) = leastP L (pre z stop) := by
  have hl : ∀ e ∈ L, 1 ≤ e.1.length := fun e m => (hp e m).1
  have mem : leastP L (pre z stop) ∈ costJ L z f (stop - 5) (stop - (stop - 5)) stop := by
    obtain ⟨x, e, me, ez, el⟩ := least_last hl (z := pre z stop) (by rw [pre_len h2]; omega) cov
    have le := hp e me
    have lz := congrArg Str.length ez
    rw [pre_len h2, app_len] at lz
    have ex : x = pre z x.length := by
      have h : pre (pre z stop) x.length = pre (x ++ e.1) x.length := congrArg (fun w => pre w x.length) ez
      rw [pre_app, pre_pre (by omega)] at h
      exact h.symm
    have es : seg z x.length stop = e.1 := by
      have h := pre_seg (z := z) (i := x.length) (j := stop) (by omega) h2
      rw [ez, ← ex] at h
      have h' : (x ++ e.1).cps.toList = (x ++ seg z x.length stop).cps.toList := congrArg (fun w : Str => w.cps.toList) h
      rw [app_list, app_list] at h'
      exact (str_eq_of_lists (List.append_cancel_left h')).symm
    unfold costJ
    rw [List.mem_filterMap]
    refine ⟨x.length - (stop - 5), List.mem_range.mpr (by omega), ?_⟩
    rw [show stop - 5 + (x.length - (stop - 5)) = x.length by omega, es, lookup_nodup nd e me, hf _ (by omega), ← ex, el]
    rfl
  refine ⟨List.ne_nil_of_mem mem, (minL_is mem fun y my => ?_).symm⟩
  unfold costJ at my
  obtain ⟨i, mi, hi⟩ := List.mem_filterMap.mp my
  have li := List.mem_range.mp mi
  cases q : L.lookup (seg z (stop - 5 + i) stop) with
  | none =>
    rw [q] at hi
    cases hi
  | some v =>
    rw [q] at hi
    have hy : f (stop - 5 + i) + v = y := Option.some.inj hi
    have st := least_step hl (x := pre z (stop - 5 + i)) (lookup_mem q)
    rw [← pre_seg (by omega) h2, ← hf (stop - 5 + i) (by omega)] at st
    dsimp only at st
    omega
end
end Gd

/-! M12: texts over some signs; books over them; tables of least prices -/
namespace Gd
open PySem PySem.Spec PyProof.Rows L2
/-- one to four letters -/
structure Sg (S : List Str) : Prop where
  few : 1 ≤ S.length ∧ S.length ≤ 4
  sign : ∀ z ∈ S, ∃ c, low c = true ∧ z = sg c
  nd : S.Nodup
/-- a text over these letters -/
def Over (S : List Str) (z : Str) : Prop := ∀ c ∈ z.cps.toList, sg c ∈ S
theorem Over.nil (S : List Str) : Over S (Str.ofString "") := fun c m => (nomatch m)
theorem Over.app {S : List Str} {x y : Str} (h : Over S x) (k : Over S y) : Over S (x ++ y) := fun c m => by
  rw [app_list] at m
  exact (List.mem_append.mp m).elim (h c) (k c)
theorem Over.left {S : List Str} {x y : Str} (h : Over S (x ++ y)) : Over S x := fun c m => h c (by rw [app_list]; exact List.mem_append.mpr (.inl m))
theorem Over.right {S : List Str} {x y : Str} (h : Over S (x ++ y)) : Over S y := fun c m => h c (by rw [app_list]; exact List.mem_append.mpr (.inr m))
theorem Over.pre {S : List Str} {z : Str} (h : Over S z) (n : Nat) : Over S (pre z n) := fun c m => h c (by
  rw [pre_list] at m
  exact List.mem_of_mem_take m)
theorem Over.sgn {S : List Str} {c : Nat} (h : sg c ∈ S) : Over S (sg c) := fun d m => by
  obtain rfl : d = c := by simpa using m
  exact h
section
variable {S : List Str}
theorem Sg.low (s : Sg S) {z : Str} (h : Over S z) : ∀ c ∈ z.cps.toList, low c = true := fun c m => by
  obtain ⟨d, hd, e⟩ := s.sign _ (h c m)
  have : c = d := by simpa [sg] using e
  rw [this]
  exact hd
theorem Sg.over (s : Sg S) {z : Str} (h : z ∈ S) : Over S z := by
  obtain ⟨c, _, rfl⟩ := s.sign z h
  exact Over.sgn h
theorem Sg.len (s : Sg S) {z : Str} (h : z ∈ S) : z.length = 1 := by
  obtain ⟨c, _, rfl⟩ := s.sign z h
  rfl
theorem over_join (s : Sg S) {zs : List Str} (h : ∀ z ∈ zs, z ∈ S) : (Txt.join (Str.ofString "") zs).length = zs.length ∧ Over S (Txt.join (Str.ofString "") zs) := by
  have one : ∀ z ∈ zs, z.length = 1 := fun z m => s.len (h z m)
  refine ⟨by rw [len_join, sum_one one], fun c mc => ?_⟩
  rw [join0] at mc
  obtain ⟨l, ml, mc⟩ := List.mem_flatten.mp mc
  obtain ⟨z, mz, rfl⟩ := List.mem_map.mp ml
  exact s.over (h z mz) c mc
theorem over_piece (s : Sg S) {z : Str} (h : Over S z) (l1 : 1 ≤ z.length) (l2 : z.length ≤ 5) : isPiece (.str z) = true := by
  rw [isPiece_str, Bool.and_eq_true]
  exact ⟨isText_low (s.low h) (by omega), decide_eq_true ⟨l1, l2⟩⟩
end
/-- prices of all these letters and of pieces over them -/
structure Full (S : List Str) (L : List (Str × Int)) : Prop where
  nd : (L.map (·.1)).Nodup
  len : L.length ≤ 12
  has : ∀ z ∈ S, z ∈ L.map (·.1)
  piece : ∀ z ∈ L.map (·.1), (1 ≤ z.length ∧ z.length ≤ 5) ∧ Over S z
  price : ∀ e ∈ L, 1 ≤ e.2 ∧ e.2 ≤ 99
section
variable {S : List Str} {L M : List (Str × Int)}
theorem Full.sig (s : Sg S) (f : Full S L) {z : Str} : z ∈ sigsP L ↔ z ∈ S := by
  rw [mem_sigs]
  constructor
  · rintro ⟨x, mx, c, mc, rfl⟩
    exact (f.piece x mx).2 c mc
  · intro h
    obtain ⟨c, _, rfl⟩ := s.sign z h
    exact ⟨sg c, f.has _ h, c, by simp, rfl⟩
theorem Full.same (s : Sg S) (f : Full S L) (g : Full S M) : sigsP L = sigsP M := sorted_unique (sortT_sorted _) (sortT_sorted _) (nodup_perm (nodup_ascT _) (nodup_ascT _) fun z => (f.sig s).trans (g.sig s).symm)
theorem Full.good (s : Sg S) (f : Full S L) : arePr L = true := by
  have pos : 1 ≤ L.length := by
    obtain ⟨z, mz⟩ := List.exists_mem_of_length_pos (show 0 < S.length from s.few.1)
    have h := List.length_pos_of_mem (f.has z mz)
    rw [List.length_map] at h
    exact h
  unfold arePr
  simp only [Bool.and_eq_true]
  refine ⟨⟨⟨decide_eq_true ⟨pos, f.len⟩, List.all_eq_true.mpr fun e me => ?_⟩, decide_eq_true ?_⟩, List.all_eq_true.mpr fun z mz => mem_look.mp (f.has z ((f.sig s).mp mz))⟩
  · rw [Bool.and_eq_true]
    have h := f.piece e.1 (List.mem_map.mpr ⟨e, me, rfl⟩)
    exact ⟨over_piece s h.2 h.1.1 h.1.2, decide_eq_true (f.price e me)⟩
  · exact Nat.le_trans (nodup_le (l := sigsP L) (nodup_ascT _) fun z mz => (f.sig s).mp mz) s.few.2
theorem Full.pos (f : Full S L) : ∀ e ∈ L, 1 ≤ e.1.length ∧ e.1.length ≤ 5 := fun e m => (f.piece e.1 (List.mem_map.mpr ⟨e, m, rfl⟩)).1
theorem Full.pos1 (f : Full S L) : ∀ e ∈ L, 1 ≤ e.1.length := fun e m => (f.pos e m).1
theorem Full.cov (f : Full S L) {z : Str} (h : Over S z) : Cov L z := fun c m => f.has _ (h c m)
theorem Full.over (f : Full S L) {e : Str × Int} (m : e ∈ L) : Over S e.1 := (f.piece e.1 (List.mem_map.mpr ⟨e, m, rfl⟩)).2
theorem Full.sort (f : Full S L) : Full S (sortP L) := by
  have k : ∀ {z}, z ∈ (sortP L).map (·.1) ↔ z ∈ L.map (·.1) := fun {z} => by
    rw [sortP_keys]
    exact (sortT_perm _).mem_iff
  exact ⟨sortP_nodup f.nd, by rw [sortP_len]; exact f.len, fun z m => k.mpr (f.has z m), fun z m => f.piece z (k.mp m), fun e m => f.price e ((mem_sortP f.nd).mp m)⟩
theorem Full.least (f : Full S L) {z : Str} (h : Over S z) : leastP (sortP L) z = leastP L z := least_same f.sort.pos1 f.pos1 (fun _ => mem_sortP f.nd) (f.sort.cov h)
/-- nowhere dearer: for all texts -/
theorem Full.nowhere (f : Full S L) (g : Full S M) : dearer (sortP L) (sortP M) = .non ↔ ∀ z, Over S z → leastP L z ≤ leastP M z := by
  rw [dearer_non]
  constructor
  · intro h z o
    rw [← f.least o, ← g.least o]
    exact least_all h f.sort.pos1 g.sort.pos1 _ z (Nat.le_refl _) (f.sort.cov o) (g.sort.cov o)
  · intro h e me
    have o := g.sort.over me
    rw [f.least o]
    have h1 := h e.1 o
    have h2 := least_one g.sort.pos1 me
    rw [g.least o] at h2
    omega
theorem Full.dear (f : Full S L) (g : Full S M) : dearer (sortP L) (sortP M) = .non ↔ ∀ e ∈ M, leastP L e.1 ≤ e.2 := by
  rw [dearer_non]
  constructor
  · intro h e me
    rw [← f.least (g.over me)]
    exact h e ((mem_sortP g.nd).mpr me)
  · intro h e me
    rw [f.least (g.sort.over me)]
    exact h e ((mem_sortP g.nd).mp me)
end
/-! ### tables -/
def tab (L : List (Str × Int)) (ks : List Str) : List (Str × Int) := ks.map fun t => (t, leastP L t)
def addK (ks : List Str) (t : Str) : List Str := if t ∈ ks then ks else ks ++ [t]
theorem tab_keys (L : List (Str × Int)) (ks : List Str) : (tab L ks).map (·.1) = ks := by
  unfold tab
  rw [List.map_map]
  exact List.map_id' _
theorem lookup_tab {L : List (Str × Int)} {t : Str} : ∀ {ks : List Str}, t ∈ ks → (tab L ks).lookup t = some (leastP L t)
  | k :: r, h => by
    show ((k, leastP L k) :: tab L r).lookup t = _
    rw [List.lookup_cons]
    by_cases e : t = k
    · subst e
      rw [show (t == t) = true from beq_iff_eq.mpr rfl]
    · rw [show (t == k) = false from beq_eq_false_iff_ne.mpr e]
      exact lookup_tab ((List.mem_cons.mp h).resolve_left e)
theorem putP_tab {L : List (Str × Int)} {ks : List Str} {t : Str} : putP (tab L ks) t (leastP L t) = tab L (addK ks t) := by
  unfold addK
  by_cases h : t ∈ ks
  · rw [if_pos h]
    unfold putP
    have mt : (t, leastP L t) ∈ tab L ks := List.mem_map.mpr ⟨t, h, rfl⟩
    rw [if_pos (List.any_eq_true.mpr ⟨_, mt, decide_eq_true rfl⟩)]
    unfold tab
    rw [List.map_map]
    refine List.map_congr_left fun k _ => ?_
    show (if k = t then (k, leastP L t) else (k, leastP L k)) = _
    by_cases e : k = t
    · rw [if_pos e, e]
    · rw [if_neg e]
  · rw [if_neg h, putP_new (by rw [tab_keys]; exact h)]
    unfold tab
    rw [List.map_append]
    rfl
theorem mem_addK {ks : List Str} {t z : Str} : z ∈ addK ks t ↔ z ∈ ks ∨ z = t := by
  unfold addK
  split
  · next h =>
    exact ⟨.inl, fun h' => h'.elim id fun e => e ▸ h⟩
  · rw [List.mem_append, List.mem_singleton]
theorem len_addK (ks : List Str) (t : Str) : (addK ks t).length ≤ ks.length + 1 := by
  unfold addK
  split
  · omega
  · rw [List.length_append]
    exact Nat.le_refl _
theorem nd_addK {ks : List Str} {t : Str} (h : ks.Nodup) : (addK ks t).Nodup := by
  unfold addK
  split
  · exact h
  · next n => exact List.nodup_append.mpr ⟨h, by simp, fun a m b mb => by
      obtain rfl : b = t := by simpa using mb
      exact fun e => n (e ▸ m)⟩
theorem mem_adds {z : Str} : ∀ {ts ks : List Str}, z ∈ ts.foldl addK ks ↔ z ∈ ks ∨ z ∈ ts
  | [], ks => ⟨.inl, fun h => h.elim id fun h => (nomatch h)⟩
  | t :: r, ks => by
    rw [List.foldl_cons, mem_adds, mem_addK, List.mem_cons, or_assoc]
theorem len_adds : ∀ (ts ks : List Str), (ts.foldl addK ks).length ≤ ks.length + ts.length
  | [], ks => Nat.le_refl _
  | t :: r, ks => by
    have h1 := len_adds r (addK ks t)
    have h2 := len_addK ks t
    rw [List.foldl_cons, List.length_cons]
    omega
theorem nd_adds : ∀ {ts ks : List Str}, ks.Nodup → (ts.foldl addK ks).Nodup
  | [], ks, h => h
  | t :: r, ks, h => nd_adds (ts := r) (nd_addK h)
/-- the texts of n letters -/
def layK (S : List Str) : Nat → List Str
  | 0 => [Str.ofString ""]
  | n + 1 => (layK S n).flatMap fun t => S.map fun s => t ++ s
/-- the texts of at most n letters -/
def allK (S : List Str) : Nat → List Str
  | 0 => [Str.ofString ""]
  | n + 1 => (layK S (n + 1)).foldl addK (allK S n)
section
variable {S : List Str}
theorem lay_mem (s : Sg S) : ∀ {n : Nat} {z : Str}, z ∈ layK S n ↔ z.length = n ∧ Over S z
  | 0, z => by
    constructor
    · intro h
      obtain rfl := List.mem_singleton.mp h
      exact ⟨rfl, Over.nil S⟩
    · rintro ⟨h, _⟩
      rw [nil_of_len h]
      exact List.mem_singleton.mpr rfl
  | n + 1, z => by
    show z ∈ (layK S n).flatMap (fun t => S.map fun s => t ++ s) ↔ _
    rw [List.mem_flatMap]
    constructor
    · rintro ⟨t, mt, mz⟩
      obtain ⟨w, mw, rfl⟩ := List.mem_map.mp mz
      obtain ⟨h1, h2⟩ := (lay_mem s).mp mt
      exact ⟨by rw [app_len, h1, s.len mw], h2.app (s.over mw)⟩
    · rintro ⟨h, o⟩
      have e : z = pre z n ++ seg z n (n + 1) := by
        have := pre_seg (z := z) (i := n) (j := n + 1) (by omega) (by omega)
        rw [← this, ← h]
        exact (pre_all z).symm
      refine ⟨pre z n, (lay_mem s).mpr ⟨pre_len (by omega), o.pre n⟩, List.mem_map.mpr ⟨seg z n (n + 1), ?_, e.symm⟩⟩
      have l1 : (seg z n (n + 1)).length = 1 := by rw [seg_len (by omega) (by omega)]; omega
      have : ∃ c, seg z n (n + 1) = sg c := by
        have l2 := str_len (seg z n (n + 1))
        rw [l1] at l2
        obtain ⟨c, hc⟩ := List.length_eq_one_iff.mp l2
        exact ⟨c, str_eq_of_lists (by rw [hc])⟩
      obtain ⟨c, hc⟩ := this
      rw [e, hc] at o
      rw [hc]
      exact o.right c (by simp)
theorem lay_len (s : Sg S) : ∀ n, (layK S n).length ≤ 4 ^ n
  | 0 => Nat.le_refl _
  | n + 1 => by
    have h := lay_len s n
    have f := s.few.2
    show ((layK S n).flatMap fun t => S.map fun s => t ++ s).length ≤ _
    rw [List.length_flatMap]
    have : ((layK S n).map fun t => (S.map fun s => t ++ s).length).sum = (layK S n).length * S.length := by
      induction layK S n with
      | nil => simp
      | cons t r ih => rw [List.map_cons, List.sum_cons, ih, List.length_map, List.length_cons, Nat.succ_mul]; omega
    rw [this, Nat.pow_succ]
    exact Nat.mul_le_mul h f
theorem all_len (s : Sg S) : ∀ n, 3 * (allK S n).length ≤ 4 ^ (n + 1)
  | 0 => by
    show 3 * 1 ≤ 4
    omega
  | n + 1 => by
    have h := all_len s n
    have l := lay_len s (n + 1)
    have k := len_adds (layK S (n + 1)) (allK S n)
    show 3 * ((layK S (n + 1)).foldl addK (allK S n)).length ≤ _
    rw [Nat.pow_succ 4 (n + 1)]
    omega
theorem all_mem_iff (s : Sg S) : ∀ {n : Nat} {z : Str}, z ∈ allK S n ↔ z.length ≤ n ∧ Over S z
  | 0, z => by
    have := lay_mem s (n := 0) (z := z)
    rw [show allK S 0 = layK S 0 from rfl, this]
    exact ⟨fun h => ⟨by omega, h.2⟩, fun h => ⟨by omega, h.2⟩⟩
  | n + 1, z => by
    show z ∈ (layK S (n + 1)).foldl addK (allK S n) ↔ _
    rw [mem_adds, all_mem_iff s, lay_mem s]
    constructor
    · rintro (h | h)
      · exact ⟨by omega, h.2⟩
      · exact ⟨by omega, h.2⟩
    · intro h
      by_cases e : z.length = n + 1
      · exact .inr ⟨e, h.2⟩
      · exact .inl ⟨by omega, h.2⟩
theorem all_nd (S : List Str) : ∀ n, (allK S n).Nodup
  | 0 => by simp [allK]
  | n + 1 => nd_adds (all_nd S n)
end
end Gd

/-! Gd22: loops over zip(xs, ys) -/
namespace Gd
open PySem PySem.Spec PyProof.Rows L2 L2.DX
theorem sh_bool (b : Bool) : Sh (.bool b) := by
  cases b <;> exact ⟨by decide +kernel, by decide +kernel, by decide +kernel, by decide +kernel, by decide +kernel⟩
theorem ok_low {z : Str} (h : ∀ c ∈ z.cps.toList, low c = true) : PyData.strOk z = true := by
  unfold PyData.strOk
  rw [← Array.all_toList, List.all_eq_true]
  intro c mc
  have := of_decide_eq_true (h c mc)
  exact decide_eq_true (by omega)
theorem over_ok {S : List Str} (s : Sg S) {z : Str} (h : Over S z) : PyData.strOk z = true := by
  unfold PyData.strOk
  rw [← Array.all_toList, List.all_eq_true]
  intro c mc
  have := of_decide_eq_true (s.low h c mc)
  exact decide_eq_true (by omega)
theorem dear_first {L M : List (Str × Int)} {z : Str} (asc : AscP M) (h : dearer L M = .str z) : (∃ v, (z, v) ∈ M ∧ v < leastP L z) ∧ ∀ e ∈ M, e.1.cps.toList < z.cps.toList → ¬ e.2 < leastP L e.1 := by
  unfold dearer at h
  cases q : M.find? fun e => decide (e.2 < leastP L e.1) with
  | none =>
    rw [q] at h
    cases h
  | some f =>
    rw [q] at h
    obtain rfl : f.1 = z := V.str.inj h
    obtain ⟨pf, as, bs, rfl, no⟩ := List.find?_eq_some_iff_append.mp q
    refine ⟨⟨f.2, List.mem_append.mpr (.inr (List.mem_cons_self ..)), of_decide_eq_true pf⟩, fun e me lt => ?_⟩
    rcases List.mem_append.mp me with m | m
    · have := no e m
      intro h'
      rw [decide_eq_true h'] at this
      cases this
    · exfalso
      rcases List.mem_cons.mp m with rfl | m
      · exact List.lt_irrefl _ lt
      · unfold AscP at asc
        rw [List.map_append, List.map_cons] at asc
        have h2 := (List.pairwise_cons.mp (List.pairwise_append.mp asc).2.1).1 e.1 (List.mem_map.mpr ⟨e, m, rfl⟩)
        unfold leT at h2
        rw [decide_eq_true lt] at h2
        cases h2
theorem dearer_cases (L M : List (Str × Int)) : dearer L M = .non ∨ ∃ z, dearer L M = .str z := by
  unfold dearer
  cases M.find? fun e => decide (e.2 < leastP L e.1) with
  | none => exact .inl rfl
  | some f => exact .inr ⟨_, rfl⟩
theorem putP_len (L : List (Str × Int)) (k : Str) (v : Int) : (putP L k v).length ≤ L.length + 1 := by
  unfold putP
  split
  · rw [List.length_map]
    omega
  · rw [List.length_append]
    exact Nat.le_refl _
theorem vals_ints' {p : Int → Prop} : ∀ {ys : List V}, (∀ y ∈ ys, ∃ v, y = V.int v ∧ p v) → ∃ cs : List Int, ys = cs.map V.int ∧ ∀ v ∈ cs, p v
  | [], _ => ⟨[], rfl, fun _ h => (nomatch h)⟩
  | y :: r, h => by
    obtain ⟨v, rfl, hv⟩ := h y (List.mem_cons_self ..)
    obtain ⟨cs, rfl, h2⟩ := vals_ints' (ys := r) fun x m => h x (List.mem_cons_of_mem _ m)
    refine ⟨v :: cs, rfl, fun w m => ?_⟩
    rcases List.mem_cons.mp m with rfl | m
    · exact hv
    · exact h2 w m
theorem Paired.mem_right {α β : Type} {F : α → β → Prop} {as : List α} {bs : List β} (h : Paired F as bs) {y : β} (m : y ∈ bs) : ∃ x, x ∈ as ∧ F x y := by
  induction h with
  | nil => cases m
  | cons r _ ih =>
    rcases List.mem_cons.mp m with rfl | m
    · exact ⟨_, List.mem_cons_self .., r⟩
    · obtain ⟨x, mx, hx⟩ := ih m
      exact ⟨x, List.mem_cons_of_mem _ mx, hx⟩
/-- for x, y in zip(xs, ys), lists of the same length -/
theorem for_zipG {K : PySem.W.Frag} {a b : Addr} {xs ys : List V} {g : TG} {tb : TS} {D : Ends} {σ : L2.St} {H : Hp} (same : xs.length = ys.length) (Pv : Nat → L2.St → Hp → Prop) (h0 : Pv 0 σ H) (hl : ∀ i σ H, i ≤ xs.length → Pv i σ H → SqL K H a xs ∧ SqL K H b ys)
    (hs : ∀ i x y σ H T, xs[i]? = some x → ys[i]? = some y → Pv i σ H → H T = none → g (.ref T) σ (upd H T (.tup [x, y])) fun σ2 H2 => tb { D with nx := Pv (i + 1), ct := Pv (i + 1), bk := D.nx } σ2 H2) (hend : ∀ σ H, Pv xs.length σ H → D.nx σ H) :
    ∃ W : Nat → Nat → L2.St → Hp → Prop, (∃ m, W 0 m σ H) ∧ ∀ i m σ H, W i m σ H →
      ((Itz K a b).stop i H ∧ D.nx σ H) ∨ ((Itz K a b).go i H ∧ ∃ N : L2.St → Hp → Prop, (∀ σ' H', N σ' H' → ∃ m', m' < m ∧ W (i + 1) m' σ' H') ∧ ∀ x H', (Itz K a b).yld i H x H' → g x σ H' fun σ2 H2 => tb { D with nx := N, ct := N, bk := D.nx } σ2 H2) := by
  refine ⟨fun i m σ H => m = xs.length - i ∧ i ≤ xs.length ∧ Pv i σ H, ⟨xs.length - 0, rfl, Nat.zero_le _, h0⟩, ?_⟩
  rintro i m σ H ⟨rfl, hi, p⟩
  obtain ⟨q1, q2⟩ := hl i σ H hi p
  by_cases hlt : i < xs.length
  · have hx : xs[i]? = some xs[i] := List.getElem?_eq_getElem hlt
    have hy : ys[i]? = some ys[i] := List.getElem?_eq_getElem (by omega)
    refine .inr ⟨⟨xs, ys, _, _, q1, q2, hx, hy⟩, Pv (i + 1), fun σ' H' p' => ⟨xs.length - (i + 1), by omega, rfl, hlt, p'⟩, fun v H' yd => ?_⟩
    obtain ⟨T, x, y, rfl, hT, rfl, e1, e2⟩ := yd
    exact hs i x y σ H T (e1 _ q1) (e2 _ q2) p hT
  · have e : i = xs.length := by omega
    subst e
    exact .inl ⟨⟨xs, ys, q1, q2, .inl (Nat.le_refl _)⟩, hend σ H p⟩
end Gd

/-! M13: books without some of their pieces; needless pieces -/
namespace Gd
open PySem PySem.Spec PyProof.Rows L2
/-- the prices without those of these pieces -/
def subP (L : List (Str × Int)) (zs : List Str) : List (Str × Int) := L.filter fun e => !decide (e.1 ∈ zs)
theorem mem_subP {L : List (Str × Int)} {zs : List Str} {e : Str × Int} : e ∈ subP L zs ↔ e ∈ L ∧ e.1 ∉ zs := by
  unfold subP
  rw [List.mem_filter, Bool.not_eq_true', decide_eq_false_iff_not]
theorem subP_sub (L : List (Str × Int)) (zs : List Str) : ((subP L zs).map (·.1)).Sublist (L.map (·.1)) := List.Sublist.map _ List.filter_sublist
theorem subP_nd {L : List (Str × Int)} {zs : List Str} (nd : (L.map (·.1)).Nodup) : ((subP L zs).map (·.1)).Nodup := nd.sublist (subP_sub L zs)
theorem subP_asc {L : List (Str × Int)} {zs : List Str} (a : AscP L) : AscP (subP L zs) := List.Pairwise.sublist (subP_sub L zs) a
theorem subP_len (L : List (Str × Int)) (zs : List Str) : (subP L zs).length ≤ L.length := List.length_filter_le _ _
theorem sortP_id {L : List (Str × Int)} (a : AscP L) (nd : (L.map (·.1)).Nodup) : sortP L = L := asc_eq (sortP_nodup nd) nd (sortP_asc L) a (lookup_sortP nd)
theorem subP_keys (L : List (Str × Int)) (zs : List Str) : (subP L zs).map (·.1) = (L.map (·.1)).filter fun z => !decide (z ∈ zs) := by
  unfold subP
  rw [List.filter_map]
  rfl
theorem subP_vals {L : List (Str × Int)} {zs : List Str} (nd : (L.map (·.1)).Nodup) : ((L.map (·.1)).filter fun z => !decide (z ∈ zs)).map (fun z => (z, (L.lookup z).getD 0)) = subP L zs := by
  rw [← subP_keys, List.map_map]
  refine Eq.trans (List.map_congr_left fun e me => ?_) (List.map_id _)
  show (e.1, (L.lookup e.1).getD 0) = e
  rw [lookup_nodup nd e (mem_subP.mp me).1]
  rfl
/-- without longer pieces it is a book again -/
theorem subP_good {L : List (Str × Int)} {zs : List Str} (g : arePr L = true) (long : ∀ z ∈ zs, 1 < z.length) : arePr (subP L zs) = true := by
  have ga := good_all g
  have gl := good_len g
  have keep : ∀ c, sg c ∈ L.map (·.1) → sg c ∈ (subP L zs).map (·.1) := fun c m => by
    obtain ⟨e, me, ee⟩ := List.mem_map.mp m
    refine List.mem_map.mpr ⟨e, mem_subP.mpr ⟨me, fun h => ?_⟩, ee⟩
    have := long e.1 h
    rw [ee] at this
    exact absurd this (show ¬ 1 < (1 : Nat) by decide)
  have cov : ∀ e ∈ L, ∀ c ∈ e.1.cps.toList, sg c ∈ L.map (·.1) := fun e me c mc => good_has g _ (mem_sigs.mpr ⟨e.1, List.mem_map.mpr ⟨e, me, rfl⟩, c, mc, rfl⟩)
  have sub : ∀ z ∈ sigsP (subP L zs), z ∈ sigsP L ∧ z ∈ (subP L zs).map (·.1) := fun z mz => by
    obtain ⟨x, mx, c, mc, rfl⟩ := mem_sigs.mp mz
    obtain ⟨e, me, rfl⟩ := List.mem_map.mp mx
    have me' := (mem_subP.mp me).1
    exact ⟨mem_sigs.mpr ⟨e.1, List.mem_map.mpr ⟨e, me', rfl⟩, c, mc, rfl⟩, keep c (cov e me' c mc)⟩
  have pos : 1 ≤ (subP L zs).length := by
    match L, gl, ga, cov, keep with
    | e :: r, _, ga, cov, keep =>
      have l1 := (piece_len (ga e (List.mem_cons_self ..)).1).1
      have : ∃ c, c ∈ e.1.cps.toList := by
        cases q : e.1.cps.toList with
        | nil =>
          have := str_len e.1
          rw [q] at this
          simp only [List.length_nil] at this
          omega
        | cons c t => exact ⟨c, List.mem_cons_self ..⟩
      obtain ⟨c, mc⟩ := this
      have := List.length_pos_of_mem (keep c (cov e (List.mem_cons_self ..) c mc))
      rw [List.length_map] at this
      exact this
  unfold arePr
  simp only [Bool.and_eq_true]
  refine ⟨⟨⟨decide_eq_true ⟨pos, Nat.le_trans (subP_len L zs) gl.2⟩, List.all_eq_true.mpr fun e me => ?_⟩, decide_eq_true ?_⟩, List.all_eq_true.mpr fun z mz => mem_look.mp (sub z mz).2⟩
  · rw [Bool.and_eq_true]
    have h := ga e (mem_subP.mp me).1
    exact ⟨h.1, decide_eq_true h.2⟩
  · exact Nat.le_trans (nodup_le (l := sigsP (subP L zs)) (nodup_ascT _) fun z mz => (sub z mz).1) (good_sigs g)
/-- the pieces of several signs that other pieces make as cheaply -/
def isNd (L : List (Str × Int)) (e : Str × Int) : Bool := decide (1 < e.1.length) && decide (leastP (subP L [e.1]) e.1 ≤ e.2)
def ndl (L : List (Str × Int)) : List Str := (L.filter (isNd L)).map (·.1)
theorem mem_ndl {L : List (Str × Int)} {z : Str} : z ∈ ndl L ↔ ∃ v, (z, v) ∈ L ∧ 1 < z.length ∧ leastP (subP L [z]) z ≤ v := by
  unfold ndl
  rw [List.mem_map]
  constructor
  · rintro ⟨e, me, rfl⟩
    obtain ⟨m1, m2⟩ := List.mem_filter.mp me
    unfold isNd at m2
    rw [Bool.and_eq_true, decide_eq_true_eq, decide_eq_true_eq] at m2
    exact ⟨e.2, m1, m2⟩
  · rintro ⟨v, m, h1, h2⟩
    refine ⟨(z, v), List.mem_filter.mpr ⟨m, ?_⟩, rfl⟩
    unfold isNd
    rw [Bool.and_eq_true, decide_eq_true_eq, decide_eq_true_eq]
    exact ⟨h1, h2⟩
theorem ndl_sub (L : List (Str × Int)) : (ndl L).Sublist (L.map (·.1)) := List.Sublist.map _ List.filter_sublist
theorem ndl_asc {L : List (Str × Int)} (a : AscP L) (nd : (L.map (·.1)).Nodup) : ndl L = ascT (ndl L) :=
  sorted_unique (List.Pairwise.sublist (ndl_sub L) a) (sortT_sorted _) (nodup_perm (nd.sublist (ndl_sub L)) (nodup_ascT _) fun z => mem_ascT.symm)
theorem one_asc (z : Str) : [z] = ascT [z] := sorted_unique (List.pairwise_singleton _ _) (sortT_sorted _) (nodup_perm (by simp) (nodup_ascT _) fun y => mem_ascT.symm)
theorem ndl_long {L : List (Str × Int)} : ∀ z ∈ ndl L, 1 < z.length := fun z m => by
  obtain ⟨v, _, h, _⟩ := mem_ndl.mp m
  exact h
theorem cov_sub {L : List (Str × Int)} {zs : List Str} (g : arePr L = true) (long : ∀ z ∈ zs, 1 < z.length) {e : Str × Int} (me : e ∈ L) : Cov (subP L zs) e.1 := fun c mc => by
  have h := good_has g _ (mem_sigs.mpr ⟨e.1, List.mem_map.mpr ⟨e, me, rfl⟩, c, mc, rfl⟩)
  obtain ⟨f, mf, ef⟩ := List.mem_map.mp h
  refine List.mem_map.mpr ⟨f, mem_subP.mpr ⟨mf, fun h => ?_⟩, ef⟩
  have := long f.1 h
  rw [ef] at this
  exact absurd this (show ¬ 1 < (1 : Nat) by decide)
end Gd

/-! Gd23: o op t, o of a class with the operator, t a tuple. -/
namespace Gd
open PySem PySem.Spec PyProof.Rows L2
/-- what the class at C and the tuples say of an operator -/
structure Alone (K : PySem.W.Frag) (C : Addr) (op : Operator) : Prop where
  self : PySem.W.selfFirst K C = true
  back : PySem.W.findIn K (.ref C) (dunderR op.info.2) = some none
  tup : PySem.W.findIn K (.type "tuple") (PySem.dunder op.info.2) = some none
  tupBack : PySem.W.findIn K (.type "tuple") (dunderR op.info.2) = some none
  apart : PySem.W.subIn K (.type "tuple") (.ref C) = some false
section
variable {prog : Program} {w : World} {A : Around} {E : Value → Shared → Prop} {s : Shared} {K : PySem.W.Frag} {o C L f : Addr} {h₀ : Heap} {m : Str → Option Value} {ox : Obj} {od : Option Obj}
theorem bin_tuple {op : Operator} {b : Value} {Q : Value → Shared → Prop} (fr : Fr h₀ L s.heap m) (base : K.In h₀) (inst : PySem.W.InstAt s.heap o ox C od) (ty : PySem.W.Looks (model prog w) s.heap (typeOf b) (.type "tuple")) (al : Alone K C op)
    (own : PySem.W.findIn K (.ref C) (PySem.dunder op.info.2) = some (some (.ref f))) (fn : PySem.W.isFn K (.ref f) = true) (run : wpAny (model prog w) A (call (.ref f) [.ref o, b]) (PySem.W.CmpBack Q) E s) : wpAny (model prog w) A (binaryOp op (.ref o) b) Q E s := by
  have inK := base.keeps fr.keep
  obtain ⟨c, more, hc, mro⟩ := PySem.W.ksp_first al.self
  have left := PySem.W.fills_K (M := model prog w) inK hc mro own
  have right : PySem.W.Looks (model prog w) s.heap (fillsNumberSlot (.type "tuple") op.info.2) false := PySem.W.ksp_fillsT inK al.tup al.tupBack
  have try_ := PySem.W.ksp_try inK inst own fn run
  have ne : (Value.ref C == Value.type "tuple") = false := Bool.eq_false_iff.mpr fun z => nomatch (beq_iff_eq.mp z)
  unfold binaryOp
  refine wpAny_holding (wpAny_bind ?_)
  unfold binaryOp1
  refine wpAny_bind (inst.type.here (wpAny_bind (ty.here (wpAny_bind (left.here ?_)))))
  rw [ne, if_neg Bool.false_ne_true]
  refine wpAny_bind (right.here ?_)
  simp only [Bool.and_false, Bool.false_and, Bool.false_eq_true, if_false]
  refine wpAny_bind (wpAny_pure ?_)
  simp only [Bool.false_eq_true, if_false, if_true]
  refine wpAny_bind (wpAny_mono try_ (fun r s' hr => ?_) fun _ _ z => z)
  obtain ⟨v, rfl, hq⟩ := hr
  exact wpAny_pure (wpAny_pure hq)
section
variable {X : Cx} {C f : Addr} {k : Nat} {ps : List Str} {sp : Sp}
/-- o op t, t a tuple -/
def rBinTup (C : Addr) (sp : Sp) : R2 := fun x y H Q => ∃ a dx fs t zs, x = .ref a ∧ y = .ref t ∧ H a = some (.ins C dx fs) ∧ H t = some (.tup zs) ∧ sp [.ref a, .ref t] H Q E0
theorem op_binTup {op : Operator} (O : Own X.K C (PySem.dunder op.info.2) f) (al : Alone X.K C op) (D : Dk X.prog X.w X.K X.mg X.base k f ps sp) (hr : Room k X.A) : OpR X (binaryOp op) (rBinTup C sp) := by
  intro pins s σ H x y v u Q I rx ry ⟨a, dx, fs, t, zs, ex, ey, ha, ht, h⟩
  subst ex
  subst ey
  cases rx
  cases ry
  obtain ⟨mA, J, _⟩ := ins_get I.hok ha
  obtain ⟨od, J, _⟩ := J.look
  obtain ⟨m, hF⟩ := I.fr
  have ty : PySem.W.Looks (model X.prog X.w) s.heap (typeOf (.ref t)) (.type "tuple") := by
    obtain ⟨its, _, ⟨o, e, cl, _⟩, _⟩ := I.tuple (sq_tup ht)
    have look := PySem.W.Looks.ld (M := model X.prog X.w) (part := none) e
    exact cl ▸ (PySem.W.Looks.ld e).andThen PySem.W.Looks.now
  exact bin_tuple hF I.ok.mod.kin J ty al O.at_ O.fn (wpAny_mono (run_dk (vs := [.ref a, .ref t]) D hr I (.cons rfl (.cons rfl .nil)) h) (fun r s' q => cmpBack_of q) fun _ _ z => z)
end
end
end Gd

/-! M14: lists of pairs in another order -/
namespace Gd
open PySem PySem.Spec PyProof.Rows L2
theorem Paired.swap_perm {α β : Type} {F : α → β → Prop} {as as' : List α} (p : as'.Perm as) : ∀ {bs : List β}, Paired F as bs → ∃ bs', Paired F as' bs' ∧ bs'.Perm bs := by
  induction p with
  | nil => exact fun h => ⟨_, h, List.Perm.refl _⟩
  | cons x _ ih =>
    intro bs h
    cases h with
    | cons r t =>
      obtain ⟨bs', h', p'⟩ := ih t
      exact ⟨_ :: bs', .cons r h', p'.cons _⟩
  | swap x y l =>
    intro bs h
    cases h with
    | cons r t =>
      cases t with
      | cons r2 t2 => exact ⟨_, .cons r2 (.cons r t2), List.Perm.swap _ _ _⟩
  | trans _ _ ih1 ih2 =>
    intro bs h
    obtain ⟨b2, h2, p2⟩ := ih2 h
    obtain ⟨b1, h1, p1⟩ := ih1 h2
    exact ⟨b1, h1, p1.trans p2⟩
theorem vals_refs' : ∀ {ys : List V}, (∀ y ∈ ys, ∃ d, y = V.ref d) → ∃ ds : List Addr, ys = ds.map V.ref
  | [], _ => ⟨[], rfl⟩
  | y :: r, h => by
    obtain ⟨d, rfl⟩ := h y (List.mem_cons_self ..)
    obtain ⟨ds, rfl⟩ := vals_refs' (ys := r) fun x m => h x (List.mem_cons_of_mem _ m)
    exact ⟨d :: ds, rfl⟩
theorem perm_refs {ds es : List Addr} (p : (ds.map V.ref).Perm (es.map V.ref)) : ds.Perm es := by
  have q := p.map (fun v => match v with | V.ref d => d | _ => 0)
  rw [List.map_map, List.map_map] at q
  have e : ∀ l : List Addr, l.map ((fun v => match v with | V.ref d => d | _ => 0) ∘ V.ref) = l := fun l => by
    induction l with
    | nil => rfl
    | cons x r ih => rw [List.map_cons, ih]; rfl
  rw [e, e] at q
  exact q
/-- all of a list of pairs, in some order -/
theorem pairs_some {H H' : Hp} {l r : Addr} {L : List (Str × Int)} {ys rest : List V} {xs : List V} (pa : PairsAt H l L) (at_l : H l = some (.lst xs)) (sm : Same H H') (at_r : H' r = some (.lst ys)) (pm : (ys ++ rest).Perm xs) (all : ys.length = xs.length) : ∃ M, PairsAt H' r M ∧ M.Perm L := by
  obtain ⟨ps, a, prs⟩ := pa
  rw [at_l] at a
  have ex : xs = ps.map V.ref := HO.lst.inj (Option.some.inj a)
  subst ex
  have nil : rest = [] := by
    have h := pm.length_eq
    rw [List.length_append] at h
    exact List.length_eq_zero_iff.mp (by omega)
  subst nil
  rw [List.append_nil] at pm
  obtain ⟨ds, rfl⟩ := vals_refs' (ys := ys) fun y m => by
    obtain ⟨d, _, rfl⟩ := List.mem_map.mp (pm.mem_iff.mp m)
    exact ⟨d, rfl⟩
  obtain ⟨M, h, q⟩ := Paired.swap_perm (perm_refs pm) prs
  exact ⟨M, ⟨ds, at_r, Paired.mapP h fun c e z => sm _ _ z⟩, q⟩
theorem Full.perm {S : List Str} {L M : List (Str × Int)} (f : Full S L) (p : M.Perm L) : Full S M where
  nd := (p.map _).nodup_iff.mpr f.nd
  len := by rw [p.length_eq]; exact f.len
  has := fun z m => (p.map _).mem_iff.mpr (f.has z m)
  piece := fun z m => f.piece z ((p.map _).mem_iff.mp m)
  price := fun e m => f.price e (p.mem_iff.mp m)
end Gd

/-! Gd24: {**d, k: v}. -/
namespace Gd
open PySem PySem.Spec PyProof.Rows L2 L2.DX
section
variable {prog : Program} {w : World} {J : Type} [DecidableEq J] {knd : KeyKind prog w J} {A : Around} {E : Value → Shared → Prop} {s : Shared}
theorem find_list {α : Type} (xs : Array α) (p : α → Bool) : xs.toList.findIdx? p = xs.findIdx? p := by
  cases xs
  simp
theorem put_one {d : Addr} {ps : List (J × Value)} {k : J} {key v : Value} {Q : Unit → Shared → Prop} (isk : knd.is k key = true) (dd : s.heap.DictOf knd d ps) (few : ps.length ≤ sizeLine)
    (q : ∀ h', h'.DictOf knd d (stored ps k v) → Heap.SameBut d s.heap h' → Q () { s with heap := h' }) : wpAny (model prog w) A (dictPut d (knd.hash k) key v) Q E s := by
  obtain ⟨ob, ents, n, at_d, plain_, data_, keys_, prs, nd⟩ := dd
  have l1 : ents.toList.length = ps.length := prs.length
  have l2 : ents.toList.length = ents.size := Array.length_toList
  have small : ents.size ≤ sizeLine := by omega
  have same : (ents.findIdx? fun e => knd.is k e.key) = ps.findIdx? fun p => decide (p.1 = k) := by
    rw [← prs.findIdx k]
    exact (find_list ..).symm
  unfold dictPut
  refine wpAny_bind (wpAny_dictFind_of isk at_d data_ keys_ ?_)
  cases c : ents.findIdx? fun e => knd.is k e.key with
  | none =>
    have out : k ∉ ps.map (·.1) := not_mem_of_findIdx_none (same ▸ c)
    have no : ¬ (ps.any fun p => decide (p.1 = k)) = true := fun z => by
      obtain ⟨p, mp, e⟩ := List.any_eq_true.mp z
      exact out (List.mem_map.mpr ⟨p, mp, of_decide_eq_true e⟩)
    refine wpAny_updateDictKeys (hz := small) at_d data_ (q _ ?_ (Heap.SameBut.update ..))
    refine ⟨_, _, n + 1, Heap.get?_update_self _ at_d (Obj.isFreed_of_dict (Obj.data_mapDictKeys data_ _)), plain_.mapDictKeys _, Obj.data_mapDictKeys data_ _, keys_.push isk _, ?_, ?_⟩
    · unfold stored
      rw [if_neg no, Array.toList_push]
      exact prs.append isk _ v
    · unfold stored
      rw [if_neg no, List.map_append]
      refine List.nodup_append.mpr ⟨nd, by simp, fun a ma b mb e => ?_⟩
      obtain rfl : b = k := by simpa using mb
      exact out (e ▸ ma)
  | some i =>
    have yes : (ps.any fun p => decide (p.1 = k)) = true := any_of_findIdx_some (same ▸ c)
    refine wpAny_updateDict at_d data_ (q _ ?_ (Heap.SameBut.update ..))
    refine ⟨_, _, n, Heap.get?_update_self _ at_d (Obj.isFreed_of_dict (Obj.data_mapDict data_ _)), plain_.mapDict _, Obj.data_mapDict data_ _, keys_.modify _ _, ?_, ?_⟩
    · unfold stored
      rw [if_pos yes, Array.toList_modify]
      exact prs.modify nd ((find_list ..).trans c) v
    · unfold stored
      rw [if_pos yes, keys_map_store]
      exact nd
theorem merge_more {d o : Addr} {ps more : List (J × Value)} {Q : Unit → Shared → Prop} (noRef : ∀ k v, knd.is k v = true → ∀ a, v ≠ .ref a) (ne : d ≠ o) (ns : (o == sysModules) = false) (dd : s.heap.DictOf knd d ps) (od : s.heap.DictOf knd o more) (few : ps.length + more.length ≤ sizeLine)
    (q : ∀ h', h'.DictOf knd d (merged ps more) → h'.DictOf knd o more → Heap.SameBut d s.heap h' → Q () { s with heap := h' }) : wpAny (model prog w) A (mergeMapping d (.ref o) false) Q E s := by
  obtain ⟨ob, ents, n, at_o, plain_, data_, keys_, prs, nd⟩ := id od
  obtain ⟨ob', ents', n', at_d, _, data', _⟩ := id dd
  have l1 : ents.toList.length = more.length := prs.length
  have l2 : ents.toList.length = ents.size := Array.length_toList
  unfold mergeMapping
  refine wpAny_bind (wpAny_isInstance od.typeIs isSubtype_dict_dict ?_)
  simp only [if_true]
  refine wpAny_bind (wpAny_specialOf od.typeIs PySem.F.slot_dict_iter.lookup ?_)
  refine wpAny_bind (wpAny_pure ?_)
  rw [show (some (Value.builtin "dict.__iter__") == some (Value.builtin "dict.__iter__")) = true from beq_self_eq_true _]
  show wpAny _ _ (if (o == sysModules) = true then _ else _) _ _ _
  rw [ns, if_neg Bool.false_ne_true]
  refine wpAny_bind (wpAny_dictEntries at_d data' ?_)
  cases emp : ents'.isEmpty with
  | true =>
    rw [if_pos rfl]
    refine wpAny_bind (wpAny_dictEntries at_o data_ ?_)
    refine wpAny_bind ?_
    rw [← Array.forIn_toList]
    refine wpAny_forIn_list _ (fun rest _ s' => s' = s ∧ ∀ e ∈ rest, e ∈ ents) _ ?_ ?_ _ _ ⟨rfl, fun e m => Array.mem_toList_iff.mp m⟩
    · rintro e rest u s' ⟨es, sub⟩
      obtain rfl : s = s' := es.symm
      obtain ⟨k, isk, _⟩ := keys_ e (sub e (List.mem_cons_self ..))
      have next := (⟨rfl, fun f m => sub f (List.mem_cons_of_mem _ m)⟩ : s = s ∧ ∀ f ∈ rest, f ∈ ents)
      cases hk : e.key <;> first | exact absurd hk (noRef k e.key isk _) | exact wpAny_pure next
    rintro u s' ⟨es, _⟩
    obtain rfl : s = s' := es.symm
    refine wpAny_bind (wpAny_dictEntries at_o data_ ?_)
    refine wpAny_bind (wpAny_dictEpoch at_o data_ ?_)
    refine wpAny_bind ?_
    refine wpAny_forIn_list _ (fun rest _ s' => ∃ h' i, s' = { s with heap := h' } ∧ rest = (List.range ents.size).drop i ∧ h'.DictOf knd d (merged ps (more.take i)) ∧ h'.get? o = some ob ∧ Heap.SameBut d s.heap h') _ ?_ ?_ _ _ ⟨s.heap, 0, rfl, rfl, by rw [List.take_zero]; exact dd, at_o, Heap.SameBut.refl _ _⟩
    · rintro x rest u s' ⟨h', i, rfl, er, di, oi, si⟩
      have lt : i < (List.range ents.size).length := by
        refine Nat.lt_of_not_le fun le => ?_
        rw [List.drop_of_length_le le] at er
        cases er
      have er2 := List.drop_eq_getElem_cons lt
      rw [← er, List.getElem_range] at er2
      obtain ⟨rfl, rfl⟩ := List.cons.inj er2
      rw [List.length_range] at lt
      refine wpAny_bind (wpAny_dictEntries oi data_ ?_)
      rw [Array.getElem?_eq_getElem lt]
      have mlt : x < more.length := by omega
      have mx : more[x]? = some more[x] := List.getElem?_eq_getElem mlt
      have ex : ents.toList[x]? = some ents[x] := by rw [Array.getElem?_toList, Array.getElem?_eq_getElem lt]
      obtain ⟨k1, k2⟩ := prs.get? (k := more[x].1) (v := more[x].2) ex mx
      obtain ⟨k', k3, k4⟩ := keys_ ents[x] (Array.getElem_mem lt)
      obtain rfl : k' = more[x].1 := knd.inj _ _ _ k3 k1
      have small : (merged ps (more.take x)).length ≤ sizeLine := by
        have h1 := merged_length_le ps (more.take x)
        rw [List.length_take] at h1
        omega
      show wpAny _ _ (holding [ents[x].key, ents[x].val] (dictPut d ents[x].hash ents[x].key ents[x].val) >>= _) _ _ _
      rw [k4, k2]
      refine wpAny_bind (wpAny_holding (put_one k1 di small fun h2 d2 s2 => ?_))
      have o2 : h2.get? o = some ob := (s2.2 o (Ne.symm ne)).trans oi
      refine wpAny_bind (wpAny_dictEpoch o2 data_ ?_)
      rw [if_neg (by simp)]
      refine wpAny_pure ⟨h2, x + 1, rfl, rfl, ?_, o2, si.trans s2⟩
      rw [merged_take_succ ps more x more[x] mx]
      exact d2
    · rintro u s' ⟨h', i, rfl, er, di, oi, si⟩
      have le : more.length ≤ i := by
        refine Nat.le_of_not_lt fun lt => ?_
        have := List.drop_eq_getElem_cons (l := List.range ents.size) (i := i) (by rw [List.length_range]; omega)
        rw [← er] at this
        cases this
      rw [List.take_of_length_le le] at di
      refine wpAny_pure (q h' di ⟨ob, ents, n, oi, plain_, data_, keys_, prs, nd⟩ si)
  | false =>
    rw [if_neg Bool.false_ne_true]
    refine wpAny_bind (wpAny_dictEntries at_o data_ ?_)
    refine wpAny_bind (wpAny_dictEpoch at_o data_ ?_)
    refine wpAny_bind ?_
    refine wpAny_forIn_list _ (fun rest _ s' => ∃ h' i, s' = { s with heap := h' } ∧ rest = (List.range ents.size).drop i ∧ h'.DictOf knd d (merged ps (more.take i)) ∧ h'.get? o = some ob ∧ Heap.SameBut d s.heap h') _ ?_ ?_ _ _ ⟨s.heap, 0, rfl, rfl, by rw [List.take_zero]; exact dd, at_o, Heap.SameBut.refl _ _⟩
    · rintro x rest u s' ⟨h', i, rfl, er, di, oi, si⟩
      have lt : i < (List.range ents.size).length := by
        refine Nat.lt_of_not_le fun le => ?_
        rw [List.drop_of_length_le le] at er
        cases er
      have er2 := List.drop_eq_getElem_cons lt
      rw [← er, List.getElem_range] at er2
      obtain ⟨rfl, rfl⟩ := List.cons.inj er2
      rw [List.length_range] at lt
      refine wpAny_bind (wpAny_dictEntries oi data_ ?_)
      rw [Array.getElem?_eq_getElem lt]
      have mlt : x < more.length := by omega
      have mx : more[x]? = some more[x] := List.getElem?_eq_getElem mlt
      have ex : ents.toList[x]? = some ents[x] := by rw [Array.getElem?_toList, Array.getElem?_eq_getElem lt]
      obtain ⟨k1, k2⟩ := prs.get? (k := more[x].1) (v := more[x].2) ex mx
      obtain ⟨k', k3, k4⟩ := keys_ ents[x] (Array.getElem_mem lt)
      obtain rfl : k' = more[x].1 := knd.inj _ _ _ k3 k1
      have small : (merged ps (more.take x)).length ≤ sizeLine := by
        have h1 := merged_length_le ps (more.take x)
        rw [List.length_take] at h1
        omega
      show wpAny _ _ (holding [ents[x].key, ents[x].val] (dictPut d ents[x].hash ents[x].key ents[x].val) >>= _) _ _ _
      rw [k4, k2]
      refine wpAny_bind (wpAny_holding (put_one k1 di small fun h2 d2 s2 => ?_))
      have o2 : h2.get? o = some ob := (s2.2 o (Ne.symm ne)).trans oi
      refine wpAny_bind (wpAny_dictEpoch o2 data_ ?_)
      rw [if_neg (by simp)]
      refine wpAny_pure ⟨h2, x + 1, rfl, rfl, ?_, o2, si.trans s2⟩
      rw [merged_take_succ ps more x more[x] mx]
      exact d2
    · rintro u s' ⟨h', i, rfl, er, di, oi, si⟩
      have le : more.length ≤ i := by
        refine Nat.le_of_not_lt fun lt => ?_
        have := List.drop_eq_getElem_cons (l := List.range ents.size) (i := i) (by rw [List.length_range]; omega)
        rw [← er] at this
        cases this
      rw [List.take_of_length_le le] at di
      refine wpAny_pure (q h' di ⟨ob, ents, n, oi, plain_, data_, keys_, prs, nd⟩ si)
end
end Gd

/-! Gd25: {**d, k: v}. -/
namespace Gd
open PySem PySem.Spec PyProof.Rows L2 L2.DX
/-- {**d, k: v}, d from texts to integers -/
def tDStar (td tk tv : TE) : TE := fun σ H Q => ∀ p, H p = none → td σ (upd H p (.dK [])) fun x H1 => ∃ a L, x = .ref a ∧ Rd H1 a (.dK (pr L)) ∧ a ≠ p ∧ L.length ≤ 1000 ∧ H1 p = some (.dK []) ∧
  ∀ q, (upd H1 p (.dK (pr L))) q = none → tk σ (upd (upd H1 p (.dK (pr L))) q (.dK [])) fun y H3 => tv σ H3 fun z H4 => ∃ k v, y = .str k ∧ z = .int v ∧ H4 p = some (.dK (pr L)) ∧ H4 q = some (.dK []) ∧ Q (.ref p) (upd (upd H4 q (.dK (pr [(k, v)]))) p (.dK (pr (putP L k v))))
theorem no_refs {P : Program} {w : World} : ∀ (k : Key) (v : Value), (mixKind P w).is k v = true → ∀ (a : Addr), v ≠ .ref a := by
  intro k v h a e
  subst e
  cases k <;> cases h
section
variable {X : Cx} {ed ek ev : Expr} {pos : Pos} {td tk tv : TE}
theorem pe_dstar (hd : PE X ed td) (hk : PE X ek tk) (hv : PE X ev tv) : PE X (.Dict [none, some ek] [ed, ev] pos) (tDStar td tk tv) := by
  refine ⟨fun pins s σ H Q I h => ?_⟩
  rw [arm_eval_Dict]
  refine wpAny_bind (wpAny_standAt ?_)
  show wpAny _ _ (dictDisplay [(none, do let x ← eval ed X.env; standAt pos; pure x), (some (eval ek X.env), do let x ← eval ev X.env; standAt pos; pure x)]) _ _ _
  unfold dictDisplay
  simp only [List.forIn_cons, List.forIn_nil, pure_bind, bind_assoc, List.isEmpty_nil, if_true]
  have fresh := I.hok.fresh (Nat.le_refl s.heap.objs.size)
  have I1 := I.laid (a := s.heap.objs.size) (o := .dK []) (h' := s.heap.push { cls := .type "dict", data := .dict #[] }) (t' := s.toks) (fun _ _ z => Heap.get?_push_of_some _ z) (Nat.le_refl _) (dk_empty s.heap I.big)
  refine wpAny_bind (wpAny_alloc ?_)
  refine wpAny_bind (wpAny_holding (wpAny_bind (thn (hd.run pins _ σ _ _ I1 (h _ fresh)) fun u s2 hx => wpAny_bind (wpAny_standAt (wpAny_pure ?_)))))
  obtain ⟨x, H2, I2, rx, a, L, rfl, ha, ne, few, hp, h⟩ := hx
  obtain rfl : u = Value.ref a := rx
  obtain ⟨z, lo, vs, rel, dd⟩ := dk_rd I2.hok ha
  obtain ⟨z0, lo0, vs0, rel0, dd0⟩ := dk_of I2.hok hp
  cases rel0
  have lv : vs.length = L.length := by rw [← rel.length, pr_len]
  refine wpAny_bind (wpAny_onRaise (wpAny_tryCatch (wpAny_onRaise (wpAny_holding (merge_more (knd := mixKind X.prog X.w) ?nr (Ne.symm ne) lo dd0 dd ?fw fun h3 d3 o3 sb3 => ?_)))))
  case nr => exact no_refs
  case fw => rw [List.length_nil, lv, sizeLine_eq]; omega
  have nd : (vs.map (·.1)).Nodup := by
    obtain ⟨_, _, _, _, _, _, _, _, nd⟩ := dd
    exact nd
  rw [merged_nil_of_nodup vs nd] at d3
  have he3 : ∃ q, h3.get? s.heap.objs.size = some q := let ⟨q, _, _, hq, _⟩ := d3; ⟨q, hq⟩
  have I3 := d_write (t' := s2.toks) I2 (by rw [hp]; exact True.intro) sb3 he3 (dk_new (H' := upd H2 s.heap.objs.size (.dK (pr L))) z lo0 rel d3)
  clear d3 o3 sb3 he3 dd0 dd I2 I1 hp
  simp only [List.nil_append, List.length_cons, List.length_nil, Nat.zero_add, show ((1 == 17) = true) = False from by decide, if_false, pure_bind, List.isEmpty_cons, Bool.false_eq_true]
  generalize s.heap.objs.size = p at *
  generalize hs3 : ({ heap := h3, gens := s2.gens, drawn := s2.drawn, toks := s2.toks, os := s2.os } : Shared) = s3 at I3 ⊢
  have fresh3 := I3.hok.fresh (Nat.le_refl s3.heap.objs.size)
  have I4 := I3.laid (a := s3.heap.objs.size) (o := .dK []) (h' := s3.heap.push { cls := .type "dict", data := .dict #[] }) (t' := s3.toks) (fun _ _ z => Heap.get?_push_of_some _ z) (Nat.le_refl _) (dk_empty s3.heap I3.big)
  refine wpAny_bind (wpAny_bind (wpAny_holding (wpAny_subDict (knd := mixKind X.prog X.w) (show 1 ≤ 15 by decide) (evalPairs_cons (thn (hk.run pins _ σ _ _ I4 (h _ fresh3)) fun kv s4 hy => ?_)))))
  obtain ⟨y, H4, I5, ry, h⟩ := hy
  refine wpAny_bind (thn (hv.run pins _ σ _ _ I5 h) fun vv s5 hz => wpAny_bind (wpAny_standAt (wpAny_pure (evalPairs_nil ?_))))
  obtain ⟨zz, H5, I6, rz, k, v, rfl, rfl, hp5, hq5, h⟩ := hz
  obtain ⟨tk', rfl⟩ := ry
  obtain ⟨tv', rfl⟩ := rz
  have npq : p ≠ s3.heap.objs.size := fun e => by
    rw [← e, upd_same] at fresh3
    cases fresh3
  generalize s3.heap.objs.size = q at hq5 h npq ⊢
  obtain ⟨zq, loq, vq, relq, dq0⟩ := dk_of I6.hok hq5
  cases relq
  have relk : KV (pr [(k, v)]) [((Sum.inr k : Key), Value.int v tv')] := .cons ⟨rfl, tv', rfl⟩ .nil
  refine ⟨[(Sum.inr k, Value.int v tv')], ⟨kV_is ⟨tk', rfl⟩, rfl, True.intro⟩, dq0, fun h' dq sbq => ?_⟩
  have dq : h'.DictOf (mixKind X.prog X.w) q [((Sum.inr k : Key), Value.int v tv')] := dq
  have heq : ∃ o, h'.get? q = some o := let ⟨o, _, _, z, _⟩ := dq; ⟨o, z⟩
  have I7 := d_write (t' := s5.toks + 1) I6 (by rw [hq5]; exact True.intro) sbq heq (dk_new (H' := upd H5 q (.dK (pr [(k, v)]))) (show 1 ≤ sizeLine by decide) loq relk dq)
  have hp7 : (upd H5 q (.dK (pr [(k, v)]))) p = some (.dK (pr L)) := by
    rw [upd_ne npq]
    exact hp5
  obtain ⟨z7, lo7, v7, rel7, d7⟩ := dk_of I7.hok hp7
  have lv7 : v7.length = L.length := by rw [← rel7.length, pr_len]
  refine wpAny_bind (wpAny_onRaise (wpAny_holding (merge_more (knd := mixKind X.prog X.w) no_refs npq loq d7 dq (by rw [lv7, sizeLine_eq]; show L.length + 1 ≤ _; omega) fun h8 d8 o8 sb8 => ?_)))
  have he8 : ∃ o, h8.get? p = some o := let ⟨o, _, _, z, _⟩ := d8; ⟨o, z⟩
  have rel8 := relk.merge rel7
  rw [mergeK_pr] at rel8
  have l8 := putP_len L k v
  have I8 := d_write (t' := s5.toks + 1) I7 (by rw [hp7]; exact True.intro) sb8 he8 (dk_new (H' := upd (upd H5 q (.dK (pr [(k, v)]))) p (.dK (pr (putP L k v)))) (by rw [pr_len, sizeLine_eq]; omega) lo7 rel8 d8)
  refine wpAny_pure ?_
  exact wpAny_pure ⟨.ref p, _, I8, rfl, h⟩
end
end Gd

/-! M15: all cuts of a text; their prices; lists of tuples -/
namespace Gd
open PySem PySem.Spec PyProof.Rows L2
/-- the cuts of the first signs that end with a piece that begins at lo + i -/
def oneW (L : List (Str × Int)) (z : Str) (T : List (List (List Str))) (stop s : Nat) : List (List Str) := if (L.lookup (seg z s stop)).isSome = true then (T.getD s []).map fun w => w ++ [seg z s stop] else []
def hereW (L : List (Str × Int)) (z : Str) (T : List (List (List Str))) (lo j stop : Nat) : List (List Str) := (List.range j).flatMap fun i => oneW L z T stop (lo + i)
def cutsT (L : List (Str × Int)) (z : Str) : Nat → List (List (List Str))
  | 0 => [[[]]]
  | n + 1 => cutsT L z n ++ [hereW L z (cutsT L z n) (n + 1 - 5) (n + 1 - (n + 1 - 5)) (n + 1)]
def costW (L : List (Str × Int)) (w : List Str) : Int := (w.map fun p => (L.lookup p).getD 0).sum
section
variable {L : List (Str × Int)} {z : Str}
theorem cutsT_len (L : List (Str × Int)) (z : Str) : ∀ n, (cutsT L z n).length = n + 1
  | 0 => rfl
  | n + 1 => by
    show (cutsT L z n ++ [_]).length = _
    rw [List.length_append, cutsT_len L z n]
    rfl
theorem cutsT_at (L : List (Str × Int)) (z : Str) {k : Nat} : ∀ {n}, k ≤ n → (cutsT L z n).getD k [] = (cutsT L z k).getD k []
  | 0, h => by
    obtain rfl : k = 0 := by omega
    rfl
  | n + 1, h => by
    by_cases e : k = n + 1
    · rw [e]
    · have h' : k ≤ n := by omega
      show (cutsT L z n ++ [_]).getD k [] = _
      rw [List.getD_eq_getElem?_getD, List.getElem?_append_left (by rw [cutsT_len]; omega), ← List.getD_eq_getElem?_getD]
      exact cutsT_at L z h'
theorem cutsT_top (L : List (Str × Int)) (z : Str) (n : Nat) : (cutsT L z (n + 1)).getD (n + 1) [] = hereW L z (cutsT L z n) (n + 1 - 5) (n + 1 - (n + 1 - 5)) (n + 1) := by
  show (cutsT L z n ++ [hereW L z (cutsT L z n) (n + 1 - 5) (n + 1 - (n + 1 - 5)) (n + 1)]).getD (n + 1) [] = _
  rw [List.getD_eq_getElem?_getD, List.getElem?_append_right (by rw [cutsT_len]; exact Nat.le_refl _), cutsT_len, Nat.sub_self]
  rfl
theorem hereW_succ (L : List (Str × Int)) (z : Str) (T : List (List (List Str))) (lo j stop : Nat) : hereW L z T lo (j + 1) stop = hereW L z T lo j stop ++ oneW L z T stop (lo + j) := by
  unfold hereW
  rw [List.range_succ, List.flatMap_append]
  simp only [List.flatMap_cons, List.flatMap_nil, List.append_nil]
theorem mem_here {T : List (List (List Str))} {lo j stop : Nat} {w : List Str} : w ∈ hereW L z T lo j stop ↔ ∃ i, i < j ∧ (L.lookup (seg z (lo + i) stop)).isSome = true ∧ ∃ w' ∈ T.getD (lo + i) [], w = w' ++ [seg z (lo + i) stop] := by
  unfold hereW oneW
  rw [List.mem_flatMap]
  constructor
  · rintro ⟨i, mi, mw⟩
    by_cases h : (L.lookup (seg z (lo + i) stop)).isSome = true
    · rw [if_pos h] at mw
      obtain ⟨w', mw', e⟩ := List.mem_map.mp mw
      exact ⟨i, List.mem_range.mp mi, h, w', mw', e.symm⟩
    · rw [if_neg h] at mw
      cases mw
  · rintro ⟨i, hi, h, w', mw', e⟩
    refine ⟨i, List.mem_range.mpr hi, ?_⟩
    rw [if_pos h]
    exact List.mem_map.mpr ⟨w', mw', e.symm⟩
theorem costW_snoc (L : List (Str × Int)) (w : List Str) (p : Str) : costW L (w ++ [p]) = costW L w + (L.lookup p).getD 0 := by
  unfold costW
  rw [List.map_append, List.sum_append]
  simp
theorem ways_few (L : List (Str × Int)) (z : Str) : ∀ n, ∀ k ≤ n, ((cutsT L z n).getD k []).length ≤ 6 ^ k
  | 0, k, h => by
    obtain rfl : k = 0 := by omega
    exact Nat.le_refl _
  | n + 1, k, h => by
    by_cases e : k = n + 1
    · subst e
      rw [cutsT_top]
      have part : ∀ j, j ≤ 5 → n + 1 - 5 + j ≤ n + 1 → (hereW L z (cutsT L z n) (n + 1 - 5) j (n + 1)).length ≤ j * 6 ^ n := by
        intro j
        induction j with
        | zero => exact fun _ _ => Nat.zero_le _
        | succ j ih =>
          intro h5 hl
          rw [hereW_succ, List.length_append]
          have h1 := ih (by omega) (by omega)
          have h2 : (oneW L z (cutsT L z n) (n + 1) (n + 1 - 5 + j)).length ≤ 6 ^ n := by
            unfold oneW
            split
            · rw [List.length_map]
              exact Nat.le_trans (ways_few L z n _ (by omega)) (Nat.pow_le_pow_right (by decide) (by omega))
            · exact Nat.zero_le _
          rw [Nat.succ_mul]
          omega
      have h3 := part (n + 1 - (n + 1 - 5)) (by omega) (by omega)
      have h4 : (n + 1 - (n + 1 - 5)) * 6 ^ n ≤ 6 * 6 ^ n := Nat.mul_le_mul_right _ (by omega)
      rw [Nat.pow_succ]
      omega
    · rw [cutsT_at L z (show k ≤ n + 1 by omega), ← cutsT_at L z (show k ≤ n by omega)]
      exact ways_few L z n k (by omega)
theorem ways_short (L : List (Str × Int)) (z : Str) : ∀ n, ∀ k ≤ n, ∀ w ∈ (cutsT L z n).getD k [], w.length ≤ k
  | 0, k, h, w, m => by
    obtain rfl : k = 0 := by omega
    obtain rfl : w = [] := List.mem_singleton.mp m
    exact Nat.le_refl _
  | n + 1, k, h, w, m => by
    by_cases e : k = n + 1
    · subst e
      rw [cutsT_top] at m
      obtain ⟨i, hi, _, w', mw', rfl⟩ := mem_here.mp m
      have := ways_short L z n _ (by omega) w' mw'
      rw [List.length_append]
      show w'.length + 1 ≤ _
      omega
    · rw [cutsT_at L z (show k ≤ n + 1 by omega), ← cutsT_at L z (show k ≤ n by omega)] at m
      exact ways_short L z n k (by omega) w m
theorem ways_right (nd : (L.map (·.1)).Nodup) (hp : ∀ e ∈ L, 1 ≤ e.1.length ∧ e.1.length ≤ 5) : ∀ n, ∀ k ≤ n, n ≤ z.length → Cov L (pre z n) →
    (∀ w ∈ (cutsT L z n).getD k [], leastP L (pre z k) ≤ costW L w ∧ ∀ p ∈ w, (L.lookup p).isSome = true) ∧ ∃ w ∈ (cutsT L z n).getD k [], costW L w = leastP L (pre z k)
  | 0, k, h, _, _ => by
    obtain rfl : k = 0 := by omega
    have e : pre z 0 = Str.ofString "" := nil_of_len (pre_len (Nat.zero_le _))
    rw [e, leastP_nil]
    refine ⟨fun w m => ?_, [], List.mem_singleton.mpr rfl, rfl⟩
    obtain rfl : w = [] := List.mem_singleton.mp m
    exact ⟨Int.le_refl _, fun p m => (nomatch m)⟩
  | n + 1, k, h, hz, cov => by
    have covn : Cov L (pre z n) := fun c m => cov c (by
      rw [pre_list] at m ⊢
      rw [← Nat.min_eq_left (Nat.le_succ n), ← List.take_take] at m
      exact List.mem_of_mem_take m)
    by_cases e : k = n + 1
    · subst e
      rw [cutsT_top]
      have ih := fun s hs => ways_right nd hp n s hs (by omega) covn
      have hl : ∀ e ∈ L, 1 ≤ e.1.length := fun e m => (hp e m).1
      constructor
      · intro w mw
        obtain ⟨i, hi, has, w', mw', rfl⟩ := mem_here.mp mw
        obtain ⟨v, hv⟩ := Option.isSome_iff_exists.mp has
        obtain ⟨h1, h2⟩ := (ih (n + 1 - 5 + i) (by omega)).1 w' mw'
        have st := least_step hl (x := pre z (n + 1 - 5 + i)) (lookup_mem hv)
        rw [← pre_seg (by omega) hz] at st
        refine ⟨?_, fun p mp => ?_⟩
        · rw [costW_snoc, hv]
          show leastP L (pre z (n + 1)) ≤ costW L w' + v
          dsimp only at st
          omega
        · rcases List.mem_append.mp mp with mp | mp
          · exact h2 p mp
          · rw [List.mem_singleton.mp mp]
            exact has
      · obtain ⟨x, e, me, ez, el⟩ := least_last hl (z := pre z (n + 1)) (by rw [pre_len hz]; omega) cov
        have le := hp e me
        have lz := congrArg Str.length ez
        rw [pre_len hz, app_len] at lz
        have ex : x = pre z x.length := by
          have h : pre (pre z (n + 1)) x.length = pre (x ++ e.1) x.length := congrArg (fun w => pre w x.length) ez
          rw [pre_app, pre_pre (by omega)] at h
          exact h.symm
        have es : seg z x.length (n + 1) = e.1 := by
          have h := pre_seg (z := z) (i := x.length) (j := n + 1) (by omega) hz
          rw [ez, ← ex] at h
          have h' : (x ++ e.1).cps.toList = (x ++ seg z x.length (n + 1)).cps.toList := congrArg (fun w : Str => w.cps.toList) h
          rw [app_list, app_list] at h'
          exact (str_eq_of_lists (List.append_cancel_left h')).symm
        obtain ⟨w', mw', hw'⟩ := (ih x.length (by omega)).2
        have has := lookup_nodup nd e me
        have at_x : n + 1 - 5 + (x.length - (n + 1 - 5)) = x.length := by omega
        refine ⟨w' ++ [e.1], mem_here.mpr ⟨x.length - (n + 1 - 5), by omega, ?_, w', ?_, ?_⟩, ?_⟩
        · rw [at_x, es, has]
          rfl
        · rw [at_x]
          exact mw'
        · rw [at_x, es]
        · rw [costW_snoc, has, hw', ← ex, el]
          rfl
    · have hk : k ≤ n := by omega
      rw [cutsT_at L z (show k ≤ n + 1 by omega), ← cutsT_at L z hk]
      exact ways_right nd hp n k hk (by omega) covn
end
/-- a list of tuples of texts -/
def WaysAt (H : Hp) (p : Addr) (W : List (List Str)) : Prop := ∃ ts : List Addr, H p = some (.lst (ts.map V.ref)) ∧ Paired (fun t w => H t = some (.tup (w.map V.str))) ts W
theorem WaysAt.up {H H' : Hp} {p : Addr} {W : List (List Str)} (h : WaysAt H p W) (sm : Same H H') : WaysAt H' p W := by
  obtain ⟨ts, a, prs⟩ := h
  exact ⟨ts, sm _ _ a, Paired.mapP prs fun t w z => sm _ _ z⟩
theorem WaysAt.len {H : Hp} {p : Addr} {W : List (List Str)} (h : WaysAt H p W) : ∃ xs, H p = some (.lst xs) ∧ xs.length = W.length := by
  obtain ⟨ts, a, prs⟩ := h
  exact ⟨_, a, by rw [List.length_map]; exact Paired.length prs⟩
/-- another list has changed -/
theorem WaysAt.upB {H H' : Hp} {p q : Addr} {xs : List V} {W : List (List Str)} (h : WaysAt H p W) (ne : p ≠ q) (at_q : H q = some (.lst xs)) (sm : SameB q H H') : WaysAt H' p W := by
  obtain ⟨ts, a, prs⟩ := h
  refine ⟨ts, sm _ _ ne a, Paired.mapP prs fun t w z => sm _ _ (fun e => ?_) z⟩
  rw [e, at_q] at z
  cases z
/-- a list of lists of tuples of texts; itself none of these lists -/
def FoundAt (H : Hp) (p : Addr) (T : List (List (List Str))) : Prop := ∃ ps : List Addr, H p = some (.lst (ps.map V.ref)) ∧ p ∉ ps ∧ Paired (fun q W => WaysAt H q W) ps T
end Gd

/-! Gd26: lists of what is made of some items; tuples joined in a comprehension. -/
namespace Gd
open PySem PySem.Spec PyProof.Rows L2
theorem op_catAK {X : Cx} {K : PySem.W.Frag} (h : X.K = K) : OpR X (binaryOp .Add) (rCatA K) := by
  subst h
  exact op_catA
theorem cr_sumK {X : Cx} {K : PySem.W.Frag} (hc : X.calm = true) (h : X.K = K) : CallR X (.builtin "sum") (rSum K) := by
  subst h
  exact cr_sum hc
theorem Paired.snoc {α β : Type} {F : α → β → Prop} {as : List α} {bs : List β} {x : α} {y : β} (h : Paired F as bs) (f : F x y) : Paired F (as ++ [x]) (bs ++ [y]) := by
  induction h with
  | nil => exact .cons f .nil
  | cons r _ ih => exact .cons r ih
theorem Paired.joined {α β : Type} {F : α → β → Prop} {as as' : List α} {bs bs' : List β} (h : Paired F as bs) (k : Paired F as' bs') : Paired F (as ++ as') (bs ++ bs') := by
  induction h with
  | nil => exact k
  | cons r _ ih => exact .cons r ih
theorem Paired.at {α β : Type} {F : α → β → Prop} {as : List α} {bs : List β} (h : Paired F as bs) : ∀ {i : Nat}, i < bs.length → ∃ a b, as[i]? = some a ∧ bs[i]? = some b ∧ F a b := by
  induction h with
  | nil => exact fun lt => absurd lt (Nat.not_lt_zero _)
  | @cons a b as bs r t ih =>
    intro i lt
    cases i with
    | zero => exact ⟨a, b, rfl, rfl, r⟩
    | succ i => exact ih (i := i) (by rw [List.length_cons] at lt; omega)
theorem Paired.mem_left {α β : Type} {F : α → β → Prop} {as : List α} {bs : List β} (h : Paired F as bs) {x : α} (m : x ∈ as) : ∃ y, y ∈ bs ∧ F x y := by
  induction h with
  | nil => cases m
  | cons r _ ih =>
    rcases List.mem_cons.mp m with rfl | m
    · exact ⟨_, List.mem_cons_self .., r⟩
    · obtain ⟨y, my, hy⟩ := ih m
      exact ⟨y, List.mem_cons_of_mem _ my, hy⟩
theorem Paired.map_mem {α β : Type} {F G : α → β → Prop} {as : List α} {bs : List β} (h : Paired F as bs) : (∀ a b, a ∈ as → F a b → G a b) → Paired G as bs := by
  induction h with
  | nil => exact fun _ => .nil
  | cons r _ ih => exact fun f => .cons (f _ _ (List.mem_cons_self ..) r) (ih fun a b m => f a b (List.mem_cons_of_mem _ m))
theorem strs_inj : ∀ {xs ys : List Str}, xs.map V.str = ys.map V.str → xs = ys
  | [], [], _ => rfl
  | [], _ :: _, h => by cases h
  | _ :: _, [], h => by cases h
  | x :: xs, y :: ys, h => by
    rw [List.map_cons, List.map_cons] at h
    obtain ⟨h1, h2⟩ := List.cons.inj h
    rw [V.str.inj h1, strs_inj h2]
/-- the tuples with a piece more -/
theorem ways_more {H1 H : Hp} {piece : Str} {ts : List Addr} {W : List (List Str)} (prs : Paired (fun t w => H1 t = some (.tup (w.map V.str))) ts W) : ∀ {ys : List V}, Paired (fun x y => ∃ t t' w, x = V.ref t ∧ y = V.ref t' ∧ H1 t = some (.tup (w.map V.str)) ∧ H t' = some (.tup ((w ++ [piece]).map V.str))) (ts.map V.ref) ys → ∃ ts' : List Addr, ys = ts'.map V.ref ∧ Paired (fun t w => H t = some (.tup (w.map V.str))) ts' (W.map fun w => w ++ [piece]) := by
  induction prs with
  | nil =>
    intro ys h
    cases h
    exact ⟨[], rfl, .nil⟩
  | @cons t w ts W r _ ih =>
    intro ys h
    cases h with
    | cons q k =>
      obtain ⟨ts', rfl, p⟩ := ih k
      obtain ⟨t1, t', w1, e1, rfl, h1, h2⟩ := q
      obtain rfl : t = t1 := V.ref.inj e1
      rw [r] at h1
      obtain rfl : w = w1 := strs_inj (HO.tup.inj (Option.some.inj h1))
      exact ⟨t' :: ts', rfl, .cons h2 p⟩
/-- [.. for x in xs if b], the test the same for all -/
theorem lc_relF {K : PySem.W.Frag} {a : Addr} {xs : List V} {slot : Nat} {tt : TT} {te : TE} {vs : List Nat} {σ : L2.St} {H1 : Hp} {D : Addr} {Qd : Hp → Prop} (b : Bool) (Rel : V → V → Hp → Prop) (mono : ∀ x y H H', Same H H' → Rel x y H → Rel x y H') (mono2 : ∀ x y H l o, H D = some (.lst l) → Rel x y H → Rel x y (upd H D o)) (hD : H1 D = none) (hS : SqL K H1 a xs) (hn : xs.length ≤ 100000)
    (hw : ∀ x, wipe ((wipe σ vs).set slot (some x)) vs = wipe σ vs)
    (ht : ∀ (x : V) (H : Hp), x ∈ xs → Same H1 H → ∀ Q : Bool → Hp → Prop, (∀ H', Same H H' → Q b H') → tt ((wipe σ vs).set slot (some x)) H Q)
    (hs : ∀ (x : V) (H : Hp), x ∈ xs → b = true → Same H1 H → ∀ Q : VK, (∀ y H', Same H H' → Rel x y H' → Q y H') → te ((wipe σ vs).set slot (some x)) H Q)
    (hd : ∀ (H : Hp) (ys : List V), Same H1 H → H D = some (.lst ys) → Paired (fun x y => Rel x y H) (if b = true then xs else []) ys → Qd H) :
    ∃ W : Nat → Nat → Hp → Prop, (∃ m, W 0 m (upd H1 D (.lst []))) ∧ ∀ i m H, W i m H →
      ((Itl K a).stop i H ∧ Qd H) ∨ ((Itl K a).go i H ∧ ∃ Nx : Hp → Prop, (∀ H', Nx H' → ∃ m', m' < m ∧ W (i + 1) m' H') ∧ ∀ x H', (Itl K a).yld i H x H' → gName slot x (wipe σ vs) H' fun σ2 H2 => wipe σ2 vs = wipe σ vs ∧ tt σ2 H2 fun b H3 =>
        if b = true then te σ2 H3 fun y H4 => ∃ acc, H4 D = some (.lst acc) ∧ acc.length < sizeLine ∧ Nx (upd H4 D (.lst (acc ++ [y]))) else Nx H3) := by
  refine lc_list (K := K) (a := a) (xs := xs) (fun i H => Same H1 H ∧ ∃ ys, H D = some (.lst ys) ∧ Paired (fun x y => Rel x y H) (if b = true then xs.take i else []) ys) ⟨same_new hD, [], upd_same, by rw [List.take_zero]; split <;> exact .nil⟩ (fun i H _ h => h.1.seq hS) ?_ ?_
  · rintro i x H hi ⟨sm, ys, h, prs⟩
    have mx := List.mem_of_getElem? hi
    have et : xs.take (i + 1) = xs.take i ++ [x] := by rw [List.take_add_one, hi] <;> rfl
    refine ⟨hw _, ht x H mx sm _ fun H1' s1 => ?_⟩
    cases b with
    | false =>
      refine iteF ⟨sm.trans s1, ys, s1 _ _ h, ?_⟩
      rw [if_neg Bool.false_ne_true] at prs ⊢
      cases prs
      exact .nil
    | true =>
      rw [if_pos rfl] at prs
      refine iteT (hs x H1' mx rfl (sm.trans s1) _ fun y H2 s2 r => ?_)
      have h2 := s2 _ _ (s1 _ _ h)
      refine ⟨ys, h2, ?_, same_over ((sm.trans s1).trans s2) hD, _, upd_same, ?_⟩
      · have l1 := Paired.length prs
        rw [List.length_take] at l1
        rw [sizeLine_eq]
        omega
      · rw [if_pos rfl, et]
        exact Paired.snoc (Paired.mapP prs fun u v q => mono2 _ _ _ _ _ h2 (mono _ _ _ _ (s1.trans s2) q)) (mono2 _ _ _ _ _ h2 r)
  · rintro H ⟨sm, ys, h, prs⟩
    rw [List.take_length] at prs
    exact hd H ys sm h prs
end Gd

/-! M16: a piece at another price; lists of pairs compared -/
namespace Gd
open PySem PySem.Spec PyProof.Rows L2
theorem eqv_pairsAll : ∀ L : List (Str × Int), PyData.eqvAll (L.map fun e => PyData.tuple [.str e.1, .int e.2]) (L.map fun e => PyData.tuple [.str e.1, .int e.2]) = true
  | [] => by simp only [List.map_nil, PyData.eqvAll]
  | e :: r => by
    rw [List.map_cons, PyData.eqvAll, eqv_pairsAll r, Bool.and_true]
    simp [PyData.eqv, PyData.eqvAll]
theorem eqv_pdP (L : List (Str × Int)) : PyData.eqv (pdP L) (pdP L) = true := by
  unfold pdP
  rw [PyData.eqv]
  exact eqv_pairsAll L
theorem shaped_pdP {L : List (Str × Int)} (h : ∀ e ∈ L, PyData.strOk e.1 = true) : SeqAt.shaped (pdP L) = true := by
  have all : PyData.canLayAll0 (L.map fun e => PyData.tuple [.str e.1, .int e.2]) = true ∧ PyData.depthAll (L.map fun e => PyData.tuple [.str e.1, .int e.2]) ≤ 1 := by
    induction L with
    | nil => simp only [List.map_nil, PyData.canLayAll0, PyData.depthAll, true_and, Nat.zero_le]
    | cons e r ih =>
      obtain ⟨i1, i2⟩ := ih fun y m => h y (List.mem_cons_of_mem _ m)
      simp only [List.map_cons, PyData.canLayAll0, PyData.canLay0, PyData.depthAll, PyData.depth, i1, h e (List.mem_cons_self ..), Bool.and_self, true_and]
      omega
  unfold SeqAt.shaped pdP
  rw [Bool.and_eq_true]
  refine ⟨by rw [PyData.canLay0]; exact all.1, decide_eq_true ?_⟩
  rw [PyData.depth]
  have := all.2
  omega
/-- two truths and a text or None -/
theorem sh_none (a b : Bool) : Sh (.list [.bool a, .bool b, .none]) := by
  cases a <;> cases b <;> exact ⟨by decide +kernel, by decide +kernel, by decide +kernel, by decide +kernel, by decide +kernel⟩
theorem sh_word (a b : Bool) {z : Str} (h : z.length ≤ 5) (l : ∀ c ∈ z.cps.toList, low c = true) : Sh (.list [.bool a, .bool b, .str z]) := by
  have sz : z.cps.size = z.length := rfl
  have w1 : ∀ b : Bool, (PyData.bool b).weight ≤ 20 := fun b => by cases b <;> decide +kernel
  have d1 : ∀ b : Bool, (PyData.bool b).depth ≤ 1 := fun b => by cases b <;> decide +kernel
  have wa := w1 a
  have wb := w1 b
  have da := d1 a
  have db := d1 b
  refine ⟨?_, ?_, ?_, ?_, ?_⟩
  · simp only [PyData.leavesShort, PyData.leavesShortAll, (sh_bool a).short, (sh_bool b).short, Bool.true_and, Bool.and_true, List.all_eq_true]
    intro c mc
    have := of_decide_eq_true (l c mc)
    exact decide_eq_true (Nat.lt_of_le_of_lt this.2 (by decide))
  · simp only [PyData.showable, PyData.showableAll, (sh_bool a).can, (sh_bool b).can, Bool.true_and, Bool.and_true]
  · simp only [PyData.hasDict, PyData.hasDictAll, (sh_bool a).plain, (sh_bool b).plain, Bool.or_self]
  · simp only [PyData.weight, PyData.weightAll] at wa wb ⊢
    omega
  · simp only [PyData.depth, PyData.depthAll] at da db ⊢
    omega
section
variable {S : List Str} {L : List (Str × Int)}
theorem Full.sub (f : Full S L) (s : Sg S) {zs : List Str} (long : ∀ z ∈ zs, 1 < z.length) : Full S (subP L zs) where
  nd := subP_nd f.nd
  len := Nat.le_trans (subP_len L zs) f.len
  has := fun z m => by
    obtain ⟨e, me, rfl⟩ := List.mem_map.mp (f.has z m)
    refine List.mem_map.mpr ⟨e, mem_subP.mpr ⟨me, fun h => ?_⟩, rfl⟩
    have := long e.1 h
    rw [s.len m] at this
    exact absurd this (by decide)
  piece := fun z m => f.piece z ((subP_sub L zs).mem m)
  price := fun e m => f.price e (mem_subP.mp m).1
theorem Full.put (f : Full S L) (l : L.length ≤ 11) {z : Str} (hz : (1 ≤ z.length ∧ z.length ≤ 5) ∧ Over S z) {v : Int} (hv : 1 ≤ v ∧ v ≤ 99) : Full S (putP L z v) where
  nd := nodup_putP f.nd
  len := by
    have := putP_len L z v
    omega
  has := fun y m => mem_putP.mpr (.inr (f.has y m))
  piece := fun y m => (mem_putP.mp m).elim (fun h => h ▸ hz) (f.piece y)
  price := all_putP (p := fun v => 1 ≤ v ∧ v ≤ 99) f.price hv
theorem mem_put_new {z : Str} {v : Int} (h : z ∉ L.map (·.1)) {e : Str × Int} : e ∈ putP L z v ↔ e ∈ L ∨ e = (z, v) := by
  rw [putP_new h, List.mem_append, List.mem_singleton]
theorem Full.nonneg (f : Full S L) : ∀ n, ∀ z : Str, z.length ≤ n → Over S z → 0 ≤ leastP L z
  | 0, z, h, _ => by
    have : z = Str.ofString "" := nil_of_len (by omega)
    rw [this, leastP_nil]
    exact Int.le_refl _
  | n + 1, z, h, o => by
    by_cases e0 : z.length = 0
    · have : z = Str.ofString "" := nil_of_len e0
      rw [this, leastP_nil]
      exact Int.le_refl _
    · obtain ⟨x, e, me, rfl, el⟩ := least_last f.pos1 e0 (f.cov o)
      have l1 := f.pos1 e me
      rw [app_len] at h
      have := f.nonneg n x (by omega) o.left
      have := f.price e me
      omega
theorem Full.one (f : Full S L) {z : Str} (h : z.length ≠ 0) (o : Over S z) : 1 ≤ leastP L z := by
  obtain ⟨x, e, me, rfl, el⟩ := least_last f.pos1 h (f.cov o)
  have := f.nonneg _ x (Nat.le_refl _) o.left
  have := f.price e me
  omega
theorem Full.most (f : Full S L) {u : Int} (u0 : 0 ≤ u) (hu : ∀ e ∈ L, e.2 ≤ u) : ∀ n : Nat, ∀ z : Str, z.length = n → Over S z → leastP L z ≤ u * n
  | 0, z, h, _ => by
    have : z = Str.ofString "" := nil_of_len h
    rw [this, leastP_nil]
    omega
  | n + 1, z, h, o => by
    have e : z = pre z n ++ seg z n (n + 1) := by
      have := pre_seg (z := z) (i := n) (j := n + 1) (by omega) (by omega)
      rw [← this, ← h]
      exact (pre_all z).symm
    have l1 : (seg z n (n + 1)).length = 1 := by rw [seg_len (by omega) (by omega)]; omega
    have : ∃ c, seg z n (n + 1) = sg c := by
      have l2 := str_len (seg z n (n + 1))
      rw [l1] at l2
      obtain ⟨c, hc⟩ := List.length_eq_one_iff.mp l2
      exact ⟨c, str_eq_of_lists (by rw [hc])⟩
    obtain ⟨c, hc⟩ := this
    have oc : sg c ∈ S := by
      rw [e, hc] at o
      exact o.right c (by simp)
    obtain ⟨p, mp, ep⟩ := List.mem_map.mp (f.has _ oc)
    have st := least_step f.pos1 (x := pre z n) mp
    rw [ep, ← hc, ← e] at st
    have ih := f.most u0 hu n (pre z n) (pre_len (by omega)) (o.pre n)
    have := hu p mp
    have ex : u * ((n + 1 : Nat) : Int) = u * (n : Int) + u := by
      rw [show ((n + 1 : Nat) : Int) = (n : Int) + 1 by omega, Int.mul_add, Int.mul_one]
    omega
/-- a book, and the same with a new piece -/
theorem put_dear (s : Sg S) (f : Full S L) (l : L.length ≤ 11) {z : Str} (hz : (1 ≤ z.length ∧ z.length ≤ 5) ∧ Over S z) (new : z ∉ L.map (·.1)) {v : Int} (hv : 1 ≤ v ∧ v ≤ 99) :
    dearer (sortP (putP L z v)) (sortP L) = .non ∧ (dearer (sortP L) (sortP (putP L z v)) = .non ↔ leastP L z ≤ v) ∧ (¬ leastP L z ≤ v → dearer (sortP L) (sortP (putP L z v)) = .str z) := by
  have g := f.put l hz hv
  have mem := fun e => mem_put_new (v := v) new (e := e)
  have main : dearer (sortP L) (sortP (putP L z v)) = .non ↔ leastP L z ≤ v := by
    rw [f.dear g]
    constructor
    · intro h
      exact h (z, v) ((mem _).mpr (.inr rfl))
    · intro h e me
      rcases (mem e).mp me with m | rfl
      · exact least_one f.pos1 m
      · exact h
  refine ⟨(g.dear f).mpr fun e me => least_one g.pos1 ((mem e).mpr (.inl me)), main, fun no => ?_⟩
  rcases dearer_cases (sortP L) (sortP (putP L z v)) with h | ⟨y, h⟩
  · exact absurd (main.mp h) no
  · obtain ⟨⟨v', m', lt⟩, _⟩ := dear_first (sortP_asc _) h
    have mp := (mem_sortP g.nd).mp m'
    rcases (mem _).mp mp with m | e
    · have h1 := least_one f.pos1 m
      rw [f.least (f.over m)] at lt
      dsimp only at h1 lt
      omega
    · rw [h, (Prod.mk.inj e).1]
theorem put_needless (s : Sg S) (f : Full S L) (l : L.length ≤ 11) {z : Str} (hz : (2 ≤ z.length ∧ z.length ≤ 5) ∧ Over S z) (new : z ∉ L.map (·.1)) {v : Int} (hv : 1 ≤ v ∧ v ≤ 99) : z ∈ ndl (sortP (putP L z v)) ↔ leastP L z ≤ v := by
  have g := f.put l ⟨⟨by omega, hz.1.2⟩, hz.2⟩ hv
  have mem := fun e => mem_put_new (v := v) new (e := e)
  have same : leastP (subP (sortP (putP L z v)) [z]) z = leastP L z := by
    have long : ∀ y ∈ [z], 1 < y.length := fun y m => by
      rw [List.mem_singleton.mp m]
      omega
    refine least_same (g.sort.sub s long).pos1 f.pos1 (fun e => ?_) ((g.sort.sub s long).cov hz.2)
    rw [mem_subP, mem_sortP g.nd, mem, List.mem_singleton]
    constructor
    · rintro ⟨m | rfl, n⟩
      · exact m
      · exact absurd rfl n
    · intro m
      exact ⟨.inl m, fun e' => new (e' ▸ List.mem_map.mpr ⟨e, m, rfl⟩)⟩
  rw [mem_ndl]
  constructor
  · rintro ⟨v', m, _, h⟩
    have mp := (mem_sortP g.nd).mp m
    rcases (mem _).mp mp with m | e
    · exact absurd (List.mem_map.mpr ⟨_, m, rfl⟩) new
    · rw [same, (Prod.mk.inj e).2] at h
      exact h
  · intro h
    exact ⟨v, (mem_sortP g.nd).mpr ((mem _).mpr (.inr rfl)), by omega, by rw [same]; exact h⟩
end
end Gd

/-! Gd27: over the items of a tuple inside a comprehension -/
namespace Gd
open PySem PySem.Spec PyProof.Rows L2
theorem pi_tupK {X : Cx} {K : PySem.W.Frag} {tg l : Expr} {tl : TE} (h : X.K = K) (hl : PE X l tl) : PI X tg l (iTup K tl) := by
  subst h
  exact pi_tup hl

theorem ways_costs {H1 : Hp} {M : List (Str × Int)} {ts : List Addr} {W : List (List Str)} (prs : Paired (fun t w => H1 t = some (.tup (w.map V.str))) ts W) : ∀ {ys : List V}, Paired (fun x y => ∃ t w, x = V.ref t ∧ y = V.int (costW M w) ∧ H1 t = some (.tup (w.map V.str))) (ts.map V.ref) ys → ys = (W.map (costW M)).map V.int := by
  induction prs with
  | nil =>
    intro ys h
    cases h
    rfl
  | @cons t w ts W r _ ih =>
    intro ys h
    cases h with
    | cons q k =>
      obtain ⟨t1, w1, e1, rfl, h1⟩ := q
      obtain rfl : t = t1 := V.ref.inj e1
      rw [r] at h1
      obtain rfl : w = w1 := strs_inj (HO.tup.inj (Option.some.inj h1))
      rw [ih k]
      rfl
/-- the least of the prices of all cuts -/
theorem least_costs {M : List (Str × Int)} {z : Str} (nd : (M.map (·.1)).Nodup) (hp : ∀ e ∈ M, 1 ≤ e.1.length ∧ e.1.length ≤ 5) (cov : Cov M z) : 0 < (((cutsT M z z.length).getD z.length []).map (costW M)).length ∧ ∀ m, m ∈ ((cutsT M z z.length).getD z.length []).map (costW M) → (∀ y, y ∈ ((cutsT M z z.length).getD z.length []).map (costW M) → m ≤ y) → m = leastP M z := by
  obtain ⟨h1, w, mw, ew⟩ := ways_right (L := M) (z := z) nd hp z.length z.length (Nat.le_refl _) (Nat.le_refl _) (by rw [pre_all]; exact cov)
  rw [pre_all] at h1 ew
  have mem := List.mem_map.mpr ⟨w, mw, ew⟩
  refine ⟨List.length_pos_of_mem mem, fun m mm le => ?_⟩
  have a := le _ mem
  obtain ⟨w2, mw2, rfl⟩ := List.mem_map.mp mm
  have b := (h1 w2 mw2).1
  omega
theorem if_same {p : Prop} {inst : Decidable p} {A B : Prop} (h : p) (b : B) : if @decide p inst = false then A else B := by
  rw [if_neg (fun e => of_decide_eq_false e h)]
  exact b
end Gd

/-! M17: a single sign at another price -/
namespace Gd
open PySem PySem.Spec PyProof.Rows L2
section
variable {S : List Str} {L : List (Str × Int)}
theorem Full.sign (s : Sg S) (f : Full S L) {z : Str} (h : z ∈ S) {u : Int} (hu : L.lookup z = some u) : leastP L z = u := by
  have lz := s.len h
  obtain ⟨x, e, me, ez, el⟩ := least_last f.pos1 (by omega) (f.cov (s.over h))
  have le := f.pos1 e me
  have lx : x.length = 0 := by
    rw [ez, app_len] at lz
    omega
  have : x = Str.ofString "" := nil_of_len lx
  subst this
  rw [nil_app] at ez
  rw [leastP_nil, Int.zero_add] at el
  have := lookup_nodup f.nd e me
  rw [← ez, hu] at this
  rw [el]
  exact (Option.some.inj this).symm
theorem sign_dear (s : Sg S) (f : Full S L) (l : L.length ≤ 11) {z : Str} (h : z ∈ S) {u v : Int} (hu : L.lookup z = some u) (hv : 1 ≤ v ∧ v ≤ 99) :
    Full S (putP L z v) ∧ (dearer (sortP (putP L z v)) (sortP L) = .non ↔ v ≤ u) ∧ (dearer (sortP L) (sortP (putP L z v)) = .non ↔ u ≤ v) := by
  have lz := s.len h
  have g : Full S (putP L z v) := f.put l ⟨by omega, s.over h⟩ hv
  have lk : (putP L z v).lookup z = some v := by rw [lookup_putP, if_pos rfl]
  have other : ∀ {y : Str}, y ≠ z → (putP L z v).lookup y = L.lookup y := fun ne => by rw [lookup_putP, if_neg ne]
  refine ⟨g, ?_, ?_⟩
  · rw [g.dear f]
    constructor
    · intro k
      have := k (z, u) (lookup_mem hu)
      dsimp only at this
      rw [g.sign s h lk] at this
      exact this
    · intro k e me
      by_cases e1 : e.1 = z
      · rw [e1, g.sign s h lk]
        have := lookup_nodup f.nd e me
        rw [e1, hu] at this
        rw [← Option.some.inj this]
        exact k
      · have := lookup_nodup f.nd e me
        rw [← other e1] at this
        exact least_one g.pos1 (lookup_mem this : (e.1, e.2) ∈ _)
  · rw [f.dear g]
    constructor
    · intro k
      have := k (z, v) (lookup_mem lk)
      dsimp only at this
      rw [f.sign s h hu] at this
      exact this
    · intro k e me
      by_cases e1 : e.1 = z
      · rw [e1, f.sign s h hu]
        have := lookup_nodup g.nd e me
        rw [e1, lk] at this
        rw [← Option.some.inj this]
        exact k
      · have := lookup_nodup g.nd e me
        rw [other e1] at this
        exact least_one f.pos1 (lookup_mem this : (e.1, e.2) ∈ _)
end
end Gd

namespace K06
open PySem PySem.Spec PyProof.Rows L2 Gd
local macro_rules | `(tactic| walk_at "rd") => `(tactic| simp only [tSeq, tPar, tNext, tIfS, tOr, tAnd, tNot, tB, tCB, tCons, tNil, tVar, tC, tRet, tRetN, tAsg, tDrop, gName, gSub, tOp, tUn, tTest, tOrV, tAndV, tNotV, tIf, tBM0, L2.tM1, L2.tM0, tChain, tCall, spKind, rIxL, tLst, tTup, tLstN, tTupN, tDNewN, tSl, tPart, tNoPart, rSlS, rIsB, rNotB, L2.start, L2.rEq, L2.rNe, L2.rI, L2.rI0, L2.rU, cx_K, cx_Kn,
  List.map_cons, List.map_nil, List.length_cons, List.length_nil, List.replicate_succ, List.replicate_zero, List.cons_append, List.nil_append, Nat.reduceAdd, Nat.reduceSub, Nat.zero_add, Nat.sub_self, Nat.reduceSubDiff, Nat.add_sub_cancel,
  List.getElem?_cons_zero, List.getElem?_cons_succ, List.set_cons_zero, List.set_cons_succ, Option.some.injEq, List.cons.injEq, V.bl.injEq, V.int.injEq, V.str.injEq, V.ref.injEq, V.ty.injEq, exists_eq_left, exists_eq_left', exists_eq_right, and_true, true_and, and_assoc, exists_and_left, exists_and_right, if_true, if_false, reduceIte, Bool.not_true, Bool.not_false, Bool.false_eq_true, decide_eq_true_eq, Bool.not_eq_true', Gd.len_str, Gd.tyV_str, reduceCtorEq])
local macro_rules | `(tactic| walk_at "rt") => `(tactic| try (walk_at "rd"))
local macro_rules | `(tactic| walk_at "side") => `(tactic| repeat (refine ⟨by (first | decide | decide +kernel | exact .inl ⟨by decide, by decide⟩ | exact .inr ⟨by decide, by decide⟩), ?_⟩))
local macro_rules | `(tactic| walk_at "up") => `(tactic| first | assumption | exact Same.refl _ | (refine same_at (by assumption) ?_; walk_at "up") | (refine same_go (by assumption) ?_; walk_at "up"))

def topS (i : Nat) : Stmt := PySem.Challenge.pw_cutbehind_k06_whole_prices_that_change_n.main.body.getD i (.Pass ⟨0, 0, 0, 0⟩)
structure Tx (mg : Str → Option Value) : Prop where
  b_len : mg "len" = none
  b_isinstance : mg "isinstance" = none
  b_int : mg "int" = none
  b_bool : mg "bool" = none
  b_abs : mg "abs" = none
  b_str : mg "str" = none
  b_dict : mg "dict" = none
  b_list : mg "list" = none
  b_tuple : mg "tuple" = none
  b_set : mg "set" = none
  b_sorted : mg "sorted" = none
  b_all : mg "all" = none
  b_max : mg "max" = none
  b_min : mg "min" = none
  b_range : mg "range" = none
  b_iter : mg "iter" = none
  b_repr : mg "repr" = none
  c_MAX_SIGNS : ∃ t, mg "MAX_SIGNS" = some (.int 8000 t)
  c_MAX_LENGTH : ∃ t, mg "MAX_LENGTH" = some (.int 5 t)
  c_MAX_PIECES : ∃ t, mg "MAX_PIECES" = some (.int 12 t)
  c_MAX_ALPHABET : ∃ t, mg "MAX_ALPHABET" = some (.int 4 t)
  c_MAX_PRICE : ∃ t, mg "MAX_PRICE" = some (.int 99 t)
section
variable {P : Program} {w : World} {K : PySem.W.Frag} {mg : Str → Option Value} {base : Heap}
abbrev s_is_text : Stmt := topS 5
theorem sc_is_text : FnScope ["value"] ["value"] (defScope s_is_text) := ⟨rfl, rfl, rfl, by decide +kernel, rfl, by decide +kernel, by decide +kernel⟩

theorem ok_is_text {f : Addr} {fd : FuncData} (F : Fun K "is_text" "is_text" s_is_text f fd) (T : Tx mg) : FnOk P w K mg base CX0 1 f fd ["value"] (spKind isText) := by
  obtain ⟨t8, c8⟩ := T.c_MAX_SIGNS
  refine F.ok sc_is_text (fun vs H Q E h => ?_) (fun cdv A outer s H vs Q E hm h => ?_)
  · obtain ⟨v, T, rfl, _⟩ := h
    rfl
  · obtain ⟨v, ty, rfl, hk, q⟩ := h
    refine ⟨_, (pss_cons (ps_if (PW.pt (pw_or (pt_not (pt_val (pe_callB call_isi (by rfl) T.b_isinstance (by decide +kernel) (pa_cons (pv 0) (pa_cons (pe_bltn (v := .ty "str") (u := .type "str") (by rfl) T.b_str (by decide +kernel) rfl) pa_nil))))) (pw_or1 (pt_cmpR op_gt (pe_callB call_len (by rfl) T.b_len (by decide +kernel) (pa_cons (pv 0) pa_nil)) (pe_glob (v := .int 8000) rfl c8 ⟨_, rfl⟩) (nomark _))))) (pss_one (ps_ret pe_bl)) pss_nil)
    (pss_one (ps_ret (pe_or (pe_cmpR op_eq (pv 0) pe_str (nomark _)) (pe_one (pe_and (pe_bm0K (K := K) PySem.F.plainAttrs_str PySem.F.slot_str_isascii PySem.F.type_str_isascii mt_isascii (pv 0) rfl) (pe_and (pe_bm0K (K := K) PySem.F.plainAttrs_str PySem.F.slot_str_isalpha PySem.F.type_str_isalpha mt_isalpha (pv 0) rfl) (pe_one (pe_bm0K (K := K) PySem.F.plainAttrs_str PySem.F.slot_str_islower PySem.F.type_str_islower mt_islower (pv 0) rfl))))))))), ?_⟩
    walk_at "rd"
    have hk' := hk
    cases hk with
    | @str x le =>
      refine isi_of hk' (b := true) (by decide +kernel) ?_
      refine ⟨true, rfl, ?_⟩
      simp only [reduceCtorEq, if_false]
      refine ⟨x.length, ⟨le, rfl⟩, ?_⟩
      by_cases long : x.length ≤ 8000
      · rw [if_neg (by omega)]
        refine ⟨rfl, ?_⟩
        have e0 : isText (.str x) = x.cps.toList.all low := by
          rw [isText_str, decide_eq_true long]
          rfl
        rw [e0] at q
        by_cases e : x.cps.toList = []
        · have ex : x = Str.ofString "" := str_eq_of_lists (by rw [e]; rfl)
          rw [if_pos (by rw [ex])]
          rw [e] at q
          exact q
        · rw [if_neg (fun z => e (by cases z; rfl))]
          rw [← text_low e] at q
          refine ⟨rfl, x, rfl, ?_⟩
          cases c1 : Txt.isascii x with
          | false =>
            rw [c1] at q
            exact iteF q
          | true =>
            refine iteT ⟨rfl, x, rfl, ?_⟩
            cases c2 : Txt.isalpha x with
            | false =>
              rw [c1, c2] at q
              exact iteF q
            | true =>
              rw [c1, c2] at q
              exact iteT ⟨rfl, x, rfl, q⟩
      · rw [if_pos (by omega)]
        have e : isText (.str x) = false := by
          rw [isText_str, decide_eq_false long]
          rfl
        rw [← e]
        exact q
    | _ =>
      refine isi_of hk' (b := false) (by decide +kernel) ?_
      exact ⟨false, rfl, q⟩
abbrev s_is_integer : Stmt := topS 4
theorem sc_is_integer : FnScope ["value"] ["value"] (defScope s_is_integer) := ⟨rfl, rfl, rfl, by decide +kernel, rfl, by decide +kernel, by decide +kernel⟩

theorem ok_is_integer {f : Addr} {fd : FuncData} (F : Fun K "is_integer" "is_integer" s_is_integer f fd) (T : Tx mg) : FnOk P w K mg base CX0 1 f fd ["value"] (spKind isInteger) := by
  refine F.ok sc_is_integer (fun vs H Q E h => ?_) (fun cdv A outer s H vs Q E hm h => ?_)
  · obtain ⟨v, T, rfl, _⟩ := h
    rfl
  · obtain ⟨v, ty, rfl, hk, q⟩ := h
    refine ⟨_, (pss_one (ps_ret (pe_and (pe_callB call_isi (by rfl) T.b_isinstance (by decide +kernel) (pa_cons (pv 0) (pa_cons (pe_bltn (v := .ty "int") (u := .type "int") (by rfl) T.b_int (by decide +kernel) rfl) pa_nil))) (pe_and (pe_not (pe_callB call_isi (by rfl) T.b_isinstance (by decide +kernel) (pa_cons (pv 0) (pa_cons (pe_bltn (v := .ty "bool") (u := .type "bool") (by rfl) T.b_bool (by decide +kernel) rfl) pa_nil)))) (pe_one (pe_cmpR op_lt (pe_callB call_abs (by rfl) T.b_abs (by decide +kernel) (pa_cons (pv 0) pa_nil)) (pe_op op_powW pe_int pe_int) (nomark _))))))), ?_⟩
    walk_at "rd"
    have hk' := hk
    cases hk with
    | int i =>
      refine isi_of hk' (b := true) (by decide +kernel) ⟨true, rfl, ?_⟩
      walk_at "rt"
      refine isi_of hk' (b := false) (by decide +kernel) ⟨false, rfl, ?_⟩
      walk_at "rt"
      refine ⟨by decide, by decide +kernel, ?_⟩
      have e : isInteger (.int i) = decide ((if i < 0 then -i else i) < (10 : Int) ^ (60 : Int).toNat) := by
        show decide (i.natAbs < 10 ^ 60) = _
        rw [show (10 : Int) ^ (60 : Int).toNat = ((10 ^ 60 : Nat) : Int) by rfl, decide_eq_decide]
        split <;> omega
      rw [← e]
      exact q
    | bl b =>
      refine isi_of hk' (b := true) (by decide +kernel) ⟨true, rfl, ?_⟩
      walk_at "rt"
      refine isi_of hk' (b := true) (by decide +kernel) ⟨true, rfl, ?_⟩
      walk_at "rt"
      exact q
    | _ =>
      refine isi_of hk' (b := false) (by decide +kernel) ⟨false, rfl, ?_⟩
      walk_at "rt"
      exact q
abbrev s_is_piece : Stmt := topS 6
theorem sc_is_piece : FnScope ["value"] ["value"] (defScope s_is_piece) := ⟨rfl, rfl, rfl, by decide +kernel, rfl, by decide +kernel, by decide +kernel⟩

theorem ok_is_piece {f : Addr} {fd : FuncData} (F : Fun K "is_piece" "is_piece" s_is_piece f fd) (T : Tx mg) (G_is_text : Dn P w K mg base 1 "is_text" ["value"] (spKind isText)) : FnOk P w K mg base CX0 2 f fd ["value"] (spKind isPiece) := by
  obtain ⟨t5, c5⟩ := T.c_MAX_LENGTH
  refine F.ok sc_is_piece (fun vs H Q E h => ?_) (fun cdv A outer s H vs Q E hm h => ?_)
  · obtain ⟨v, T, rfl, _⟩ := h
    rfl
  · obtain ⟨v, ty, rfl, hk, q⟩ := h
    refine ⟨_, (pss_one (ps_ret (pe_and (pe_callN G_is_text (hm.mono (by decide)) (by rfl) (pa_cons (pv 0) pa_nil)) (pe_one (pe_chain op_le op_le pe_int (pe_callB call_len (by rfl) T.b_len (by decide +kernel) (pa_cons (pv 0) pa_nil)) (pe_glob (v := .int 5) rfl c5 ⟨_, rfl⟩)))))), ?_⟩
    walk_at "rd"
    refine ⟨⟨ty, hk⟩, ?_⟩
    cases hk with
    | @str x le =>
      have e : isPiece (.str x) = (isText (.str x) && decide (1 ≤ x.length ∧ x.length ≤ 5)) := rfl
      cases c : isText (.str x) with
      | false =>
        rw [e, c] at q
        exact iteF q
      | true =>
        rw [e, c] at q
        refine iteT ⟨x.length, ⟨le, rfl⟩, ?_⟩
        have e2 : decide (1 ≤ x.length ∧ x.length ≤ 5) = (decide ((1 : Int) ≤ (x.length : Int)) && decide ((x.length : Int) ≤ 5)) := by
          rw [Bool.eq_iff_iff]
          simp only [Bool.and_eq_true, decide_eq_true_eq]
          omega
        rw [e2] at q
        split
        · next h => rw [decide_eq_true h] at q; exact q
        · next h => rw [decide_eq_false h] at q; exact q
    | _ => exact iteF q
abbrev s_is_price : Stmt := topS 18
theorem sc_is_price : FnScope ["value"] ["value"] (defScope s_is_price) := ⟨rfl, rfl, rfl, by decide +kernel, rfl, by decide +kernel, by decide +kernel⟩

theorem ok_is_price {f : Addr} {fd : FuncData} (F : Fun K "_is_price" "_is_price" s_is_price f fd) (T : Tx mg) (G_is_integer : Dn P w K mg base 1 "is_integer" ["value"] (spKind isInteger)) : FnOk P w K mg base CX0 2 f fd ["value"] (spKind isPrice) := by
  obtain ⟨t9, c9⟩ := T.c_MAX_PRICE
  refine F.ok sc_is_price (fun vs H Q E h => ?_) (fun cdv A outer s H vs Q E hm h => ?_)
  · obtain ⟨v, T, rfl, _⟩ := h
    rfl
  · obtain ⟨v, ty, rfl, hk, q⟩ := h
    refine ⟨_, (pss_one (ps_ret (pe_and (pe_callN G_is_integer (hm.mono (by decide)) (by rfl) (pa_cons (pv 0) pa_nil)) (pe_one (pe_chain op_le op_le pe_int (pv 0) (pe_glob (v := .int 99) rfl c9 ⟨_, rfl⟩)))))), ?_⟩
    walk_at "rd"
    refine ⟨⟨ty, hk⟩, ?_⟩
    cases hk with
    | int i =>
      have e : isPrice (.int i) = (isInteger (.int i) && decide (1 ≤ i ∧ i ≤ 99)) := by
        show decide (1 ≤ i ∧ i ≤ 99) = (decide (i.natAbs < 10 ^ 60) && decide (1 ≤ i ∧ i ≤ 99))
        by_cases h : 1 ≤ i ∧ i ≤ 99
        · rw [decide_eq_true h, decide_eq_true (show i.natAbs < 10 ^ 60 by omega)]
          rfl
        · rw [decide_eq_false h, Bool.and_false]
      cases c : isInteger (.int i) with
      | false =>
        rw [e, c] at q
        exact iteF q
      | true =>
        rw [e, c] at q
        have e2 : decide (1 ≤ i ∧ i ≤ 99) = (decide ((1 : Int) ≤ i) && decide (i ≤ 99)) := by
          rw [Bool.eq_iff_iff]
          simp only [Bool.and_eq_true, decide_eq_true_eq]
        rw [e2] at q
        refine iteT ⟨i, rfl, ?_⟩
        by_cases h : 1 ≤ i
        · rw [decide_eq_true h] at q
          rw [if_pos h]
          exact ⟨i, rfl, q⟩
        · rw [decide_eq_false h] at q
          rw [if_neg h]
          exact q
    | _ => exact iteF q
end
end K06

namespace K06
open PySem PySem.Spec PyProof.Rows L2 Gd
local macro_rules | `(tactic| walk_at "rd") => `(tactic| simp only [tSeq, tPar, tNext, tIfS, tOr, tAnd, tNot, tB, tCB, tCons, tNil, tVar, tC, tRet, tRetN, tAsg, tDrop, gName, gSub, tOp, tUn, tTest, tOrV, tAndV, tNotV, tIf, tBM0, L2.tM1, L2.tM0, tChain, tCall, spKind, rIxL, tLst, tTup, tLstN, tTupN, tDNewN, tSl, tPart, tNoPart, rSlS, rIsB, rNotB, L2.start, L2.rEq, L2.rNe, L2.rI, L2.rI0, L2.rU, cx_K, cx_Kn,
  List.map_cons, List.map_nil, List.length_cons, List.length_nil, List.replicate_succ, List.replicate_zero, List.cons_append, List.nil_append, Nat.reduceAdd, Nat.reduceSub, Nat.zero_add, Nat.sub_self, Nat.reduceSubDiff, Nat.add_sub_cancel,
  List.getElem?_cons_zero, List.getElem?_cons_succ, List.set_cons_zero, List.set_cons_succ, Option.some.injEq, List.cons.injEq, V.bl.injEq, V.int.injEq, V.str.injEq, V.ref.injEq, V.ty.injEq, exists_eq_left, exists_eq_left', exists_eq_right, and_true, true_and, and_assoc, exists_and_left, exists_and_right, if_true, if_false, reduceIte, Bool.not_true, Bool.not_false, Bool.false_eq_true, decide_eq_true_eq, Bool.not_eq_true', Gd.len_str, Gd.tyV_str, reduceCtorEq])
local macro_rules | `(tactic| walk_at "rt") => `(tactic| try (walk_at "rd"))
local macro_rules | `(tactic| walk_at "side") => `(tactic| repeat (refine ⟨by (first | decide | decide +kernel | exact .inl ⟨by decide, by decide⟩ | exact .inr ⟨by decide, by decide⟩), ?_⟩))
local macro_rules | `(tactic| walk_at "up") => `(tactic| first | assumption | exact Same.refl _ | (refine same_at (by assumption) ?_; walk_at "up") | (refine same_go (by assumption) ?_; walk_at "up"))

section
variable {P : Program} {w : World} {K : PySem.W.Frag} {mg : Str → Option Value} {base : Heap}
def spSigns (K : PySem.W.Frag) : Sp := fun vs H Q _ => ∃ p zs, vs = [.ref p] ∧ (SqL K H p (zs.map V.str) ∨ SqT K H p (zs.map V.str)) ∧ (zs.map (·.length)).sum ≤ 1000 ∧ New H (.tup ((ascT (sgs zs)).map V.str)) Q
abbrev s_signs_in : Stmt := topS 20
theorem sc_signs_in : FnScope ["pieces"] ["pieces"] (defScope s_signs_in) := ⟨rfl, rfl, rfl, by decide +kernel, rfl, by decide +kernel, by decide +kernel⟩

theorem ok_signs_in {f : Addr} {fd : FuncData} (F : Fun K "_signs_in" "_signs_in" s_signs_in f fd) (T : Tx mg) : FnOk P w K mg base CX0 1 f fd ["pieces"] (spSigns K) := by
  refine F.ok sc_signs_in (fun vs H Q E h => ?_) (fun cdv A outer s H vs Q E hm h => ?_)
  · obtain ⟨p, zs, rfl, _⟩ := h
    rfl
  · obtain ⟨p, zs, rfl, hs, le, q⟩ := h
    refine ⟨_, (pss_one (ps_ret (pe_callTy call_tupleN (by rfl) T.b_tuple (by decide +kernel) (pa_cons (pe_callB (cr_sortedTx rfl) (by rfl) T.b_sorted (by decide +kernel) (pa_cons (pe_callTy (call_setT rfl) (by rfl) T.b_set (by decide +kernel) (pa_cons (pe_join pe_str (pv 0)) pa_nil)) pa_nil)) pa_nil)))), ?_⟩
    walk_at "rd"
    have zero : (Str.ofString "").length = 0 := rfl
    have big : 1000 ≤ sizeLine := by decide
    refine ⟨⟨_, rfl⟩, zs, hs, by rw [zero]; omega, ?_⟩
    refine ⟨_, sgs zs, rfl, .inl ⟨_, rfl, by rw [len_join]; omega, (join_sgs zs).symm⟩, few_of (by rw [len_sgs]; omega), fun p1 H1 hp1 sm1 at1 => ?_⟩
    refine ⟨p1, sgs zs, rfl, at1, by rw [len_sgs]; omega, fun p2 H2 hp2 sm2 at2 => ?_⟩
    refine ⟨p2, _, rfl, .inl ⟨sq_lst at2, fun p3 H3 hp3 sm3 at3 => ?_⟩⟩
    exact q p3 H3 ((sm1.trans sm2).free hp3) ((sm1.trans sm2).trans sm3) at3
def spAre (K : PySem.W.Frag) : Sp := fun vs H Q _ => ∃ d L, vs = [.ref d] ∧ H d = some (.dK (pr L)) ∧ (L.map (·.1)).Nodup ∧ L.length ≤ 1000 ∧ (∀ e ∈ L, e.1.length ≤ sizeLine) ∧ ∀ H', Same H H' → Q (.bl (arePr L)) H'

abbrev s_are_prices : Stmt := topS 21
theorem sc_are_prices : FnScope ["value", "alphabet", "piece", "price", "sign"] ["value"] (defScope s_are_prices) := ⟨rfl, rfl, rfl, by decide +kernel, rfl, by decide +kernel, by decide +kernel⟩

theorem ok_are_prices {f : Addr} {fd : FuncData} (F : Fun K "_are_prices" "_are_prices" s_are_prices f fd) (T : Tx mg) (G_is_piece : Dn P w K mg base 2 "is_piece" ["value"] (spKind isPiece)) (G_is_price : Dn P w K mg base 2 "_is_price" ["value"] (spKind isPrice)) (G_signs_in : Dn P w K mg base 1 "_signs_in" ["pieces"] (spSigns K)) : FnOk P w K mg base CX0 3 f fd ["value"] (spAre K) := by
  obtain ⟨t12, c12⟩ := T.c_MAX_PIECES
  obtain ⟨t4, c4⟩ := T.c_MAX_ALPHABET
  refine F.ok sc_are_prices (fun vs H Q E h => ?_) (fun cdv A outer s H vs Q E hm h => ?_)
  · obtain ⟨d, L, rfl, _⟩ := h
    rfl
  · obtain ⟨d, L, rfl, hd, nd, le, fits, q⟩ := h
    refine ⟨_, (pss_cons (ps_if (PW.pt (pw_or (pt_not (pt_val (pe_callB call_isi (by rfl) T.b_isinstance (by decide +kernel) (pa_cons (pv 0) (pa_cons (pe_bltn (v := .ty "dict") (u := .type "dict") (by rfl) T.b_dict (by decide +kernel) rfl) pa_nil))))) (pw_or1 (pt_not (pt_chain op_le op_le pe_int (pe_callB call_lenP (by rfl) T.b_len (by decide +kernel) (pa_cons (pv 0) pa_nil)) (pe_glob (v := .int 12) rfl c12 ⟨_, rfl⟩)))))) (pss_one (ps_ret pe_bl)) pss_nil)
    (pss_cons (ps_lock (ps_if (pt_not (pt_val (pe_callB (cr_all rfl) (by rfl) T.b_all (by decide +kernel) (pa_cons (pe_lc (own := [("piece", 2), ("price", 3)]) (g := gTup _ 2 (gCons (gName 2) (gCons (gName 3) gNil))) (tt := tYes) (by rfl) sc_are_prices.nd (pi_items (pv 0)) (blkOk_by (own := [("piece", 2), ("price", 3)]) (N := ["value", "alphabet", "piece", "price", "sign"]) (sc := defScope s_are_prices) (by decide +kernel)) (fun _ _ _ _ _ => (pg_tup rfl (pgs_cons (pg_name (i := 2) sc_are_prices.nd rfl (Or.inl rfl)) (pgs_cons (pg_name (i := 3) sc_are_prices.nd rfl (Or.inl rfl)) pgs_nil)))) (fun _ _ _ _ _ => pts_nil) (fun _ _ _ _ _ => (pe_and (pe_callN G_is_piece (hm.mono (by decide)) (by rfl) (pa_cons (pv 2) pa_nil)) (pe_one (pe_callN G_is_price (hm.mono (by decide)) (by rfl) (pa_cons (pv 3) pa_nil)))))) pa_nil)))) (pss_one (ps_ret pe_bl)) pss_nil))
    (pss_cons (ps_set (i := 1) sc_are_prices.nd rfl (Or.inl rfl) (pe_callN G_signs_in (hm.mono (by decide)) (by rfl) (pa_cons (pe_callTy (call_listD' rfl) (by rfl) T.b_list (by decide +kernel) (pa_cons (pv 0) pa_nil)) pa_nil)))
    (pss_one (ps_ret (pe_and (pe_cmpR op_le (pe_callB call_len (by rfl) T.b_len (by decide +kernel) (pa_cons (pv 1) pa_nil)) (pe_glob (v := .int 4) rfl c4 ⟨_, rfl⟩) (nomark _)) (pe_one (pe_callB (cr_all rfl) (by rfl) T.b_all (by decide +kernel) (pa_cons (pe_lc (own := [("sign", 4)]) (g := gName 4) (tt := tYes) (by rfl) sc_are_prices.nd (pi_tup (pv 1)) (blkOk_by (own := [("sign", 4)]) (N := ["value", "alphabet", "piece", "price", "sign"]) (sc := defScope s_are_prices) (by decide +kernel)) (fun _ _ _ _ _ => (pg_name (i := 4) sc_are_prices.nd rfl (Or.inl rfl))) (fun _ _ _ _ _ => pts_nil) (fun _ _ _ _ _ => (pe_cmpR (op_inPr (hu_of hm)) (pv 4) (pv 0) (by rfl)))) pa_nil))))))))), ?_⟩
    refine seq_cut fun k1 e1 => ?_
    walk_at "rd"
    refine isi_of (.dic hd) (b := true) (by decide +kernel) ⟨true, rfl, ?_⟩
    rw [if_neg (by decide)]
    refine ⟨d, L, rfl, hd, _, rfl, ?_⟩
    have short : ¬ (1 ≤ L.length ∧ L.length ≤ 12) → Q (.bl false) H := fun h => by
      have e : arePr L = false := by
        unfold arePr
        rw [decide_eq_false h]
        rfl
      rw [← e]
      exact q H (Same.refl _)
    by_cases l1 : 1 ≤ L.length
    · rw [if_pos (by omega)]
      refine ⟨_, rfl, ?_⟩
      by_cases l2 : L.length ≤ 12
      · rw [if_neg (by rw [decide_eq_true (show (L.length : Int) ≤ 12 by omega)]; decide)]
        subst e1
        refine seq_cut fun k1 e1 => ?_
        refine ⟨d, _, hd, trivial, fun od => ?_⟩
        walk_at "rd"
        refine ⟨.ref d, rfl, d, od, pr L, rfl, upd_same, fun D hD => ?_⟩
        refine lc_itemsG (fun e => .bl (isPiece (.str e.1) && isPrice (.int e.2))) hD upd_same (by omega) (fun x y => rfl) (fun e H2 m sm Q' hQ => ?_) fun H2 sm at_D => ?_
        · walk_at "rd"
          refine ⟨.str e.1, rfl, ⟨_, .str (fits e m)⟩, ?_⟩
          cases c : isPiece (.str e.1) with
          | false =>
            refine iteF ?_
            have := hQ H2 (Same.refl _)
            rw [c] at this
            exact this
          | true =>
            refine iteT ⟨.int e.2, rfl, ⟨_, .int _⟩, ?_⟩
            have := hQ H2 (Same.refl _)
            rw [c] at this
            exact this
        · have locked := sm _ _ upd_same
          refine ⟨D, L.map fun e => isPiece (.str e.1) && isPrice (.int e.2), rfl, sq_lst (by rw [List.map_map]; exact at_D), _, rfl, ?_⟩
          rw [List.all_map]
          cases c : L.all (id ∘ fun e => isPiece (.str e.1) && isPrice (.int e.2)) with
          | false =>
            rw [if_pos rfl]
            refine ⟨locked, ?_⟩
            have e : arePr L = false := by
              unfold arePr
              rw [show (L.all fun e => isPiece (.str e.1) && isPrice (.int e.2)) = false from c, Bool.and_false]
              rfl
            rw [← e]
            exact q _ (same_lock hd sm)
          | true =>
            rw [if_neg (by decide)]
            refine ⟨locked, ?_⟩
            subst e1
            have sm1 := same_lock hd sm
            generalize upd H2 d (HO.dK (pr L)) = H3 at sm1 ⊢
            have hd3 := sm1 _ _ hd
            refine seq_cut fun k1 e1 => ?_
            walk_at "rd"
            have fine : ∀ e ∈ L, isPiece (.str e.1) = true := fun e m => (Bool.and_eq_true_iff.mp (List.all_eq_true.mp c e m)).1
            have sum : ((L.map (·.1)).map (·.length)).sum ≤ 60 := by
              have h := sum_five (zs := L.map (·.1)) fun z m => by
                obtain ⟨e, me, rfl⟩ := List.mem_map.mp m
                exact (piece_len (fine e me)).2
              rw [List.length_map] at h
              omega
            refine ⟨d, L, rfl, .inl hd3, fun p1 H4 hp1 sm4 at1 => ?_⟩
            refine ⟨p1, L.map (·.1), rfl, .inl (sq_lst (by rw [List.map_map]; exact at1)), by omega, fun p2 H5 hp2 sm5 at2 => ?_⟩
            subst e1
            walk_at "rd"
            refine ⟨(sigsP L).length, .inr ⟨_, sq_tup at2, by rw [List.length_map]; rfl⟩, ?_⟩
            have e0 : arePr L = (decide ((sigsP L).length ≤ 4) && (sigsP L).all fun z => (L.lookup z).isSome) := by
              unfold arePr
              rw [show (L.all fun e => isPiece (.str e.1) && isPrice (.int e.2)) = true from c, decide_eq_true (show 1 ≤ L.length ∧ L.length ≤ 12 from ⟨l1, l2⟩)]
              rfl
            have sm5' : Same H H5 := sm1.trans (sm4.trans sm5)
            by_cases l4 : (sigsP L).length ≤ 4
            · rw [if_pos (by omega)]
              refine ⟨.ref p2, rfl, p2, rfl, ⟨_, sq_tup at2⟩, fun D2 hD2 => ?_⟩
              refine lc_tupG (fun _ => true) (fun v => .bl (match v with | .str z => (L.lookup z).isSome | _ => false)) hD2 (sq_tup at2) (by rw [List.length_map]; show (sigsP L).length ≤ 100000; omega) (fun x => rfl) (fun x H6 m sm6 Q' hQ => hQ H6 (Same.refl _)) (fun x H6 m _ sm6 Q' hQ => ?_) fun H6 sm6 at_D2 => ?_
              · obtain ⟨z, mz, rfl⟩ := List.mem_map.mp m
                refine ⟨.str z, rfl, .ref d, rfl, z, d, L, rfl, rfl, .inl ((sm5'.trans sm6) _ _ hd), ?_⟩
                rw [Bool.bne_false]
                exact hQ H6 (Same.refl _)
              · refine ⟨D2, (sigsP L).map fun z => (L.lookup z).isSome, rfl, sq_lst (by
                  rw [List.map_map, at_D2, List.filter_eq_self.mpr (fun _ _ => rfl), List.map_map]
                  rfl), ?_⟩
                have := q H6 (sm5'.trans sm6)
                rw [e0, decide_eq_true l4, Bool.true_and] at this
                rw [List.all_map]
                exact this
            · rw [if_neg (by omega)]
              have := q H5 sm5'
              rw [e0, decide_eq_false l4] at this
              exact this
      · rw [if_pos (by rw [decide_eq_false (show ¬ (L.length : Int) ≤ 12 by omega)])]
        exact short fun h => l2 h.2
    · rw [if_neg (by omega)]
      exact short fun h => l1 h.1
end
end K06

namespace K06
open PySem PySem.Spec PyProof.Rows L2 Gd
local macro_rules | `(tactic| walk_at "rd") => `(tactic| simp only [tSeq, tPar, tNext, tIfS, tOr, tAnd, tNot, tB, tCB, tCons, tNil, tVar, tC, tRet, tRetN, tAsg, tDrop, gName, gSub, tOp, tUn, tTest, tOrV, tAndV, tNotV, tIf, tBM0, L2.tM1, L2.tM0, tChain, tCall, spKind, rIxL, tLst, tTup, tLstN, tTupN, tDNewN, tSl, tPart, tNoPart, rSlS, rIsB, rNotB, L2.start, L2.rEq, L2.rNe, L2.rI, L2.rI0, L2.rU, cx_K, cx_Kn,
  List.map_cons, List.map_nil, List.length_cons, List.length_nil, List.replicate_succ, List.replicate_zero, List.cons_append, List.nil_append, Nat.reduceAdd, Nat.reduceSub, Nat.zero_add, Nat.sub_self, Nat.reduceSubDiff, Nat.add_sub_cancel,
  List.getElem?_cons_zero, List.getElem?_cons_succ, List.set_cons_zero, List.set_cons_succ, Option.some.injEq, List.cons.injEq, V.bl.injEq, V.int.injEq, V.str.injEq, V.ref.injEq, V.ty.injEq, exists_eq_left, exists_eq_left', exists_eq_right, and_true, true_and, and_assoc, exists_and_left, exists_and_right, if_true, if_false, reduceIte, Bool.not_true, Bool.not_false, Bool.false_eq_true, decide_eq_true_eq, Bool.not_eq_true', Gd.len_str, Gd.tyV_str, reduceCtorEq])
local macro_rules | `(tactic| walk_at "rt") => `(tactic| try (walk_at "rd"))
local macro_rules | `(tactic| walk_at "side") => `(tactic| repeat (refine ⟨by (first | decide | decide +kernel | exact .inl ⟨by decide, by decide⟩ | exact .inr ⟨by decide, by decide⟩), ?_⟩))
local macro_rules | `(tactic| walk_at "up") => `(tactic| first | assumption | exact Same.refl _ | (refine same_at (by assumption) ?_; walk_at "up") | (refine same_go (by assumption) ?_; walk_at "up"))

/-- what is asked of the class Book as the top has made it -/
structure Tb (K : PySem.W.Frag) (mg : Str → Option Value) (C : Addr) : Prop where
  cl : Cls K C
  n_prices : NoAttr K C "_prices"
  n_pieces : NoAttr K C "_pieces"
  n_alphabet : NoAttr K C "_alphabet"
  n_longest : NoAttr K C "_longest"
  n_dearest : NoAttr K C "_dearest"
  m_Book : mg "Book" = some (.ref C)
  ic : C8.InsC K C
section
variable {P : Program} {w : World} {K : PySem.W.Frag} {mg : Str → Option Value} {base : Heap} {C : Addr}
def spInit (C : Addr) : Sp := fun vs H Q _ => ∃ b dx d L, vs = [.ref b, .ref d] ∧ H b = some (.ins C dx []) ∧ H d = some (.dK (pr L)) ∧ (L.map (·.1)).Nodup ∧ arePr L = true ∧ ∀ H', SameB b H H' → BookAt C H' b (sortP L) → Q .non H'

abbrev s_Book__init : Stmt := inClass (topS 24) 0
theorem sc_Book__init : FnScope ["self", "prices", "piece"] ["self", "prices"] (defScope s_Book__init) := ⟨rfl, rfl, rfl, by decide +kernel, rfl, by decide +kernel, by decide +kernel⟩

theorem ok_init {f : Addr} {fd : FuncData} (F : Fun K "__init__" "Book.__init__" s_Book__init f fd) (T : Tx mg) (B : Tb K mg C) (G_are_prices : Dn P w K mg base 3 "_are_prices" ["value"] (spAre K)) (G_signs_in : Dn P w K mg base 1 "_signs_in" ["pieces"] (spSigns K)) : FnOk P w K mg base CX0 4 f fd ["self", "prices"] (spInit C) := by
  refine F.ok sc_Book__init (fun vs H Q E h => ?_) (fun cdv A outer s H vs Q E hm h => ?_)
  · obtain ⟨b, dx, d, L, rfl, _⟩ := h
    rfl
  · obtain ⟨b, dx, d, L, rfl, hb, hd, nd, good, q⟩ := h
    have gl := good_len good
    have ga := good_all good
    refine ⟨_, (pss_cons (ps_if (pt_not (pt_val (pe_callN G_are_prices (hm.mono (by decide)) (by rfl) (pa_cons (pv 1) pa_nil)))) (pss_one ps_never) pss_nil)
    (pss_cons (ps_fld (pv 0) (pe_dc (own := [("piece", 2)]) (g := gName 2) (tt := tYes) (by rfl) sc_Book__init.nd (pi_list (pe_callB (cr_sortedD rfl) (by rfl) T.b_sorted (by decide +kernel) (pa_cons (pv 1) pa_nil))) (blkOk_by (own := [("piece", 2)]) (N := ["self", "prices", "piece"]) (sc := defScope s_Book__init) (by decide +kernel)) (fun _ _ _ _ _ => (pg_name (i := 2) sc_Book__init.nd rfl (Or.inl rfl))) (fun _ _ _ _ _ => pts_nil) (fun _ _ _ _ _ => (pv 2)) (fun _ _ _ _ _ => (pe_dget (hu_of hm) (pv 1) (pv 2) (by intro _ _; rfl)))) rfl)
    (pss_cons (ps_fld (pv 0) (pe_callTy (call_tupD rfl) (by rfl) T.b_tuple (by decide +kernel) (pa_cons (pe_fldK (K := K) (pv 0) rfl rfl) pa_nil)) rfl)
    (pss_cons (ps_fld (pv 0) (pe_callN G_signs_in (hm.mono (by decide)) (by rfl) (pa_cons (pe_fldK (K := K) (pv 0) rfl rfl) pa_nil)) rfl)
    (pss_cons (ps_fld (pv 0) (pe_callB (cr_max rfl) (by rfl) T.b_max (by decide +kernel) (pa_cons (pe_lc (own := [("piece", 2)]) (g := gName 2) (tt := tYes) (by rfl) sc_Book__init.nd (pi_tup (pe_fld (pv 0) rfl)) (blkOk_by (own := [("piece", 2)]) (N := ["self", "prices", "piece"]) (sc := defScope s_Book__init) (by decide +kernel)) (fun _ _ _ _ _ => (pg_name (i := 2) sc_Book__init.nd rfl (Or.inl rfl))) (fun _ _ _ _ _ => pts_nil) (fun _ _ _ _ _ => (pe_callB call_len_str (by rfl) T.b_len (by decide +kernel) (pa_cons (pv 2) pa_nil)))) pa_nil)) rfl)
    (pss_one (ps_fld (pv 0) (pe_callB (call_maxV rfl) (by rfl) T.b_max (by decide +kernel) (pa_cons (pe_bm0 PySem.F.plainAttrs_dict PySem.F.slot_dict_values PySem.F.type_dict_values mt_valuesD (pe_fldK (K := K) (pv 0) rfl rfl)) pa_nil)) rfl))))))), ?_⟩
    refine seq_cut fun k1 e1 => ?_
    walk_at "rd"
    refine ⟨d, L, rfl, hd, nd, by omega, fun e m => Nat.le_trans (piece_len (ga e m).1).2 (by decide), fun H0 sm0 => ?_⟩
    rw [good]
    walk_at "rd"
    subst e1
    refine seq_cut fun k1 e1 => ?_
    walk_at "rd"
    refine ⟨.ref d, rfl, d, L, rfl, .inl (sm0 _ _ hd), by omega, fun p1 H1 hp1 sm1 at1 => ?_⟩
    refine ⟨p1, rfl, ⟨_, sq_lst at1⟩, fun D hD => ?_⟩
    have sm01 := sm0.trans sm1
    refine dc_textsG (K := K) (fun z => (L.lookup z).getD 0) hD (sq_lst at1) ((sortT_perm _).nodup_iff.mpr nd) (by rw [(sortT_perm _).length_eq, List.length_map]; omega) (fun x => rfl) (fun x => rfl) (fun z H2 m sm Q' hQ => ?_) fun H2 sm2 at_D => ?_
    · refine ⟨.ref d, rfl, .str z, rfl, d, .int ((L.lookup z).getD 0), rfl, ?_, hQ H2 (Same.refl _)⟩
      have g := dget_pr (z := z) (Rd.of ((sm01.trans sm) _ _ hd))
      obtain ⟨v, hv⟩ := Option.isSome_iff_exists.mp (mem_look.mp ((sortT_perm _).mem_iff.mp m))
      rw [hv] at g ⊢
      exact g
    have sm02 := sm01.trans sm2
    have hb2 := sm02 _ _ hb
    have at_D : H2 D = some (.dK (pr (sortP L))) := at_D
    refine ⟨.ref b, rfl, b, C, dx, [], rfl, hb2, B.cl, B.n_prices, (by show 0 < 1000; decide), ?_⟩
    subst e1
    have kb := (sameB_of (b := b) sm02).step (o := .ins C dx (putF "_prices" (.ref D) [])) (Same.refl H2)
    have ab : upd H2 b (.ins C dx (putF "_prices" (.ref D) [])) b = some (.ins C dx [("_prices", .ref D)]) := upd_same
    have aD : upd H2 b (.ins C dx (putF "_prices" (.ref D) [])) D = some (.dK (pr (sortP L))) := by
      rw [upd_ne (ne_of at_D hb2 (fun z => nomatch z))]
      exact at_D
    clear at_D hb2 sm02 sm2
    generalize upd H2 b (.ins C dx (putF "_prices" (.ref D) [])) = H3 at kb ab aD ⊢
    clear sm0 sm1 hp1 at1 sm01 hD
    -- self._pieces
    try dsimp only
    refine seq_cut fun k1 e1 => ?_
    refine ⟨.ref b, rfl, b, C, dx, _, .ref D, rfl, ab, B.cl, B.n_prices, rfl, D, sortP L, rfl, .inl aD, fun t H4 ht sm4 at_t => ?_⟩
    have hb4 := sm4 _ _ ab
    refine ⟨.ref b, rfl, b, C, dx, _, rfl, hb4, B.cl, B.n_pieces, (by show 1 < 1000; decide), ?_⟩
    subst e1
    try dsimp only
    have kb := kb.step (o := .ins C dx (putF "_pieces" (.ref t) [("_prices", .ref D)])) sm4
    have ab5 : upd H4 b (.ins C dx (putF "_pieces" (.ref t) [("_prices", .ref D)])) b = some (.ins C dx [("_prices", .ref D), ("_pieces", .ref t)]) := upd_same
    have aD5 := new_at (y := .ins C dx (putF "_pieces" (.ref t) [("_prices", .ref D)])) hb4 (sm4 _ _ aD) (fun z => nomatch z)
    have at5 := new_at (y := .ins C dx (putF "_pieces" (.ref t) [("_prices", .ref D)])) hb4 at_t (fun z => nomatch z)
    clear ab aD at_t hb4 sm4 ht
    generalize upd H4 b (.ins C dx (putF "_pieces" (.ref t) [("_prices", .ref D)])) = H5 at kb ab5 aD5 at5 ⊢
    -- self._alphabet
    refine seq_cut fun k1 e1 => ?_
    have ek : (sortP L).map (fun p => V.str p.1) = ((sortP L).map (·.1)).map V.str := by
      rw [List.map_map]
      rfl
    have five : ∀ z ∈ (sortP L).map (·.1), z.length ≤ 5 := fun z m => by
      obtain ⟨e, me, rfl⟩ := List.mem_map.mp m
      exact (piece_len (ga e ((mem_sortP nd).mp me)).1).2
    have sum := sum_five five
    rw [List.length_map, sortP_len] at sum
    refine ⟨.ref b, rfl, b, C, dx, _, .ref t, rfl, ab5, B.cl, B.n_pieces, rfl, t, (sortP L).map (·.1), rfl, .inr (sq_tup (by rw [← ek]; exact at5)), by omega, fun al H6 hal sm6 at_al => ?_⟩
    have hb6 := sm6 _ _ ab5
    refine ⟨.ref b, rfl, b, C, dx, _, rfl, hb6, B.cl, B.n_alphabet, (by show 2 < 1000; decide), ?_⟩
    subst e1
    try dsimp only
    have kb := kb.step (o := .ins C dx (putF "_alphabet" (.ref al) [("_prices", .ref D), ("_pieces", .ref t)])) sm6
    have ab7 : upd H6 b (.ins C dx (putF "_alphabet" (.ref al) [("_prices", .ref D), ("_pieces", .ref t)])) b = some (.ins C dx [("_prices", .ref D), ("_pieces", .ref t), ("_alphabet", .ref al)]) := upd_same
    have aD7 := new_at (y := .ins C dx (putF "_alphabet" (.ref al) [("_prices", .ref D), ("_pieces", .ref t)])) hb6 (sm6 _ _ aD5) (fun z => nomatch z)
    have at7 := new_at (y := .ins C dx (putF "_alphabet" (.ref al) [("_prices", .ref D), ("_pieces", .ref t)])) hb6 (sm6 _ _ at5) (fun z => nomatch z)
    have al7 := new_at (y := .ins C dx (putF "_alphabet" (.ref al) [("_prices", .ref D), ("_pieces", .ref t)])) hb6 at_al (fun z => nomatch z)
    clear ab5 aD5 at5 at_al hb6 sm6 hal
    generalize upd H6 b (.ins C dx (putF "_alphabet" (.ref al) [("_prices", .ref D), ("_pieces", .ref t)])) = H7 at kb ab7 aD7 at7 al7 ⊢
    -- self._longest
    refine seq_cut fun k1 e1 => ?_
    refine ⟨.ref b, rfl, b, C, dx, _, .ref t, rfl, ab7, B.cl, B.n_pieces, rfl, t, rfl, ⟨_, sq_tup at7⟩, fun D2 hD2 => ?_⟩
    refine lc_tupG (fun _ => true) (fun v => .int (match v with | .str z => (z.length : Int) | _ => 0)) hD2 (sq_tup at7) (by rw [List.length_map, sortP_len]; omega) (fun x => rfl) (fun x H8 m sm8 Q' hQ => hQ H8 (Same.refl _)) (fun x H8 m _ sm8 Q' hQ => ?_) fun H8 sm8 at_D2 => ?_
    · obtain ⟨e, me, rfl⟩ := List.mem_map.mp m
      exact ⟨.str e.1, rfl, e.1, rfl, Nat.le_trans (piece_len (ga e ((mem_sortP nd).mp me)).1).2 (by decide), hQ H8 (Same.refl _)⟩
    have eL : ((List.filter (fun _ => true) ((sortP L).map fun p => V.str p.1)).map fun v => V.int (match v with | .str z => (z.length : Int) | _ => 0)) = ((sortP L).map fun e => (e.1.length : Int)).map V.int := by
      rw [List.filter_eq_self.mpr (fun _ _ => rfl), List.map_map, List.map_map]
      rfl
    rw [eL] at at_D2
    refine ⟨D2, _, rfl, sq_lst at_D2, by rw [List.length_map, sortP_len]; omega, fun m hm1 hm2 => ?_⟩
    have hb8 := sm8 _ _ ab7
    refine ⟨.ref b, rfl, b, C, dx, _, rfl, hb8, B.cl, B.n_longest, (by show 3 < 1000; decide), ?_⟩
    subst e1
    try dsimp only
    have kb := kb.step (o := .ins C dx (putF "_longest" (.int m) [("_prices", .ref D), ("_pieces", .ref t), ("_alphabet", .ref al)])) sm8
    have ab9 : upd H8 b (.ins C dx (putF "_longest" (.int m) [("_prices", .ref D), ("_pieces", .ref t), ("_alphabet", .ref al)])) b = some (.ins C dx [("_prices", .ref D), ("_pieces", .ref t), ("_alphabet", .ref al), ("_longest", .int m)]) := upd_same
    have aD9 := new_at (y := .ins C dx (putF "_longest" (.int m) [("_prices", .ref D), ("_pieces", .ref t), ("_alphabet", .ref al)])) hb8 (sm8 _ _ aD7) (fun z => nomatch z)
    have at9 := new_at (y := .ins C dx (putF "_longest" (.int m) [("_prices", .ref D), ("_pieces", .ref t), ("_alphabet", .ref al)])) hb8 (sm8 _ _ at7) (fun z => nomatch z)
    have al9 := new_at (y := .ins C dx (putF "_longest" (.int m) [("_prices", .ref D), ("_pieces", .ref t), ("_alphabet", .ref al)])) hb8 (sm8 _ _ al7) (fun z => nomatch z)
    clear ab7 aD7 at7 al7 hb8 sm8 at_D2 hD2
    generalize upd H8 b (.ins C dx (putF "_longest" (.int m) [("_prices", .ref D), ("_pieces", .ref t), ("_alphabet", .ref al)])) = H9 at kb ab9 aD9 at9 al9 ⊢
    -- self._dearest
    have ne : sortP L ≠ [] := fun z => by
      have := sortP_len L
      rw [z] at this
      simp only [List.length_nil] at this
      omega
    refine ⟨.ref b, rfl, b, C, dx, _, .ref D, rfl, ab9, B.cl, B.n_prices, rfl, .inr (.inr (.inl ⟨rfl, .inl ⟨_, aD9⟩⟩)), D, _, rfl, rfl, .inl aD9, fun p H10 hp sm10 at_p => ?_⟩
    refine ⟨p, D, sortP L, rfl, at_p, .inl (sm10 _ _ aD9), ne, fun n hn1 hn2 => ?_⟩
    have hb10 := sm10 _ _ ab9
    refine ⟨.ref b, rfl, b, C, dx, _, rfl, hb10, B.cl, B.n_dearest, (by show 4 < 1000; decide), ?_⟩
    refine q _ (kb.step sm10) ⟨⟨dx, D, t, al, m, n, upd_same, new_at hb10 (sm10 _ _ aD9) (fun z => nomatch z), new_at hb10 (sm10 _ _ at9) (fun z => nomatch z), new_at hb10 (sm10 _ _ al9) (fun z => nomatch z), ⟨hm1, hm2⟩, ⟨hn1, hn2⟩⟩, sortP_asc L, sortP_nodup nd, (arePr_sortP nd).trans good⟩
end
end K06

namespace K06
open PySem PySem.Spec PyProof.Rows L2 Gd
local macro_rules | `(tactic| walk_at "rd") => `(tactic| simp only [tSeq, tPar, tNext, tIfS, tOr, tAnd, tNot, tB, tCB, tCons, tNil, tVar, tC, tRet, tRetN, tAsg, tDrop, gName, gSub, tOp, tUn, tTest, tOrV, tAndV, tNotV, tIf, tBM0, L2.tM1, L2.tM0, tChain, tCall, spKind, rIxL, tLst, tTup, tLstN, tTupN, tDNewN, tSl, tPart, tNoPart, rSlS, rIsB, rNotB, L2.start, L2.rEq, L2.rNe, L2.rI, L2.rI0, L2.rU, cx_K, cx_Kn,
  List.map_cons, List.map_nil, List.length_cons, List.length_nil, List.replicate_succ, List.replicate_zero, List.cons_append, List.nil_append, Nat.reduceAdd, Nat.reduceSub, Nat.zero_add, Nat.sub_self, Nat.reduceSubDiff, Nat.add_sub_cancel,
  List.getElem?_cons_zero, List.getElem?_cons_succ, List.set_cons_zero, List.set_cons_succ, Option.some.injEq, List.cons.injEq, V.bl.injEq, V.int.injEq, V.str.injEq, V.ref.injEq, V.ty.injEq, exists_eq_left, exists_eq_left', exists_eq_right, and_true, true_and, and_assoc, exists_and_left, exists_and_right, if_true, if_false, reduceIte, Bool.not_true, Bool.not_false, Bool.false_eq_true, decide_eq_true_eq, Bool.not_eq_true', Gd.len_str, Gd.tyV_str, reduceCtorEq])
local macro_rules | `(tactic| walk_at "rt") => `(tactic| try (walk_at "rd"))
local macro_rules | `(tactic| walk_at "side") => `(tactic| repeat (refine ⟨by (first | decide | decide +kernel | exact .inl ⟨by decide, by decide⟩ | exact .inr ⟨by decide, by decide⟩), ?_⟩))
local macro_rules | `(tactic| walk_at "up") => `(tactic| first | assumption | exact Same.refl _ | (refine same_at (by assumption) ?_; walk_at "up") | (refine same_go (by assumption) ?_; walk_at "up"))

section
variable {P : Program} {w : World} {K : PySem.W.Frag} {mg : Str → Option Value} {base : Heap} {C : Addr}
def spPrices (C : Addr) : Sp := fun vs H Q _ => ∃ b L, vs = [.ref b] ∧ BookAt C H b L ∧ New H (.dK (pr L)) Q
abbrev s_Book_prices : Stmt := inClass (topS 24) 2
theorem sc_Book_prices : FnScope ["self"] ["self"] (defScope s_Book_prices) := ⟨rfl, rfl, rfl, by decide +kernel, rfl, by decide +kernel, by decide +kernel⟩

theorem ok_prices {f : Addr} {fd : FuncData} (F : Fun K "prices" "Book.prices" s_Book_prices f fd) (T : Tx mg) (B : Tb K mg C) : FnOk P w K mg base CX0 1 f fd ["self"] (spPrices C) := by
  refine F.ok sc_Book_prices (fun vs H Q E h => ?_) (fun cdv A outer s H vs Q E hm h => ?_)
  · obtain ⟨b, L, rfl, _⟩ := h
    rfl
  · obtain ⟨b, L, rfl, ⟨⟨dx, d, t, al, m, n, hb, hd, _⟩, _⟩, q⟩ := h
    refine ⟨_, (pss_one (ps_ret (pe_callTy call_dictC (by rfl) T.b_dict (by decide +kernel) (pa_cons (pe_fldK (K := K) (pv 0) rfl rfl) pa_nil)))), ?_⟩
    exact ⟨.ref b, rfl, b, C, dx, _, .ref d, rfl, hb, B.cl, B.n_prices, rfl, d, L, rfl, .inl hd, q⟩
def spAlphabet (C : Addr) : Sp := fun vs H Q _ => ∃ b L, vs = [.ref b] ∧ BookAt C H b L ∧ ∀ al, H al = some (.tup ((sigsP L).map V.str)) → Q (.ref al) H
abbrev s_Book_alphabet : Stmt := inClass (topS 24) 4
theorem sc_Book_alphabet : FnScope ["self"] ["self"] (defScope s_Book_alphabet) := ⟨rfl, rfl, rfl, by decide +kernel, rfl, by decide +kernel, by decide +kernel⟩

theorem ok_alphabet {f : Addr} {fd : FuncData} (F : Fun K "alphabet" "Book.alphabet" s_Book_alphabet f fd) (T : Tx mg) (B : Tb K mg C) : FnOk P w K mg base CX0 1 f fd ["self"] (spAlphabet C) := by
  refine F.ok sc_Book_alphabet (fun vs H Q E h => ?_) (fun cdv A outer s H vs Q E hm h => ?_)
  · obtain ⟨b, L, rfl, _⟩ := h
    rfl
  · obtain ⟨b, L, rfl, ⟨⟨dx, d, t, al, m, n, hb, hd, ht, hal, _⟩, _⟩, q⟩ := h
    refine ⟨_, (pss_one (ps_ret (pe_fldK (K := K) (pv 0) rfl rfl))), ?_⟩
    exact ⟨.ref b, rfl, b, C, dx, _, .ref al, rfl, hb, B.cl, B.n_alphabet, rfl, q al hal⟩
def spHas (C : Addr) : Sp := fun vs H Q _ => ∃ b L z, vs = [.ref b, .str z] ∧ BookAt C H b L ∧ z.length ≤ sizeLine ∧ Q (.bl (L.lookup z).isSome) H

abbrev s_Book__contains : Stmt := inClass (topS 24) 8
theorem sc_Book__contains : FnScope ["self", "value"] ["self", "value"] (defScope s_Book__contains) := ⟨rfl, rfl, rfl, by decide +kernel, rfl, by decide +kernel, by decide +kernel⟩

theorem ok_contains {f : Addr} {fd : FuncData} (F : Fun K "__contains__" "Book.__contains__" s_Book__contains f fd) (T : Tx mg) (B : Tb K mg C) : FnOk P w K mg base CX0 1 f fd ["self", "value"] (spHas C) := by
  refine F.ok sc_Book__contains (fun vs H Q E h => ?_) (fun cdv A outer s H vs Q E hm h => ?_)
  · obtain ⟨b, L, z, rfl, _⟩ := h
    rfl
  · obtain ⟨b, L, z, rfl, ⟨⟨dx, d, t, al, m, n, hb, hd, _⟩, _⟩, fits, q⟩ := h
    refine ⟨_, (pss_one (ps_ret (pe_and (pe_callB call_isi (by rfl) T.b_isinstance (by decide +kernel) (pa_cons (pv 1) (pa_cons (pe_bltn (v := .ty "str") (u := .type "str") (by rfl) T.b_str (by decide +kernel) rfl) pa_nil))) (pe_one (pe_cmpR (op_inPr (hu_of hm)) (pv 1) (pe_fldK (K := K) (pv 0) rfl rfl) (by rfl)))))), ?_⟩
    walk_at "rd"
    refine isi_of (.str fits) (b := true) (by decide +kernel) ⟨true, rfl, ?_⟩
    walk_at "rt"
    refine ⟨.ref b, rfl, b, C, dx, _, .ref d, rfl, hb, B.cl, B.n_prices, rfl, z, d, L, rfl, rfl, .inl hd, ?_⟩
    rw [Bool.bne_false]
    exact q
def spGet (C : Addr) : Sp := fun vs H Q _ => ∃ b L z v, vs = [.ref b, .str z] ∧ BookAt C H b L ∧ z.length ≤ sizeLine ∧ L.lookup z = some v ∧ Q (.int v) H

abbrev s_Book__getitem : Stmt := inClass (topS 24) 7
theorem sc_Book__getitem : FnScope ["self", "piece"] ["self", "piece"] (defScope s_Book__getitem) := ⟨rfl, rfl, rfl, by decide +kernel, rfl, by decide +kernel, by decide +kernel⟩

theorem ok_getitem {f fc : Addr} {fd : FuncData} {pc : List Str} (F : Fun K "__getitem__" "Book.__getitem__" s_Book__getitem f fd) (T : Tx mg) (B : Tb K mg C) (O_contains : Own K C "__contains__" fc) (D_contains : Dk P w K mg base 1 fc pc (spHas C)) : FnOk P w K mg base CX0 2 f fd ["self", "piece"] (spGet C) := by
  refine F.ok sc_Book__getitem (fun vs H Q E h => ?_) (fun cdv A outer s H vs Q E hm h => ?_)
  · obtain ⟨b, L, z, v, rfl, _⟩ := h
    rfl
  · obtain ⟨b, L, z, v, rfl, hB, fits, has, q⟩ := h
    obtain ⟨⟨dx, d, t, al, m, n, hb, hd, _⟩, _⟩ := id hB
    refine ⟨_, (pss_cons (ps_if (pt_cmpR (op_notinOwn O_contains D_contains (hm.mono (by decide))) (pv 1) (pv 0) (by rfl)) (pss_one ps_never) pss_nil)
    (pss_one (ps_ret (pe_dget (hu_of hm) (pe_fldK (K := K) (pv 0) rfl rfl) (pv 1) (by intro _ _; rfl))))), ?_⟩
    refine seq_cut fun k1 e1 => ?_
    walk_at "rd"
    refine ⟨b, dx, _, rfl, hb, b, L, z, rfl, hB, fits, _, rfl, ?_⟩
    rw [has]
    refine ⟨_, rfl, ?_⟩
    rw [if_neg (by simp)]
    subst e1
    try dsimp only
    refine ⟨.ref b, rfl, b, C, dx, _, .ref d, rfl, hb, B.cl, B.n_prices, rfl, .str z, rfl, d, .int v, rfl, ?_, q⟩
    have g := dget_pr (z := z) (Rd.of hd)
    rw [has] at g
    exact g
def spEqB (C : Addr) : Sp := fun vs H Q _ => ∃ b L c M, vs = [.ref b, .ref c] ∧ BookAt C H b L ∧ BookAt C H c M ∧ Q (.bl (eqPr L M)) H

abbrev s_Book__eq : Stmt := inClass (topS 24) 11
theorem sc_Book__eq : FnScope ["self", "other"] ["self", "other"] (defScope s_Book__eq) := ⟨rfl, rfl, rfl, by decide +kernel, rfl, by decide +kernel, by decide +kernel⟩

theorem ok_eq {f : Addr} {fd : FuncData} (F : Fun K "__eq__" "Book.__eq__" s_Book__eq f fd) (T : Tx mg) (B : Tb K mg C) : FnOk P w K mg base CX0 1 f fd ["self", "other"] (spEqB C) := by
  refine F.ok sc_Book__eq (fun vs H Q E h => ?_) (fun cdv A outer s H vs Q E hm h => ?_)
  · obtain ⟨b, L, c, M, rfl, _⟩ := h
    rfl
  · obtain ⟨b, L, c, M, rfl, ⟨⟨dx, d, t, al, m, n, hb, hd, _⟩, _⟩, ⟨⟨dx2, d2, t2, al2, m2, n2, hb2, hd2, _⟩, _⟩, q⟩ := h
    refine ⟨_, (pss_one (ps_ret (pe_and (pe_callB (C8.call_isC B.ic) (by rfl) T.b_isinstance (by decide +kernel) (pa_cons (pv 1) (pa_cons (pe_glob (v := .ref C) rfl B.m_Book rfl) pa_nil))) (pe_one (pe_cmpR (op_eqPr (Nat.lt_trans (Nat.lt_succ_self _) (hu_of hm))) (pe_fldK (K := K) (pv 0) rfl rfl) (pe_fldK (K := K) (pv 1) rfl rfl) (nomark _)))))), ?_⟩
    walk_at "rd"
    refine ⟨⟨_, _, hb2⟩, .ref b, rfl, b, C, dx, _, .ref d, rfl, hb, B.cl, B.n_prices, rfl, .ref c, rfl, c, C, dx2, _, .ref d2, rfl, hb2, B.cl, B.n_prices, rfl, ?_⟩
    exact ⟨d, d2, L, M, rfl, rfl, hd, hd2, q⟩
/-- __iter__ -/
abbrev s_Book__iter : Stmt := inClass (topS 24) 9
theorem sc_Book__iter : FnScope ["self"] ["self"] (defScope s_Book__iter) := ⟨rfl, rfl, rfl, by decide +kernel, rfl, by decide +kernel, by decide +kernel⟩

theorem ok_iter {f : Addr} {fd : FuncData} (F : Fun K "__iter__" "Book.__iter__" s_Book__iter f fd) (T : Tx mg) (B : Tb K mg C) : FnS P w K mg base CX0 1 f fd ["self"] (spIter K C "_pieces") := by
  obtain ⟨oc, od, kV, doc, pm, an, cdv, ct, osl, rfl, lk, hcd⟩ := F.ex
  refine fn_ofS lk hcd sc_Book__iter (fun n vs H Q E h => ?_) (fun A outer s H vs Q E hm h => ?_)
  · obtain ⟨a, dx, fs, t, zs, rfl, _⟩ := h
    rfl
  · obtain ⟨a, dx, fs, t, zs, rfl, ha, lk, tp, q⟩ := h
    refine ⟨_, (pss_one (ps_ret (pe_callB call_iterU (by rfl) T.b_iter (by decide +kernel) (pa_cons (pe_fldK (K := K) (pv 0) rfl rfl) pa_nil)))), ?_⟩
    exact ⟨.ref a, rfl, a, C, dx, fs, .ref t, rfl, ha, B.cl, B.n_pieces, lk, t, zs, rfl, tp, fun it hit le => q it hit le⟩
/-- _result -/
def spRes (C : Addr) : Sp := fun vs H Q _ => ∃ d L, vs = [.ref d] ∧ H d = some (.dK (pr L)) ∧ (L.map (·.1)).Nodup ∧ arePr L = true ∧ ∀ r H', H r = none → Same H H' → BookAt C H' r (sortP L) → Q (.ref r) H'
structure Tm (P : Program) (w : World) (K : PySem.W.Frag) (mg : Str → Option Value) (base : Heap) (C fi : Addr) : Prop where
  make : Mk K C fi
  init : Dk P w K mg base 4 fi ["self", "prices"] (spInit C)

abbrev s_result : Stmt := topS 23
theorem sc_result : FnScope ["prices"] ["prices"] (defScope s_result) := ⟨rfl, rfl, rfl, by decide +kernel, rfl, by decide +kernel, by decide +kernel⟩

theorem made_book {C : Addr} {H1 : Hp} {d : Addr} {L : List (Str × Int)} {Q : VK} (hd : H1 d = some (.dK (pr L))) (nd : (L.map (·.1)).Nodup) (good : arePr L = true) (q : ∀ r H', H1 r = none → Same H1 H' → BookAt C H' r (sortP L) → Q (.ref r) H') :
    ∀ x dx, H1 x = none → H1 dx = none → dx ≠ x → spInit C (.ref x :: ([.ref d] ++ [])) (upd (upd H1 dx (.own x)) x (.ins C dx [])) (fun v H2 => v = .non ∧ Q (.ref x) H2) E0 := by
  intro x dx nx ndx ne
  have s0 : Same H1 (upd (upd H1 dx (.own x)) x (.ins C dx [])) := same_over (same_new ndx) nx
  exact ⟨x, dx, d, L, rfl, upd_same, s0 _ _ hd, nd, good, fun H' kb hB => ⟨rfl, q x H' nx (fun c o e => kb c o (fun z => by
    rw [z, nx] at e
    cases e) (s0 _ _ e)) hB⟩⟩
theorem ok_result {f fi : Addr} {fd : FuncData} (F : Fun K "_result" "_result" s_result f fd) (T : Tx mg) (B : Tb K mg C) (M : Tm P w K mg base C fi) (G_are_prices : Dn P w K mg base 3 "_are_prices" ["value"] (spAre K)) : FnOk P w K mg base CX0 6 f fd ["prices"] (spRes C) := by
  refine F.ok sc_result (fun vs H Q E h => ?_) (fun cdv A outer s H vs Q E hm h => ?_)
  · obtain ⟨d, L, rfl, _⟩ := h
    rfl
  · obtain ⟨d, L, rfl, hd, nd, good, q⟩ := h
    have gl := good_len good
    have ga := good_all good
    refine ⟨_, (pss_cons (ps_if (pt_not (pt_val (pe_callN G_are_prices (hm.mono (by decide)) (by rfl) (pa_cons (pv 0) pa_nil)))) (pss_one ps_never) pss_nil)
    (pss_one (ps_ret (pe_makeD M.make M.init (hm.mono (by decide)) (by rfl) B.m_Book (pa_cons (pv 0) pa_nil))))), ?_⟩
    refine seq_cut fun k1 e1 => ?_
    walk_at "rd"
    refine ⟨d, L, rfl, hd, nd, by omega, fun e m => Nat.le_trans (piece_len (ga e m).1).2 (by decide), fun H0 sm0 => ?_⟩
    rw [good]
    walk_at "rd"
    subst e1
    refine ⟨.ref d, rfl, made_book (sm0 _ _ hd) nd good fun r H' nr sm hB => q r H' (sm0.free nr) (sm0.trans sm) hB⟩
end
end K06

namespace K06
open PySem PySem.Spec PyProof.Rows L2 Gd
local macro_rules | `(tactic| walk_at "rd") => `(tactic| simp only [tSeq, tPar, tNext, tIfS, tOr, tAnd, tNot, tB, tCB, tCons, tNil, tVar, tC, tRet, tRetN, tAsg, tDrop, gName, gSub, tOp, tUn, tTest, tOrV, tAndV, tNotV, tIf, tBM0, L2.tM1, L2.tM0, tChain, tCall, spKind, rIxL, tLst, tTup, tLstN, tTupN, tDNewN, tSl, tPart, tNoPart, rSlS, rIsB, rNotB, L2.start, L2.rEq, L2.rNe, L2.rI, L2.rI0, L2.rU, cx_K, cx_Kn,
  List.map_cons, List.map_nil, List.length_cons, List.length_nil, List.replicate_succ, List.replicate_zero, List.cons_append, List.nil_append, Nat.reduceAdd, Nat.reduceSub, Nat.zero_add, Nat.sub_self, Nat.reduceSubDiff, Nat.add_sub_cancel,
  List.getElem?_cons_zero, List.getElem?_cons_succ, List.set_cons_zero, List.set_cons_succ, Option.some.injEq, List.cons.injEq, V.bl.injEq, V.int.injEq, V.str.injEq, V.ref.injEq, V.ty.injEq, exists_eq_left, exists_eq_left', exists_eq_right, and_true, true_and, and_assoc, exists_and_left, exists_and_right, if_true, if_false, reduceIte, Bool.not_true, Bool.not_false, Bool.false_eq_true, decide_eq_true_eq, Bool.not_eq_true', Gd.len_str, Gd.tyV_str, reduceCtorEq])
local macro_rules | `(tactic| walk_at "rt") => `(tactic| try (walk_at "rd"))
local macro_rules | `(tactic| walk_at "side") => `(tactic| repeat (refine ⟨by (first | decide | decide +kernel | exact .inl ⟨by decide, by decide⟩ | exact .inr ⟨by decide, by decide⟩), ?_⟩))
local macro_rules | `(tactic| walk_at "up") => `(tactic| first | assumption | exact Same.refl _ | (refine same_at (by assumption) ?_; walk_at "up") | (refine same_go (by assumption) ?_; walk_at "up"))

section
variable {P : Program} {w : World} {K : PySem.W.Frag} {mg : Str → Option Value} {base : Heap} {C : Addr}
def spBin (C : Addr) (f : List (Str × Int) → List (Str × Int) → List (Str × Int)) : Sp := fun vs H Q _ => ∃ b L c M, vs = [.ref b, .ref c] ∧ BookAt C H b L ∧ BookAt C H c M ∧ arePr (f L M) = true ∧ ∀ r H', H r = none → Same H H' → BookAt C H' r (sortP (f L M)) → Q (.ref r) H'

abbrev s_Book__or : Stmt := inClass (topS 24) 16
theorem sc_Book__or : FnScope ["self", "other", "prices", "piece", "price"] ["self", "other"] (defScope s_Book__or) := ⟨rfl, rfl, rfl, by decide +kernel, rfl, by decide +kernel, by decide +kernel⟩

theorem ok_or {f : Addr} {fd : FuncData} (F : Fun K "__or__" "Book.__or__" s_Book__or f fd) (T : Tx mg) (B : Tb K mg C) (G_result : Dn P w K mg base 6 "_result" ["prices"] (spRes C)) : FnOk P w K mg base CX0 7 f fd ["self", "other"] (spBin C orP) := by
  refine F.ok sc_Book__or (fun vs H Q E h => ?_) (fun cdv A outer s H vs Q E hm h => ?_)
  · obtain ⟨b, L, c, M, rfl, _⟩ := h
    rfl
  · obtain ⟨b, L, c, M, rfl, hB, hB2, good, q⟩ := h
    obtain ⟨⟨dx, d, t, al, m, n, hb, hd, _⟩, _⟩ := id hB
    obtain ⟨⟨dx2, d2, t2, al2, m2, n2, hb2, hd2, _⟩, _⟩ := id hB2
    have l1 := good_len hB.good
    have l2 := good_len hB2.good
    refine ⟨_, (pss_cons (ps_if (pt_not (pt_val (pe_callB (C8.call_isC B.ic) (by rfl) T.b_isinstance (by decide +kernel) (pa_cons (pv 1) (pa_cons (pe_glob (v := .ref C) rfl B.m_Book rfl) pa_nil))))) (pss_one ps_never) pss_nil)
    (pss_cons (ps_set (i := 2) sc_Book__or.nd rfl (Or.inl rfl) (pe_callTy call_dictC (by rfl) T.b_dict (by decide +kernel) (pa_cons (pe_fldK (K := K) (pv 0) rfl rfl) pa_nil)))
    (pss_cons (ps_lock (ps_for PassesOwn.never rfl (pi_items (pe_fldK (K := K) (pv 1) rfl rfl)) (pg_tup rfl (pgs_cons (pg_name (i := 3) sc_Book__or.nd rfl (Or.inl rfl)) (pgs_cons (pg_name (i := 4) sc_Book__or.nd rfl (Or.inl rfl)) pgs_nil))) (pss_one (ps_dput (hu_of hm) (pv 2) (pv 3) (pe_callB (call_min2 rfl) (by rfl) T.b_min (by decide +kernel) (pa_cons (pv 4) (pa_cons (pe_dget2 (hu_of hm) (pv 2) (pv 3) (pv 4) ⟨by rfl, by rfl, by rfl, by rfl⟩) pa_nil))) rfl))))
    (pss_one (ps_ret (pe_callN G_result (hm.mono (by decide)) (by rfl) (pa_cons (pv 2) pa_nil))))))), ?_⟩
    refine seq_cut fun k1 e1 => ?_
    walk_at "rd"
    refine ⟨⟨_, _, hb2⟩, ?_⟩
    subst e1
    refine seq_cut fun k1 e1 => ?_
    refine ⟨.ref b, rfl, b, C, dx, _, .ref d, rfl, hb, B.cl, B.n_prices, rfl, d, L, rfl, .inl hd, fun p H1 hp sm1 at_p => ?_⟩
    subst e1
    try dsimp only
    refine seq_cut fun k1 e1 => ?_
    have hd2' := sm1 _ _ hd2
    have npd : p ≠ d2 := fun z => by
      rw [z, hd2] at hp
      cases hp
    refine ⟨d2, _, hd2', trivial, fun od => ?_⟩
    have hb2' : (upd H1 d2 (.frz od (.dK (pr M)))) c = some (.ins C dx2 (flds d2 t2 al2 m2 n2)) := by
      rw [upd_ne (ne_of (sm1 _ _ hb2) hd2' (fun z => nomatch z))]
      exact sm1 _ _ hb2
    refine ⟨.ref c, rfl, c, C, dx2, _, .ref d2, rfl, hb2', B.cl, B.n_prices, rfl, d2, od, pr M, rfl, upd_same, ?_⟩
    refine for_itemsG (fun i σ H => ∃ u v, σ = [some (.ref b), some (.ref c), some (.ref p), u, v] ∧ SameB p (upd H1 d2 (.frz od (.dK (pr M)))) H ∧ H p = some (.dK (pr (orP L (M.take i))))) ⟨_, _, rfl, fun _ _ _ e => e, by rw [upd_ne npd]; exact at_p⟩
      (fun i σ H _ ⟨_, _, _, sm, _⟩ => sm _ _ (Ne.symm npd) upd_same) (fun i e σ H T he ⟨u, v, es, sm, hpp⟩ hT => ?_) (fun σ H ⟨u, v, es, sm, hpp⟩ => ?_)
    · subst es
      have hpT : (upd H T (.tup [.str e.1, .int e.2])) p = some (.dK (pr (orP L (M.take i)))) := by
        rw [upd_ne (ne_of_none hpp hT)]
        exact hpp
      refine ⟨T, [.str e.1, .int e.2], rfl, sq_tup upd_same, rfl, _, _, rfl, _, _, rfl, rfl, ?_⟩
      refine ⟨.int e.2, rfl, .ref p, rfl, p, rfl, .inl ⟨_, .inl hpT⟩, .str e.1, rfl, .int e.2, rfl, _, dget_pr (.inl hpT), ?_⟩
      have eg : (((orP L (M.take i)).lookup e.1).map V.int).getD (.int e.2) = .int (((orP L (M.take i)).lookup e.1).getD e.2) := by
        cases (orP L (M.take i)).lookup e.1 <;> rfl
      rw [eg]
      have short : (pr (orP L (M.take i))).length < sizeLine := by
        have h := orP_len (M.take i) L
        rw [List.length_take] at h
        rw [pr_len, sizeLine_eq]
        omega
      refine ⟨_, _, rfl, .ref p, rfl, .str e.1, rfl, p, _, rfl, DPut.k (k := Sum.inr e.1) hpT short, ⟨_, _, rfl, sm.step (same_new hT), ?_⟩⟩
      rw [upd_same, List.take_add_one, he]
      show some (HO.dK (putK (pr (orP L (M.take i))) (Sum.inr e.1) (V.int (lesser e.2 (((orP L (M.take i)).lookup e.1).getD e.2))))) = some (.dK (pr (orP L (M.take i ++ [e]))))
      rw [putK_pr, orP_snoc]
    · subst es
      rw [List.take_length] at hpp
      have at_d2 := sm _ _ (Ne.symm npd) upd_same
      refine ⟨at_d2, ?_⟩
      try dsimp only
      have sm4 := sameB_lock hd2' sm
      have hp4 : (upd H d2 (.dK (pr M))) p = some (.dK (pr (orP L M))) := by
        rw [upd_ne npd]
        exact hpp
      generalize upd H d2 (.dK (pr M)) = H4 at sm4 hp4 ⊢
      subst e1
      have s04 := same_of_new hp sm1 sm4
      exact ⟨.ref p, rfl, p, orP L M, rfl, hp4, orP_nodup M L hB.nd, good, fun r H' nr sm5 hR => q r H' (s04.free nr) (s04.trans sm5) hR⟩

abbrev s_Book__and : Stmt := inClass (topS 24) 17
theorem sc_Book__and : FnScope ["self", "other", "shared", "piece"] ["self", "other"] (defScope s_Book__and) := ⟨rfl, rfl, rfl, by decide +kernel, rfl, by decide +kernel, by decide +kernel⟩

theorem ok_and {f fc : Addr} {fd : FuncData} {pc : List Str} (F : Fun K "__and__" "Book.__and__" s_Book__and f fd) (T : Tx mg) (B : Tb K mg C) (O_contains : Own K C "__contains__" fc) (D_contains : Dk P w K mg base 1 fc pc (spHas C)) (G_result : Dn P w K mg base 6 "_result" ["prices"] (spRes C)) : FnOk P w K mg base CX0 7 f fd ["self", "other"] (spBin C andP) := by
  refine F.ok sc_Book__and (fun vs H Q E h => ?_) (fun cdv A outer s H vs Q E hm h => ?_)
  · obtain ⟨b, L, c, M, rfl, _⟩ := h
    rfl
  · obtain ⟨b, L, c, M, rfl, hB, hB2, good, q⟩ := h
    obtain ⟨⟨dx, d, t, al, m, n, hb, hd, ht, _⟩, _⟩ := id hB
    obtain ⟨⟨dx2, d2, t2, al2, m2, n2, hb2, hd2, _⟩, _⟩ := id hB2
    have l1 := good_len hB.good
    have l2 := good_len hB2.good
    have ga := good_all hB.good
    refine ⟨_, (pss_cons (ps_if (pt_not (pt_val (pe_callB (C8.call_isC B.ic) (by rfl) T.b_isinstance (by decide +kernel) (pa_cons (pv 1) (pa_cons (pe_glob (v := .ref C) rfl B.m_Book rfl) pa_nil))))) (pss_one ps_never) pss_nil)
    (pss_cons (ps_setLc (i := 2) (own := [("piece", 3)]) (g := gName 3) (by rfl) sc_Book__and.nd rfl rfl (sw_true rfl rfl rfl (by decide +kernel)) (pi_tup (pe_fld (pv 0) rfl)) (blkOk_by (own := [("piece", 3)]) (N := ["self", "other", "shared", "piece"]) (sc := defScope s_Book__and) (by decide +kernel)) (fun _ _ _ _ _ => (pg_name (i := 3) sc_Book__and.nd rfl (Or.inl rfl))) (fun _ _ _ _ _ => (pts_one (pt_cmpR (op_inOwn O_contains D_contains (hm.mono (by decide))) (pv 3) (pv 1) (by rfl)))) (fun _ _ _ _ _ => (pv 3)))
    (pss_one (ps_ret (pe_callN G_result (hm.mono (by decide)) (by rfl) (pa_cons (pe_dc (own := [("piece", 3)]) (g := gName 3) (tt := tYes) (by rfl) sc_Book__and.nd (pi_list (pv 2)) (blkOk_by (own := [("piece", 3)]) (N := ["self", "other", "shared", "piece"]) (sc := defScope s_Book__and) (by decide +kernel)) (fun _ _ _ _ _ => (pg_name (i := 3) sc_Book__and.nd rfl (Or.inl rfl))) (fun _ _ _ _ _ => pts_nil) (fun _ _ _ _ _ => (pv 3)) (fun _ _ _ _ _ => (pe_callB (call_max2 rfl) (by rfl) T.b_max (by decide +kernel) (pa_cons (pe_dget (hu_of hm) (pe_fldK (K := K) (pv 0) rfl rfl) (pv 3) (by intro _ _; rfl)) (pa_cons (pe_dget (hu_of hm) (pe_fldK (K := K) (pv 1) rfl rfl) (pv 3) (by intro _ _; rfl)) pa_nil))))) pa_nil)))))), ?_⟩
    refine seq_cut fun k1 e1 => ?_
    walk_at "rd"
    refine ⟨⟨_, _, hb2⟩, ?_⟩
    subst e1
    refine seq_cut fun k1 e1 => ?_
    refine ⟨.ref b, rfl, b, C, dx, _, .ref t, rfl, hb, B.cl, B.n_pieces, rfl, t, rfl, ⟨_, sq_tup ht⟩, fun D hD => ?_⟩
    refine lc_tupG (fun v => match v with | .str z => (M.lookup z).isSome | _ => false) (fun v => v) hD (sq_tup ht) (by rw [List.length_map]; omega) (fun x => rfl) (fun x H2 mx sm2 Q' hQ => ?_) (fun x H2 mx _ sm2 Q' hQ => ?_) fun H2 sm2 at_D => ?_
    · obtain ⟨e, me, rfl⟩ := List.mem_map.mp mx
      have le : e.1.length ≤ sizeLine := Nat.le_trans (piece_len (ga e me).1).2 (by decide)
      refine ⟨.str e.1, rfl, .ref c, rfl, c, dx2, _, rfl, sm2 _ _ hb2, c, M, e.1, rfl, hB2.up sm2, le, _, rfl, ?_⟩
      rw [Bool.bne_false]
      exact ⟨_, rfl, hQ H2 (Same.refl _)⟩
    · exact ⟨x, rfl, hQ H2 (Same.refl _)⟩
    · have eL : (List.filter (fun v => match v with | .str z => (M.lookup z).isSome | _ => false) (L.map fun p => V.str p.1)).map (fun v => v) = ((L.map (·.1)).filter fun z => (M.lookup z).isSome).map V.str := by
        rw [List.map_id', show (L.map fun p => V.str p.1) = (L.map (·.1)).map V.str by rw [List.map_map]; rfl, List.filter_map]
        rfl
      rw [eL] at at_D
      subst e1
      try dsimp only
      refine ⟨_, rfl, D, rfl, ⟨_, sq_lst at_D⟩, fun D3 hD3 => ?_⟩
      refine dc_textsG (K := K) (fun z => greater ((L.lookup z).getD 0) ((M.lookup z).getD 0)) hD3 (sq_lst at_D) (hB.nd.filter _) (by
        have h := List.length_filter_le (fun z => (M.lookup z).isSome) (L.map (·.1))
        rw [List.length_map] at h
        omega) (fun x => rfl) (fun x => rfl) (fun z H3 mz sm3 Q' hQ => ?_) fun H3 sm3 at_D3 => ?_
      · obtain ⟨mz1, mz2⟩ := List.mem_filter.mp mz
        obtain ⟨v1, hv1⟩ := Option.isSome_iff_exists.mp (mem_look.mp mz1)
        obtain ⟨v2, hv2⟩ := Option.isSome_iff_exists.mp mz2
        have s3 := sm2.trans sm3
        have g1 := dget_pr (z := z) (Rd.of (s3 _ _ hd))
        have g2 := dget_pr (z := z) (Rd.of (s3 _ _ hd2))
        rw [hv1] at g1
        rw [hv2] at g2
        have hq := hQ H3 (Same.refl _)
        rw [hv1, hv2] at hq
        exact ⟨.ref b, rfl, b, C, dx, _, .ref d, rfl, s3 _ _ hb, B.cl, B.n_prices, rfl, .str z, rfl, d, .int v1, rfl, g1, .ref c, rfl, c, C, dx2, _, .ref d2, rfl, s3 _ _ hb2, B.cl, B.n_prices, rfl, .str z, rfl, d2, .int v2, rfl, g2, _, _, rfl, hq⟩
      · have s3 := sm2.trans sm3
        exact ⟨D3, andP L M, rfl, at_D3, andP_nodup hB.nd, good, fun r H' nr sm5 hR => q r H' (s3.free nr) (s3.trans sm5) hR⟩
end
end K06

namespace K06
open PySem PySem.Spec PyProof.Rows L2 Gd
local macro_rules | `(tactic| walk_at "rd") => `(tactic| simp only [tSeq, tPar, tNext, tIfS, tOr, tAnd, tNot, tB, tCB, tCons, tNil, tVar, tC, tRet, tRetN, tAsg, tDrop, gName, gSub, tOp, tUn, tTest, tOrV, tAndV, tNotV, tIf, tBM0, L2.tM1, L2.tM0, tChain, tCall, spKind, rIxL, tLst, tTup, tLstN, tTupN, tDNewN, tSl, tPart, tNoPart, rSlS, rIsB, rNotB, L2.start, L2.rEq, L2.rNe, L2.rI, L2.rI0, L2.rU, cx_K, cx_Kn,
  List.map_cons, List.map_nil, List.length_cons, List.length_nil, List.replicate_succ, List.replicate_zero, List.cons_append, List.nil_append, Nat.reduceAdd, Nat.reduceSub, Nat.zero_add, Nat.sub_self, Nat.reduceSubDiff, Nat.add_sub_cancel,
  List.getElem?_cons_zero, List.getElem?_cons_succ, List.set_cons_zero, List.set_cons_succ, Option.some.injEq, List.cons.injEq, V.bl.injEq, V.int.injEq, V.str.injEq, V.ref.injEq, V.ty.injEq, exists_eq_left, exists_eq_left', exists_eq_right, and_true, true_and, and_assoc, exists_and_left, exists_and_right, if_true, if_false, reduceIte, Bool.not_true, Bool.not_false, Bool.false_eq_true, decide_eq_true_eq, Bool.not_eq_true', Gd.len_str, Gd.tyV_str, reduceCtorEq])
local macro_rules | `(tactic| walk_at "rt") => `(tactic| try (walk_at "rd"))
local macro_rules | `(tactic| walk_at "side") => `(tactic| repeat (refine ⟨by (first | decide | decide +kernel | exact .inl ⟨by decide, by decide⟩ | exact .inr ⟨by decide, by decide⟩), ?_⟩))
local macro_rules | `(tactic| walk_at "up") => `(tactic| first | assumption | exact Same.refl _ | (refine same_at (by assumption) ?_; walk_at "up") | (refine same_go (by assumption) ?_; walk_at "up"))

section
variable {P : Program} {w : World} {K : PySem.W.Frag} {mg : Str → Option Value} {base : Heap} {C : Addr}
def spLeast (C : Addr) : Sp := fun vs H Q _ => ∃ b L z, vs = [.ref b, .str z] ∧ BookAt C H b L ∧ z.length ≤ 8000 ∧ (∀ n, n < z.length → lastP L z (n + 1) ≠ []) ∧ ∀ H', Same H H' → Q (.int (leastP L z)) H'
structure To (P : Program) (w : World) (K : PySem.W.Frag) (mg : Str → Option Value) (base : Heap) (C fc fg fi : Addr) : Prop where
  o_contains : Own K C "__contains__" fc
  d_contains : Dk P w K mg base 1 fc ["self", "value"] (spHas C)
  o_getitem : Own K C "__getitem__" fg
  f_getitem : PySem.W.fnIn K fg = true
  d_getitem : Dk P w K mg base 2 fg ["self", "piece"] (spGet C)
  o_iter : Own K C "__iter__" fi
  d_iter : Ds P w K mg base 1 fi ["self"] (spIter K C "_pieces")

abbrev s_least_price : Stmt := topS 26
theorem sc_least_price : FnScope ["book", "text", "least", "end", "last", "piece"] ["book", "text"] (defScope s_least_price) := ⟨rfl, rfl, rfl, by decide +kernel, rfl, by decide +kernel, by decide +kernel⟩

theorem ok_least_price {f fc fg fi : Addr} {fd : FuncData} (F : Fun K "_least_price" "_least_price" s_least_price f fd) (T : Tx mg) (B : Tb K mg C) (O : To P w K mg base C fc fg fi) : FnOk P w K mg base CX0 4 f fd ["book", "text"] (spLeast C) := by
  refine F.ok sc_least_price (fun vs H Q E h => ?_) (fun cdv A outer s H vs Q E hm h => ?_)
  · obtain ⟨b, L, z, rfl, _⟩ := h
    rfl
  · obtain ⟨b, L, z, rfl, hB, le, some_, q⟩ := h
    obtain ⟨⟨dx, d, t, al, m, n, hb, hd, ht, _⟩, _⟩ := id hB
    have lg := good_len hB.good
    have ga := good_all hB.good
    refine ⟨_, (pss_cons (ps_set (i := 2) sc_least_price.nd rfl (Or.inr rfl) (pe_lstN (pa_cons pe_int pa_nil)))
    (pss_cons (ps_for PassesOwn.never rfl (pi_range2 rfl T.b_range (pa_cons pe_int (pa_cons (pe_op op_add (pe_callB call_len_str (by rfl) T.b_len (by decide +kernel) (pa_cons (pv 1) pa_nil)) pe_int) pa_nil))) (pg_name (i := 3) sc_least_price.nd rfl (Or.inr rfl)) (pss_cons (ps_setLc (i := 4) (own := [("piece", 5)]) (g := gName 5) (by rfl) sc_least_price.nd rfl rfl (sw_true rfl rfl rfl (by decide +kernel)) (pi_own (pv 0) O.o_iter O.d_iter (hm.mono (by decide))) (blkOk_by (own := [("piece", 5)]) (N := ["book", "text", "least", "end", "last", "piece"]) (sc := defScope s_least_price) (by decide +kernel)) (fun _ _ _ _ _ => (pg_name (i := 5) sc_least_price.nd rfl (Or.inl rfl))) (fun _ _ _ _ _ => (pts_one (pt_val (pe_bmK (K := K) PySem.F.plainAttrs_str PySem.F.slot_str_endswith PySem.F.type_str_endswith mt_endswith (pe_slice sl_str (pv 1) po_none (po_some (pv 3))) (pa_cons (pv 5) pa_nil) rfl)))) (fun _ _ _ _ _ => (pv 5)))
    (pss_one (ps_expr (pe_bm PySem.F.plainAttrs_list PySem.F.slot_list_append PySem.F.type_list_append mt_append (pv 2) (pa_cons (pe_callB (cr_min rfl) (by rfl) T.b_min (by decide +kernel) (pa_cons (pe_lc (own := [("piece", 5)]) (g := gName 5) (tt := tYes) (by rfl) sc_least_price.nd (pi_list (pv 4)) (blkOk_by (own := [("piece", 5)]) (N := ["book", "text", "least", "end", "last", "piece"]) (sc := defScope s_least_price) (by decide +kernel)) (fun _ _ _ _ _ => (pg_name (i := 5) sc_least_price.nd rfl (Or.inl rfl))) (fun _ _ _ _ _ => pts_nil) (fun _ _ _ _ _ => (pe_op op_add (pe_ix (ix_listK rfl) (pv 2) (pe_op op_sub (pv 3) (pe_callB call_len_str (by rfl) T.b_len (by decide +kernel) (pa_cons (pv 5) pa_nil))) (fun _ _ => rfl)) (pe_ixOwn O.o_getitem O.f_getitem O.d_getitem (hm.mono (by decide)) (pv 0) (pv 5) (fun _ _ => rfl))))) pa_nil)) pa_nil))))))
    (pss_one (ps_ret (pe_ix ix_list (pv 2) (pe_un un_neg pe_int) (fun _ _ => rfl)))))), ?_⟩
    refine seq_cut fun k1 e1 => ?_
    walk_at "rd"
    refine ⟨by decide, fun p H1 hp sm1 at_p => ?_⟩
    subst e1
    try dsimp only
    refine seq_cut fun k1 e1 => ?_
    walk_at "rd"
    refine ⟨.str z, rfl, z, rfl, Nat.le_trans le (by decide), _, _, rfl, rfl, 1, z.length + 1, rfl, ⟨by decide, by decide, by omega, by omega⟩, ?_⟩
    rw [show ((z.length : Int) + 1 - 1).toNat = z.length by omega]
    refine for_range (fun i σ H => ∃ u v, σ = [some (.ref b), some (.str z), some (.ref p), u, v, none] ∧ SameB p H1 H ∧ H p = some (.lst ((leastL L z i).map V.int))) ⟨_, _, rfl, fun _ _ _ e => e, at_p⟩ (fun i σ H2 hi ⟨u, v, es, sm, hpp⟩ => ?_) (fun σ H2 ⟨u, v, es, sm, hpp⟩ => ?_)
    · subst es
      rw [show (1 : Int) + (i : Nat) = ((i + 1 : Nat) : Int) by omega]
      have s2 : Same H H2 := same_of_new hp sm1 sm
      show tSeq _ _ _ _ _
      refine seq_cut fun k2 e2 => ?_
      refine ⟨.ref b, rfl, b, dx, _, t, _, rfl, s2 _ _ hb, rfl, sq_tup (s2 _ _ ht), fun D hD => ?_⟩
      refine lc_tupG (fun v => match v with | .str y => Txt.endswith (pre z (i + 1)) y | _ => false) (fun v => v) hD (sq_tup (s2 _ _ ht)) (by rw [List.length_map]; omega) (fun x => rfl) (fun x H3 mx sm3 Q' hQ => ?_) (fun x H3 mx _ sm3 Q' hQ => ?_) fun H3 sm3 at_D => ?_
      · obtain ⟨e, me, rfl⟩ := List.mem_map.mp mx
        exact ⟨.str z, rfl, .int ((i + 1 : Nat) : Int), rfl, _, rfl, z, rfl, Nat.le_trans le (by decide), rfl, .str e.1, rfl, _, rfl, _, rfl, _, rfl, hQ H3 (Same.refl _)⟩
      · exact ⟨x, rfl, hQ H3 (Same.refl _)⟩
      · have eL : (List.filter (fun v => match v with | .str y => Txt.endswith (pre z (i + 1)) y | _ => false) (L.map fun p => V.str p.1)).map (fun v => v) = ((lastP L z (i + 1)).map (·.1)).map V.str := by
          rw [List.map_id', List.filter_map, List.map_map]
          rfl
        rw [eL] at at_D
        subst e2
        have hp3 := sm3 _ _ hpp
        have s3 := s2.trans sm3
        have ll : (lastP L z (i + 1)).length ≤ L.length := List.length_filter_le _ _
        refine ⟨.ref p, rfl, .inl ⟨rfl, _, sq_lst hp3⟩, .ref D, rfl, D, rfl, ⟨_, sq_lst at_D⟩, fun D2 hD2 => ?_⟩
        refine lc_listG (K := K) (a := D) (fun _ => true) (fun v => .int (match v with | .str y => (leastL L z i).getD (i + 1 - y.length) 0 + (L.lookup y).getD 0 | _ => 0)) hD2 (sq_lst at_D) (by rw [List.length_map, List.length_map]; omega) (fun x => rfl) (fun x H4 mx sm4 Q' hQ => hQ H4 (Same.refl _)) (fun x H4 mx _ sm4 Q' hQ => ?_) fun H4 sm4 at_D2 => ?_
        · obtain ⟨y, my, rfl⟩ := List.mem_map.mp mx
          obtain ⟨e, me, rfl⟩ := List.mem_map.mp my
          obtain ⟨me1, me2⟩ := List.mem_filter.mp me
          have l1 := ends_le me2
          rw [pre_len (show i + 1 ≤ z.length by omega)] at l1
          have l2 := (piece_len (ga e me1).1)
          have lt : i + 1 - e.1.length < (leastL L z i).length := by
            rw [leastL_len]
            omega
          have at_i : atI ((leastL L z i).map V.int) (((i + 1 : Nat) : Int) - (e.1.length : Int)) = some (.int ((leastL L z i).getD (i + 1 - e.1.length) 0)) := by
            refine Eq.trans (congrArg _ (show ((i + 1 : Nat) : Int) - (e.1.length : Int) = ((i + 1 - e.1.length : Nat) : Int) by omega)) (atI_nat ?_)
            rw [List.getElem?_map, List.getElem?_eq_getElem lt, List.getD_eq_getElem?_getD, List.getElem?_eq_getElem lt]
            rfl
          have has := lookup_nodup hB.nd e me1
          have hq := hQ H4 (Same.refl _)
          dsimp only at hq
          rw [has] at hq
          exact ⟨.ref p, rfl, .int ((i + 1 : Nat) : Int), rfl, .str e.1, rfl, e.1, rfl, Nat.le_trans l2.2 (by decide), _, _, rfl, rfl, p, _, _, _, rfl, rfl, sq_lst (sm4 _ _ hp3), at_i, .ref b, rfl, .str e.1, rfl, b, dx, _, rfl, (s3.trans sm4) _ _ hb, b, L, e.1, e.2, rfl, hB.up (s3.trans sm4), Nat.le_trans l2.2 (by decide), has, _, _, rfl, rfl, hq⟩
        · have eC : (List.filter (fun _ => true) (((lastP L z (i + 1)).map (·.1)).map V.str)).map (fun v => V.int (match v with | .str y => (leastL L z i).getD (i + 1 - y.length) 0 + (L.lookup y).getD 0 | _ => 0)) = (costsP L z (leastL L z i) (i + 1)).map V.int := by
            rw [List.filter_eq_self.mpr (fun _ _ => rfl), List.map_map, List.map_map]
            unfold costsP
            rw [List.map_map]
            refine List.map_congr_left fun e me => ?_
            show V.int ((leastL L z i).getD (i + 1 - e.1.length) 0 + (L.lookup e.1).getD 0) = V.int ((leastL L z i).getD (i + 1 - e.1.length) 0 + e.2)
            rw [lookup_nodup hB.nd e (List.mem_filter.mp me).1]
            rfl
          rw [eC] at at_D2
          have ne : costsP L z (leastL L z i) (i + 1) ≠ [] := fun h => some_ i hi (List.map_eq_nil_iff.mp h)
          refine ⟨D2, _, rfl, sq_lst at_D2, List.length_pos_iff.mpr ne, fun m h1 h2 => ?_⟩
          obtain rfl := minL_is h1 h2
          refine ⟨p, _, _, rfl, rfl, sm4 _ _ hp3, by rw [List.length_map, leastL_len, sizeLine_eq]; omega, _, _, rfl, (sm.step (sm3.trans sm4)), ?_⟩
          rw [upd_same]
          show some (HO.lst ((leastL L z i).map V.int ++ [V.int (minL (costsP L z (leastL L z i) (i + 1)))])) = some (.lst ((leastL L z i ++ [minL (costsP L z (leastL L z i) (i + 1))]).map V.int))
          rw [List.map_append]
          rfl
    · subst es
      subst e1
      have s2 := same_of_new hp sm1 sm
      have at_l : atI ((leastL L z z.length).map V.int) (-1) = some (.int (leastP L z)) := by
        rw [atI_last (n := z.length) (by rw [List.length_map, leastL_len])]
        have lt : z.length < (leastL L z z.length).length := by
          rw [leastL_len]
          omega
        unfold leastP
        rw [List.getElem?_map, List.getElem?_eq_getElem lt, List.getD_eq_getElem?_getD, List.getElem?_eq_getElem lt]
        rfl
      exact ⟨.ref p, rfl, 1, rfl, p, _, -1, _, rfl, rfl, sq_lst hpp, at_l, q H2 s2⟩
end
end K06

namespace K06
open PySem PySem.Spec PyProof.Rows L2 Gd
local macro_rules | `(tactic| walk_at "rd") => `(tactic| simp only [tSeq, tPar, tNext, tIfS, tOr, tAnd, tNot, tB, tCB, tCons, tNil, tVar, tC, tRet, tRetN, tAsg, tDrop, gName, gSub, tOp, tUn, tTest, tOrV, tAndV, tNotV, tIf, tBM0, L2.tM1, L2.tM0, tChain, tCall, spKind, rIxL, tLst, tTup, tLstN, tTupN, tDNewN, tSl, tPart, tNoPart, rSlS, rIsB, rNotB, L2.start, L2.rEq, L2.rNe, L2.rI, L2.rI0, L2.rU, cx_K, cx_Kn,
  List.map_cons, List.map_nil, List.length_cons, List.length_nil, List.replicate_succ, List.replicate_zero, List.cons_append, List.nil_append, Nat.reduceAdd, Nat.reduceSub, Nat.zero_add, Nat.sub_self, Nat.reduceSubDiff, Nat.add_sub_cancel,
  List.getElem?_cons_zero, List.getElem?_cons_succ, List.set_cons_zero, List.set_cons_succ, Option.some.injEq, List.cons.injEq, V.bl.injEq, V.int.injEq, V.str.injEq, V.ref.injEq, V.ty.injEq, exists_eq_left, exists_eq_left', exists_eq_right, and_true, true_and, and_assoc, exists_and_left, exists_and_right, if_true, if_false, reduceIte, Bool.not_true, Bool.not_false, Bool.false_eq_true, decide_eq_true_eq, Bool.not_eq_true', Gd.len_str, Gd.tyV_str, reduceCtorEq])
local macro_rules | `(tactic| walk_at "rt") => `(tactic| try (walk_at "rd"))
local macro_rules | `(tactic| walk_at "side") => `(tactic| repeat (refine ⟨by (first | decide | decide +kernel | exact .inl ⟨by decide, by decide⟩ | exact .inr ⟨by decide, by decide⟩), ?_⟩))
local macro_rules | `(tactic| walk_at "up") => `(tactic| first | assumption | exact Same.refl _ | (refine same_at (by assumption) ?_; walk_at "up") | (refine same_go (by assumption) ?_; walk_at "up"))

section
variable {P : Program} {w : World} {K : PySem.W.Frag} {mg : Str → Option Value} {base : Heap} {C : Addr}
structure Tp (P : Program) (w : World) (K : PySem.W.Frag) (mg : Str → Option Value) (base : Heap) (C : Addr) : Prop where
  pr_prices : ∃ p f, PropOf K C "prices" p f ∧ Dk P w K mg base 1 f ["self"] (spPrices C)
  pr_alphabet : ∃ p f, PropOf K C "alphabet" p f ∧ Dk P w K mg base 1 f ["self"] (spAlphabet C)
def spChk (C : Addr) : Sp := fun vs H Q _ => ∃ b L, vs = [.ref b] ∧ BookAt C H b L ∧ Q .non H

abbrev s_check_book : Stmt := topS 27
theorem sc_check_book : FnScope ["book"] ["book"] (defScope s_check_book) := ⟨rfl, rfl, rfl, by decide +kernel, rfl, by decide +kernel, by decide +kernel⟩

theorem ok_check_book {f : Addr} {fd : FuncData} (F : Fun K "_check_book" "_check_book" s_check_book f fd) (T : Tx mg) (B : Tb K mg C) : FnOk P w K mg base CX0 1 f fd ["book"] (spChk C) := by
  refine F.ok sc_check_book (fun vs H Q E h => ?_) (fun cdv A outer s H vs Q E hm h => ?_)
  · obtain ⟨b, L, rfl, _⟩ := h
    rfl
  · obtain ⟨b, L, rfl, ⟨⟨dx, d, t, al, m, n, hb, _⟩, _⟩, q⟩ := h
    refine ⟨_, (pss_one (ps_if (pt_not (pt_val (pe_callB (C8.call_isC B.ic) (by rfl) T.b_isinstance (by decide +kernel) (pa_cons (pv 0) (pa_cons (pe_glob (v := .ref C) rfl B.m_Book rfl) pa_nil))))) (pss_one ps_never) pss_nil)), ?_⟩
    walk_at "rd"
    exact ⟨⟨_, _, hb⟩, q⟩
theorem hm_units {k : Nat} {A : Around} (hm : Room k A) : A.units + 64 < cLine := by
  have := hm.un
  omega
def spChks (C : Addr) : Sp := fun vs H Q _ => ∃ b L c M, vs = [.ref b, .ref c] ∧ BookAt C H b L ∧ BookAt C H c M ∧ sigsP L = sigsP M ∧ Q .non H
abbrev s_check_books : Stmt := topS 28
theorem sc_check_books : FnScope ["book", "other"] ["book", "other"] (defScope s_check_books) := ⟨rfl, rfl, rfl, by decide +kernel, rfl, by decide +kernel, by decide +kernel⟩

theorem ok_check_books {f : Addr} {fd : FuncData} (F : Fun K "_check_books" "_check_books" s_check_books f fd) (T : Tx mg) (B : Tb K mg C) (R : Tp P w K mg base C) (G_check_book : Dn P w K mg base 1 "_check_book" ["book"] (spChk C)) : FnOk P w K mg base CX0 3 f fd ["book", "other"] (spChks C) := by
  obtain ⟨pa, fa, ha, D_alphabet⟩ := R.pr_alphabet
  refine F.ok sc_check_books (fun vs H Q E h => ?_) (fun cdv A outer s H vs Q E hm h => ?_)
  · obtain ⟨b, L, c, M, rfl, _⟩ := h
    rfl
  · obtain ⟨b, L, c, M, rfl, hB, hB2, same, q⟩ := h
    obtain ⟨⟨dx, d, t, al, m, n, hb, hd, ht, hal, _⟩, _⟩ := id hB
    obtain ⟨⟨dx2, d2, t2, al2, m2, n2, hb2, hd2, ht2, hal2, _⟩, _⟩ := id hB2
    refine ⟨_, (pss_cons (ps_expr (pe_callN G_check_book (hm.mono (by decide)) (by rfl) (pa_cons (pv 0) pa_nil)))
    (pss_cons (ps_expr (pe_callN G_check_book (hm.mono (by decide)) (by rfl) (pa_cons (pv 1) pa_nil)))
    (pss_one (ps_if (pt_cmpR (op_neD (hm_units hm)) (pe_propD (pv 0) B.cl ha D_alphabet (hm.mono (by decide)) rfl) (pe_propD (pv 1) B.cl ha D_alphabet (hm.mono (by decide)) rfl) (nomark _)) (pss_one ps_never) pss_nil)))), ?_⟩
    walk_at "rd"
    refine ⟨b, L, rfl, hB, c, M, rfl, hB2, ?_⟩
    refine ⟨.ref b, rfl, b, dx, _, rfl, hb, b, L, rfl, hB, fun a1 h1 => ⟨.ref c, rfl, c, dx2, _, rfl, hb2, c, M, rfl, hB2, fun a2 h2 => ?_⟩⟩
    refine ⟨.tuple ((sigsP L).map PyData.str), .tuple ((sigsP M).map PyData.str), .tup (sq_tup h1) (dp_strsAll _), .tup (sq_tup h2) (dp_strsAll _), shaped_strs (sigs_ok hB.good), shaped_strs (sigs_ok hB2.good), _, rfl, ?_⟩
    rw [eqv_strs, same, decide_eq_true rfl]
    exact iteF q
def spDearer (C : Addr) : Sp := fun vs H Q _ => ∃ b L c M, vs = [.ref b, .ref c] ∧ BookAt C H b L ∧ BookAt C H c M ∧ sigsP L = sigsP M ∧ ∀ H', Same H H' → Q (dearer L M) H'

abbrev s_dearer_piece : Stmt := topS 30
theorem sc_dearer_piece : FnScope ["book", "other", "piece"] ["book", "other"] (defScope s_dearer_piece) := ⟨rfl, rfl, rfl, by decide +kernel, rfl, by decide +kernel, by decide +kernel⟩

theorem ok_dearer_piece {f fc fg fi : Addr} {fd : FuncData} (F : Fun K "dearer_piece" "dearer_piece" s_dearer_piece f fd) (T : Tx mg) (B : Tb K mg C) (O : To P w K mg base C fc fg fi) (G_check_books : Dn P w K mg base 3 "_check_books" ["book", "other"] (spChks C)) (G_least_price : Dn P w K mg base 4 "_least_price" ["book", "text"] (spLeast C)) : FnOk P w K mg base CX0 5 f fd ["book", "other"] (spDearer C) := by
  refine F.ok sc_dearer_piece (fun vs H Q E h => ?_) (fun cdv A outer s H vs Q E hm h => ?_)
  · obtain ⟨b, L, c, M, rfl, _⟩ := h
    rfl
  · obtain ⟨b, L, c, M, rfl, hB, hB2, same, q⟩ := h
    obtain ⟨⟨dx, d, t, al, m, n, hb, hd, ht, hal, _⟩, _⟩ := id hB
    obtain ⟨⟨dx2, d2, t2, al2, m2, n2, hb2, hd2, ht2, hal2, _⟩, _⟩ := id hB2
    have ga := good_all hB2.good
    refine ⟨_, (pss_cons (ps_expr (pe_callN G_check_books (hm.mono (by decide)) (by rfl) (pa_cons (pv 0) (pa_cons (pv 1) pa_nil))))
    (pss_cons (ps_for PassesOwn.never rfl (pi_own (pv 1) O.o_iter O.d_iter (hm.mono (by decide))) (pg_name (i := 2) sc_dearer_piece.nd rfl (Or.inl rfl)) (pss_one (ps_if (pt_cmpR op_gt (pe_callN G_least_price (hm.mono (by decide)) (by rfl) (pa_cons (pv 0) (pa_cons (pv 2) pa_nil))) (pe_ixOwn O.o_getitem O.f_getitem O.d_getitem (hm.mono (by decide)) (pv 1) (pv 2) (fun _ _ => rfl)) (nomark _)) (pss_one (ps_ret (pv 2))) pss_nil)))
    (pss_one (ps_ret pe_non)))), ?_⟩
    refine seq_cut fun k1 e1 => ?_
    walk_at "rd"
    refine ⟨b, L, c, M, rfl, hB, hB2, same, ?_⟩
    subst e1
    try dsimp only
    refine seq_cut fun k1 e1 => ?_
    refine ⟨.ref c, rfl, c, dx2, _, t2, _, rfl, hb2, rfl, sq_tup ht2, ?_⟩
    refine for_tup (fun i σ H2 => ∃ u, σ = [some (.ref b), some (.ref c), u] ∧ Same H H2 ∧ ∀ e ∈ M.take i, ¬ e.2 < leastP L e.1) ⟨_, rfl, Same.refl _, fun e me => (nomatch me)⟩ (fun i σ H2 _ ⟨u, es, sm, _⟩ => sq_tup (sm _ _ ht2)) (fun i x σ H2 hx ⟨u, es, sm, no⟩ => ?_) (fun σ H2 ⟨u, es, sm, no⟩ => ?_)
    · subst es
      rw [List.getElem?_map] at hx
      obtain ⟨e, he, ex⟩ := Option.map_eq_some_iff.mp hx
      subst ex
      have me : e ∈ M := List.mem_of_getElem? he
      have l5 := piece_len (ga e me).1
      walk_at "rd"
      refine ⟨b, L, e.1, rfl, hB.up sm, by omega, last_ne (sign_in hB.good same me), fun H3 sm3 => ?_⟩
      have s3 := sm.trans sm3
      refine ⟨c, dx2, _, rfl, s3 _ _ hb2, c, M, e.1, e.2, rfl, hB2.up s3, Nat.le_trans l5.2 (by decide), lookup_nodup hB2.nd e me, _, rfl, _, rfl, ?_⟩
      by_cases lt : e.2 < leastP L e.1
      · rw [if_pos lt]
        have ed : dearer L M = .str e.1 := by
          unfold dearer
          rw [find_at he (decide_eq_true lt) fun f mf => decide_eq_false (no f mf)]
        rw [← ed]
        exact q H3 s3
      · rw [if_neg lt]
        refine ⟨s3, fun f mf => ?_⟩
        rw [List.take_add_one, he] at mf
        rcases List.mem_append.mp mf with mf | mf
        · exact no f mf
        · obtain rfl : f = e := by simpa using mf
          exact lt
    · subst es
      subst e1
      have ed : dearer L M = .non := by
        unfold dearer
        rw [List.find?_eq_none.mpr fun f mf h => no f (by rw [List.length_map, List.take_length]; exact mf) (of_decide_eq_true h)]
      have := q H2 sm
      rw [ed] at this
      exact this
def spNowhere (C : Addr) : Sp := fun vs H Q _ => ∃ b L c M, vs = [.ref b, .ref c] ∧ BookAt C H b L ∧ BookAt C H c M ∧ sigsP L = sigsP M ∧ ∀ H', Same H H' → Q (.bl (decide (dearer L M = .non))) H'
abbrev s_is_nowhere_dearer : Stmt := topS 29
theorem sc_is_nowhere_dearer : FnScope ["book", "other"] ["book", "other"] (defScope s_is_nowhere_dearer) := ⟨rfl, rfl, rfl, by decide +kernel, rfl, by decide +kernel, by decide +kernel⟩

theorem ok_is_nowhere_dearer {f : Addr} {fd : FuncData} (F : Fun K "is_nowhere_dearer" "is_nowhere_dearer" s_is_nowhere_dearer f fd) (T : Tx mg) (G_dearer_piece : Dn P w K mg base 5 "dearer_piece" ["book", "other"] (spDearer C)) : FnOk P w K mg base CX0 6 f fd ["book", "other"] (spNowhere C) := by
  refine F.ok sc_is_nowhere_dearer (fun vs H Q E h => ?_) (fun cdv A outer s H vs Q E hm h => ?_)
  · obtain ⟨b, L, c, M, rfl, _⟩ := h
    rfl
  · obtain ⟨b, L, c, M, rfl, hB, hB2, same, q⟩ := h
    refine ⟨_, (pss_one (ps_ret (pe_cmpR op_isN (pe_callN G_dearer_piece (hm.mono (by decide)) (by rfl) (pa_cons (pv 0) (pa_cons (pv 1) pa_nil))) pe_non (nomark _)))), ?_⟩
    walk_at "rd"
    exact ⟨b, L, c, M, rfl, hB, hB2, same, fun H' sm => q H' sm⟩
end
end K06

namespace K06
open PySem PySem.Spec PyProof.Rows L2 Gd
local macro_rules | `(tactic| walk_at "rd") => `(tactic| simp only [tSeq, tPar, tNext, tIfS, tOr, tAnd, tNot, tB, tCB, tCons, tNil, tVar, tC, tRet, tRetN, tAsg, tDrop, gName, gSub, tOp, tUn, tTest, tOrV, tAndV, tNotV, tIf, tBM0, L2.tM1, L2.tM0, tChain, tCall, spKind, rIxL, tLst, tTup, tLstN, tTupN, tDNewN, tSl, tPart, tNoPart, rSlS, rIsB, rNotB, L2.start, L2.rEq, L2.rNe, L2.rI, L2.rI0, L2.rU, cx_K, cx_Kn,
  List.map_cons, List.map_nil, List.length_cons, List.length_nil, List.replicate_succ, List.replicate_zero, List.cons_append, List.nil_append, Nat.reduceAdd, Nat.reduceSub, Nat.zero_add, Nat.sub_self, Nat.reduceSubDiff, Nat.add_sub_cancel,
  List.getElem?_cons_zero, List.getElem?_cons_succ, List.set_cons_zero, List.set_cons_succ, Option.some.injEq, List.cons.injEq, V.bl.injEq, V.int.injEq, V.str.injEq, V.ref.injEq, V.ty.injEq, exists_eq_left, exists_eq_left', exists_eq_right, and_true, true_and, and_assoc, exists_and_left, exists_and_right, if_true, if_false, reduceIte, Bool.not_true, Bool.not_false, Bool.false_eq_true, decide_eq_true_eq, Bool.not_eq_true', Gd.len_str, Gd.tyV_str, reduceCtorEq])
local macro_rules | `(tactic| walk_at "rt") => `(tactic| try (walk_at "rd"))
local macro_rules | `(tactic| walk_at "side") => `(tactic| repeat (refine ⟨by (first | decide | decide +kernel | exact .inl ⟨by decide, by decide⟩ | exact .inr ⟨by decide, by decide⟩), ?_⟩))
local macro_rules | `(tactic| walk_at "up") => `(tactic| first | assumption | exact Same.refl _ | (refine same_at (by assumption) ?_; walk_at "up") | (refine same_go (by assumption) ?_; walk_at "up"))

section
variable {P : Program} {w : World} {K : PySem.W.Frag} {mg : Str → Option Value} {base : Heap}
abbrev s_law_roll : Stmt := topS 36
theorem sc_law_roll : FnScope ["dice", "upto", "found", "one", "two"] ["dice", "upto"] (defScope s_law_roll) := ⟨rfl, rfl, rfl, by decide +kernel, rfl, by decide +kernel, by decide +kernel⟩

theorem ok_law_roll {f : Addr} {fd : FuncData} (F : Fun K "_law_roll" "_law_roll" s_law_roll f fd) (T : Tx mg) : FnG P w K mg base CX0 1 f fd ["dice", "upto"] spRoll := by
  refine roll_hidden (okG F sc_law_roll (fun vs H Q E h => ?_) (fun cdv A outer s H vs Q E hr hg h => ?_)) rfl
  · obtain ⟨a, n, x, y, z, rfl, _⟩ := h
    rfl
  · obtain ⟨a, n, x, y, z, rfl, ⟨hn, hn2⟩, h0, ha, q⟩ := h
    refine ⟨_, (pss_cons (ps_if (pt_cmpR op_gt (pe_ix ix_list (pv 0) pe_int (fun _ _ => rfl)) pe_int (nomark _)) (pss_cons (ps_set (i := 2) sc_law_roll.nd rfl (Or.inl rfl) (pe_op op_mod (pe_callTy call_intI (by rfl) T.b_int (by decide +kernel) (pa_cons (pe_ix ix_list (pv 0) pe_int (fun _ _ => rfl)) pa_nil)) (pv 1)))
    (pss_cons (ps_asg (pe_op op_fdiv (pe_ix ix_list (pv 0) pe_int (fun _ _ => rfl)) (pv 1)) (pg_sub (pv 0) pe_int set_list))
    (pss_one (ps_ret (pv 2))))) pss_nil)
    (pss_cons (ps_asg (pe_op op_add (pe_ix ix_list (pv 0) pe_int (fun _ _ => rfl)) pe_int) (pg_sub (pv 0) pe_int set_list))
    (pss_cons (ps_set (i := 3) sc_law_roll.nd rfl (Or.inl rfl) (pe_op op_mod (pe_callTy call_intI (by rfl) T.b_int (by decide +kernel) (pa_cons (pe_op op_add (pe_op op_mul (pe_ix ix_list (pv 0) pe_int (fun _ _ => rfl)) pe_int) (pe_op op_mul (pe_ix ix_list (pv 0) pe_int (fun _ _ => rfl)) pe_int)) pa_nil)) pe_int))
    (pss_cons (ps_set (i := 4) sc_law_roll.nd rfl (Or.inl rfl) (pe_op op_mod (pe_callTy call_intI (by rfl) T.b_int (by decide +kernel) (pa_cons (pe_op op_add (pe_op op_mul (pv 3) (pv 3)) (pe_op op_mul (pe_ix ix_list (pv 0) pe_int (fun _ _ => rfl)) pe_int)) pa_nil)) pe_int))
    (pss_one (ps_ret (pe_op op_mod (pe_callTy call_intI (by rfl) T.b_int (by decide +kernel) (pa_cons (pe_op op_fdiv (pe_op op_mod (pe_callTy call_intI (by rfl) T.b_int (by decide +kernel) (pa_cons (pe_op op_add (pe_op op_mul (pv 4) (pv 4)) (pv 3)) pa_nil)) pe_int) pe_int) pa_nil)) (pv 1)))))))), ?_⟩
    walk_at "rd"
    refine ⟨_, sq_lst ha, _, rfl, _, rfl, ?_⟩
    split
    · refine ⟨_, sq_lst ha, _, rfl, _, rfl, hn, _, sq_lst ha, _, rfl, _, rfl, ⟨hn, hn2⟩, a, _, 0, 0, rfl, rfl, ha, rfl, ?_⟩
      exact q (x % n) (x / n) y z (Int.emod_nonneg _ (by omega)) (Int.emod_lt_of_pos _ hn) (Int.ediv_nonneg h0 (by omega))
    · refine ⟨_, sq_lst ha, _, rfl, _, rfl, a, _, 2, 2, rfl, rfl, ha, rfl, ?_⟩
      have hb : (upd H a (.lst ([V.int x, V.int y, V.int z].set 2 (V.int (z + 1))))) a = some (three x y (z + 1)) := upd_same
      refine ⟨_, sq_lst hb, _, rfl, _, rfl, .inr ⟨by decide, by decide⟩, _, sq_lst hb, _, rfl, _, rfl, .inr ⟨by decide, by decide⟩, by decide, ?_⟩
      have m1 := Int.emod_nonneg (y * 25214903917 + (z + 1) * 40692) (show (2305843009213693951 : Int) ≠ 0 by decide)
      have m2 := Int.emod_lt_of_pos (y * 25214903917 + (z + 1) * 40692) (show (0 : Int) < 2305843009213693951 by decide)
      generalize (y * 25214903917 + (z + 1) * 40692) % 2305843009213693951 = one at m1 m2 ⊢
      refine ⟨.inl ⟨by omega, by omega⟩, _, sq_lst hb, _, rfl, _, rfl, .inr ⟨by decide, by decide⟩, by decide, ?_⟩
      have m3 := Int.emod_nonneg (one * one + (z + 1) * 69621) (show (1152921504606846883 : Int) ≠ 0 by decide)
      have m4 := Int.emod_lt_of_pos (one * one + (z + 1) * 69621) (show (0 : Int) < 1152921504606846883 by decide)
      generalize (one * one + (z + 1) * 69621) % 1152921504606846883 = two at m3 m4 ⊢
      refine ⟨.inl ⟨by omega, by omega⟩, by decide, ⟨by decide, by decide⟩, hn, ?_⟩
      exact q _ x y (z + 1) (Int.emod_nonneg _ (by omega)) (Int.emod_lt_of_pos _ hn) h0

abbrev s_law_dice : Stmt := topS 35
theorem sc_law_dice : FnScope ["script", "spot", "cell", "whole"] ["script", "spot"] (defScope s_law_dice) := ⟨rfl, rfl, rfl, by decide +kernel, rfl, by decide +kernel, by decide +kernel⟩

theorem ok_law_dice {f : Addr} {fd : FuncData} (F : Fun K "_law_dice" "_law_dice" s_law_dice f fd) (T : Tx mg) : FnG P w K mg base CX0 1 f fd ["script", "spot"] (spDice K) := by
  refine dice_hidden (okG F sc_law_dice (fun vs H Q E h => ?_) (fun cdv A outer s H vs Q E hr hg h => ?_)) rfl
  · obtain ⟨a, ns, i, rfl, _⟩ := h
    rfl
  · obtain ⟨a, ns, i, rfl, ⟨hi, hi2⟩, hS, many, q⟩ := h
    refine ⟨_, (pss_cons (ps_set (i := 2) sc_law_dice.nd rfl (Or.inl rfl) (pe_ifExp (pt_cmpR op_lt (pv 1) (pe_callB call_len (by rfl) T.b_len (by decide +kernel) (pa_cons (pv 0) pa_nil)) (nomark _)) (pe_ix ix_list (pv 0) (pv 1) (fun _ _ => rfl)) (pe_op op_add (pe_op op_mul pe_int (pv 1)) pe_int)))
    (pss_cons (ps_set (i := 3) sc_law_dice.nd rfl (Or.inl rfl) (pe_op op_mod (pe_callTy call_intI (by rfl) T.b_int (by decide +kernel) (pa_cons (pe_callB call_abs (by rfl) T.b_abs (by decide +kernel) (pa_cons (pv 2) pa_nil)) pa_nil)) (pe_op op_powW (pe_op op_powW pe_int pe_int) pe_int)))
    (pss_one (ps_ret (pe_lst (pa_cons (pe_ifExp (pt_cmpR op_ge (pv 3) (pe_op op_powW pe_int pe_int) (nomark _)) (pv 3) pe_int) (pa_cons (pe_op op_add (pe_op op_add (pe_op op_add (pe_op op_mul pe_int (pv 3)) (pe_callTy call_intB (by rfl) T.b_int (by decide +kernel) (pa_cons (pe_cmpR op_lt (pv 2) pe_int (nomark _)) pa_nil))) (pe_op op_mul pe_int (pv 1))) pe_int) (pa_cons pe_int pa_nil)))))))), ?_⟩
    walk_at "rd"
    refine ⟨ns.length, .inl ⟨_, hS, by rw [List.length_map]⟩, ?_⟩
    have big : (0 : Int) < (10 ^ Int.toNat 57) ^ Int.toNat 11 := by decide +kernel
    have go : ∀ c : Int, 0 ≤ (if c < 0 then -c else c) % (10 ^ Int.toNat 57) ^ Int.toNat 11 := fun c => Int.emod_nonneg _ (by omega)
    split
    · next lt =>
      have lt' : i.toNat < ns.length := by omega
      refine ⟨_, hS, .int ns[i.toNat], ?_, _, rfl, by decide, by decide +kernel, by decide, by decide +kernel, big, by decide, by decide +kernel, ?_⟩
      · refine Eq.trans (congrArg _ (show i = (i.toNat : Int) by omega)) (atI_nat ?_)
        rw [List.getElem?_map, List.getElem?_eq_getElem (by omega)]
        rfl
      · refine ite2 (fun _ => ?_) (fun _ => ?_)
        · refine ⟨.inl ⟨by decide, by decide⟩, _, rfl, .inl ⟨by decide, by decide⟩, by decide, fun p hp => ?_⟩
          exact q p _ _ _ hp (go _)
        · refine ⟨.inl ⟨by decide, by decide⟩, _, rfl, .inl ⟨by decide, by decide⟩, by decide, fun p hp => ?_⟩
          exact q p _ _ _ hp (Int.le_refl 0)
    · refine ⟨.inl ⟨by decide, by decide⟩, by decide, by decide +kernel, by decide, by decide +kernel, big, by decide, by decide +kernel, ?_⟩
      refine ite2 (fun _ => ?_) (fun _ => ?_)
      · refine ⟨.inl ⟨by decide, by decide⟩, .inl ⟨by decide, by decide⟩, by decide, fun p hp => ?_⟩
        exact q p _ _ _ hp (go _)
      · refine ⟨.inl ⟨by decide, by decide⟩, .inl ⟨by decide, by decide⟩, by decide, fun p hp => ?_⟩
        exact q p _ _ _ hp (Int.le_refl 0)
/-- one of the items of a list -/
def spPick (K : PySem.W.Frag) : Sp := fun vs H Q _ => ∃ (a p : Addr) (xs : List V), vs = [.ref a, .ref p] ∧ H a = some (Dice a) ∧ SqL K H p xs ∧ (xs ≠ [] ∧ xs.length ≤ 100000) ∧ ∀ x ∈ xs, Q x H
abbrev s_law_pick : Stmt := topS 37
theorem sc_law_pick : FnScope ["dice", "items"] ["dice", "items"] (defScope s_law_pick) := ⟨rfl, rfl, rfl, by decide +kernel, rfl, by decide +kernel, by decide +kernel⟩

theorem ok_law_pick {f : Addr} {fd : FuncData} (F : Fun K "_law_pick" "_law_pick" s_law_pick f fd) (T : Tx mg) (G_law_roll : Df P w K mg base 1 "_law_roll" ["dice", "upto"] spRoll) : FnG P w K mg base CX0 2 f fd ["dice", "items"] (spPick K) := by
  refine okG F sc_law_pick (fun vs H Q E h => ?_) (fun cdv A outer s H vs Q E hr hg h => ?_)
  · obtain ⟨a, p, xs, rfl, _⟩ := h
    rfl
  · have hm : Rm _ (A.deeper _) := ⟨hr, hg⟩
    obtain ⟨a, p, xs, rfl, hd, hS, ⟨ne, le⟩, q⟩ := h
    refine ⟨_, (pss_one (ps_ret (pe_ix ix_list (pv 1) (pe_callD G_law_roll (hm.mono (by decide)) (by rfl) (pa_cons (pv 0) (pa_cons (pe_callB call_len (by rfl) T.b_len (by decide +kernel) (pa_cons (pv 1) pa_nil)) pa_nil))) (fun _ _ => rfl)))), ?_⟩
    walk_at "rd"
    have pos : 0 < xs.length := List.length_pos_iff.mpr ne
    refine ⟨xs.length, .inl ⟨xs, hS, rfl⟩, a, (xs.length : Int), rfl, by omega, hd, fun r r0 r1 => ?_⟩
    walk_at "rt"
    have lt : r.toNat < xs.length := by omega
    refine ⟨xs, hS, xs[r.toNat], Eq.trans (congrArg _ (show r = (r.toNat : Int) by omega)) (atI_nat (List.getElem?_eq_getElem lt)), ?_⟩
    exact q _ (List.getElem_mem lt)
/-- some of the items of a list, each at most once -/
def spSome (K : PySem.W.Frag) : Sp := fun vs H Q _ => ∃ (a p : Addr) (xs : List V) (n : Int), vs = [.ref a, .ref p, .int n] ∧ H a = some (Dice a) ∧ SqL K H p xs ∧ (0 ≤ n ∧ n < 1000000) ∧ xs.length ≤ 100000 ∧ ∀ r ys rest H', H r = none → Same H H' → H' r = some (.lst ys) → (ys ++ rest).Perm xs → (ys.length : Int) = min n xs.length → Q (.ref r) H'

abbrev s_law_some : Stmt := topS 38
theorem sc_law_some : FnScope ["dice", "items", "many", "left", "found", "turn"] ["dice", "items", "many"] (defScope s_law_some) := ⟨rfl, rfl, rfl, by decide +kernel, rfl, by decide +kernel, by decide +kernel⟩

theorem ok_law_some {f : Addr} {fd : FuncData} (F : Fun K "_law_some" "_law_some" s_law_some f fd) (T : Tx mg) (G_law_roll : Df P w K mg base 1 "_law_roll" ["dice", "upto"] spRoll) : FnG P w K mg base CX0 2 f fd ["dice", "items", "many"] (spSome K) := by
  refine okG F sc_law_some (fun vs H Q E h => ?_) (fun cdv A outer s H vs Q E hr hg h => ?_)
  · obtain ⟨a, p, xs, n, rfl, _⟩ := h
    rfl
  · have hm : Rm _ (A.deeper _) := ⟨hr, hg⟩
    obtain ⟨a, p, xs, n, rfl, hd, hS, ⟨n0, n1⟩, le, q⟩ := h
    refine ⟨_, (pss_cons (ps_par (i := 3) (j := 4) (by rfl) sc_law_some.nd rfl rfl (by decide) rfl rfl (pa_cons (pe_callTy call_listN (by rfl) T.b_list (by decide +kernel) (pa_cons (pv 1) pa_nil)) (pa_cons (pe_lstN pa_nil) pa_nil)) (by rfl))
    (pss_cons (ps_for PassesOwn.never rfl (pi_range1 rfl T.b_range (pa_cons (pe_callB (call_min2 rfl) (by rfl) T.b_min (by decide +kernel) (pa_cons (pv 2) (pa_cons (pe_callB call_len (by rfl) T.b_len (by decide +kernel) (pa_cons (pv 3) pa_nil)) pa_nil))) pa_nil)) (pg_name (i := 5) sc_law_some.nd rfl (Or.inl rfl)) (pss_one (ps_expr (pe_bm PySem.F.plainAttrs_list PySem.F.slot_list_append PySem.F.type_list_append mt_append (pv 4) (pa_cons (pe_bm PySem.F.plainAttrs_list PySem.F.slot_list_pop PySem.F.type_list_pop mt_popAt (pv 3) (pa_cons (pe_callD G_law_roll (hm.mono (by decide)) (by rfl) (pa_cons (pv 0) (pa_cons (pe_callB call_len (by rfl) T.b_len (by decide +kernel) (pa_cons (pv 3) pa_nil)) pa_nil))) pa_nil)) pa_nil)))))
    (pss_one (ps_ret (pv 4))))), ?_⟩
    refine seq_cut fun k1 e1 => ?_
    walk_at "rd"
    refine ⟨p, xs, rfl, .inl hS, fun l H1 hl sm1 at_l => ⟨Nat.zero_le _, fun r H2 hr2 sm2 at_r => ?_⟩⟩
    subst e1
    try dsimp only
    refine seq_cut fun k1 e1 => ?_
    walk_at "rd"
    have nlr : l ≠ r := ne_of_none at_l hr2
    have at_l2 := sm2 _ _ at_l
    have s02 : Same H H2 := sm1.trans sm2
    have hr0 : H r = none := sm1.free hr2
    have mn : (if (xs.length : Int) < n then (xs.length : Int) else n) = ((min n.toNat xs.length : Nat) : Int) := by
      split <;> omega
    refine ⟨.int n, rfl, .ref l, rfl, .ref l, rfl, xs.length, .inl ⟨_, sq_lst at_l2, rfl⟩, _, _, rfl, _, rfl, ?_, ?_⟩
    · omega
    rw [mn]
    refine ⟨by omega, ?_⟩
    rw [show (((min n.toNat xs.length : Nat) : Int)).toNat = min n.toNat xs.length by omega]
    refine for_range (fun i σ H3 => ∃ u left ys, σ = [some (.ref a), some (.ref p), some (.int n), some (.ref l), some (.ref r), u] ∧ Same H H3 ∧ H3 l = some (.lst left) ∧ H3 r = some (.lst ys) ∧ (ys ++ left).Perm xs ∧ ys.length = i) ⟨_, xs, [], rfl, s02, at_l2, at_r, List.Perm.refl _, rfl⟩ (fun i σ H3 hi ⟨u, left, ys, es, sm3, at_l3, at_r3, pm, yl⟩ => ?_) (fun σ H3 ⟨u, left, ys, es, sm3, at_l3, at_r3, pm, yl⟩ => ?_)
    · subst es
      have ll := pm.length_eq
      rw [List.length_append, yl] at ll
      refine ⟨.ref r, rfl, .inl ⟨rfl, _, sq_lst at_r3⟩, .ref l, rfl, .inl ⟨rfl, _, sq_lst at_l3⟩, .ref a, rfl, .ref l, rfl, .ref l, rfl, left.length, .inl ⟨_, sq_lst at_l3, rfl⟩, ?_⟩
      refine ⟨a, left.length, rfl, ⟨by omega, by omega⟩, sm3 _ _ hd, fun k k0 k1 => ?_⟩
      have lt : k.toNat < left.length := by omega
      refine ⟨l, left, k, k.toNat, left[k.toNat], rfl, rfl, at_l3, by omega, by omega, seqIndex_of k0 (by omega), List.getElem?_eq_getElem lt, ?_⟩
      have at_r4 : (upd H3 l (.lst (left.eraseIdx k.toNat))) r = some (.lst ys) := by
        rw [upd_ne (Ne.symm nlr)]
        exact at_r3
      refine ⟨r, ys, left[k.toNat], rfl, rfl, at_r4, by rw [sizeLine_eq]; omega, _, left.eraseIdx k.toNat, ys ++ [left[k.toNat]], rfl, same_over (same_over sm3 hl) hr0, ?_, upd_same, ?_, ?_⟩
      · rw [upd_ne nlr, upd_same]
      · rw [List.append_assoc]
        refine (List.Perm.append_left ys ?_).trans pm
        exact erase_perm lt
      · rw [List.length_append, yl]
        rfl
    · subst es
      subst e1
      exact ⟨.ref r, rfl, q r ys left H3 hr0 sm3 at_r3 pm (by rw [yl]; omega)⟩
/-- some of the signs of a text -/
def spSomeS : Sp := fun vs H Q _ => ∃ (a : Addr) (z : Str) (xs : List V) (n : Int), vs = [.ref a, .str z, .int n] ∧ H a = some (Dice a) ∧ xs = (z.cps.toList.map sg).map V.str ∧ (0 ≤ n ∧ n < 1000000) ∧ xs.length ≤ 100000 ∧ ∀ r ys rest H', H r = none → Same H H' → H' r = some (.lst ys) → (ys ++ rest).Perm xs → (ys.length : Int) = min n xs.length → Q (.ref r) H'

theorem ok_law_someS {f : Addr} {fd : FuncData} (F : Fun K "_law_some" "_law_some" s_law_some f fd) (T : Tx mg) (G_law_roll : Df P w K mg base 1 "_law_roll" ["dice", "upto"] spRoll) : FnG P w K mg base CX0 2 f fd ["dice", "items", "many"] spSomeS := by
  refine okG F sc_law_some (fun vs H Q E h => ?_) (fun cdv A outer s H vs Q E hr hg h => ?_)
  · obtain ⟨a, z, xs, n, rfl, _⟩ := h
    rfl
  · have hm : Rm _ (A.deeper _) := ⟨hr, hg⟩
    obtain ⟨a, z, xs, n, rfl, hd, exs, ⟨n0, n1⟩, le, q⟩ := h
    have fits : z.length ≤ sizeLine := by
      have e := congrArg List.length exs
      rw [List.length_map, List.length_map, str_len] at e
      rw [sizeLine_eq]
      omega
    refine ⟨_, (pss_cons (ps_par (i := 3) (j := 4) (by rfl) sc_law_some.nd rfl rfl (by decide) rfl rfl (pa_cons (pe_callTy (call_listStr rfl) (by rfl) T.b_list (by decide +kernel) (pa_cons (pv 1) pa_nil)) (pa_cons (pe_lstN pa_nil) pa_nil)) (by rfl))
    (pss_cons (ps_for PassesOwn.never rfl (pi_range1 rfl T.b_range (pa_cons (pe_callB (call_min2 rfl) (by rfl) T.b_min (by decide +kernel) (pa_cons (pv 2) (pa_cons (pe_callB call_len (by rfl) T.b_len (by decide +kernel) (pa_cons (pv 3) pa_nil)) pa_nil))) pa_nil)) (pg_name (i := 5) sc_law_some.nd rfl (Or.inl rfl)) (pss_one (ps_expr (pe_bm PySem.F.plainAttrs_list PySem.F.slot_list_append PySem.F.type_list_append mt_append (pv 4) (pa_cons (pe_bm PySem.F.plainAttrs_list PySem.F.slot_list_pop PySem.F.type_list_pop mt_popAt (pv 3) (pa_cons (pe_callD G_law_roll (hm.mono (by decide)) (by rfl) (pa_cons (pv 0) (pa_cons (pe_callB call_len (by rfl) T.b_len (by decide +kernel) (pa_cons (pv 3) pa_nil)) pa_nil))) pa_nil)) pa_nil)))))
    (pss_one (ps_ret (pv 4))))), ?_⟩
    refine seq_cut fun k1 e1 => ?_
    walk_at "rd"
    refine ⟨z, rfl, fits, fun l H1 hl sm1 at_l => ⟨Nat.zero_le _, fun r H2 hr2 sm2 at_r => ?_⟩⟩
    rw [← exs] at at_l
    subst e1
    try dsimp only
    refine seq_cut fun k1 e1 => ?_
    walk_at "rd"
    have nlr : l ≠ r := ne_of_none at_l hr2
    have at_l2 := sm2 _ _ at_l
    have s02 : Same H H2 := sm1.trans sm2
    have hr0 : H r = none := sm1.free hr2
    have mn : (if (xs.length : Int) < n then (xs.length : Int) else n) = ((min n.toNat xs.length : Nat) : Int) := by
      split <;> omega
    refine ⟨.int n, rfl, .ref l, rfl, .ref l, rfl, xs.length, .inl ⟨_, sq_lst at_l2, rfl⟩, _, _, rfl, _, rfl, ?_, ?_⟩
    · omega
    rw [mn]
    refine ⟨by omega, ?_⟩
    rw [show (((min n.toNat xs.length : Nat) : Int)).toNat = min n.toNat xs.length by omega]
    refine for_range (fun i σ H3 => ∃ u left ys, σ = [some (.ref a), some (.str z), some (.int n), some (.ref l), some (.ref r), u] ∧ Same H H3 ∧ H3 l = some (.lst left) ∧ H3 r = some (.lst ys) ∧ (ys ++ left).Perm xs ∧ ys.length = i) ⟨_, xs, [], rfl, s02, at_l2, at_r, List.Perm.refl _, rfl⟩ (fun i σ H3 hi ⟨u, left, ys, es, sm3, at_l3, at_r3, pm, yl⟩ => ?_) (fun σ H3 ⟨u, left, ys, es, sm3, at_l3, at_r3, pm, yl⟩ => ?_)
    · subst es
      have ll := pm.length_eq
      rw [List.length_append, yl] at ll
      refine ⟨.ref r, rfl, .inl ⟨rfl, _, sq_lst at_r3⟩, .ref l, rfl, .inl ⟨rfl, _, sq_lst at_l3⟩, .ref a, rfl, .ref l, rfl, .ref l, rfl, left.length, .inl ⟨_, sq_lst at_l3, rfl⟩, ?_⟩
      refine ⟨a, left.length, rfl, ⟨by omega, by omega⟩, sm3 _ _ hd, fun k k0 k1 => ?_⟩
      have lt : k.toNat < left.length := by omega
      refine ⟨l, left, k, k.toNat, left[k.toNat], rfl, rfl, at_l3, by omega, by omega, seqIndex_of k0 (by omega), List.getElem?_eq_getElem lt, ?_⟩
      have at_r4 : (upd H3 l (.lst (left.eraseIdx k.toNat))) r = some (.lst ys) := by
        rw [upd_ne (Ne.symm nlr)]
        exact at_r3
      refine ⟨r, ys, left[k.toNat], rfl, rfl, at_r4, by rw [sizeLine_eq]; omega, _, left.eraseIdx k.toNat, ys ++ [left[k.toNat]], rfl, same_over (same_over sm3 hl) hr0, ?_, upd_same, ?_, ?_⟩
      · rw [upd_ne nlr, upd_same]
      · rw [List.append_assoc]
        refine (List.Perm.append_left ys ?_).trans pm
        exact erase_perm lt
      · rw [List.length_append, yl]
        rfl
    · subst es
      subst e1
      exact ⟨.ref r, rfl, q r ys left H3 hr0 sm3 at_r3 pm (by rw [yl]; omega)⟩
end
end K06

namespace K06
open PySem PySem.Spec PyProof.Rows L2 Gd
local macro_rules | `(tactic| walk_at "rd") => `(tactic| simp only [tSeq, tPar, tNext, tIfS, tOr, tAnd, tNot, tB, tCB, tCons, tNil, tVar, tC, tRet, tRetN, tAsg, tDrop, gName, gSub, tOp, tUn, tTest, tOrV, tAndV, tNotV, tIf, tBM0, L2.tM1, L2.tM0, tChain, tCall, spKind, rIxL, tLst, tTup, tLstN, tTupN, tDNewN, tSl, tPart, tNoPart, rSlS, rIsB, rNotB, L2.start, L2.rEq, L2.rNe, L2.rI, L2.rI0, L2.rU, cx_K, cx_Kn,
  List.map_cons, List.map_nil, List.length_cons, List.length_nil, List.replicate_succ, List.replicate_zero, List.cons_append, List.nil_append, Nat.reduceAdd, Nat.reduceSub, Nat.zero_add, Nat.sub_self, Nat.reduceSubDiff, Nat.add_sub_cancel,
  List.getElem?_cons_zero, List.getElem?_cons_succ, List.set_cons_zero, List.set_cons_succ, Option.some.injEq, List.cons.injEq, V.bl.injEq, V.int.injEq, V.str.injEq, V.ref.injEq, V.ty.injEq, exists_eq_left, exists_eq_left', exists_eq_right, and_true, true_and, and_assoc, exists_and_left, exists_and_right, if_true, if_false, reduceIte, Bool.not_true, Bool.not_false, Bool.false_eq_true, decide_eq_true_eq, Bool.not_eq_true', Gd.len_str, Gd.tyV_str, reduceCtorEq])
local macro_rules | `(tactic| walk_at "rt") => `(tactic| try (walk_at "rd"))
local macro_rules | `(tactic| walk_at "side") => `(tactic| repeat (refine ⟨by (first | decide | decide +kernel | exact .inl ⟨by decide, by decide⟩ | exact .inr ⟨by decide, by decide⟩), ?_⟩))
local macro_rules | `(tactic| walk_at "up") => `(tactic| first | assumption | exact Same.refl _ | (refine same_at (by assumption) ?_; walk_at "up") | (refine same_go (by assumption) ?_; walk_at "up"))

section
variable {P : Program} {w : World} {K : PySem.W.Frag} {mg : Str → Option Value} {base : Heap} {C : Addr}
def spAlike (C : Addr) : Sp := fun vs H Q _ => ∃ b L c M, vs = [.ref b, .ref c] ∧ BookAt C H b L ∧ BookAt C H c M ∧ sigsP L = sigsP M ∧ ∀ H', Same H H' → Q (.bl (decide (dearer L M = .non) && decide (dearer M L = .non))) H'
abbrev s_are_as_cheap : Stmt := topS 31
theorem sc_are_as_cheap : FnScope ["book", "other"] ["book", "other"] (defScope s_are_as_cheap) := ⟨rfl, rfl, rfl, by decide +kernel, rfl, by decide +kernel, by decide +kernel⟩

theorem ok_are_as_cheap {f : Addr} {fd : FuncData} (F : Fun K "are_as_cheap" "are_as_cheap" s_are_as_cheap f fd) (T : Tx mg) (G_is_nowhere_dearer : Dn P w K mg base 6 "is_nowhere_dearer" ["book", "other"] (spNowhere C)) : FnOk P w K mg base CX0 7 f fd ["book", "other"] (spAlike C) := by
  refine F.ok sc_are_as_cheap (fun vs H Q E h => ?_) (fun cdv A outer s H vs Q E hm h => ?_)
  · obtain ⟨b, L, c, M, rfl, _⟩ := h
    rfl
  · obtain ⟨b, L, c, M, rfl, hB, hB2, same, q⟩ := h
    refine ⟨_, (pss_one (ps_ret (pe_and (pe_callN G_is_nowhere_dearer (hm.mono (by decide)) (by rfl) (pa_cons (pv 0) (pa_cons (pv 1) pa_nil))) (pe_one (pe_callN G_is_nowhere_dearer (hm.mono (by decide)) (by rfl) (pa_cons (pv 1) (pa_cons (pv 0) pa_nil))))))), ?_⟩
    walk_at "rd"
    refine ⟨b, L, c, M, rfl, hB, hB2, same, fun H1 sm1 => ?_⟩
    refine ⟨_, rfl, ?_⟩
    by_cases e : dearer L M = .non
    · rw [decide_eq_true e] at q ⊢
      refine iteT ⟨c, M, b, L, rfl, hB2.up sm1, hB.up sm1, same.symm, fun H2 sm2 => ?_⟩
      exact q H2 (sm1.trans sm2)
    · rw [decide_eq_false e] at q ⊢
      exact iteF (q H1 sm1)
end
end K06

namespace K06
open PySem PySem.Spec PyProof.Rows L2 Gd
local macro_rules | `(tactic| walk_at "rd") => `(tactic| simp only [tSeq, tPar, tNext, tIfS, tOr, tAnd, tNot, tB, tCB, tCons, tNil, tVar, tC, tRet, tRetN, tAsg, tDrop, gName, gSub, tOp, tUn, tTest, tOrV, tAndV, tNotV, tIf, tBM0, L2.tM1, L2.tM0, tChain, tCall, spKind, rIxL, tLst, tTup, tLstN, tTupN, tDNewN, tSl, tPart, tNoPart, rSlS, rIsB, rNotB, L2.start, L2.rEq, L2.rNe, L2.rI, L2.rI0, L2.rU, cx_K, cx_Kn,
  List.map_cons, List.map_nil, List.length_cons, List.length_nil, List.replicate_succ, List.replicate_zero, List.cons_append, List.nil_append, Nat.reduceAdd, Nat.reduceSub, Nat.zero_add, Nat.sub_self, Nat.reduceSubDiff, Nat.add_sub_cancel,
  List.getElem?_cons_zero, List.getElem?_cons_succ, List.set_cons_zero, List.set_cons_succ, Option.some.injEq, List.cons.injEq, V.bl.injEq, V.int.injEq, V.str.injEq, V.ref.injEq, V.ty.injEq, exists_eq_left, exists_eq_left', exists_eq_right, and_true, true_and, and_assoc, exists_and_left, exists_and_right, if_true, if_false, reduceIte, Bool.not_true, Bool.not_false, Bool.false_eq_true, decide_eq_true_eq, Bool.not_eq_true', Gd.len_str, Gd.tyV_str, reduceCtorEq])
local macro_rules | `(tactic| walk_at "rt") => `(tactic| try (walk_at "rd"))
local macro_rules | `(tactic| walk_at "side") => `(tactic| repeat (refine ⟨by (first | decide | decide +kernel | exact .inl ⟨by decide, by decide⟩ | exact .inr ⟨by decide, by decide⟩), ?_⟩))
local macro_rules | `(tactic| walk_at "up") => `(tactic| first | assumption | exact Same.refl _ | (refine same_at (by assumption) ?_; walk_at "up") | (refine same_go (by assumption) ?_; walk_at "up"))

section
variable {P : Program} {w : World} {K : PySem.W.Frag} {mg : Str → Option Value} {base : Heap} {C : Addr}
/-- a text of so many of these letters -/
def spLetters (K : PySem.W.Frag) : Sp := fun vs H Q _ => ∃ (a rs : Addr) (S : List Str) (n : Int), vs = [.ref a, .ref rs, .int n] ∧ H a = some (Dice a) ∧ SqL K H rs (S.map V.str) ∧ Sg S ∧ (0 ≤ n ∧ n ≤ 1000) ∧ ∀ z H', Same H H' → (z.length : Int) = n → Over S z → Q (.str z) H'
abbrev s_law_letters : Stmt := topS 39
theorem sc_law_letters : FnScope ["dice", "signs", "many", "turn"] ["dice", "signs", "many"] (defScope s_law_letters) := ⟨rfl, rfl, rfl, by decide +kernel, rfl, by decide +kernel, by decide +kernel⟩

theorem ok_law_letters {f : Addr} {fd : FuncData} (F : Fun K "_law_letters" "_law_letters" s_law_letters f fd) (T : Tx mg) (G_law_pick : Df P w K mg base 2 "_law_pick" ["dice", "items"] (spPick K)) : FnG P w K mg base CX0 3 f fd ["dice", "signs", "many"] (spLetters K) := by
  refine okG F sc_law_letters (fun vs H Q E h => ?_) (fun cdv A outer s H vs Q E hr hg h => ?_)
  · obtain ⟨a, rs, S, n, rfl, _⟩ := h
    rfl
  · have hm : Rm _ (A.deeper _) := ⟨hr, hg⟩
    obtain ⟨a, rs, S, n, rfl, hd, hS, sg_, ⟨n0, n1⟩, q⟩ := h
    have few := sg_.few
    refine ⟨_, (pss_one (ps_ret (pe_join pe_str (pe_lc (own := [("turn", 3)]) (g := gName 3) (tt := tYes) (by rfl) sc_law_letters.nd (pi_range1 rfl T.b_range (pa_cons (pv 2) pa_nil)) (blkOk_by (own := [("turn", 3)]) (N := ["dice", "signs", "many", "turn"]) (sc := defScope s_law_letters) (by decide +kernel)) (fun _ _ _ _ _ => (pg_name (i := 3) sc_law_letters.nd rfl (Or.inl rfl))) (fun _ _ _ _ _ => pts_nil) (fun _ _ _ _ _ => (pe_callD G_law_pick (hm.mono (by decide)) (by rfl) (pa_cons (pv 0) (pa_cons (pv 1) pa_nil)))))))), ?_⟩
    refine ⟨⟨_, rfl⟩, .int n, rfl, n, rfl, by omega, by omega, fun D hD => ?_⟩
    refine lc_rangeG (lo := 0) (n := n.toNat) (fun _ y => ∃ z, y = V.str z ∧ z ∈ S) hD (by omega) (fun x => rfl) (fun j H5 hj s5 Q' hQ => ?_) fun H5 ys s5 at_D ly hy => ?_
    · refine ⟨.ref a, rfl, .ref rs, rfl, a, rs, S.map V.str, rfl, s5 _ _ hd, s5.seq hS, ⟨fun z => by
        have := congrArg List.length z
        rw [List.length_map] at this
        simp only [List.length_nil] at this
        omega, by rw [List.length_map]; omega⟩, fun y my => ?_⟩
      obtain ⟨z, mz, rfl⟩ := List.mem_map.mp my
      exact hQ _ H5 (Same.refl _) ⟨z, rfl, mz⟩
    · obtain ⟨zs, rfl, hzs⟩ := vals_strs' (p := fun z => z ∈ S) (ys := ys) fun y my => by
        obtain ⟨j, hj⟩ := List.mem_iff_getElem?.mp my
        exact hy j y hj
      rw [List.length_map] at ly
      obtain ⟨jl, jo⟩ := over_join sg_ hzs
      have one : (zs.map (·.length)).sum = zs.length := sum_one fun z m => sg_.len (hzs z m)
      refine ⟨Str.ofString "", D, zs, rfl, rfl, .inl (sq_lst at_D), by rw [one, show (Str.ofString "").length = 0 from rfl]; omega, ?_⟩
      exact q _ H5 s5 (by rw [jl]; omega) jo
end
end K06

namespace K06
open PySem PySem.Spec PyProof.Rows L2 Gd
local macro_rules | `(tactic| walk_at "rd") => `(tactic| simp only [tSeq, tPar, tNext, tIfS, tOr, tAnd, tNot, tB, tCB, tCons, tNil, tVar, tC, tRet, tRetN, tAsg, tDrop, gName, gSub, tOp, tUn, tTest, tOrV, tAndV, tNotV, tIf, tBM0, L2.tM1, L2.tM0, tChain, tCall, spKind, rIxL, tLst, tTup, tLstN, tTupN, tDNewN, tSl, tPart, tNoPart, rSlS, rIsB, rNotB, L2.start, L2.rEq, L2.rNe, L2.rI, L2.rI0, L2.rU, cx_K, cx_Kn,
  List.map_cons, List.map_nil, List.length_cons, List.length_nil, List.replicate_succ, List.replicate_zero, List.cons_append, List.nil_append, Nat.reduceAdd, Nat.reduceSub, Nat.zero_add, Nat.sub_self, Nat.reduceSubDiff, Nat.add_sub_cancel,
  List.getElem?_cons_zero, List.getElem?_cons_succ, List.set_cons_zero, List.set_cons_succ, Option.some.injEq, List.cons.injEq, V.bl.injEq, V.int.injEq, V.str.injEq, V.ref.injEq, V.ty.injEq, exists_eq_left, exists_eq_left', exists_eq_right, and_true, true_and, and_assoc, exists_and_left, exists_and_right, if_true, if_false, reduceIte, Bool.not_true, Bool.not_false, Bool.false_eq_true, decide_eq_true_eq, Bool.not_eq_true', Gd.len_str, Gd.tyV_str, reduceCtorEq])
local macro_rules | `(tactic| walk_at "rt") => `(tactic| try (walk_at "rd"))
local macro_rules | `(tactic| walk_at "side") => `(tactic| repeat (refine ⟨by (first | decide | decide +kernel | exact .inl ⟨by decide, by decide⟩ | exact .inr ⟨by decide, by decide⟩), ?_⟩))
local macro_rules | `(tactic| walk_at "up") => `(tactic| first | assumption | exact Same.refl _ | (refine same_at (by assumption) ?_; walk_at "up") | (refine same_go (by assumption) ?_; walk_at "up"))

section
variable {P : Program} {w : World} {K : PySem.W.Frag} {mg : Str → Option Value} {base : Heap} {C : Addr}
def spAsc (K : PySem.W.Frag) : Sp := fun vs H Q _ => ∃ t zs, vs = [.ref t] ∧ SqT K H t (zs.map V.str) ∧ zs.length ≤ 40 ∧ (∀ z ∈ zs, PyData.strOk z = true) ∧ ∀ H', Same H H' → Q (.bl (decide (zs = ascT zs))) H'

abbrev s_is_ascending : Stmt := topS 19
theorem sc_is_ascending : FnScope ["strings"] ["strings"] (defScope s_is_ascending) := ⟨rfl, rfl, rfl, by decide +kernel, rfl, by decide +kernel, by decide +kernel⟩

theorem ok_is_ascending {f : Addr} {fd : FuncData} (F : Fun K "_is_ascending" "_is_ascending" s_is_ascending f fd) (T : Tx mg) : FnOk P w K mg base CX0 1 f fd ["strings"] (spAsc K) := by
  refine F.ok sc_is_ascending (fun vs H Q E h => ?_) (fun cdv A outer s H vs Q E hm h => ?_)
  · obtain ⟨t, zs, rfl, _⟩ := h
    rfl
  · obtain ⟨t, zs, rfl, hT, few, ok, q⟩ := h
    refine ⟨_, (pss_one (ps_ret (pe_cmpR (op_eqD (hm_units hm)) (pe_callTy call_listN (by rfl) T.b_list (by decide +kernel) (pa_cons (pv 0) pa_nil)) (pe_callB (cr_sortedTx rfl) (by rfl) T.b_sorted (by decide +kernel) (pa_cons (pe_callTy (call_setT rfl) (by rfl) T.b_set (by decide +kernel) (pa_cons (pv 0) pa_nil)) pa_nil)) (nomark _)))), ?_⟩
    walk_at "rd"
    refine ⟨t, _, rfl, .inr hT, fun l H1 hl s1 at_l => ?_⟩
    refine ⟨.ref t, zs, rfl, .inr (.inr ⟨t, rfl, Gd.Same.sqt s1 hT⟩), few_of (by omega), fun p2 H2 hp2 s2 at2 => ?_⟩
    refine ⟨p2, zs, rfl, at2, by rw [sizeLine_eq]; omega, fun p3 H3 hp3 s3 at3 => ?_⟩
    have ok2 : ∀ z ∈ ascT zs, PyData.strOk z = true := fun z m => ok z (mem_ascT.mp m)
    refine ⟨_, _, .lst (sq_lst ((s2.trans s3) _ _ at_l)) (dp_strsAll _), .lst (sq_lst at3) (dp_strsAll _), shaped_listStrs ok, shaped_listStrs ok2, ?_⟩
    rw [eqv_listStrs]
    exact q H3 (s1.trans (s2.trans s3))
def spSub (C : Addr) : Sp := fun vs H Q _ => ∃ b L t zs, vs = [.ref b, .ref t] ∧ BookAt C H b L ∧ H t = some (.tup (zs.map V.str)) ∧ zs = ascT zs ∧ (∀ z ∈ zs, z ∈ L.map (·.1)) ∧ arePr (subP L zs) = true ∧ ∀ r H', H r = none → Same H H' → BookAt C H' r (subP L zs) → Q (.ref r) H'

abbrev s_Book__sub : Stmt := inClass (topS 24) 18
theorem sc_Book__sub : FnScope ["self", "other", "left", "piece"] ["self", "other"] (defScope s_Book__sub) := ⟨rfl, rfl, rfl, by decide +kernel, rfl, by decide +kernel, by decide +kernel⟩

theorem ok_sub {f fc : Addr} {fd : FuncData} {pc : List Str} (F : Fun K "__sub__" "Book.__sub__" s_Book__sub f fd) (T : Tx mg) (B : Tb K mg C) (O_contains : Own K C "__contains__" fc) (D_contains : Dk P w K mg base 1 fc pc (spHas C)) (G_is_ascending : Dn P w K mg base 1 "_is_ascending" ["strings"] (spAsc K)) (G_result : Dn P w K mg base 6 "_result" ["prices"] (spRes C)) : FnOk P w K mg base CX0 7 f fd ["self", "other"] (spSub C) := by
  refine F.ok sc_Book__sub (fun vs H Q E h => ?_) (fun cdv A outer s H vs Q E hm h => ?_)
  · obtain ⟨b, L, t, zs, rfl, _⟩ := h
    rfl
  · obtain ⟨b, L, t, zs, rfl, hB, ht, asc, sub, good, q⟩ := h
    obtain ⟨⟨dx, d, t', al, m, n, hb, hd, htp, _⟩, _⟩ := id hB
    have l1 := good_len hB.good
    have ga := good_all hB.good
    have low_ : ∀ z ∈ zs, (1 ≤ z.length ∧ z.length ≤ 5) ∧ PyData.strOk z = true := fun z m => by
      obtain ⟨e, me, rfl⟩ := List.mem_map.mp (sub z m)
      exact ⟨piece_len (ga e me).1, ok_low (piece_low (ga e me).1)⟩
    have few : zs.length ≤ 12 := by
      have h := nodup_le (l := zs) (by rw [asc]; exact nodup_ascT _) sub
      rw [List.length_map] at h
      omega
    refine ⟨_, (pss_cons (ps_if (PW.pt (pw_or (pt_not (pt_val (pe_callB call_isi (by rfl) T.b_isinstance (by decide +kernel) (pa_cons (pv 1) (pa_cons (pe_bltn (v := .ty "tuple") (u := .type "tuple") (by rfl) T.b_tuple (by decide +kernel) rfl) pa_nil))))) (pw_or1 (pt_not (pt_val (pe_callB (cr_all rfl) (by rfl) T.b_all (by decide +kernel) (pa_cons (pe_lc (own := [("piece", 3)]) (g := gName 3) (tt := tYes) (by rfl) sc_Book__sub.nd (pi_tup (pv 1)) (blkOk_by (own := [("piece", 3)]) (N := ["self", "other", "left", "piece"]) (sc := defScope s_Book__sub) (by decide +kernel)) (fun _ _ _ _ _ => (pg_name (i := 3) sc_Book__sub.nd rfl (Or.inl rfl))) (fun _ _ _ _ _ => pts_nil) (fun _ _ _ _ _ => (pe_cmpR (op_inOwn O_contains D_contains (hm.mono (by decide))) (pv 3) (pv 0) (by rfl)))) pa_nil))))))) (pss_one ps_never) pss_nil)
    (pss_cons (ps_if (pt_not (pt_val (pe_callN G_is_ascending (hm.mono (by decide)) (by rfl) (pa_cons (pv 1) pa_nil)))) (pss_one ps_never) pss_nil)
    (pss_cons (ps_setLc (i := 2) (own := [("piece", 3)]) (g := gName 3) (by rfl) sc_Book__sub.nd rfl rfl (sw_true rfl rfl rfl (by decide +kernel)) (pi_tup (pe_fld (pv 0) rfl)) (blkOk_by (own := [("piece", 3)]) (N := ["self", "other", "left", "piece"]) (sc := defScope s_Book__sub) (by decide +kernel)) (fun _ _ _ _ _ => (pg_name (i := 3) sc_Book__sub.nd rfl (Or.inl rfl))) (fun _ _ _ _ _ => (pts_one (pt_cmpR (op_notInK (K := K) rfl) (pv 3) (pv 1) (by rfl)))) (fun _ _ _ _ _ => (pv 3)))
    (pss_one (ps_ret (pe_callN G_result (hm.mono (by decide)) (by rfl) (pa_cons (pe_dc (own := [("piece", 3)]) (g := gName 3) (tt := tYes) (by rfl) sc_Book__sub.nd (pi_list (pv 2)) (blkOk_by (own := [("piece", 3)]) (N := ["self", "other", "left", "piece"]) (sc := defScope s_Book__sub) (by decide +kernel)) (fun _ _ _ _ _ => (pg_name (i := 3) sc_Book__sub.nd rfl (Or.inl rfl))) (fun _ _ _ _ _ => pts_nil) (fun _ _ _ _ _ => (pv 3)) (fun _ _ _ _ _ => (pe_dget (hu_of hm) (pe_fldK (K := K) (pv 0) rfl rfl) (pv 3) (by intro _ _; rfl)))) pa_nil))))))), ?_⟩
    refine seq_cut fun k1 e1 => ?_
    walk_at "rd"
    refine isi_of (.tup ht) (b := true) (by decide +kernel) ⟨true, rfl, ?_⟩
    rw [if_neg (by decide)]
    refine ⟨.ref t, rfl, t, rfl, ⟨_, sq_tup ht⟩, fun D hD => ?_⟩
    refine lc_tupG (fun _ => true) (fun v => .bl (match v with | .str z => (L.lookup z).isSome | _ => false)) hD (sq_tup ht) (by rw [List.length_map]; omega) (fun x => rfl) (fun x H2 mx sm2 Q' hQ => hQ H2 (Same.refl _)) (fun x H2 mx _ sm2 Q' hQ => ?_) fun H2 sm2 at_D => ?_
    · obtain ⟨z, mz, rfl⟩ := List.mem_map.mp mx
      refine ⟨.str z, rfl, .ref b, rfl, b, dx, _, rfl, sm2 _ _ hb, b, L, z, rfl, hB.up sm2, Nat.le_trans (low_ z mz).1.2 (by decide), _, rfl, ?_⟩
      rw [Bool.bne_false]
      exact hQ H2 (Same.refl _)
    · have eD : (List.filter (fun _ => true) (zs.map V.str)).map (fun v => V.bl (match v with | .str z => (L.lookup z).isSome | _ => false)) = (zs.map fun z => (L.lookup z).isSome).map V.bl := by
        rw [List.filter_eq_self.mpr (fun _ _ => rfl), List.map_map, List.map_map]
        rfl
      rw [eD] at at_D
      refine ⟨D, _, rfl, sq_lst at_D, _, rfl, ?_⟩
      have yes : (zs.map fun z => (L.lookup z).isSome).all id = true := by
        rw [List.all_map, List.all_eq_true]
        exact fun z m => mem_look.mp (sub z m)
      rw [yes, if_neg (by decide)]
      subst e1
      try dsimp only
      refine seq_cut fun k1 e1 => ?_
      walk_at "rd"
      refine ⟨t, zs, rfl, sq_tup (sm2 _ _ ht), by omega, fun z m => (low_ z m).2, fun H3 sm3 => ?_⟩
      refine ⟨_, rfl, ?_⟩
      rw [decide_eq_true asc, if_neg (by decide)]
      have s3 := sm2.trans sm3
      subst e1
      try dsimp only
      refine seq_cut fun k1 e1 => ?_
      refine ⟨.ref b, rfl, b, C, dx, _, .ref t', rfl, s3 _ _ hb, B.cl, B.n_pieces, rfl, t', rfl, ⟨_, sq_tup (s3 _ _ htp)⟩, fun D2 hD2 => ?_⟩
      refine lc_tupG (fun v => match v with | .str z => !decide (z ∈ zs) | _ => false) (fun v => v) hD2 (sq_tup (s3 _ _ htp)) (by rw [List.length_map]; omega) (fun x => rfl) (fun x H4 mx sm4 Q' hQ => ?_) (fun x H4 mx _ sm4 Q' hQ => ⟨x, rfl, hQ H4 (Same.refl _)⟩) fun H4 sm4 at_D2 => ?_
      · obtain ⟨e, me, rfl⟩ := List.mem_map.mp mx
        have hq := hQ H4 (Same.refl _)
        refine ⟨.str e.1, rfl, .ref t, rfl, t, _, rfl, .inr (sq_tup ((s3.trans sm4) _ _ ht)), rfl, flat_strs zs, _, rfl, ?_⟩
        rw [if_pos rfl, inV_strs]
        exact hq
      · have eL : (List.filter (fun v => match v with | .str z => !decide (z ∈ zs) | _ => false) (L.map fun p => V.str p.1)).map (fun v => v) = ((L.map (·.1)).filter fun z => !decide (z ∈ zs)).map V.str := by
          rw [List.map_id', show (L.map fun p => V.str p.1) = (L.map (·.1)).map V.str by rw [List.map_map]; rfl, List.filter_map]
          rfl
        rw [eL] at at_D2
        have s4 := s3.trans sm4
        subst e1
        try dsimp only
        refine ⟨_, rfl, D2, rfl, ⟨_, sq_lst at_D2⟩, fun D3 hD3 => ?_⟩
        refine dc_textsG (K := K) (fun z => (L.lookup z).getD 0) hD3 (sq_lst at_D2) (hB.nd.filter _) (by
          have h := List.length_filter_le (fun z => !decide (z ∈ zs)) (L.map (·.1))
          rw [List.length_map] at h
          omega) (fun x => rfl) (fun x => rfl) (fun z H5 mz sm5 Q' hQ => ?_) fun H5 sm5 at_D3 => ?_
        · obtain ⟨mz1, _⟩ := List.mem_filter.mp mz
          obtain ⟨v1, hv1⟩ := Option.isSome_iff_exists.mp (mem_look.mp mz1)
          have g1 := dget_pr (z := z) (Rd.of ((s4.trans sm5) _ _ hd))
          rw [hv1] at g1
          have hq := hQ H5 (Same.refl _)
          rw [hv1] at hq
          exact ⟨.ref b, rfl, b, C, dx, _, .ref d, rfl, (s4.trans sm5) _ _ hb, B.cl, B.n_prices, rfl, .str z, rfl, d, .int v1, rfl, g1, hq⟩
        · rw [subP_vals hB.nd] at at_D3
          have s5 := s4.trans sm5
          refine ⟨D3, subP L zs, rfl, at_D3, subP_nd hB.nd, good, fun r H' nr sm hR => ?_⟩
          rw [sortP_id (subP_asc hB.asc) (subP_nd hB.nd)] at hR
          exact q r H' (s5.free nr) (s5.trans sm) hR
structure Ts (P : Program) (w : World) (K : PySem.W.Frag) (mg : Str → Option Value) (base : Heap) (C fs : Addr) : Prop where
  self : Alone K C .Sub
  o_sub : Own K C (PySem.dunder (Operator.info .Sub).2) fs
  d_sub : Dk P w K mg base 7 fs ["self", "other"] (spSub C)
def spNeedless (C : Addr) : Sp := fun vs H Q _ => ∃ b L, vs = [.ref b] ∧ BookAt C H b L ∧ New H (.tup ((ndl L).map V.str)) Q

abbrev s_needless : Stmt := topS 32
theorem sc_needless : FnScope ["book", "several", "piece"] ["book"] (defScope s_needless) := ⟨rfl, rfl, rfl, by decide +kernel, rfl, by decide +kernel, by decide +kernel⟩

theorem ok_needless {f fc fg fi fs : Addr} {fd : FuncData} (F : Fun K "needless" "needless" s_needless f fd) (T : Tx mg) (B : Tb K mg C) (O : To P w K mg base C fc fg fi) (U : Ts P w K mg base C fs) (G_check_book : Dn P w K mg base 1 "_check_book" ["book"] (spChk C)) (G_least_price : Dn P w K mg base 4 "_least_price" ["book", "text"] (spLeast C)) : FnOk P w K mg base CX0 8 f fd ["book"] (spNeedless C) := by
  refine F.ok sc_needless (fun vs H Q E h => ?_) (fun cdv A outer s H vs Q E hm h => ?_)
  · obtain ⟨b, L, rfl, _⟩ := h
    rfl
  · obtain ⟨b, L, rfl, hB, q⟩ := h
    obtain ⟨⟨dx, d, t', al, m, n, hb, hd, htp, _⟩, _⟩ := id hB
    have l1 := good_len hB.good
    have ga := good_all hB.good
    refine ⟨_, (pss_cons (ps_expr (pe_callN G_check_book (hm.mono (by decide)) (by rfl) (pa_cons (pv 0) pa_nil)))
    (pss_cons (ps_setLc (i := 1) (own := [("piece", 2)]) (g := gName 2) (by rfl) sc_needless.nd rfl rfl (sw_true rfl rfl rfl (by decide +kernel)) (pi_own (pv 0) O.o_iter O.d_iter (hm.mono (by decide))) (blkOk_by (own := [("piece", 2)]) (N := ["book", "several", "piece"]) (sc := defScope s_needless) (by decide +kernel)) (fun _ _ _ _ _ => (pg_name (i := 2) sc_needless.nd rfl (Or.inl rfl))) (fun _ _ _ _ _ => (pts_one (pt_cmpR op_gt (pe_callB call_len_str (by rfl) T.b_len (by decide +kernel) (pa_cons (pv 2) pa_nil)) pe_int (nomark _)))) (fun _ _ _ _ _ => (pv 2)))
    (pss_one (ps_ret (pe_callTy call_tupleN (by rfl) T.b_tuple (by decide +kernel) (pa_cons (pe_lc (own := [("piece", 2)]) (g := gName 2) (by rfl) sc_needless.nd (pi_list (pv 1)) (blkOk_by (own := [("piece", 2)]) (N := ["book", "several", "piece"]) (sc := defScope s_needless) (by decide +kernel)) (fun _ _ _ _ _ => (pg_name (i := 2) sc_needless.nd rfl (Or.inl rfl))) (fun _ _ _ _ _ => (pts_one (pt_cmpR op_le (pe_callN G_least_price (hm.mono (by decide)) (by rfl) (pa_cons (pe_op (op_binTup (op := .Sub) U.o_sub U.self U.d_sub (hm.mono (by decide))) (pv 0) (pe_tupN (pa_cons (pv 2) pa_nil))) (pa_cons (pv 2) pa_nil))) (pe_ixOwn O.o_getitem O.f_getitem O.d_getitem (hm.mono (by decide)) (pv 0) (pv 2) (fun _ _ => rfl)) (nomark _)))) (fun _ _ _ _ _ => (pv 2))) pa_nil)))))), ?_⟩
    refine seq_cut fun k1 e1 => ?_
    walk_at "rd"
    refine ⟨b, L, rfl, hB, ?_⟩
    subst e1
    try dsimp only
    refine seq_cut fun k1 e1 => ?_
    refine ⟨.ref b, rfl, b, dx, _, t', _, rfl, hb, rfl, sq_tup htp, fun D hD => ?_⟩
    refine lc_tupG (fun v => match v with | .str y => decide (1 < y.length) | _ => false) (fun v => v) hD (sq_tup htp) (by rw [List.length_map]; omega) (fun x => rfl) (fun x H3 mx sm3 Q' hQ => ?_) (fun x H3 mx _ sm3 Q' hQ => ⟨x, rfl, hQ H3 (Same.refl _)⟩) fun H3 sm3 at_D => ?_
    · obtain ⟨e, me, rfl⟩ := List.mem_map.mp mx
      have le := piece_len (ga e me).1
      have hq := hQ H3 (Same.refl _)
      refine ⟨.str e.1, rfl, e.1, rfl, Nat.le_trans le.2 (by decide), _, _, rfl, rfl, _, rfl, ?_⟩
      rw [show decide ((1 : Int) < (e.1.length : Int)) = decide (1 < e.1.length) by rw [decide_eq_decide]; omega]
      exact hq
    · have eL : (List.filter (fun v => match v with | .str y => decide (1 < y.length) | _ => false) (L.map fun p => V.str p.1)).map (fun v => v) = ((L.filter fun e => decide (1 < e.1.length)).map (·.1)).map V.str := by
        rw [List.map_id', List.filter_map, List.map_map]
        rfl
      rw [eL] at at_D
      show k1 _ _
      subst e1
      try dsimp only
      refine ⟨.ref D, rfl, D, rfl, ⟨_, sq_lst at_D⟩, fun D2 hD2 => ?_⟩
      have lf : ((L.filter fun e => decide (1 < e.1.length)).map (·.1)).length ≤ 12 := by
        rw [List.length_map]
        exact Nat.le_trans (List.length_filter_le _ _) l1.2
      refine lc_listG (K := K) (a := D) (fun v => match v with | .str y => decide (leastP (subP L [y]) y ≤ (L.lookup y).getD 0) | _ => false) (fun v => v) hD2 (sq_lst at_D) (by rw [List.length_map]; omega) (fun x => rfl) (fun x H4 mx sm4 Q' hQ => ?_) (fun x H4 mx _ sm4 Q' hQ => ⟨x, rfl, hQ H4 (Same.refl _)⟩) fun H4 sm4 at_D2 => ?_
      · obtain ⟨z, mz, rfl⟩ := List.mem_map.mp mx
        obtain ⟨e, me, rfl⟩ := List.mem_map.mp mz
        obtain ⟨me1, me2⟩ := List.mem_filter.mp me
        have long := of_decide_eq_true me2
        have le := piece_len (ga e me1).1
        have s34 := sm3.trans sm4
        have ll : ∀ z ∈ [e.1], 1 < z.length := fun z m => by
          rw [List.mem_singleton.mp m]
          exact long
        have has := lookup_nodup hB.nd e me1
        refine ⟨.ref b, rfl, .str e.1, rfl, (show 1 ≤ sizeLine by decide), fun t H5 ht s5 at_t => ?_⟩
        have s35 := s34.trans s5
        refine ⟨b, dx, _, t, _, rfl, rfl, s35 _ _ hb, at_t, b, L, t, [e.1], rfl, hB.up s35, at_t, one_asc e.1, fun z m => List.mem_map.mpr ⟨e, me1, (List.mem_singleton.mp m).symm⟩, subP_good hB.good ll, fun r H6 nr s6 hR => ?_⟩
        refine ⟨.str e.1, rfl, r, subP L [e.1], e.1, rfl, hR, by omega, last_ne (cov_sub hB.good ll me1), fun H7 s7 => ?_⟩
        have s37 := s35.trans (s6.trans s7)
        have hq := hQ H7 (s5.trans (s6.trans s7))
        dsimp only at hq
        rw [has] at hq
        exact ⟨.ref b, rfl, .str e.1, rfl, b, dx, _, rfl, s37 _ _ hb, b, L, e.1, e.2, rfl, hB.up s37, Nat.le_trans le.2 (by decide), has, _, _, rfl, rfl, _, rfl, hq⟩
      · have eN : (List.filter (fun v => match v with | .str y => decide (leastP (subP L [y]) y ≤ (L.lookup y).getD 0) | _ => false) (((L.filter fun e => decide (1 < e.1.length)).map (·.1)).map V.str)).map (fun v => v) = (ndl L).map V.str := by
          rw [List.map_id', List.filter_map, List.filter_map, List.filter_filter]
          unfold ndl
          congr 2
          refine List.filter_congr fun e me => ?_
          show (decide (leastP (subP L [e.1]) e.1 ≤ (L.lookup e.1).getD 0) && decide (1 < e.1.length)) = isNd L e
          rw [lookup_nodup hB.nd e me, Bool.and_comm]
          rfl
        rw [eN] at at_D2
        have s4 := sm3.trans sm4
        refine ⟨D2, _, rfl, .inl ⟨sq_lst at_D2, fun p H5 hp s5 at_p => ?_⟩⟩
        exact q p H5 (s4.free hp) (s4.trans s5) at_p
def spLeastB (C : Addr) : Sp := fun vs H Q _ => ∃ b L, vs = [.ref b] ∧ BookAt C H b L ∧ ∀ r H', H r = none → Same H H' → BookAt C H' r (subP L (ndl L)) → Q (.ref r) H'

abbrev s_least_book : Stmt := topS 33
theorem sc_least_book : FnScope ["book"] ["book"] (defScope s_least_book) := ⟨rfl, rfl, rfl, by decide +kernel, rfl, by decide +kernel, by decide +kernel⟩

theorem ok_least_book {f fs : Addr} {fd : FuncData} (F : Fun K "least_book" "least_book" s_least_book f fd) (U : Ts P w K mg base C fs) (G_needless : Dn P w K mg base 8 "needless" ["book"] (spNeedless C)) : FnOk P w K mg base CX0 9 f fd ["book"] (spLeastB C) := by
  refine F.ok sc_least_book (fun vs H Q E h => ?_) (fun cdv A outer s H vs Q E hm h => ?_)
  · obtain ⟨b, L, rfl, _⟩ := h
    rfl
  · obtain ⟨b, L, rfl, hB, q⟩ := h
    obtain ⟨⟨dx, d, t', al, m, n, hb, hd, htp, _⟩, _⟩ := id hB
    refine ⟨_, (pss_one (ps_ret (pe_op (op_binTup (op := .Sub) U.o_sub U.self U.d_sub (hm.mono (by decide))) (pv 0) (pe_callN G_needless (hm.mono (by decide)) (by rfl) (pa_cons (pv 0) pa_nil))))), ?_⟩
    walk_at "rd"
    refine ⟨b, L, rfl, hB, fun t H1 ht s1 at_t => ?_⟩
    exact ⟨b, dx, _, t, _, rfl, rfl, s1 _ _ hb, at_t, b, L, t, ndl L, rfl, hB.up s1, at_t, ndl_asc hB.asc hB.nd, fun z m => (ndl_sub L).mem m, subP_good hB.good ndl_long, fun r H2 nr s2 hR => q r H2 (s1.free nr) (s1.trans s2) hR⟩
end
end K06

namespace K06
open PySem PySem.Spec PyProof.Rows L2 Gd
local macro_rules | `(tactic| walk_at "rd") => `(tactic| simp only [tSeq, tPar, tNext, tIfS, tOr, tAnd, tNot, tB, tCB, tCons, tNil, tVar, tC, tRet, tRetN, tAsg, tDrop, gName, gSub, tOp, tUn, tTest, tOrV, tAndV, tNotV, tIf, tBM0, L2.tM1, L2.tM0, tChain, tCall, spKind, rIxL, tLst, tTup, tLstN, tTupN, tDNewN, tSl, tPart, tNoPart, rSlS, rIsB, rNotB, L2.start, L2.rEq, L2.rNe, L2.rI, L2.rI0, L2.rU, cx_K, cx_Kn,
  List.map_cons, List.map_nil, List.length_cons, List.length_nil, List.replicate_succ, List.replicate_zero, List.cons_append, List.nil_append, Nat.reduceAdd, Nat.reduceSub, Nat.zero_add, Nat.sub_self, Nat.reduceSubDiff, Nat.add_sub_cancel,
  List.getElem?_cons_zero, List.getElem?_cons_succ, List.set_cons_zero, List.set_cons_succ, Option.some.injEq, List.cons.injEq, V.bl.injEq, V.int.injEq, V.str.injEq, V.ref.injEq, V.ty.injEq, exists_eq_left, exists_eq_left', exists_eq_right, and_true, true_and, and_assoc, exists_and_left, exists_and_right, if_true, if_false, reduceIte, Bool.not_true, Bool.not_false, Bool.false_eq_true, decide_eq_true_eq, Bool.not_eq_true', Gd.len_str, Gd.tyV_str, reduceCtorEq])
local macro_rules | `(tactic| walk_at "rt") => `(tactic| try (walk_at "rd"))
local macro_rules | `(tactic| walk_at "side") => `(tactic| repeat (refine ⟨by (first | decide | decide +kernel | exact .inl ⟨by decide, by decide⟩ | exact .inr ⟨by decide, by decide⟩), ?_⟩))
local macro_rules | `(tactic| walk_at "up") => `(tactic| first | assumption | exact Same.refl _ | (refine same_at (by assumption) ?_; walk_at "up") | (refine same_go (by assumption) ?_; walk_at "up"))

section
variable {P : Program} {w : World} {K : PySem.W.Frag} {mg : Str → Option Value} {base : Heap} {C : Addr}
/-- prices of all letters and of some longer pieces -/
def spPricesL (K : PySem.W.Frag) : Sp := fun vs H Q _ => ∃ a rs S m u, vs = [.ref a, .ref rs, .int m, .int u] ∧ H a = some (Dice a) ∧ SqL K H rs (S.map V.str) ∧ Sg S ∧ (0 ≤ m ∧ m ≤ 8) ∧ (1 ≤ u ∧ u ≤ 99) ∧ ∀ r L H', H r = none → Same H H' → H' r = some (.dK (pr L)) → Full S L → (∀ e ∈ L, e.2 ≤ u) → (L.length : Int) ≤ m + S.length → Q (.ref r) H'
-- (['dice', 'signs', 'many', 'upto'], ['dice', 'signs', 'many', 'upto', 'found', 'turn', 'piece', 'sign', 'at'], {'signs', 'dice'})
abbrev s_law_prices : Stmt := topS 40
theorem sc_law_prices : FnScope ["dice", "signs", "many", "upto", "found", "turn", "piece", "sign", "at"] ["dice", "signs", "many", "upto"] (defScope s_law_prices) := ⟨rfl, rfl, rfl, by decide +kernel, rfl, by decide +kernel, by decide +kernel⟩

theorem ok_law_prices {f : Addr} {fd : FuncData} (F : Fun K "_law_prices" "_law_prices" s_law_prices f fd) (T : Tx mg) (G_law_roll : Df P w K mg base 1 "_law_roll" ["dice", "upto"] spRoll) (G_law_pick : Df P w K mg base 2 "_law_pick" ["dice", "items"] (spPick K)) (G_law_some : Df P w K mg base 2 "_law_some" ["dice", "items", "many"] (spSome K)) : FnG P w K mg base CX0 3 f fd ["dice", "signs", "many", "upto"] (spPricesL K) := by
  refine okG F sc_law_prices (fun vs H Q E h => ?_) (fun cdv A outer s H vs Q E hr hg h => ?_)
  · obtain ⟨a, rs, S, m, u, rfl, _⟩ := h
    rfl
  · have hm : Rm _ (A.deeper _) := ⟨hr, hg⟩
    obtain ⟨a, rs, S, m, up, rfl, hd, hS, sg_, ⟨m0, m8⟩, ⟨up0, up1⟩, q⟩ := h
    have few := sg_.few
    have neS : S.map V.str ≠ [] := fun z => by
      have := congrArg List.length z
      rw [List.length_map] at this
      simp only [List.length_nil] at this
      omega
    refine ⟨_, (pss_cons (ps_set (i := 4) sc_law_prices.nd rfl (Or.inl rfl) pe_dnewN)
    (pss_cons (ps_for PassesOwn.never rfl (pi_range1 rfl T.b_range (pa_cons (pv 2) pa_nil)) (pg_name (i := 5) sc_law_prices.nd rfl (Or.inl rfl)) (pss_cons (ps_set (i := 6) sc_law_prices.nd rfl (Or.inl rfl) (pe_join pe_str (pe_lc (own := [("at", 8)]) (g := gName 8) (tt := tYes) (by rfl) sc_law_prices.nd (pi_range1 rfl T.b_range (pa_cons (pe_op op_add pe_int (pe_callD G_law_roll (hm.mono (by decide)) (by rfl) (pa_cons (pv 0) (pa_cons pe_int pa_nil)))) pa_nil)) (blkOk_by (own := [("at", 8)]) (N := ["dice", "signs", "many", "upto", "found", "turn", "piece", "sign", "at"]) (sc := defScope s_law_prices) (by decide +kernel)) (fun _ _ _ _ _ => (pg_name (i := 8) sc_law_prices.nd rfl (Or.inl rfl))) (fun _ _ _ _ _ => pts_nil) (fun _ _ _ _ _ => (pe_callD G_law_pick (hm.mono (by decide)) (by rfl) (pa_cons (pv 0) (pa_cons (pv 1) pa_nil)))))))
    (pss_one (ps_dput (hu_of hm.room) (pv 4) (pv 6) (pe_op op_add pe_int (pe_callD G_law_roll (hm.mono (by decide)) (by rfl) (pa_cons (pv 0) (pa_cons (pv 3) pa_nil)))) rfl))))
    (pss_cons (ps_for PassesOwn.never rfl (pi_list (pv 1)) (pg_name (i := 7) sc_law_prices.nd rfl (Or.inl rfl)) (pss_one (ps_dput (hu_of hm.room) (pv 4) (pv 7) (pe_op op_add pe_int (pe_callD G_law_roll (hm.mono (by decide)) (by rfl) (pa_cons (pv 0) (pa_cons (pv 3) pa_nil)))) rfl)))
    (pss_one (ps_ret (pe_callTy (call_dictL rfl) (by rfl) T.b_dict (by decide +kernel) (pa_cons (pe_callD G_law_some (hm.mono (by decide)) (by rfl) (pa_cons (pv 0) (pa_cons (pe_callTy (call_listI rfl) (by rfl) T.b_list (by decide +kernel) (pa_cons (pe_bm0 PySem.F.plainAttrs_dict PySem.F.slot_dict_items PySem.F.type_dict_items mt_itemsD (pv 4)) pa_nil)) (pa_cons pe_int pa_nil)))) pa_nil))))))), ?_⟩
    refine seq_cut fun k1 e1 => ?_
    walk_at "rd"
    refine fun fo H1 hfo s1 fo1 => ?_
    subst e1
    try dsimp only
    refine seq_cut fun k1 e1 => ?_
    refine ⟨.int m, rfl, m, rfl, by omega, by omega, ?_⟩
    refine for_range (fun i σ H2 => ∃ u5 u6 L, σ = [some (.ref a), some (.ref rs), some (.int m), some (.int up), some (.ref fo), u5, u6, none, none] ∧ Same H H2 ∧ H2 fo = some (.dK (pr L)) ∧ (L.map (·.1)).Nodup ∧ L.length ≤ i ∧ (∀ z ∈ L.map (·.1), (1 ≤ z.length ∧ z.length ≤ 5) ∧ Over S z) ∧ ∀ e ∈ L, 1 ≤ e.2 ∧ e.2 ≤ up) ⟨_, _, [], rfl, s1, fo1, List.nodup_nil, Nat.le_refl _, fun z m => (nomatch m), fun e m => (nomatch m)⟩ (fun i σ H2 hi ⟨u5, u6, L, es, s2, fo2, nd, len, ks, ps⟩ => ?_) (fun σ H2 ⟨u5, u6, L, es, s2, fo2, nd, len, ks, ps⟩ => ?_)
    · subst es
      show tSeq _ _ _ _ _
      refine seq_cut fun k2 e2 => ?_
      refine ⟨⟨_, rfl⟩, .ref a, rfl, a, 4, rfl, by decide, s2 _ _ hd, fun k k0 k1 => ⟨_, _, rfl, rfl, _, rfl, by omega, by omega, fun D hD => ?_⟩⟩
      refine lc_rangeG (lo := 0) (n := (2 + k).toNat) (fun _ y => ∃ z, y = V.str z ∧ z ∈ S) hD (by omega) (fun x => rfl) (fun j H5 hj s5 Q' hQ => ?_) fun H5 ys s5 at_D ly hy => ?_
      · refine ⟨.ref a, rfl, .ref rs, rfl, a, rs, S.map V.str, rfl, (s2.trans s5) _ _ hd, (s2.trans s5).seq hS, ⟨neS, by rw [List.length_map]; omega⟩, fun y my => ?_⟩
        obtain ⟨z, mz, rfl⟩ := List.mem_map.mp my
        exact hQ _ H5 (Same.refl _) ⟨z, rfl, mz⟩
      · obtain ⟨zs, rfl, hzs⟩ := vals_strs' (p := fun z => z ∈ S) (ys := ys) fun y my => by
          obtain ⟨j, hj⟩ := List.mem_iff_getElem?.mp my
          exact hy j y hj
        rw [List.length_map] at ly
        obtain ⟨jl, jo⟩ := over_join sg_ hzs
        have one : (zs.map (·.length)).sum = zs.length := sum_one fun z m => sg_.len (hzs z m)
        refine ⟨Str.ofString "", D, zs, rfl, rfl, .inl (sq_lst at_D), by rw [one, show (Str.ofString "").length = 0 from rfl]; omega, ?_⟩
        generalize Txt.join (Str.ofString "") zs = z at jl jo
        have s25 := s2.trans s5
        have fo5 := s5 _ _ fo2
        show k2 _ _
        subst e2
        try dsimp only
        refine ⟨.ref a, rfl, .int up, rfl, a, up, rfl, by omega, s25 _ _ hd, fun v v0 v1 => ⟨_, _, rfl, rfl, ?_⟩⟩
        refine ⟨.ref fo, rfl, .str z, rfl, fo, _, rfl, DPut.k (k := Sum.inr z) fo5 (by rw [pr_len, sizeLine_eq]; omega), ⟨_, _, putP L z (1 + v), rfl, same_over s25 hfo, ?_, nodup_putP nd, ?_, fun y my => ?_, all_putP (p := fun v => 1 ≤ v ∧ v ≤ up) ps ⟨by omega, by omega⟩⟩⟩
        · rw [upd_same, putK_pr]
        · have := putP_len L z (1 + v)
          omega
        · rcases mem_putP.mp my with h | h
          · rw [h]
            exact ⟨⟨by omega, by omega⟩, jo⟩
          · exact ks y h
    · subst es
      subst e1
      try dsimp only
      have len8 : L.length ≤ m.toNat := len
      clear len
      refine seq_cut fun k1 e1 => ?_
      refine ⟨.ref rs, rfl, rs, rfl, ⟨_, s2.seq hS⟩, ?_⟩
      refine for_list (K := K) (a := rs) (xs := S.map V.str) (fun j σ H3 => ∃ u7 L, σ = [some (.ref a), some (.ref rs), some (.int m), some (.int up), some (.ref fo), u5, u6, u7, none] ∧ Same H H3 ∧ H3 fo = some (.dK (pr L)) ∧ (L.map (·.1)).Nodup ∧ L.length ≤ m.toNat + j ∧ (∀ z ∈ L.map (·.1), (1 ≤ z.length ∧ z.length ≤ 5) ∧ Over S z) ∧ (∀ e ∈ L, 1 ≤ e.2 ∧ e.2 ≤ up) ∧ ∀ z ∈ S.take j, z ∈ L.map (·.1)) ⟨_, L, rfl, s2, fo2, nd, len8, ks, ps, fun z mz => by simp at mz⟩ (fun j σ H3 hj ⟨u7, L, es, s3, _⟩ => s3.seq hS) (fun j x σ H3 hj ⟨u7, L, es, s3, fo3, nd, len, ks, ps, sj⟩ => ?_) (fun σ H3 ⟨u7, L, es, s3, fo3, nd, len, ks, ps, sj⟩ => ?_)
      · subst es
        rw [List.getElem?_map] at hj
        obtain ⟨z, hz, ex⟩ := Option.map_eq_some_iff.mp hj
        subst ex
        have mz : z ∈ S := List.mem_of_getElem? hz
        have lt : j < S.length := (List.getElem?_eq_some_iff.mp hz).1
        refine ⟨.ref a, rfl, .int up, rfl, a, up, rfl, by omega, s3 _ _ hd, fun v v0 v1 => ⟨_, _, rfl, rfl, ?_⟩⟩
        refine ⟨.ref fo, rfl, .str z, rfl, fo, _, rfl, DPut.k (k := Sum.inr z) fo3 (by rw [pr_len, sizeLine_eq]; omega), ⟨_, putP L z (1 + v), rfl, same_over s3 hfo, ?_, nodup_putP nd, ?_, fun y my => ?_, all_putP (p := fun v => 1 ≤ v ∧ v ≤ up) ps ⟨by omega, by omega⟩, fun y my => ?_⟩⟩
        · rw [upd_same, putK_pr]
        · have := putP_len L z (1 + v)
          omega
        · rcases mem_putP.mp my with h | h
          · rw [h]
            exact ⟨by rw [sg_.len mz]; decide, sg_.over mz⟩
          · exact ks y h
        · rw [List.take_add_one, hz] at my
          rcases List.mem_append.mp my with h | h
          · exact mem_putP.mpr (.inr (sj y h))
          · exact mem_putP.mpr (.inl (by simpa using h))
      · subst es
        subst e1
        rw [List.length_map] at len sj
        rw [List.take_length] at sj
        have full : Full S L := ⟨nd, by omega, sj, ks, fun e me => by have := ps e me; omega⟩
        have l12 := full.len
        have ne : L.length ≤ 100000 := by omega
        refine ⟨.ref a, rfl, .ref fo, rfl, .inr (.inr (.inl ⟨rfl, .inl ⟨_, fo3⟩⟩)), fo, _, rfl, rfl, .inl fo3, fun v H4 hv s4 at_v => ?_⟩
        refine ⟨v, fo, L, rfl, at_v, .inl (s4 _ _ fo3), fun l H5 hl s5 pa => ?_⟩
        have s05 := s3.trans (s4.trans s5)
        obtain ⟨ps', a', prs'⟩ := id pa
        have lps := Paired.length prs'
        refine ⟨a, l, _, 12, rfl, s05 _ _ hd, sq_lst a', ⟨by decide, by decide⟩, by rw [List.length_map]; omega, fun r ys rest H6 nr s6 at_r pm yl => ?_⟩
        rw [List.length_map] at yl
        obtain ⟨M, paM, pmM⟩ := pairs_some pa a' s6 at_r pm (by rw [List.length_map]; omega)
        have fM := full.perm pmM
        refine ⟨r, M, rfl, paM, fun p H7 hp s7 at_p => ?_⟩
        rw [mergeP_new (L := []) fM.nd, List.nil_append] at at_p
        exact q p M H7 ((s05.trans s6).free hp) ((s05.trans s6).trans s7) at_p fM (fun e me => (ps e (pmM.mem_iff.mp me)).2) (by rw [pmM.length_eq]; omega)
end
end K06

namespace K06
open PySem PySem.Spec PyProof.Rows L2 Gd
local macro_rules | `(tactic| walk_at "rd") => `(tactic| simp only [tSeq, tPar, tNext, tIfS, tOr, tAnd, tNot, tB, tCB, tCons, tNil, tVar, tC, tRet, tRetN, tAsg, tDrop, gName, gSub, tOp, tUn, tTest, tOrV, tAndV, tNotV, tIf, tBM0, L2.tM1, L2.tM0, tChain, tCall, spKind, rIxL, tLst, tTup, tLstN, tTupN, tDNewN, tSl, tPart, tNoPart, rSlS, rIsB, rNotB, L2.start, L2.rEq, L2.rNe, L2.rI, L2.rI0, L2.rU, cx_K, cx_Kn,
  List.map_cons, List.map_nil, List.length_cons, List.length_nil, List.replicate_succ, List.replicate_zero, List.cons_append, List.nil_append, Nat.reduceAdd, Nat.reduceSub, Nat.zero_add, Nat.sub_self, Nat.reduceSubDiff, Nat.add_sub_cancel,
  List.getElem?_cons_zero, List.getElem?_cons_succ, List.set_cons_zero, List.set_cons_succ, Option.some.injEq, List.cons.injEq, V.bl.injEq, V.int.injEq, V.str.injEq, V.ref.injEq, V.ty.injEq, exists_eq_left, exists_eq_left', exists_eq_right, and_true, true_and, and_assoc, exists_and_left, exists_and_right, if_true, if_false, reduceIte, Bool.not_true, Bool.not_false, Bool.false_eq_true, decide_eq_true_eq, Bool.not_eq_true', Gd.len_str, Gd.tyV_str, reduceCtorEq])
local macro_rules | `(tactic| walk_at "rt") => `(tactic| try (walk_at "rd"))
local macro_rules | `(tactic| walk_at "side") => `(tactic| repeat (refine ⟨by (first | decide | decide +kernel | exact .inl ⟨by decide, by decide⟩ | exact .inr ⟨by decide, by decide⟩), ?_⟩))
local macro_rules | `(tactic| walk_at "up") => `(tactic| first | assumption | exact Same.refl _ | (refine same_at (by assumption) ?_; walk_at "up") | (refine same_go (by assumption) ?_; walk_at "up"))

section
variable {P : Program} {w : World} {K : PySem.W.Frag} {mg : Str → Option Value} {base : Heap} {C : Addr}
def spWith (C : Addr) : Sp := fun vs H Q _ => ∃ b L z v, vs = [.ref b, .str z, .int v] ∧ BookAt C H b L ∧ isPiece (.str z) = true ∧ (1 ≤ v ∧ v ≤ 99) ∧ arePr (putP L z v) = true ∧ ∀ r H', H r = none → Same H H' → BookAt C H' r (sortP (putP L z v)) → Q (.ref r) H'

abbrev s_Book_with_price : Stmt := inClass (topS 24) 15
theorem sc_Book_with_price : FnScope ["self", "piece", "price"] ["self", "piece", "price"] (defScope s_Book_with_price) := ⟨rfl, rfl, rfl, by decide +kernel, rfl, by decide +kernel, by decide +kernel⟩

theorem ok_with_price {f : Addr} {fd : FuncData} (F : Fun K "with_price" "Book.with_price" s_Book_with_price f fd) (T : Tx mg) (B : Tb K mg C) (G_is_piece : Dn P w K mg base 2 "is_piece" ["value"] (spKind isPiece)) (G_is_price : Dn P w K mg base 2 "_is_price" ["value"] (spKind isPrice)) (G_result : Dn P w K mg base 6 "_result" ["prices"] (spRes C)) : FnOk P w K mg base CX0 7 f fd ["self", "piece", "price"] (spWith C) := by
  refine F.ok sc_Book_with_price (fun vs H Q E h => ?_) (fun cdv A outer s H vs Q E hm h => ?_)
  · obtain ⟨b, L, z, v, rfl, _⟩ := h
    rfl
  · obtain ⟨b, L, z, v, rfl, hB, pz, pv_, good, q⟩ := h
    obtain ⟨⟨dx, d, t', al, m, n, hb, hd, htp, _⟩, _⟩ := id hB
    have l1 := good_len hB.good
    refine ⟨_, (pss_cons (ps_if (pt_not (pt_val (pe_callN G_is_piece (hm.mono (by decide)) (by rfl) (pa_cons (pv 1) pa_nil)))) (pss_one ps_never) pss_nil)
    (pss_cons (ps_if (pt_not (pt_val (pe_callN G_is_price (hm.mono (by decide)) (by rfl) (pa_cons (pv 2) pa_nil)))) (pss_one ps_never) pss_nil)
    (pss_one (ps_ret (pe_callN G_result (hm.mono (by decide)) (by rfl) (pa_cons (pe_dstar (pe_fldK (K := K) (pv 0) rfl rfl) (pv 1) (pv 2)) pa_nil)))))), ?_⟩
    refine seq_cut fun k1 e1 => ?_
    walk_at "rd"
    refine ⟨⟨_, .str (Nat.le_trans (piece_len pz).2 (by decide))⟩, ?_⟩
    rw [pz, if_neg (by decide)]
    subst e1
    try dsimp only
    refine seq_cut fun k1 e1 => ?_
    walk_at "rd"
    refine ⟨⟨_, .int _⟩, ?_⟩
    have pr_ : isPrice (.int v) = true := decide_eq_true pv_
    rw [pr_, if_neg (by decide)]
    subst e1
    try dsimp only
    refine fun p hp => ?_
    have s1 := same_new (o := .dK []) hp
    have dp : d ≠ p := ne_of_none hd hp
    refine ⟨.ref b, rfl, b, C, dx, _, .ref d, rfl, s1 _ _ hb, B.cl, B.n_prices, rfl, d, L, rfl, .inl (s1 _ _ hd), dp, by omega, upd_same, fun q' hq' => ?_⟩
    have nqp : q' ≠ p := fun e => by
      rw [e, upd_same] at hq'
      cases hq'
    refine ⟨.str z, rfl, .int v, rfl, z, v, rfl, rfl, ?_, upd_same, ?_⟩
    · rw [upd_ne (Ne.symm nqp), upd_same]
    · have hq0 : H q' = none := by
        rw [upd_ne nqp, upd_ne nqp] at hq'
        exact hq'
      have S := same_over (o := .dK (pr (putP L z v))) (same_over (o := .dK (pr [(z, v)])) (same_over (o := .dK []) (same_over (o := .dK (pr L)) (same_over (o := .dK []) (Same.refl H) hp) hp) hq0) hq0) hp
      exact ⟨p, putP L z v, rfl, upd_same, nodup_putP hB.nd, good, fun r H' nr sm hR => q r H' (S.free nr) (S.trans sm) hR⟩
end
end K06

namespace K06
open PySem PySem.Spec PyProof.Rows L2 Gd
local macro_rules | `(tactic| walk_at "rd") => `(tactic| simp only [tSeq, tPar, tNext, tIfS, tOr, tAnd, tNot, tB, tCB, tCons, tNil, tVar, tC, tRet, tRetN, tAsg, tDrop, gName, gSub, tOp, tUn, tTest, tOrV, tAndV, tNotV, tIf, tBM0, L2.tM1, L2.tM0, tChain, tCall, spKind, rIxL, tLst, tTup, tLstN, tTupN, tDNewN, tSl, tPart, tNoPart, rSlS, rIsB, rNotB, L2.start, L2.rEq, L2.rNe, L2.rI, L2.rI0, L2.rU, cx_K, cx_Kn,
  List.map_cons, List.map_nil, List.length_cons, List.length_nil, List.replicate_succ, List.replicate_zero, List.cons_append, List.nil_append, Nat.reduceAdd, Nat.reduceSub, Nat.zero_add, Nat.sub_self, Nat.reduceSubDiff, Nat.add_sub_cancel,
  List.getElem?_cons_zero, List.getElem?_cons_succ, List.set_cons_zero, List.set_cons_succ, Option.some.injEq, List.cons.injEq, V.bl.injEq, V.int.injEq, V.str.injEq, V.ref.injEq, V.ty.injEq, exists_eq_left, exists_eq_left', exists_eq_right, and_true, true_and, and_assoc, exists_and_left, exists_and_right, if_true, if_false, reduceIte, Bool.not_true, Bool.not_false, Bool.false_eq_true, decide_eq_true_eq, Bool.not_eq_true', Gd.len_str, Gd.tyV_str, reduceCtorEq])
local macro_rules | `(tactic| walk_at "rt") => `(tactic| try (walk_at "rd"))
local macro_rules | `(tactic| walk_at "side") => `(tactic| repeat (refine ⟨by (first | decide | decide +kernel | exact .inl ⟨by decide, by decide⟩ | exact .inr ⟨by decide, by decide⟩), ?_⟩))
local macro_rules | `(tactic| walk_at "up") => `(tactic| first | assumption | exact Same.refl _ | (refine same_at (by assumption) ?_; walk_at "up") | (refine same_go (by assumption) ?_; walk_at "up"))

section
variable {P : Program} {w : World} {K : PySem.W.Frag} {mg : Str → Option Value} {base : Heap} {C : Addr}
/-- all cuts of a short text, by the law -/
def spCuts : Sp := fun vs H Q _ => ∃ d L z, vs = [.ref d, .str z] ∧ H d = some (.dK (pr L)) ∧ z.length ≤ 5 ∧ ∀ p H', Same H H' → WaysAt H' p ((cutsT L z z.length).getD z.length []) → Q (.ref p) H'
-- (['prices', 'text'], ['prices', 'text', 'found', 'stop', 'here', 'start', 'piece', 'way'], {'piece', 'prices'})
abbrev s_law_cuts : Stmt := topS 41
theorem sc_law_cuts : FnScope ["prices", "text", "found", "stop", "here", "start", "piece", "way"] ["prices", "text"] (defScope s_law_cuts) := ⟨rfl, rfl, rfl, by decide +kernel, rfl, by decide +kernel, by decide +kernel⟩

theorem ok_law_cuts {f : Addr} {fd : FuncData} (F : Fun K "_law_cuts" "_law_cuts" s_law_cuts f fd) (T : Tx mg) : FnG P w K mg base CX0 1 f fd ["prices", "text"] spCuts := by
  refine okG F sc_law_cuts (fun vs H Q E h => ?_) (fun cdv A outer s H vs Q E hr hg h => ?_)
  · obtain ⟨d, L, z, rfl, _⟩ := h
    rfl
  · have hm : Rm _ (A.deeper _) := ⟨hr, hg⟩
    obtain ⟨d, L, z, rfl, hd, z5, q⟩ := h
    refine ⟨_, (pss_cons (ps_set (i := 2) sc_law_cuts.nd rfl (Or.inl rfl) (pe_lstN (pa_cons (pe_lstN (pa_cons (pe_tupN pa_nil) pa_nil)) pa_nil)))
    (pss_cons (ps_for PassesOwn.never rfl (pi_range2 rfl T.b_range (pa_cons pe_int (pa_cons (pe_op op_add (pe_callB call_len_str (by rfl) T.b_len (by decide +kernel) (pa_cons (pv 1) pa_nil)) pe_int) pa_nil))) (pg_name (i := 3) sc_law_cuts.nd rfl (Or.inl rfl)) (pss_cons (ps_set (i := 4) sc_law_cuts.nd rfl (Or.inl rfl) (pe_lstN pa_nil))
    (pss_cons (ps_for PassesOwn.never rfl (pi_range2 rfl T.b_range (pa_cons (pe_callB (call_max2 rfl) (by rfl) T.b_max (by decide +kernel) (pa_cons pe_int (pa_cons (pe_op op_sub (pv 3) pe_int) pa_nil))) (pa_cons (pv 3) pa_nil))) (pg_name (i := 5) sc_law_cuts.nd rfl (Or.inl rfl)) (pss_cons (ps_set (i := 6) sc_law_cuts.nd rfl (Or.inr rfl) (pe_slice sl_str (pv 1) (po_some (pv 5)) (po_some (pv 3))))
    (pss_one (ps_expr (pe_bm PySem.F.plainAttrs_list PySem.F.slot_list_extend PySem.F.type_list_extend mt_extend (pv 4) (pa_cons (pe_lc (own := [("way", 7)]) (g := gName 7) (by rfl) sc_law_cuts.nd (pi_list (pe_ix ix_list (pv 2) (pv 5) (fun _ _ => rfl))) (blkOk_by (own := [("way", 7)]) (N := ["prices", "text", "found", "stop", "here", "start", "piece", "way"]) (sc := defScope s_law_cuts) (by decide +kernel)) (fun _ _ _ _ _ => (pg_name (i := 7) sc_law_cuts.nd rfl (Or.inl rfl))) (fun _ _ _ _ _ => (pts_one (pt_cmpR (op_inPr (hu_of hm.room)) (pv 6) (pv 0) (by rfl)))) (fun _ _ _ _ _ => (pe_op (op_catAK (K := K) rfl) (pv 7) (pe_tupN (pa_cons (pv 6) pa_nil))))) pa_nil))))))
    (pss_one (ps_expr (pe_bm PySem.F.plainAttrs_list PySem.F.slot_list_append PySem.F.type_list_append mt_append (pv 2) (pa_cons (pv 4) pa_nil)))))))
    (pss_one (ps_ret (pe_ix ix_list (pv 2) (pe_un un_neg pe_int) (fun _ _ => rfl)))))), ?_⟩
    refine seq_cut fun k1 e1 => ?_
    walk_at "rd"
    refine ⟨by decide, fun e0 H1 he0 s1 at_e0 => ⟨by decide, fun f0 H2 hf0 s2 at_f0 => ⟨by decide, fun fo H3 hfo s3 at_fo => ?_⟩⟩⟩
    have s03 := s1.trans (s2.trans s3)
    have hfo0 : H fo = none := (s1.trans s2).free hfo
    have nf : f0 ≠ fo := ne_of_none at_f0 hfo
    have found0 : FoundAt H3 fo (cutsT L z 0) := ⟨[f0], at_fo, fun h => nf (List.mem_singleton.mp h).symm, .cons ⟨[e0], s3 _ _ at_f0, .cons ((s2.trans s3) _ _ at_e0) .nil⟩ .nil⟩
    clear s1 s2 s3 at_e0 at_f0 at_fo he0 hf0 hfo nf
    subst e1
    try dsimp only
    refine seq_cut fun k1 e1 => ?_
    refine ⟨.str z, rfl, z, rfl, by rw [sizeLine_eq]; omega, _, _, rfl, rfl, 1, z.length + 1, rfl, ⟨by decide, by decide, by omega, by omega⟩, ?_⟩
    rw [show ((z.length : Int) + 1 - 1).toNat = z.length by omega]
    refine for_range (fun i σ H4 => ∃ u3 u4 u5 u6, σ = [some (.ref d), some (.str z), some (.ref fo), u3, u4, u5, u6, none] ∧ Same H H4 ∧ FoundAt H4 fo (cutsT L z i)) ⟨_, _, _, _, rfl, s03, found0⟩ (fun i σ H4 hi ⟨u3, u4, u5, u6, es, s4, ps, fo4, nps, prs⟩ => ?_) (fun σ H4 ⟨u3, u4, u5, u6, es, s4, ps, fo4, nps, prs⟩ => ?_)
    · subst es
      rw [show (1 : Int) + (i : Nat) = ((i + 1 : Nat) : Int) by omega]
      show tSeq _ _ _ _ _
      refine seq_cut fun k2 e2 => ?_
      walk_at "rd"
      refine ⟨by decide, fun ho H5 hho s5 at_ho => ?_⟩
      have fo5 := s5 _ _ fo4
      have nfh : fo ≠ ho := ne_of_none fo4 hho
      have hho0 : H ho = none := s4.free hho
      have lps : ps.length = i + 1 := by rw [Paired.length prs, cutsT_len]
      have nph : ∀ q ∈ ps, q ≠ ho := fun q mq e => by
        obtain ⟨W, _, ⟨ts, a, _⟩⟩ := Paired.mem_left prs mq
        rw [e, hho] at a
        cases a
      have prs5 : Paired (fun q W => WaysAt H5 q W) ps (cutsT L z i) := Paired.mapP prs fun q W h => h.up s5
      subst e2
      try dsimp only
      refine seq_cut fun k2 e2 => ?_
      have elo : (if (((i + 1 : Nat) : Int) - 5) > 0 then (((i + 1 : Nat) : Int) - 5) else 0) = ((i + 1 - 5 : Nat) : Int) := by
        split <;> omega
      refine ⟨.int ((i + 1 : Nat) : Int), rfl, _, _, rfl, rfl, _, _, rfl, .int ((i + 1 : Nat) : Int), rfl, _, _, rfl, ?_, ?_⟩
      · rw [elo]
        exact ⟨by omega, by omega, by omega, by omega⟩
      rw [elo, show (((i + 1 : Nat) : Int) - ((i + 1 - 5 : Nat) : Int)).toNat = i + 1 - (i + 1 - 5) by omega]
      clear elo
      generalize hlo : i + 1 - 5 = lo
      refine for_range (fun j σ H6 => ∃ u5 u6, σ = [some (.ref d), some (.str z), some (.ref fo), some (.int ((i + 1 : Nat) : Int)), some (.ref ho), u5, u6, none] ∧ SameB ho H5 H6 ∧ WaysAt H6 ho (hereW L z (cutsT L z i) lo j (i + 1)) ∧ (hereW L z (cutsT L z i) lo j (i + 1)).length ≤ j * 6 ^ i) ⟨_, _, rfl, fun _ _ _ e => e, ⟨[], at_ho, .nil⟩, Nat.zero_le _⟩ (fun j σ H6 hj ⟨u5, u6, es, s6, w6, l6⟩ => ?_) (fun σ H6 ⟨u5, u6, es, s6, w6, l6⟩ => ?_)
      · subst es
        rw [show (lo : Int) + (j : Nat) = ((lo + j : Nat) : Int) by omega]
        show tSeq _ _ _ _ _
        refine seq_cut fun k3 e3 => ?_
        refine ⟨.str z, rfl, .int ((lo + j : Nat) : Int), rfl, _, rfl, .int ((i + 1 : Nat) : Int), rfl, _, rfl, z, rfl, by rw [sizeLine_eq]; omega, ?_⟩
        show k3 _ _
        have lj : lo + j < (cutsT L z i).length := by
          rw [cutsT_len]
          omega
        obtain ⟨q', W, hq', hW, wq5⟩ := Paired.at prs5 lj
        have wq := wq5.upB (nph q' (List.mem_of_getElem? hq')) at_ho s6
        have gW : (cutsT L z i).getD (lo + j) [] = W := by rw [List.getD_eq_getElem?_getD, hW]; rfl
        have lW : W.length ≤ 6 ^ i := by
          rw [← gW]
          exact Nat.le_trans (ways_few L z i _ (by omega)) (Nat.pow_le_pow_right (by decide) (by omega))
        have p6 : 6 ^ i ≤ 6 ^ 4 := Nat.pow_le_pow_right (by decide) (by omega)
        have p64 : 6 ^ 4 = 1296 := by decide
        obtain ⟨ts0, ho6, prs0⟩ := id w6
        obtain ⟨ts, tq6, prsq⟩ := id wq
        have lts := Paired.length prsq
        have lts0 := Paired.length prs0
        have fo6 := s6 _ _ nfh fo5
        have s06 : Same H H6 := s4.trans (same_of_new hho s5 s6)
        have l6' : j * 6 ^ i ≤ 5 * 6 ^ i := Nat.mul_le_mul_right _ (by omega)
        subst e3
        try dsimp only
        have eseg : cutS z (some ((lo + j : Nat) : Int)) (some ((i + 1 : Nat) : Int)) = seg z (lo + j) (i + 1) := rfl
        rw [eseg]
        generalize hpc : seg z (lo + j) (i + 1) = pc
        have at_i : atI (ps.map V.ref) ((lo + j : Nat) : Int) = some (.ref q') := atI_nat (by rw [List.getElem?_map, hq']; rfl)
        refine ⟨.ref ho, rfl, .inl ⟨rfl, _, sq_lst ho6⟩, .ref fo, rfl, .int ((lo + j : Nat) : Int), rfl, fo, _, _, _, rfl, rfl, sq_lst fo6, at_i, q', rfl, ⟨_, sq_lst tq6⟩, fun D hD => ?_⟩
        refine lc_relF (K := K) (a := q') (xs := ts.map V.ref) ((L.lookup pc).isSome) (fun x y H => ∃ t t' w, x = V.ref t ∧ y = V.ref t' ∧ H6 t = some (.tup (w.map V.str)) ∧ H t' = some (.tup ((w ++ [pc]).map V.str))) ?_ ?_ hD (sq_lst tq6) (by rw [List.length_map]; omega) (fun x => rfl) (fun x H7 mx s7 Q' hQ => ?_) (fun x H7 mx yes s7 Q' hQ => ?_) fun H7 ys s7 at_D prsy => ?_
        · rintro x y H H' sm ⟨t, t', w, ex, ey, h1, h2⟩
          exact ⟨t, t', w, ex, ey, h1, sm _ _ h2⟩
        · rintro x y H l o hl ⟨t, t', w, ex, ey, h1, h2⟩
          exact ⟨t, t', w, ex, ey, h1, new_at hl h2 (fun z => nomatch z)⟩
        · refine ⟨.str pc, rfl, .ref d, rfl, pc, d, L, rfl, rfl, .inl ((s06.trans s7) _ _ hd), ?_⟩
          rw [Bool.bne_false]
          exact ⟨_, rfl, hQ H7 (Same.refl _)⟩
        · obtain ⟨t, mt, rfl⟩ := List.mem_map.mp mx
          obtain ⟨w, mw, htw⟩ := Paired.mem_left prsq mt
          refine ⟨.ref t, rfl, .str pc, rfl, (show 1 ≤ sizeLine by decide), fun t2 H8 nt2 s8 at_t2 => ?_⟩
          have t8 := (s7.trans s8) _ _ htw
          refine ⟨t, t2, w.map V.str, [.str pc], rfl, rfl, sq_tup t8, sq_tup at_t2, ?_, fun e => ?_, fun _ e => (by cases e), fun _ _ p hp => ?_⟩
          · have := ways_short L z i (lo + j) (by omega) w (by rw [gW]; exact mw)
            rw [List.length_map, sizeLine_eq]
            show w.length + 1 ≤ _
            omega
          · have : w = [] := List.map_eq_nil_iff.mp e
            subst this
            exact hQ (.ref t2) H8 s8 ⟨t, t2, [], rfl, rfl, htw, at_t2⟩
          · refine hQ (.ref p) _ (s8.trans (same_new hp)) ⟨t, p, w, rfl, rfl, htw, ?_⟩
            rw [upd_same, List.map_append]
            rfl
        · have fin : ∃ ts' : List Addr, ys = ts'.map V.ref ∧ Paired (fun t w => H7 t = some (.tup (w.map V.str))) ts' (oneW L z (cutsT L z i) (i + 1) (lo + j)) := by
            unfold oneW
            rw [hpc, gW]
            cases yes : (L.lookup pc).isSome with
            | false =>
              rw [yes, if_neg Bool.false_ne_true] at prsy
              rw [if_neg Bool.false_ne_true]
              cases prsy
              exact ⟨[], rfl, .nil⟩
            | true =>
              rw [yes, if_pos rfl] at prsy
              rw [if_pos rfl]
              exact ways_more prsq prsy
          obtain ⟨ts', rfl, prs'⟩ := fin
          have lts' := Paired.length prs'
          have lo1 : (oneW L z (cutsT L z i) (i + 1) (lo + j)).length ≤ 6 ^ i := by
            unfold oneW
            split
            · rw [List.length_map, gW]
              exact lW
            · exact Nat.zero_le _
          have ho7 := s7 _ _ ho6
          refine ⟨ho, D, _, _, rfl, rfl, ho7, at_D, by rw [List.length_map, List.length_map, sizeLine_eq]; omega, ⟨_, _, rfl, s6.step s7, ?_, ?_⟩⟩
          · rw [hereW_succ]
            refine ⟨ts0 ++ ts', ?_, ?_⟩
            · rw [upd_same, List.map_append]
            · exact Paired.joined (Paired.mapP prs0 fun t w h => new_at ho7 (s7 _ _ h) (fun e => nomatch e)) (Paired.mapP prs' fun t w h => new_at ho7 h (fun e => nomatch e))
          · rw [hereW_succ, List.length_append, Nat.succ_mul]
            omega
      · subst es
        subst e2
        have s56 := same_of_new hho s5 s6
        have fo6 := s6 _ _ nfh fo5
        rw [← hlo] at w6
        refine ⟨.ref fo, rfl, .inl ⟨rfl, _, sq_lst fo6⟩, .ref ho, rfl, fo, _, _, rfl, rfl, fo6, by rw [List.length_map, sizeLine_eq]; omega, ⟨_, _, _, _, rfl, same_over (s4.trans s56) hfo0, ?_⟩⟩
        refine ⟨ps ++ [ho], ?_, ?_, ?_⟩
        · rw [upd_same, List.map_append]
          rfl
        · intro m
          rcases List.mem_append.mp m with m | m
          · exact nps m
          · exact nfh (List.mem_singleton.mp m)
        · have keep : ∀ q W, q ≠ fo → WaysAt H6 q W → WaysAt (upd H6 fo (.lst (ps.map V.ref ++ [V.ref ho]))) q W := fun q W ne h => h.upB ne fo6 fun c o n e => by
            rw [upd_ne n]
            exact e
          refine Gd.Paired.snoc ?_ (keep ho _ (Ne.symm nfh) w6)
          exact Paired.map_mem prs5 fun q W mq h => keep q W (fun e => nps (e ▸ mq)) (h.upB (nph q mq) at_ho s6)
    · subst es
      subst e1
      have lps : ps.length = z.length + 1 := by rw [Paired.length prs, cutsT_len]
      obtain ⟨q', W, hq', hW, wq⟩ := Paired.at prs (i := z.length) (by rw [cutsT_len]; omega)
      have gW : (cutsT L z z.length).getD z.length [] = W := by rw [List.getD_eq_getElem?_getD, hW]; rfl
      walk_at "rd"
      refine ⟨_, sq_lst fo4, .ref q', ?_, ?_⟩
      · rw [atI_last (n := z.length) (by rw [List.length_map, lps]), List.getElem?_map, hq']
        rfl
      · exact q q' H4 s4 (by rw [gW]; exact wq)
end
end K06

namespace K06
open PySem PySem.Spec PyProof.Rows L2 Gd
local macro_rules | `(tactic| walk_at "rd") => `(tactic| simp only [tSeq, tPar, tNext, tIfS, tOr, tAnd, tNot, tB, tCB, tCons, tNil, tVar, tC, tRet, tRetN, tAsg, tDrop, gName, gSub, tOp, tUn, tTest, tOrV, tAndV, tNotV, tIf, tBM0, L2.tM1, L2.tM0, tChain, tCall, spKind, rIxL, tLst, tTup, tLstN, tTupN, tDNewN, tSl, tPart, tNoPart, rSlS, rIsB, rNotB, L2.start, L2.rEq, L2.rNe, L2.rI, L2.rI0, L2.rU, cx_K, cx_Kn,
  List.map_cons, List.map_nil, List.length_cons, List.length_nil, List.replicate_succ, List.replicate_zero, List.cons_append, List.nil_append, Nat.reduceAdd, Nat.reduceSub, Nat.zero_add, Nat.sub_self, Nat.reduceSubDiff, Nat.add_sub_cancel,
  List.getElem?_cons_zero, List.getElem?_cons_succ, List.set_cons_zero, List.set_cons_succ, Option.some.injEq, List.cons.injEq, V.bl.injEq, V.int.injEq, V.str.injEq, V.ref.injEq, V.ty.injEq, exists_eq_left, exists_eq_left', exists_eq_right, and_true, true_and, and_assoc, exists_and_left, exists_and_right, if_true, if_false, reduceIte, Bool.not_true, Bool.not_false, Bool.false_eq_true, decide_eq_true_eq, Bool.not_eq_true', Gd.len_str, Gd.tyV_str, reduceCtorEq])
local macro_rules | `(tactic| walk_at "rt") => `(tactic| try (walk_at "rd"))
local macro_rules | `(tactic| walk_at "side") => `(tactic| repeat (refine ⟨by (first | decide | decide +kernel | exact .inl ⟨by decide, by decide⟩ | exact .inr ⟨by decide, by decide⟩), ?_⟩))
local macro_rules | `(tactic| walk_at "up") => `(tactic| first | assumption | exact Same.refl _ | (refine same_at (by assumption) ?_; walk_at "up") | (refine same_go (by assumption) ?_; walk_at "up"))

section
variable {P : Program} {w : World} {K : PySem.W.Frag} {mg : Str → Option Value} {base : Heap} {C : Addr}
def spPof (C : Addr) : Sp := fun vs H Q _ => ∃ b L, vs = [.ref b] ∧ BookAt C H b L ∧ ∀ l H', Same H H' → PairsAt H' l L → Q (.ref l) H'

abbrev s_law_prices_of : Stmt := topS 42
theorem sc_law_prices_of : FnScope ["book"] ["book"] (defScope s_law_prices_of) := ⟨rfl, rfl, rfl, by decide +kernel, rfl, by decide +kernel, by decide +kernel⟩

theorem ok_law_prices_of {f : Addr} {fd : FuncData} (F : Fun K "_law_prices_of" "_law_prices_of" s_law_prices_of f fd) (T : Tx mg) (B : Tb K mg C) (R : Tp P w K mg base C) : FnG P w K mg base CX0 3 f fd ["book"] (spPof C) := by
  obtain ⟨pp, fp, hpp, D_prices⟩ := R.pr_prices
  refine okG F sc_law_prices_of (fun vs H Q E h => ?_) (fun cdv A outer s H vs Q E hr hg h => ?_)
  · obtain ⟨b, L, rfl, _⟩ := h
    rfl
  · have hm : Rm _ (A.deeper _) := ⟨hr, hg⟩
    obtain ⟨b, L, rfl, hB, q⟩ := h
    obtain ⟨⟨dx, d1, t, al, m, n, hb, _⟩, _⟩ := id hB
    refine ⟨_, (pss_one (ps_ret (pe_callTy (call_listI rfl) (by rfl) T.b_list (by decide +kernel) (pa_cons (pe_bm0 PySem.F.plainAttrs_dict PySem.F.slot_dict_items PySem.F.type_dict_items mt_itemsD (pe_propD (pv 0) B.cl hpp D_prices (hm.room.mono (by decide)) rfl)) pa_nil)))), ?_⟩
    refine ⟨.ref b, rfl, b, dx, _, rfl, hb, b, L, rfl, hB, fun p1 H1 hp1 sm1 at1 => ?_⟩
    refine ⟨.inr (.inr (.inl ⟨rfl, .inl ⟨_, at1⟩⟩)), p1, _, rfl, rfl, .inl at1, fun v H2 hv sm2 at_v => ?_⟩
    exact ⟨v, p1, L, rfl, at_v, .inl (sm2 _ _ at1), fun l H3 hl sm3 pa => q l H3 (sm1.trans (sm2.trans sm3)) pa⟩
structure Tw (P : Program) (w : World) (K : PySem.W.Frag) (mg : Str → Option Value) (base : Heap) (C fw : Addr) : Prop where
  m_with : Meth K C "with_price" fw
  d_with : Dk P w K mg base 7 fw ["self", "piece", "price"] (spWith C)
def spPieceR : Sp := fun vs H Q _ => ∃ a d z L S, vs = [.ref a, .ref d, .str z] ∧ H a = some (Dice a) ∧ H d = some (.dK (pr L)) ∧ Sg S ∧ Full S L ∧ (∀ e ∈ L, e.2 ≤ 12) ∧ L.length ≤ 11 ∧ ((2 ≤ z.length ∧ z.length ≤ 5) ∧ Over S z) ∧ ∀ H', Same H H' → Q (.bl true) H'
-- (['dice', 'plain', 'word'], ['dice', 'plain', 'word', 'others', 'least', 'without', 'price', 'book', 'told', 'piece', 'way'], {'others', 'plain', 'word'})
abbrev s_law_piece_right : Stmt := topS 43
theorem sc_law_piece_right : FnScope ["dice", "plain", "word", "others", "least", "without", "price", "book", "told", "piece", "way"] ["dice", "plain", "word"] (defScope s_law_piece_right) := ⟨rfl, rfl, rfl, by decide +kernel, rfl, by decide +kernel, by decide +kernel⟩

theorem ok_law_piece_right {f fc fg fi' fi fw : Addr} {fd : FuncData} (F : Fun K "_law_piece_right" "_law_piece_right" s_law_piece_right f fd) (T : Tx mg) (bs : mg "sum" = none) (B : Tb K mg C) (M : Tm P w K mg base C fi) (O : To P w K mg base C fc fg fi') (W : Tw P w K mg base C fw) (G_law_roll : Df P w K mg base 1 "_law_roll" ["dice", "upto"] spRoll) (G_law_cuts : Df P w K mg base 1 "_law_cuts" ["prices", "text"] spCuts) (G_law_prices_of : Df P w K mg base 3 "_law_prices_of" ["book"] (spPof C)) (G_are_as_cheap : Dn P w K mg base 7 "are_as_cheap" ["book", "other"] (spAlike C)) (G_is_nowhere_dearer : Dn P w K mg base 6 "is_nowhere_dearer" ["book", "other"] (spNowhere C)) (G_dearer_piece : Dn P w K mg base 5 "dearer_piece" ["book", "other"] (spDearer C)) (G_needless : Dn P w K mg base 8 "needless" ["book"] (spNeedless C)) (G_least_book : Dn P w K mg base 9 "least_book" ["book"] (spLeastB C)) : FnG P w K mg base CX0 10 f fd ["dice", "plain", "word"] spPieceR := by
  refine okG F sc_law_piece_right (fun vs H Q E h => ?_) (fun cdv A outer s H vs Q E hr hg h => ?_)
  · obtain ⟨a, d, z, L, S, rfl, _⟩ := h
    rfl
  · have hm : Rm _ (A.deeper _) := ⟨hr, hg⟩
    obtain ⟨a, d, z, L, S, rfl, hda, hd, sg_, full, h12, l11, hz, q⟩ := h
    refine ⟨_, (pss_cons (ps_lock (ps_set (i := 3) sc_law_piece_right.nd rfl (Or.inr rfl) (pe_callTy (call_dictL rfl) (by rfl) T.b_dict (by decide +kernel) (pa_cons (pe_lc (own := [("piece", 9)]) (g := gName 9) (by rfl) sc_law_piece_right.nd (pi_keys (pv 1)) (blkOk_by (own := [("piece", 9)]) (N := ["dice", "plain", "word", "others", "least", "without", "price", "book", "told", "piece", "way"]) (sc := defScope s_law_piece_right) (by decide +kernel)) (fun _ _ _ _ _ => (pg_name (i := 9) sc_law_piece_right.nd rfl (Or.inl rfl))) (fun _ _ _ _ _ => (pts_one (pt_cmpR op_ne (pv 9) (pv 2) (nomark _)))) (fun _ _ _ _ _ => (pe_tupN (pa_cons (pv 9) (pa_cons (pe_dget (hu_of hm.room) (pv 1) (pv 9) (by intro _ _; rfl)) pa_nil))))) pa_nil))))
    (pss_cons (ps_set (i := 4) sc_law_piece_right.nd rfl (Or.inl rfl) (pe_callB (cr_min rfl) (by rfl) T.b_min (by decide +kernel) (pa_cons (pe_lc (own := [("way", 10)]) (g := gName 10) (tt := tYes) (by rfl) sc_law_piece_right.nd (pi_list (pe_callD G_law_cuts (hm.mono (by decide)) (by rfl) (pa_cons (pv 3) (pa_cons (pv 2) pa_nil)))) (blkOk_by (own := [("way", 10)]) (N := ["dice", "plain", "word", "others", "least", "without", "price", "book", "told", "piece", "way"]) (sc := defScope s_law_piece_right) (by decide +kernel)) (fun _ _ _ _ _ => (pg_name (i := 10) sc_law_piece_right.nd rfl (Or.inl rfl))) (fun _ _ _ _ _ => pts_nil) (fun _ _ _ _ _ => (pe_callB (cr_sumK (K := K) rfl rfl) (by rfl) bs (by decide +kernel) (pa_cons (pe_lc (own := [("piece", 9)]) (g := gName 9) (tt := tYes) (by rfl) sc_law_piece_right.nd (pi_tupK (K := K) rfl (pv 10)) (blkOk_by (own := [("piece", 9)]) (by rfl)) (fun _ _ _ _ _ => (pg_name (i := 9) sc_law_piece_right.nd rfl (Or.inl rfl))) (fun _ _ _ _ _ => pts_nil) (fun _ _ _ _ _ => (pe_dget (hu_of hm.room) (pv 3) (pv 9) (by intro _ _; rfl)))) pa_nil)))) pa_nil)))
    (pss_cons (ps_set (i := 5) sc_law_piece_right.nd rfl (Or.inl rfl) (pe_makeD M.make M.init (hm.room.mono (by decide)) (by rfl) B.m_Book (pa_cons (pv 3) pa_nil)))
    (pss_cons (ps_for PassesOwn.never rfl (pi_list (pe_lstN (pa_cons (pv 4) (pa_cons (pe_callB (call_max2 rfl) (by rfl) T.b_max (by decide +kernel) (pa_cons pe_int (pa_cons (pe_op op_sub (pv 4) pe_int) pa_nil))) (pa_cons (pe_callB (call_min2 rfl) (by rfl) T.b_min (by decide +kernel) (pa_cons pe_int (pa_cons (pe_op op_add (pv 4) pe_int) pa_nil))) (pa_cons (pe_op op_add pe_int (pe_callD G_law_roll (hm.mono (by decide)) (by rfl) (pa_cons (pv 0) (pa_cons pe_int pa_nil)))) pa_nil)))))) (pg_name (i := 6) sc_law_piece_right.nd rfl (Or.inl rfl)) (pss_cons (ps_set (i := 7) sc_law_piece_right.nd rfl (Or.inl rfl) (pe_methD (pv 5) B.cl W.m_with W.d_with (hm.room.mono (by decide)) (pa_cons (pv 2) (pa_cons (pv 6) pa_nil))))
    (pss_cons (ps_set (i := 8) sc_law_piece_right.nd rfl (Or.inl rfl) (pe_lstN (pa_cons (pe_callN G_are_as_cheap (hm.room.mono (by decide)) (by rfl) (pa_cons (pv 5) (pa_cons (pv 7) pa_nil))) (pa_cons (pe_callN G_are_as_cheap (hm.room.mono (by decide)) (by rfl) (pa_cons (pv 7) (pa_cons (pv 5) pa_nil))) (pa_cons (pe_cmpR op_in_seq (pv 2) (pe_callN G_needless (hm.room.mono (by decide)) (by rfl) (pa_cons (pv 7) pa_nil)) (by rfl)) pa_nil)))))
    (pss_cons (ps_expr (pe_bm PySem.F.plainAttrs_list PySem.F.slot_list_append PySem.F.type_list_append mt_append (pv 8) (pa_cons (pe_cmpR (op_inOwn O.o_contains O.d_contains (hm.room.mono (by decide))) (pv 2) (pe_callN G_least_book (hm.room.mono (by decide)) (by rfl) (pa_cons (pv 7) pa_nil)) (by rfl)) pa_nil)))
    (pss_cons (ps_if (pt_cmpR op_ne (pe_callB (call_repr hm) (by rfl) T.b_repr (by decide +kernel) (pa_cons (pv 8) pa_nil)) (pe_callB (call_repr hm) (by rfl) T.b_repr (by decide +kernel) (pa_cons (pe_lstN (pa_cons (pe_cmpR op_ge (pv 6) (pv 4) (nomark _)) (pa_cons (pe_cmpR op_ge (pv 6) (pv 4) (nomark _)) (pa_cons (pe_cmpR op_ge (pv 6) (pv 4) (nomark _)) (pa_cons (pe_cmpR op_lt (pv 6) (pv 4) (nomark _)) pa_nil))))) pa_nil)) (nomark _)) (pss_one (ps_ret pe_bl)) pss_nil)
    (pss_cons (ps_set (i := 8) sc_law_piece_right.nd rfl (Or.inl rfl) (pe_lstN (pa_cons (pe_callN G_is_nowhere_dearer (hm.room.mono (by decide)) (by rfl) (pa_cons (pv 7) (pa_cons (pv 5) pa_nil))) (pa_cons (pe_callN G_is_nowhere_dearer (hm.room.mono (by decide)) (by rfl) (pa_cons (pv 5) (pa_cons (pv 7) pa_nil))) (pa_cons (pe_callN G_dearer_piece (hm.room.mono (by decide)) (by rfl) (pa_cons (pv 5) (pa_cons (pv 7) pa_nil))) pa_nil)))))
    (pss_cons (ps_if (pt_cmpR op_ne (pe_callB (call_repr hm) (by rfl) T.b_repr (by decide +kernel) (pa_cons (pv 8) pa_nil)) (pe_callB (call_repr hm) (by rfl) T.b_repr (by decide +kernel) (pa_cons (pe_lstN (pa_cons pe_bl (pa_cons (pe_cmpR op_ge (pv 6) (pv 4) (nomark _)) (pa_cons (pe_ifExp (pt_cmpR op_lt (pv 6) (pv 4) (nomark _)) (pv 2) pe_non) pa_nil)))) pa_nil)) (nomark _)) (pss_one (ps_ret pe_bl)) pss_nil)
    (pss_one (ps_if (PW.pt (pw_or (pt_cmpR op_notN (pe_callN G_dearer_piece (hm.room.mono (by decide)) (by rfl) (pa_cons (pv 7) (pa_cons (pv 5) pa_nil))) pe_non (nomark _)) (pw_or1 (pt_cmpR (op_neD (hm_units hm.room)) (pe_callD G_law_prices_of (hm.mono (by decide)) (by rfl) (pa_cons (pv 5) pa_nil)) (pe_callB (cr_sortedI rfl) (by rfl) T.b_sorted (by decide +kernel) (pa_cons (pe_bm0 PySem.F.plainAttrs_dict PySem.F.slot_dict_items PySem.F.type_dict_items mt_itemsD (pv 3)) pa_nil)) (nomark _))))) (pss_one (ps_ret pe_bl)) pss_nil)))))))))
    (pss_one (ps_ret pe_bl)))))), ?_⟩
    refine seq_cut fun k1 e1 => ?_
    generalize hM : subP L [z] = M
    have fM : Full S M := by
      rw [← hM]
      exact full.sub sg_ fun y m => by
        rw [List.mem_singleton.mp m]
        omega
    have lM : M.length ≤ 11 := by
      rw [← hM]
      exact Nat.le_trans (subP_len L _) l11
    have M12_ : ∀ e ∈ M, e.2 ≤ 12 := fun e m => by
      rw [← hM] at m
      exact h12 e (mem_subP.mp m).1
    have new_ : z ∉ M.map (·.1) := fun m => by
      obtain ⟨e, me, ez⟩ := List.mem_map.mp m
      rw [← hM] at me
      exact (mem_subP.mp me).2 (ez ▸ List.mem_singleton.mpr rfl)
    refine ⟨d, _, hd, trivial, fun od => ?_⟩
    refine ⟨.ref d, rfl, d, od, rfl, .inl ⟨pr L, upd_same, fun D hD => ?_⟩⟩
    refine lc_kpairsG (fun y => !decide (y ∈ [z])) (fun y => (L.lookup y).getD 0) hD upd_same (by omega) (fun x => rfl) (fun e H2 me sm Q' hQ => ?_) (fun e H2 me has sm Q' hQ => ?_) fun H2 sm pa => ?_
    · refine ⟨.str e.1, rfl, .str z, rfl, rfl, ?_⟩
      rw [show (!decide (V.str e.1 = V.str z)) = !decide (e.1 ∈ [z]) by
        congr 1
        rw [decide_eq_decide, List.mem_singleton]
        exact ⟨fun h => V.str.inj h, fun h => h ▸ rfl⟩]
      exact ⟨_, rfl, hQ H2 (Same.refl _)⟩
    · have g1 := dget_pr (z := e.1) (.inr ⟨od, sm _ _ upd_same⟩ : Rd H2 d (.dK (pr L)))
      have l1 := lookup_nodup full.nd e me
      rw [l1] at g1
      refine ⟨.str e.1, rfl, .ref d, rfl, .str e.1, rfl, d, .int e.2, rfl, g1, (by show 2 ≤ sizeLine; decide), fun b H3 hb sm3 at_b => hQ b H3 sm3 ?_⟩
      rw [l1]
      exact at_b
    · rw [subP_vals full.nd, hM] at pa
      refine ⟨D, M, rfl, pa, fun p1 H3 hp sm3 at_p => ?_⟩
      rw [mergeP_new (M := M) (L := []) fM.nd, List.nil_append] at at_p
      have s3 := sm.trans sm3
      have lock := s3 _ _ upd_same
      have s03 := same_lock hd s3
      have hp0 := sm.free hp
      have npd : p1 ≠ d := fun z => by
        rw [z, upd_same] at hp0
        cases hp0
      rw [upd_ne npd] at hp0
      have at1 : upd H3 d (.dK (pr L)) p1 = some (.dK (pr M)) := new_at lock at_p (fun z => nomatch z)
      refine ⟨lock, ?_⟩
      generalize upd H3 d (.dK (pr L)) = H4 at s03 at1 ⊢
      clear lock s3 at_p pa sm sm3 hD hp
      subst e1
      try dsimp only
      refine seq_cut fun k1 e1 => ?_
      refine ⟨.ref p1, rfl, .str z, rfl, p1, M, z, rfl, at1, hz.1.2, fun w5 H5 s5 ways => ?_⟩
      obtain ⟨ts, at_w, prs⟩ := id ways
      generalize hW : (cutsT M z z.length).getD z.length [] = W at prs
      have lW : W.length ≤ 6 ^ 5 := by
        rw [← hW]
        exact Nat.le_trans (ways_few M z z.length _ (Nat.le_refl _)) (Nat.pow_le_pow_right (by decide) hz.1.2)
      have p65 : 6 ^ 5 = 7776 := by decide
      have lts := Paired.length prs
      refine ⟨w5, rfl, ⟨_, sq_lst at_w⟩, fun D2 hD2 => ?_⟩
      refine lc_relF (K := K) (a := w5) (xs := ts.map V.ref) true (fun x y H => ∃ t w, x = V.ref t ∧ y = V.int (costW M w) ∧ H5 t = some (.tup (w.map V.str))) (fun x y H H' sm h => h) (fun x y H l o hl h => h) hD2 (sq_lst at_w) (by rw [List.length_map]; omega) (fun x => rfl) (fun x H7 mx s7 Q' hQ => hQ H7 (Same.refl _)) (fun x H7 mx _ s7 Q' hQ => ?_) fun H7 ys s7 at_D2 prsy => ?_
      · obtain ⟨t, mt, rfl⟩ := List.mem_map.mp mx
        obtain ⟨w1, mw, htw⟩ := Paired.mem_left prs mt
        have lw : w1.length ≤ z.length := ways_short M z z.length _ (Nat.le_refl _) w1 (by rw [hW]; exact mw)
        have inM : ∀ y ∈ w1, (M.lookup y).isSome = true := by
          obtain ⟨h1, _⟩ := ways_right (L := M) (z := z) fM.nd fM.pos z.length z.length (Nat.le_refl _) (Nat.le_refl _) (by rw [pre_all]; exact fM.cov hz.2)
          exact (h1 w1 (by rw [hW]; exact mw)).2
        refine ⟨.ref t, rfl, t, rfl, ⟨_, sq_tup (s7 _ _ htw)⟩, fun D3 hD3 => ?_⟩
        refine lc_tupG (K := K) (fun _ => true) (fun v => match v with | .str y => .int ((M.lookup y).getD 0) | _ => v) hD3 (sq_tup (s7 _ _ htw)) (by rw [List.length_map]; omega) (fun x => rfl) (fun x H8 mx s8 Q'' hQ' => hQ' H8 (Same.refl _)) (fun x H8 mx _ s8 Q'' hQ' => ?_) fun H8 s8 at_D3 => ?_
        · obtain ⟨y, my, rfl⟩ := List.mem_map.mp mx
          obtain ⟨v1, hv1⟩ := Option.isSome_iff_exists.mp (inM y my)
          have g1 := dget_pr (z := y) (Rd.of ((s5.trans (s7.trans s8)) _ _ at1))
          have hq := hQ' H8 (Same.refl _)
          dsimp only at hq
          rw [hv1] at g1 hq
          exact ⟨.ref p1, rfl, .str y, rfl, p1, .int v1, rfl, g1, hq⟩
        · have eD : (List.filter (fun _ => true) (w1.map V.str)).map (fun v => match v with | .str y => V.int ((M.lookup y).getD 0) | _ => v) = (w1.map fun y => (M.lookup y).getD 0).map V.int := by
            rw [List.filter_eq_self.mpr (fun _ _ => rfl), List.map_map, List.map_map]
            rfl
          rw [eD] at at_D3
          exact ⟨D3, _, rfl, sq_lst at_D3, hQ _ H8 s8 ⟨t, w1, rfl, rfl, htw⟩⟩
      · rw [if_pos rfl] at prsy
        have ey := ways_costs prs prsy
        subst ey
        have lc := least_costs fM.nd fM.pos (fM.cov hz.2)
        rw [hW] at lc
        refine ⟨D2, _, rfl, sq_lst at_D2, lc.1, fun m mm le => ?_⟩
        obtain rfl := lc.2 m mm le
        have s17 := s5.trans s7
        have s07 := s03.trans s17
        have at7 := s17 _ _ at1
        clear le mm at_D2 prsy at_w prs lW lts ways hD2 hW
        generalize hT : leastP M z = T_
        have T1 : 1 ≤ T_ := by
          rw [← hT]
          exact fM.one (by omega) hz.2
        have T60 : T_ ≤ 60 := by
          rw [← hT]
          have := fM.most (by decide) M12_ z.length z rfl hz.2
          omega
        subst e1
        try dsimp only
        refine seq_cut fun k1 e1 => ?_
        walk_at "rd"
        refine ⟨.ref p1, rfl, made_book (Q := fun x H1 => k1 [some (.ref a), some (.ref d), some (.str z), some (.ref p1), some (.int T_), some x, none, none, none, none, none] H1) at7 fM.nd (fM.good sg_) fun wb H8 nwb s8 hB => ?_⟩
        have fN := fM.sort
        have newN : z ∉ (sortP M).map (·.1) := fun m => new_ (by
          rw [sortP_keys] at m
          exact (sortT_perm _).mem_iff.mp m)
        have eN := sortP_id (sortP_asc M) fN.nd
        have lN : (sortP M).length ≤ 11 := by
          rw [sortP_len]
          exact lM
        have eT := fM.least hz.2
        rw [hT] at eT
        have g8 := s07.trans s8
        have at8 := s8 _ _ at7
        have n8 := s07.free nwb
        generalize hNd : sortP M = N at *
        subst e1
        try dsimp only
        refine seq_cut fun k1 e1 => ?_
        refine ⟨.int T_, rfl, .int T_, rfl, _, _, rfl, rfl, _, _, rfl, .int T_, rfl, _, _, rfl, rfl, _, _, rfl, .ref a, rfl, a, 99, rfl, by decide, g8 _ _ hda, fun r0 x0 x1 => ⟨_, _, rfl, rfl, (show 4 ≤ sizeLine by decide), fun lp H9 hlp s9 at_lp => ?_⟩⟩
        refine ⟨lp, rfl, ⟨_, sq_lst at_lp⟩, ?_⟩
        have good : ∀ x : V, x ∈ [V.int T_, V.int (if T_ - 1 > 1 then T_ - 1 else 1), V.int (if T_ + 1 < 99 then T_ + 1 else 99), V.int (1 + r0)] → ∃ v, x = V.int v ∧ 1 ≤ v ∧ v ≤ 99 := fun y my => by
          simp only [List.mem_cons, List.not_mem_nil, or_false] at my
          rcases my with rfl | rfl | rfl | rfl
          · exact ⟨_, rfl, by omega, by omega⟩
          · exact ⟨_, rfl, by split <;> omega, by split <;> omega⟩
          · exact ⟨_, rfl, by split <;> omega, by split <;> omega⟩
          · exact ⟨_, rfl, by omega, by omega⟩
        have g9 := g8.trans s9
        generalize hxs : [V.int T_, V.int (if T_ - 1 > 1 then T_ - 1 else 1), V.int (if T_ + 1 < 99 then T_ + 1 else 99), V.int (1 + r0)] = xs at *
        have hB9 := hB.up s9
        have at9 := s9 _ _ at8
        refine for_list (K := K) (a := lp) (xs := xs) (fun j σ H2 => ∃ u1 u2 u3, σ = [some (.ref a), some (.ref d), some (.str z), some (.ref p1), some (.int T_), some (.ref wb), u1, u2, u3, none, none] ∧ Same H9 H2) ⟨_, _, _, rfl, Same.refl _⟩ (fun j σ H2 hj ⟨_, _, _, _, s2⟩ => sq_lst (s2 _ _ at_lp)) (fun j x σ H2 hx ⟨u1, u2, u3, es, s2⟩ => ?_) (fun σ H2 ⟨u1, u2, u3, es, s2⟩ => ?_)
        · obtain ⟨v, rfl, v1, v99⟩ := good x (List.mem_of_getElem? hx)
          subst es
          show tSeq _ _ _ _ _
          refine seq_cut fun k2 e2 => ?_
          have fP : Full S (putP N z v) := fN.put lN ⟨⟨by omega, hz.1.2⟩, hz.2⟩ ⟨v1, v99⟩
          have pd := put_dear sg_ fN lN ⟨⟨by omega, hz.1.2⟩, hz.2⟩ newN ⟨v1, v99⟩
          have pn := put_needless sg_ fN lN hz newN ⟨v1, v99⟩
          rw [eN, eT] at pd
          rw [eT] at pn
          have same : sigsP N = sigsP (sortP (putP N z v)) := fN.same sg_ fP.sort
          have hB2 := hB9.up s2
          obtain ⟨⟨dx, d', t', al, m, n, hb, _⟩, _⟩ := id hB2
          refine ⟨.ref wb, rfl, wb, dx, _, rfl, hb, rfl, .str z, rfl, .int v, rfl, wb, N, z, v, rfl, hB2, over_piece sg_ hz.2 (by omega) hz.1.2, ⟨v1, v99⟩, fP.good sg_, fun bk H3 nbk s3 hR => ?_⟩
          have inR : z ∈ (sortP (putP N z v)).map (·.1) := by
            rw [sortP_keys]
            exact (sortT_perm _).mem_iff.mpr (mem_putP.mpr (.inl rfl))
          generalize sortP (putP N z v) = R at pd pn same hR inR
          have hN3 := hB2.up s3
          subst e2
          try dsimp only
          refine seq_cut fun k2 e2 => ?_
          walk_at "rd"
          refine ⟨wb, N, bk, R, rfl, hN3, hR, same, fun H4 s4 => ?_⟩
          walk_at "rd"
          refine ⟨bk, R, wb, N, rfl, hR.up s4, hN3.up s4, same.symm, fun H5 s5 => ?_⟩
          walk_at "rd"
          refine ⟨bk, R, rfl, (hR.up s4).up s5, fun t5 H6 nt5 s6 at_t5 => ?_⟩
          refine ⟨t5, _, rfl, .inr (sq_tup at_t5), rfl, flat_strs _, (show 3 ≤ sizeLine by decide), fun tp H7 ntp s7 at_tp => ?_⟩
          have eq1 : decide (dearer R N = .non) = true := decide_eq_true pd.1
          have eq2 : decide (dearer N R = .non) = decide (T_ ≤ v) := by
            rw [decide_eq_decide]
            exact pd.2.1
          have eq3 : decide (z ∈ ndl R) = decide (T_ ≤ v) := by
            rw [decide_eq_decide]
            exact pn
          have eq4 : ((subP R (ndl R)).lookup z).isSome = !decide (T_ ≤ v) := by
            rw [← eq3, Bool.eq_iff_iff, ← mem_look, Bool.not_eq_true', decide_eq_false_iff_not]
            constructor
            · intro h
              obtain ⟨e, me, rfl⟩ := List.mem_map.mp h
              exact (mem_subP.mp me).2
            · intro h
              obtain ⟨e, me, rfl⟩ := List.mem_map.mp inR
              exact List.mem_map.mpr ⟨e, mem_subP.mpr ⟨me, h⟩, rfl⟩
          have eq5 : decide (v < T_) = !decide (T_ ≤ v) := by
            rw [Bool.eq_iff_iff, Bool.not_eq_true', decide_eq_false_iff_not, decide_eq_true_eq]
            omega
          have word := pd.2.2
          have main := pd.2.1
          have no := pd.1
          rw [if_neg Bool.false_ne_true, inV_strs, eq1, eq2, eq3, Bool.and_true, Bool.true_and] at at_tp
          clear pd pn
          have s37 := s4.trans (s5.trans (s6.trans s7))
          have hR7 := hR.up s37
          have hN7 := hN3.up s37
          have ntp3 : H3 tp = none := (s4.trans (s5.trans s6)).free ntp
          clear s4 s5 s6 s7 at_t5 ntp nt5
          generalize hc : decide (T_ ≤ v) = c at *
          subst e2
          try dsimp only
          refine seq_cut fun k2 e2 => ?_
          refine ⟨.ref tp, rfl, .inl ⟨rfl, _, sq_lst at_tp⟩, .str z, rfl, .ref bk, rfl, bk, R, rfl, hR7, fun lb H8' nlb s8' hLB => ?_⟩
          obtain ⟨⟨dx2, d2', t2', al2, m2, n2, hb2, _⟩, _⟩ := id hLB
          refine ⟨lb, dx2, _, rfl, hb2, lb, subP R (ndl R), z, rfl, hLB, Nat.le_trans hz.1.2 (by decide), _, rfl, tp, _, _, rfl, rfl, s8' _ _ at_tp, (show 3 < sizeLine by decide), ?_⟩
          rw [eq4, Bool.bne_false]
          show k2 _ _
          have s3a : Same H3 (upd H8' tp (.lst ([V.bl c, V.bl c, V.bl c] ++ [V.bl !c]))) := same_over (s37.trans s8') ntp3
          have at_a : (upd H8' tp (.lst ([V.bl c, V.bl c, V.bl c] ++ [V.bl !c]))) tp = some (.lst ([c, c, c, !c].map V.bl)) := upd_same
          generalize upd H8' tp (.lst ([V.bl c, V.bl c, V.bl c] ++ [V.bl !c])) = Ha at s3a at_a ⊢
          clear at_tp s8' hLB hb2 hR7 hN7 nlb s37 ntp3
          have hRa := hR.up s3a
          have hNa := hN3.up s3a
          have s2a := s2.trans (s3.trans s3a)
          subst e2
          try dsimp only
          refine seq_cut fun k2 e2 => ?_
          walk_at "rd"
          refine ⟨.list ([c, c, c, !c].map PyData.bool), dp_bools at_a, sh_bools _ (show 4 ≤ 1000 by decide), ?_⟩
          rw [eq5, hc]
          refine ⟨by decide, fun l2 Hb hl2 sb at_l2 => ?_⟩
          refine ⟨.list ([c, c, c, !c].map PyData.bool), dp_bools at_l2, sh_bools _ (show 4 ≤ 1000 by decide), rfl, if_same rfl ?_⟩
          have s2b := s2a.trans sb
          have hRb := hRa.up sb
          have hNb := hNa.up sb
          clear hRa hNa at_l2 hl2 at_a s3a
          have eD : dearer N R = if c = true then .non else .str z := by
            cases c with
            | true => exact main.mpr (of_decide_eq_true hc)
            | false => exact word (of_decide_eq_false hc)
          let pd : PyData := if c = true then .none else .str z
          have dpD : ∀ H', Dp K H' (dearer N R) pd := fun H' => by
            rw [eD]
            cases c with
            | true => exact .non
            | false => exact .str z
          have shD : Sh (.list [.bool true, .bool c, pd]) := by
            cases c with
            | true => exact sh_none _ _
            | false => exact sh_word _ _ hz.1.2 (sg_.low hz.2)
          subst e2
          try dsimp only
          refine seq_cut fun k2 e2 => ?_
          walk_at "rd"
          refine ⟨bk, R, wb, N, rfl, hRb, hNb, same.symm, fun H4 s4 => ?_⟩
          walk_at "rd"
          refine ⟨wb, N, bk, R, rfl, hNb.up s4, hRb.up s4, same, fun H5 s5 => ?_⟩
          walk_at "rd"
          refine ⟨wb, N, bk, R, rfl, (hNb.up s4).up s5, (hRb.up s4).up s5, same, fun H6 s6 => ?_⟩
          refine ⟨by decide, fun tq H7 ntq s7 at_tq => ?_⟩
          rw [eq1, eq2] at at_tq
          have sb7 := s4.trans (s5.trans (s6.trans s7))
          subst e2
          try dsimp only
          refine seq_cut fun k2 e2 => ?_
          walk_at "rd"
          refine ⟨.list [.bool true, .bool c, pd], .lst (sq_lst at_tq) (.cons (.bl _) (.cons (.bl _) (.cons (dpD _) .nil))), shD, ?_⟩
          have fin : ∀ H8, Same H7 H8 → k2 [some (V.ref a), some (V.ref d), some (V.str z), some (V.ref p1), some (V.int T_), some (V.ref wb), some (V.int v), some (V.ref bk), some (V.ref tq), none, none] H8 := fun H8 s8 => by
            have sb8 := sb7.trans s8
            subst e2
            walk_at "rd"
            refine ⟨bk, R, wb, N, rfl, hRb.up sb8, hNb.up sb8, same.symm, fun H11 s11 => ?_⟩
            refine if_same no ?_
            refine ⟨wb, N, rfl, (hNb.up sb8).up s11, fun l H12 s12 pa => ?_⟩
            have s2c := s2b.trans (sb8.trans (s11.trans s12))
            have ap := s2c _ _ at9
            have lM1 := good_len (fM.good sg_)
            refine ⟨.inr (.inr (.inl ⟨rfl, .inl ⟨_, ap⟩⟩)), p1, _, rfl, rfl, .inl ap, fun v2 H13 hv2 s13 at_v2 => ?_⟩
            refine ⟨v2, p1, M, rfl, at_v2, .inl (s13 _ _ ap), fM.nd, (fun e => by rw [e] at lM1; simp only [List.length_nil] at lM1; omega), by omega, fun l2' H14 M2 hl2' s14 pa2 pm asc => ?_⟩
            have eM : M2 = N := by
              rw [← hNd]
              have nd2 : (M2.map (·.1)).Nodup := (pm.map _).nodup_iff.mpr fM.nd
              have nd3 : ((sortP M).map (·.1)).Nodup := fM.sort.nd
              exact asc_eq nd2 nd3 asc (sortP_asc M) fun y => lookup_eq nd2 nd3 (fun e => pm.mem_iff.trans (mem_sortP fM.nd).symm) y
            subst eM
            have okN : ∀ e ∈ M2, PyData.strOk e.1 = true := fun e me => over_ok sg_ (fN.over me)
            refine ⟨pdP M2, pdP M2, dp_pairs (pa.up (s13.trans s14)), dp_pairs pa2, shaped_pdP okN, shaped_pdP okN, ?_⟩
            rw [eqv_pdP]
            exact ⟨false, rfl, by rw [if_neg Bool.false_ne_true]; exact s2c.trans (s13.trans s14)⟩
          split
          · refine ⟨by decide, fun l3 H8 hl3 s8 at_l3 => ?_⟩
            have ec : c = false := by
              rw [← hc]
              exact decide_eq_false (by omega)
            subst ec
            exact ⟨.list [.bool true, .bool false, .str z], .lst (sq_lst at_l3) (.cons (.bl _) (.cons (by rw [hc]; exact .bl _) (.cons (.str z) .nil))), sh_word _ _ hz.1.2 (sg_.low hz.2), rfl, if_same rfl (fin H8 s8)⟩
          · refine ⟨by decide, fun l3 H8 hl3 s8 at_l3 => ?_⟩
            have ec : c = true := by
              rw [← hc]
              exact decide_eq_true (by omega)
            subst ec
            exact ⟨.list [.bool true, .bool true, .none], .lst (sq_lst at_l3) (.cons (.bl _) (.cons (by rw [hc]; exact .bl _) (.cons .non .nil))), sh_none _ _, rfl, if_same rfl (fin H8 s8)⟩
        · subst es
          subst e1
          exact q H2 (g9.trans s2)
end
end K06

namespace K06
open PySem PySem.Spec PyProof.Rows L2 Gd
local macro_rules | `(tactic| walk_at "rd") => `(tactic| simp only [tSeq, tPar, tNext, tIfS, tOr, tAnd, tNot, tB, tCB, tCons, tNil, tVar, tC, tRet, tRetN, tAsg, tDrop, gName, gSub, tOp, tUn, tTest, tOrV, tAndV, tNotV, tIf, tBM0, L2.tM1, L2.tM0, tChain, tCall, spKind, rIxL, tLst, tTup, tLstN, tTupN, tDNewN, tSl, tPart, tNoPart, rSlS, rIsB, rNotB, L2.start, L2.rEq, L2.rNe, L2.rI, L2.rI0, L2.rU, cx_K, cx_Kn,
  List.map_cons, List.map_nil, List.length_cons, List.length_nil, List.replicate_succ, List.replicate_zero, List.cons_append, List.nil_append, Nat.reduceAdd, Nat.reduceSub, Nat.zero_add, Nat.sub_self, Nat.reduceSubDiff, Nat.add_sub_cancel,
  List.getElem?_cons_zero, List.getElem?_cons_succ, List.set_cons_zero, List.set_cons_succ, Option.some.injEq, List.cons.injEq, V.bl.injEq, V.int.injEq, V.str.injEq, V.ref.injEq, V.ty.injEq, exists_eq_left, exists_eq_left', exists_eq_right, and_true, true_and, and_assoc, exists_and_left, exists_and_right, if_true, if_false, reduceIte, Bool.not_true, Bool.not_false, Bool.false_eq_true, decide_eq_true_eq, Bool.not_eq_true', Gd.len_str, Gd.tyV_str, reduceCtorEq])
local macro_rules | `(tactic| walk_at "rt") => `(tactic| try (walk_at "rd"))
local macro_rules | `(tactic| walk_at "side") => `(tactic| repeat (refine ⟨by (first | decide | decide +kernel | exact .inl ⟨by decide, by decide⟩ | exact .inr ⟨by decide, by decide⟩), ?_⟩))
local macro_rules | `(tactic| walk_at "up") => `(tactic| first | assumption | exact Same.refl _ | (refine same_at (by assumption) ?_; walk_at "up") | (refine same_go (by assumption) ?_; walk_at "up"))

section
variable {P : Program} {w : World} {K : PySem.W.Frag} {mg : Str → Option Value} {base : Heap} {C : Addr}
def spSignR : Sp := fun vs H Q _ => ∃ a d z L S, vs = [.ref a, .ref d, .str z] ∧ H a = some (Dice a) ∧ H d = some (.dK (pr L)) ∧ Sg S ∧ Full S L ∧ L.length ≤ 11 ∧ z ∈ S ∧ ∀ H', Same H H' → Q (.bl true) H'
-- (['dice', 'plain', 'sign'], ['dice', 'plain', 'sign', 'price', 'book', 'other', 'told', 'due'], set())
abbrev s_law_sign_right : Stmt := topS 44
theorem sc_law_sign_right : FnScope ["dice", "plain", "sign", "price", "book", "other", "told", "due"] ["dice", "plain", "sign"] (defScope s_law_sign_right) := ⟨rfl, rfl, rfl, by decide +kernel, rfl, by decide +kernel, by decide +kernel⟩

theorem ok_law_sign_right {f fc fg fi' fi fw : Addr} {fd : FuncData} (F : Fun K "_law_sign_right" "_law_sign_right" s_law_sign_right f fd) (T : Tx mg) (B : Tb K mg C) (M : Tm P w K mg base C fi) (O : To P w K mg base C fc fg fi') (W : Tw P w K mg base C fw) (G_law_roll : Df P w K mg base 1 "_law_roll" ["dice", "upto"] spRoll) (G_are_as_cheap : Dn P w K mg base 7 "are_as_cheap" ["book", "other"] (spAlike C)) (G_is_nowhere_dearer : Dn P w K mg base 6 "is_nowhere_dearer" ["book", "other"] (spNowhere C)) (G_needless : Dn P w K mg base 8 "needless" ["book"] (spNeedless C)) (G_least_book : Dn P w K mg base 9 "least_book" ["book"] (spLeastB C)) : FnG P w K mg base CX0 10 f fd ["dice", "plain", "sign"] spSignR := by
  refine okG F sc_law_sign_right (fun vs H Q E h => ?_) (fun cdv A outer s H vs Q E hr hg h => ?_)
  · obtain ⟨a, d, z, L, S, rfl, _⟩ := h
    rfl
  · have hm : Rm _ (A.deeper _) := ⟨hr, hg⟩
    obtain ⟨a, d, z, L, S, rfl, hda, hd, sg_, full, l11, hz, q⟩ := h
    refine ⟨_, (pss_cons (ps_set (i := 3) sc_law_sign_right.nd rfl (Or.inl rfl) (pe_op op_add pe_int (pe_callD G_law_roll (hm.mono (by decide)) (by rfl) (pa_cons (pv 0) (pa_cons pe_int pa_nil)))))
    (pss_cons (ps_set (i := 4) sc_law_sign_right.nd rfl (Or.inl rfl) (pe_makeD M.make M.init (hm.room.mono (by decide)) (by rfl) B.m_Book (pa_cons (pv 1) pa_nil)))
    (pss_cons (ps_set (i := 5) sc_law_sign_right.nd rfl (Or.inl rfl) (pe_methD (pv 4) B.cl W.m_with W.d_with (hm.room.mono (by decide)) (pa_cons (pv 2) (pa_cons (pv 3) pa_nil))))
    (pss_cons (ps_set (i := 6) sc_law_sign_right.nd rfl (Or.inl rfl) (pe_lstN (pa_cons (pe_callN G_are_as_cheap (hm.room.mono (by decide)) (by rfl) (pa_cons (pv 4) (pa_cons (pv 5) pa_nil))) (pa_cons (pe_callN G_is_nowhere_dearer (hm.room.mono (by decide)) (by rfl) (pa_cons (pv 5) (pa_cons (pv 4) pa_nil))) (pa_cons (pe_callN G_is_nowhere_dearer (hm.room.mono (by decide)) (by rfl) (pa_cons (pv 4) (pa_cons (pv 5) pa_nil))) pa_nil)))))
    (pss_cons (ps_expr (pe_bm PySem.F.plainAttrs_list PySem.F.slot_list_append PySem.F.type_list_append mt_append (pv 6) (pa_cons (pe_or (pe_cmpR op_in_seq (pv 2) (pe_callN G_needless (hm.room.mono (by decide)) (by rfl) (pa_cons (pv 5) pa_nil)) (by rfl)) (pe_one (pe_cmpR (op_notinOwn O.o_contains O.d_contains (hm.room.mono (by decide))) (pv 2) (pe_callN G_least_book (hm.room.mono (by decide)) (by rfl) (pa_cons (pv 5) pa_nil)) (by rfl)))) pa_nil)))
    (pss_cons (ps_set (i := 7) sc_law_sign_right.nd rfl (Or.inl rfl) (pe_lstN (pa_cons (pe_cmpR op_eq (pv 3) (pe_dget (hu_of hm.room) (pv 1) (pv 2) (by intro _ _; rfl)) (nomark _)) (pa_cons (pe_cmpR op_le (pv 3) (pe_dget (hu_of hm.room) (pv 1) (pv 2) (by intro _ _; rfl)) (nomark _)) (pa_cons (pe_cmpR op_ge (pv 3) (pe_dget (hu_of hm.room) (pv 1) (pv 2) (by intro _ _; rfl)) (nomark _)) (pa_cons pe_bl pa_nil))))))
    (pss_one (ps_ret (pe_cmpR op_eq (pe_callB (call_repr hm) (by rfl) T.b_repr (by decide +kernel) (pa_cons (pv 6) pa_nil)) (pe_callB (call_repr hm) (by rfl) T.b_repr (by decide +kernel) (pa_cons (pv 7) pa_nil)) (nomark _)))))))))), ?_⟩
    refine seq_cut fun k1 e1 => ?_
    walk_at "rd"
    refine ⟨a, 99, rfl, by decide, hda, fun r0 x0 x1 => ⟨_, rfl, ?_⟩⟩
    subst e1
    try dsimp only
    refine seq_cut fun k1 e1 => ?_
    walk_at "rd"
    refine ⟨.ref d, rfl, made_book (Q := fun x H1 => k1 [some (.ref a), some (.ref d), some (.str z), some (.int (1 + r0)), some x, none, none, none] H1) hd full.nd (full.good sg_) fun wb H8 nwb s8 hB => ?_⟩
    have fN := full.sort
    have eN := sortP_id (sortP_asc L) fN.nd
    have lN : (sortP L).length ≤ 11 := by
      rw [sortP_len]
      exact l11
    have lz := sg_.len hz
    obtain ⟨u, hu⟩ := Option.isSome_iff_exists.mp (mem_look.mp (full.has z hz))
    have huN : (sortP L).lookup z = some u := by rw [lookup_sortP full.nd, hu]
    obtain ⟨fP, p1, p2⟩ := sign_dear sg_ fN lN hz huN (v := 1 + r0) ⟨by omega, by omega⟩
    rw [eN] at p1 p2
    have same := fN.same sg_ fP.sort
    have inR : z ∈ (sortP (putP (sortP L) z (1 + r0))).map (·.1) := fP.sort.has z hz
    have oz := sg_.over hz
    generalize hNd : sortP L = N at *
    obtain ⟨⟨dx, d', t', al, m, n, hb, _⟩, _⟩ := id hB
    subst e1
    try dsimp only
    refine seq_cut fun k1 e1 => ?_
    walk_at "rd"
    refine ⟨.ref wb, rfl, wb, dx, _, rfl, hb, rfl, .str z, rfl, .int (1 + r0), rfl, wb, N, z, 1 + r0, rfl, hB, over_piece sg_ oz (by omega) (by omega), ⟨by omega, by omega⟩, fP.good sg_, fun bk H3 nbk s3 hR => ?_⟩
    generalize sortP (putP N z (1 + r0)) = R at p1 p2 same hR inR
    generalize 1 + r0 = v at *
    have hN3 := hB.up s3
    have s03 := s8.trans s3
    have notN : z ∉ ndl R := fun h => by
      obtain ⟨_, _, h2, _⟩ := mem_ndl.mp h
      omega
    have eq1 : decide (dearer R N = .non) = decide (v ≤ u) := by
      rw [decide_eq_decide]
      exact p1
    have eq2 : decide (dearer N R = .non) = decide (u ≤ v) := by
      rw [decide_eq_decide]
      exact p2
    have eq4 : ((subP R (ndl R)).lookup z).isSome = true := by
      rw [← mem_look]
      obtain ⟨e, me, rfl⟩ := List.mem_map.mp inR
      exact List.mem_map.mpr ⟨e, mem_subP.mpr ⟨me, notN⟩, rfl⟩
    subst e1
    try dsimp only
    refine seq_cut fun k1 e1 => ?_
    walk_at "rd"
    refine ⟨wb, N, bk, R, rfl, hN3, hR, same, fun H4 s4 => ?_⟩
    walk_at "rd"
    refine ⟨bk, R, wb, N, rfl, hR.up s4, hN3.up s4, same.symm, fun H5 s5 => ?_⟩
    walk_at "rd"
    refine ⟨wb, N, bk, R, rfl, (hN3.up s4).up s5, (hR.up s4).up s5, same, fun H6 s6 => ?_⟩
    refine ⟨by decide, fun tp H7 ntp s7 at_tp => ?_⟩
    have s37 := s4.trans (s5.trans (s6.trans s7))
    have ntp3 : H3 tp = none := (s4.trans (s5.trans s6)).free ntp
    have hR7 := hR.up s37
    rw [eq1, eq2] at at_tp
    subst e1
    try dsimp only
    refine seq_cut fun k1 e1 => ?_
    walk_at "rd"
    refine ⟨.ref tp, rfl, .inl ⟨rfl, _, sq_lst at_tp⟩, .str z, rfl, .ref bk, rfl, bk, R, rfl, hR7, fun t5 H8' nt5 s8' at_t5 => ?_⟩
    refine ⟨t5, _, rfl, .inr (sq_tup at_t5), rfl, flat_strs _, false, by rw [if_neg Bool.false_ne_true, inV_strs, decide_eq_false notN], ?_⟩
    rw [if_neg Bool.false_ne_true]
    refine ⟨.str z, rfl, .ref bk, rfl, bk, R, rfl, hR7.up s8', fun lb H9 nlb s9 hLB => ?_⟩
    obtain ⟨⟨dx2, d2', t2', al2, m2, n2, hb2, _⟩, _⟩ := id hLB
    have s89 := s8'.trans s9
    refine ⟨lb, dx2, _, rfl, hb2, lb, subP R (ndl R), z, rfl, hLB, (show z.length ≤ _ by rw [lz]; decide), _, rfl, tp, _, _, rfl, rfl, s89 _ _ at_tp, (show 3 < sizeLine by decide), ?_⟩
    rw [eq4, show (true != true) = false from rfl]
    show k1 _ _
    have s3a : Same H3 (upd H9 tp (.lst ([V.bl (decide (u ≤ v) && decide (v ≤ u)), V.bl (decide (v ≤ u)), V.bl (decide (u ≤ v))] ++ [V.bl false]))) := same_over (s37.trans s89) ntp3
    have at_a : (upd H9 tp (.lst ([V.bl (decide (u ≤ v) && decide (v ≤ u)), V.bl (decide (v ≤ u)), V.bl (decide (u ≤ v))] ++ [V.bl false]))) tp = some (.lst ([decide (u ≤ v) && decide (v ≤ u), decide (v ≤ u), decide (u ≤ v), false].map V.bl)) := upd_same
    generalize upd H9 tp (.lst ([V.bl (decide (u ≤ v) && decide (v ≤ u)), V.bl (decide (v ≤ u)), V.bl (decide (u ≤ v))] ++ [V.bl false])) = Ha at s3a at_a ⊢
    have s0a := s03.trans s3a
    have g1 := dget_pr (z := z) (Rd.of (s0a _ _ hd))
    rw [hu] at g1
    subst e1
    try dsimp only
    refine seq_cut fun k1 e1 => ?_
    walk_at "rd"
    refine ⟨.ref d, rfl, .str z, rfl, d, .int u, rfl, g1, rfl, .ref d, rfl, .str z, rfl, d, .int u, rfl, g1, _, rfl, .ref d, rfl, .str z, rfl, d, .int u, rfl, g1, _, rfl, by decide, fun du Hb ndu sb at_du => ?_⟩
    have e0 : decide (V.int v = V.int u) = (decide (u ≤ v) && decide (v ≤ u)) := by
      rw [Bool.eq_iff_iff, Bool.and_eq_true, decide_eq_true_eq, decide_eq_true_eq, decide_eq_true_eq]
      constructor
      · intro h
        have := V.int.inj h
        omega
      · intro h
        exact congrArg V.int (by omega)
    rw [e0] at at_du
    have at_b := sb _ _ at_a
    subst e1
    try dsimp only
    walk_at "rd"
    refine ⟨.list ([decide (u ≤ v) && decide (v ≤ u), decide (v ≤ u), decide (u ≤ v), false].map PyData.bool), dp_bools at_b, sh_bools _ (show 4 ≤ 1000 by decide), ?_⟩
    refine ⟨.list ([decide (u ≤ v) && decide (v ≤ u), decide (v ≤ u), decide (u ≤ v), false].map PyData.bool), dp_bools at_du, sh_bools _ (show 4 ≤ 1000 by decide), ?_⟩
    refine ⟨rfl, ?_⟩
    rw [decide_eq_true rfl]
    exact q Hb (s0a.trans sb)
end
end K06

namespace K06
open PySem PySem.Spec PyProof.Rows L2 Gd
local macro_rules | `(tactic| walk_at "rd") => `(tactic| simp only [tSeq, tPar, tNext, tIfS, tOr, tAnd, tNot, tB, tCB, tCons, tNil, tVar, tC, tRet, tRetN, tAsg, tDrop, gName, gSub, tOp, tUn, tTest, tOrV, tAndV, tNotV, tIf, tBM0, L2.tM1, L2.tM0, tChain, tCall, spKind, rIxL, tLst, tTup, tLstN, tTupN, tDNewN, tSl, tPart, tNoPart, rSlS, rIsB, rNotB, L2.start, L2.rEq, L2.rNe, L2.rI, L2.rI0, L2.rU, cx_K, cx_Kn,
  List.map_cons, List.map_nil, List.length_cons, List.length_nil, List.replicate_succ, List.replicate_zero, List.cons_append, List.nil_append, Nat.reduceAdd, Nat.reduceSub, Nat.zero_add, Nat.sub_self, Nat.reduceSubDiff, Nat.add_sub_cancel,
  List.getElem?_cons_zero, List.getElem?_cons_succ, List.set_cons_zero, List.set_cons_succ, Option.some.injEq, List.cons.injEq, V.bl.injEq, V.int.injEq, V.str.injEq, V.ref.injEq, V.ty.injEq, exists_eq_left, exists_eq_left', exists_eq_right, and_true, true_and, and_assoc, exists_and_left, exists_and_right, if_true, if_false, reduceIte, Bool.not_true, Bool.not_false, Bool.false_eq_true, decide_eq_true_eq, Bool.not_eq_true', Gd.len_str, Gd.tyV_str, reduceCtorEq])
local macro_rules | `(tactic| walk_at "rt") => `(tactic| try (walk_at "rd"))
local macro_rules | `(tactic| walk_at "side") => `(tactic| repeat (refine ⟨by (first | decide | decide +kernel | exact .inl ⟨by decide, by decide⟩ | exact .inr ⟨by decide, by decide⟩), ?_⟩))
local macro_rules | `(tactic| walk_at "up") => `(tactic| first | assumption | exact Same.refl _ | (refine same_at (by assumption) ?_; walk_at "up") | (refine same_go (by assumption) ?_; walk_at "up"))

section
variable {P : Program} {w : World} {K : PySem.W.Frag} {mg : Str → Option Value} {base : Heap} {C : Addr}
/-- law's: a list of at most 63 integers is handed in, True comes out -/
def spLaw (K : PySem.W.Frag) : Sp := fun vs H Q _ => ∃ (a : Addr) (ns : List Int), vs = [.ref a] ∧ SqL K H a (ns.map V.int) ∧ ns.length ≤ 63 ∧ ∀ H', Q (.bl true) H'
-- (['script'], ['script', 'spot', 'dice', 'signs', 'plain', 'word', 'long', 'piece'], set())
-- long = [piece for piece in plain if len(piece) > 1]
abbrev s_law : Stmt := topS 45
theorem sc_law : FnScope ["script", "spot", "dice", "signs", "plain", "word", "long", "piece"] ["script"] (defScope s_law) := ⟨rfl, rfl, rfl, by decide +kernel, rfl, by decide +kernel, by decide +kernel⟩

theorem ok_law {f : Addr} {fd : FuncData} (F : Fun K "law" "law" s_law f fd) (T : Tx mg) (G_law_dice : Df P w K mg base 1 "_law_dice" ["script", "spot"] (spDice K)) (G_law_roll : Df P w K mg base 1 "_law_roll" ["dice", "upto"] spRoll) (G_someS : Df P w K mg base 2 "_law_some" ["dice", "items", "many"] spSomeS) (G_law_pick : Df P w K mg base 2 "_law_pick" ["dice", "items"] (spPick K)) (G_law_letters : Df P w K mg base 3 "_law_letters" ["dice", "signs", "many"] (spLetters K)) (G_law_prices : Df P w K mg base 3 "_law_prices" ["dice", "signs", "many", "upto"] (spPricesL K)) (G_law_piece_right : Df P w K mg base 10 "_law_piece_right" ["dice", "plain", "word"] spPieceR) (G_law_sign_right : Df P w K mg base 10 "_law_sign_right" ["dice", "plain", "sign"] spSignR) : FnG P w K mg base CX0 11 f fd ["script"] (spLaw K) := by
  refine okG F sc_law (fun vs H Q E h => ?_) (fun cdv A outer s H vs Q E hr hg h => ?_)
  · obtain ⟨a, ns, rfl, _⟩ := h
    rfl
  · have hm : Rm _ (A.deeper _) := ⟨hr, hg⟩
    obtain ⟨a, ns, rfl, hS, many, q⟩ := h
    refine ⟨_, (pss_cons (ps_for PassesOwn.never rfl (pi_range1 rfl T.b_range (pa_cons (pe_callB (call_max2 rfl) (by rfl) T.b_max (by decide +kernel) (pa_cons pe_int (pa_cons (pe_callB (call_min2 rfl) (by rfl) T.b_min (by decide +kernel) (pa_cons pe_int (pa_cons (pe_callB call_len (by rfl) T.b_len (by decide +kernel) (pa_cons (pv 0) pa_nil)) pa_nil))) pa_nil))) pa_nil)) (pg_name (i := 1) sc_law.nd rfl (Or.inl rfl)) (pss_cons (ps_set (i := 2) sc_law.nd rfl (Or.inl rfl) (pe_callD G_law_dice (hm.mono (by decide)) (by rfl) (pa_cons (pv 0) (pa_cons (pv 1) pa_nil))))
    (pss_cons (ps_set (i := 3) sc_law.nd rfl (Or.inl rfl) (pe_callD G_someS (hm.mono (by decide)) (by rfl) (pa_cons (pv 2) (pa_cons pe_str (pa_cons (pe_op op_add pe_int (pe_callD G_law_roll (hm.mono (by decide)) (by rfl) (pa_cons (pv 2) (pa_cons pe_int pa_nil)))) pa_nil)))))
    (pss_cons (ps_set (i := 4) sc_law.nd rfl (Or.inl rfl) (pe_callD G_law_prices (hm.mono (by decide)) (by rfl) (pa_cons (pv 2) (pa_cons (pv 3) (pa_cons (pe_callD G_law_roll (hm.mono (by decide)) (by rfl) (pa_cons (pv 2) (pa_cons pe_int pa_nil))) (pa_cons pe_int pa_nil))))))
    (pss_cons (ps_set (i := 5) sc_law.nd rfl (Or.inl rfl) (pe_callD G_law_letters (hm.mono (by decide)) (by rfl) (pa_cons (pv 2) (pa_cons (pv 3) (pa_cons (pe_op op_add pe_int (pe_callD G_law_roll (hm.mono (by decide)) (by rfl) (pa_cons (pv 2) (pa_cons pe_int pa_nil)))) pa_nil)))))
    (pss_cons (ps_lock (ps_setLc (i := 6) (own := [("piece", 7)]) (g := gName 7) (by rfl) sc_law.nd rfl rfl (sw_true rfl rfl rfl (by decide +kernel)) (pi_keys (pv 4)) (blkOk_by (own := [("piece", 7)]) (N := ["script", "spot", "dice", "signs", "plain", "word", "long", "piece"]) (sc := defScope s_law) (by decide +kernel)) (fun _ _ _ _ _ => (pg_name (i := 7) sc_law.nd rfl (Or.inl rfl))) (fun _ _ _ _ _ => (pts_one (pt_cmpR op_gt (pe_callB call_len_str (by rfl) T.b_len (by decide +kernel) (pa_cons (pv 7) pa_nil)) pe_int (nomark _)))) (fun _ _ _ _ _ => (pv 7))))
    (pss_cons (ps_if (PW.pt (pw_and (pt_cmpR (op_neD (hm_units hm.room)) (pv 6) (pe_lstN pa_nil) (nomark _)) (pw_and1 (pt_cmpR op_eq (pe_callD G_law_roll (hm.mono (by decide)) (by rfl) (pa_cons (pv 2) (pa_cons pe_int pa_nil))) pe_int (nomark _))))) (pss_one (ps_set (i := 5) sc_law.nd rfl (Or.inl rfl) (pe_callD G_law_pick (hm.mono (by decide)) (by rfl) (pa_cons (pv 2) (pa_cons (pv 6) pa_nil))))) pss_nil)
    (pss_one (ps_if (PW.pt (pw_or (pt_not (pt_val (pe_callD G_law_piece_right (hm.mono (by decide)) (by rfl) (pa_cons (pv 2) (pa_cons (pv 4) (pa_cons (pv 5) pa_nil)))))) (pw_or1 (pt_not (pt_val (pe_callD G_law_sign_right (hm.mono (by decide)) (by rfl) (pa_cons (pv 2) (pa_cons (pv 4) (pa_cons (pe_callD G_law_pick (hm.mono (by decide)) (by rfl) (pa_cons (pv 2) (pa_cons (pv 3) pa_nil))) pa_nil))))))))) (pss_one (ps_ret pe_bl)) pss_nil)))))))))
    (pss_one (ps_ret pe_bl))), ?_⟩
    refine seq_cut fun k1 e1 => ?_
    have n1 : (if (if (ns.length : Int) < 8 then (ns.length : Int) else 8) > 1 then (if (ns.length : Int) < 8 then (ns.length : Int) else 8) else 1) ≤ 8 := by
      split <;> split <;> omega
    have n0 : 0 ≤ (if (if (ns.length : Int) < 8 then (ns.length : Int) else 8) > 1 then (if (ns.length : Int) < 8 then (ns.length : Int) else 8) else 1) := by
      split <;> split <;> omega
    refine ⟨_, rfl, .ref a, ns.length, rfl, .inl ⟨_, hS, by rw [List.length_map]⟩, 8, (ns.length : Int), rfl, 1, _, rfl, _, rfl, by omega, by omega, ?_⟩
    generalize (if (if (ns.length : Int) < 8 then (ns.length : Int) else 8) > 1 then (if (ns.length : Int) < 8 then (ns.length : Int) else 8) else 1) = n at n0 n1 ⊢
    refine for_range (fun i σ H' => (∃ x1 x2 x3 x4 x5 x6, σ = [some (.ref a), x1, x2, x3, x4, x5, x6, none]) ∧ Same H H') ⟨⟨_, _, _, _, _, _, rfl⟩, Same.refl _⟩ ?_ ?_
    · rintro i σ H1 hi ⟨⟨x1, x2, x3, x4, x5, x6, rfl⟩, sm_H1⟩
      refine seq_cut fun k2 e2 => ?_
      walk_at "rd"
      refine ⟨a, ns, _, rfl, by omega, sm_H1.seq hS, many, fun p hp => ?_⟩
      have sm_H2 := sm_H1.trans (same_new (o := Dice p) hp)
      have dp : (upd H1 p (Dice p)) p = some (Dice p) := upd_same
      generalize upd H1 p (Dice p) = H2 at sm_H2 dp ⊢
      subst e2
      try dsimp only
      refine seq_cut fun k2 e2 => ?_
      walk_at "rd"
      refine ⟨p, 3, rfl, by decide, dp, fun x x0 x1 => ⟨x, rfl, ?_⟩⟩
      refine ⟨p, ABC, _, 1 + x, rfl, dp, rfl, ⟨by omega, by omega⟩, by decide, fun rs ys rest H3 nrs s3 at_rs pm yl => ?_⟩
      obtain ⟨S, rfl, ndS, lowS⟩ := some_letters pm
      have lenS : 1 ≤ S.length ∧ S.length ≤ 3 := by
        rw [List.length_map, List.length_map, List.length_map, str_len, show ABC.length = 26 from rfl] at yl
        omega
      have sg_ : Sg S := ⟨⟨lenS.1, by omega⟩, lowS, ndS⟩
      clear yl pm
      subst e2
      try dsimp only
      refine seq_cut fun k2 e2 => ?_
      walk_at "rd"
      refine ⟨p, 7, rfl, by decide, s3 _ _ dp, fun m m0 m1 => ?_⟩
      refine ⟨p, rs, S, m, 12, rfl, s3 _ _ dp, sq_lst at_rs, sg_, ⟨by omega, by omega⟩, ⟨by decide, by decide⟩, fun d L H4 nd4 s4 hd full h12 len => ?_⟩
      have l11 : L.length ≤ 11 := by omega
      subst e2
      try dsimp only
      refine seq_cut fun k2 e2 => ?_
      walk_at "rd"
      refine ⟨p, 4, rfl, by decide, (s3.trans s4) _ _ dp, fun y y0 y1 => ⟨y, rfl, ?_⟩⟩
      refine ⟨p, rs, S, 2 + y, rfl, (s3.trans s4) _ _ dp, sq_lst (s4 _ _ at_rs), sg_, ⟨by omega, by omega⟩, fun z H5 s5 lz oz => ?_⟩
      have hz : (2 ≤ z.length ∧ z.length ≤ 5) ∧ Over S z := ⟨by omega, oz⟩
      have s25 := s3.trans (s4.trans s5)
      have hd5 := s5 _ _ hd
      have rs5 := (s4.trans s5) _ _ at_rs
      have p5 := s25 _ _ dp
      have s05 := sm_H2.trans s25
      clear nd4 hd s3 s4 s5 at_rs lz oz nrs
      subst e2
      try dsimp only
      refine seq_cut fun k2 e2 => ?_
      refine ⟨d, _, hd5, trivial, fun od => ?_⟩
      refine ⟨.ref d, rfl, d, od, rfl, .inl ⟨pr L, upd_same, fun D hD => ?_⟩⟩
      refine lc_keysG (fun y => decide (1 < y.length)) V.str hD upd_same (by omega) (fun x => rfl) (fun e H6 me s6 Q' hQ => ?_) (fun e H6 me _ s6 Q' hQ => ⟨.str e.1, rfl, hQ H6 (Same.refl _)⟩) fun H6 s6 at_D => ?_
      · have le := full.pos e me
        have hq := hQ H6 (Same.refl _)
        refine ⟨.str e.1, rfl, e.1, rfl, Nat.le_trans le.2 (by decide), _, _, rfl, rfl, _, rfl, ?_⟩
        rw [show decide ((1 : Int) < (e.1.length : Int)) = decide (1 < e.1.length) by rw [decide_eq_decide]; omega]
        exact hq
      · refine ⟨s6 _ _ upd_same, ?_⟩
        have s56 : Same H5 (upd H6 d (.dK (pr L))) := same_lock hd5 s6
        have D7 : upd H6 d (.dK (pr L)) D = some (.lst (((L.map (·.1)).filter fun y => decide (1 < y.length)).map V.str)) := new_at (s6 _ _ upd_same) at_D (fun w => nomatch w)
        generalize upd H6 d (.dK (pr L)) = H7 at s56 D7 ⊢
        clear at_D s6 hD
        generalize hLs : (L.map (·.1)).filter (fun y => decide (1 < y.length)) = Ls at D7
        have okL : ∀ y ∈ Ls, (2 ≤ y.length ∧ y.length ≤ 5) ∧ Over S y := fun y my => by
          rw [← hLs] at my
          obtain ⟨m1, m2⟩ := List.mem_filter.mp my
          have := of_decide_eq_true m2
          have h := full.piece y m1
          exact ⟨⟨this, h.1.2⟩, h.2⟩
        have lenL : Ls.length ≤ 11 := by
          rw [← hLs]
          refine Nat.le_trans (List.length_filter_le _ _) ?_
          rw [List.length_map]
          exact l11
        subst e2
        try dsimp only
        refine seq_cut fun k2 e2 => ?_
        walk_at "rd"
        have rs7 := s56 _ _ rs5
        have p7 := s56 _ _ p5
        have d7 := s56 _ _ hd5
        have s07 := s05.trans s56
        have fin : ∀ (z' : Str) (H8 : Hp), ((2 ≤ z'.length ∧ z'.length ≤ 5) ∧ Over S z') → Same H7 H8 → k2 [some (.ref a), some (.int (0 + (i : Int))), some (.ref p), some (.ref rs), some (.ref d), some (.str z'), some (.ref D), none] H8 := fun z' H8 hz' s78 => by
          subst e2
          try dsimp only
          walk_at "rd"
          refine ⟨p, d, z', L, S, rfl, s78 _ _ p7, s78 _ _ d7, sg_, full, h12, l11, hz', fun H9 s9 => ⟨true, rfl, ?_⟩⟩
          rw [if_neg (by decide)]
          have s79 := s78.trans s9
          refine ⟨p, rs, S.map V.str, rfl, s79 _ _ p7, sq_lst (s79 _ _ rs7), ⟨fun e => (by have := List.map_eq_nil_iff.mp e; rw [this] at lenS; exact absurd lenS.1 (by decide)), by rw [List.length_map]; omega⟩, fun x mx => ?_⟩
          obtain ⟨y, my, rfl⟩ := List.mem_map.mp mx
          refine ⟨p, d, y, L, S, rfl, s79 _ _ p7, s79 _ _ d7, sg_, full, l11, my, fun Ha sa => ⟨true, rfl, ?_⟩⟩
          rw [if_neg (by decide)]
          exact ⟨⟨_, rfl⟩, s07.trans (s79.trans sa)⟩
        refine ⟨by decide, fun el H8 nel s8 at_el => ?_⟩
        refine ⟨.list (Ls.map PyData.str), .list (([] : List Str).map PyData.str), .lst (sq_lst (s8 _ _ D7)) (dp_strsAll _), .lst (sq_lst at_el) (dp_strsAll []), shaped_listStrs (fun y my => over_ok sg_ (okL y my).2), shaped_listStrs (fun y my => (nomatch my)), ?_⟩
        rw [eqv_listStrs]
        refine ⟨_, rfl, ?_⟩
        by_cases eL : Ls = []
        · rw [decide_eq_true eL, if_neg (by decide)]
          exact fin z H8 hz s8
        · rw [decide_eq_false eL, if_pos (by decide)]
          refine ⟨p, 2, rfl, by decide, s8 _ _ p7, fun x x0 x1 => ⟨rfl, ?_⟩⟩
          split
          · refine ⟨p, D, Ls.map V.str, rfl, s8 _ _ p7, sq_lst (s8 _ _ D7), ⟨fun e => eL (List.map_eq_nil_iff.mp e), by rw [List.length_map]; omega⟩, fun x mx => ?_⟩
            obtain ⟨y, my, rfl⟩ := List.mem_map.mp mx
            exact fin y H8 (okL y my) s8
          · exact fin z H8 hz s8
    · rintro σ H1 ⟨⟨x1, x2, x3, x4, x5, x6, rfl⟩, sm_H1⟩
      subst e1
      walk_at "rd"
      exact q _
end
end K06

namespace K06
open PySem PySem.Spec PyProof.Rows L2 Gd
theorem all_mk {l : PySem.W.OpenLaw} {w : World} {K : PySem.W.Frag} {h : Heap} {mg : Str → Option Value} {fa : Addr} (X : K.In h) (G : h.Ns mainGlobals mg) (hfa : mg "law" = some (.ref fa))
    {C f_is_integer f_is_text f_is_piece f_is_price f_signs_in f_are_prices f_result f_least_price f_check_book f_check_books f_is_nowhere_dearer f_dearer_piece f_are_as_cheap f_is_ascending f_needless f_least_book f_law_dice f_law_roll f_law_pick f_law_some f_law_letters f_law_prices f_law_cuts f_law_prices_of f_law_piece_right f_law_sign_right f_law f_Book__init f_Book__contains f_Book__getitem f_Book__iter f_Book__sub f_Book_with_price p_Book_prices f_Book_prices p_Book_alphabet f_Book_alphabet : Addr} {od_is_integer an_is_integer od_is_text an_is_text od_is_piece an_is_piece od_is_price an_is_price od_signs_in an_signs_in od_are_prices an_are_prices od_result an_result od_least_price an_least_price od_check_book an_check_book od_check_books an_check_books od_is_nowhere_dearer an_is_nowhere_dearer od_dearer_piece an_dearer_piece od_are_as_cheap an_are_as_cheap od_is_ascending an_is_ascending od_needless an_needless od_least_book an_least_book od_law_dice an_law_dice od_law_roll an_law_roll od_law_pick an_law_pick od_law_some an_law_some od_law_letters an_law_letters od_law_prices an_law_prices od_law_cuts an_law_cuts od_law_prices_of an_law_prices_of od_law_piece_right an_law_piece_right od_law_sign_right an_law_sign_right od_law an_law od_Book__init an_Book__init od_Book__contains an_Book__contains od_Book__getitem an_Book__getitem od_Book__iter an_Book__iter od_Book__sub an_Book__sub od_Book_with_price an_Book_with_price od_Book_prices an_Book_prices od_Book_alphabet an_Book_alphabet : Option Addr} {sl_is_integer sl_is_text sl_is_piece sl_is_price sl_signs_in sl_are_prices sl_result sl_least_price sl_check_book sl_check_books sl_is_nowhere_dearer sl_dearer_piece sl_are_as_cheap sl_is_ascending sl_needless sl_least_book sl_law_dice sl_law_roll sl_law_pick sl_law_some sl_law_letters sl_law_prices sl_law_cuts sl_law_prices_of sl_law_piece_right sl_law_sign_right sl_law sl_Book__init sl_Book__contains sl_Book__getitem sl_Book__iter sl_Book__sub sl_Book_with_price sl_Book_prices sl_Book_alphabet : Array (Option Value)} {oc_is_integer kV_is_integer dc_is_integer pm_is_integer cd_is_integer ct_is_integer oc_is_text kV_is_text dc_is_text pm_is_text cd_is_text ct_is_text oc_is_piece kV_is_piece dc_is_piece pm_is_piece cd_is_piece ct_is_piece oc_is_price kV_is_price dc_is_price pm_is_price cd_is_price ct_is_price oc_signs_in kV_signs_in dc_signs_in pm_signs_in cd_signs_in ct_signs_in oc_are_prices kV_are_prices dc_are_prices pm_are_prices cd_are_prices ct_are_prices oc_result kV_result dc_result pm_result cd_result ct_result oc_least_price kV_least_price dc_least_price pm_least_price cd_least_price ct_least_price oc_check_book kV_check_book dc_check_book pm_check_book cd_check_book ct_check_book oc_check_books kV_check_books dc_check_books pm_check_books cd_check_books ct_check_books oc_is_nowhere_dearer kV_is_nowhere_dearer dc_is_nowhere_dearer pm_is_nowhere_dearer cd_is_nowhere_dearer ct_is_nowhere_dearer oc_dearer_piece kV_dearer_piece dc_dearer_piece pm_dearer_piece cd_dearer_piece ct_dearer_piece oc_are_as_cheap kV_are_as_cheap dc_are_as_cheap pm_are_as_cheap cd_are_as_cheap ct_are_as_cheap oc_is_ascending kV_is_ascending dc_is_ascending pm_is_ascending cd_is_ascending ct_is_ascending oc_needless kV_needless dc_needless pm_needless cd_needless ct_needless oc_least_book kV_least_book dc_least_book pm_least_book cd_least_book ct_least_book oc_law_dice kV_law_dice dc_law_dice pm_law_dice cd_law_dice ct_law_dice oc_law_roll kV_law_roll dc_law_roll pm_law_roll cd_law_roll ct_law_roll oc_law_pick kV_law_pick dc_law_pick pm_law_pick cd_law_pick ct_law_pick oc_law_some kV_law_some dc_law_some pm_law_some cd_law_some ct_law_some oc_law_letters kV_law_letters dc_law_letters pm_law_letters cd_law_letters ct_law_letters oc_law_prices kV_law_prices dc_law_prices pm_law_prices cd_law_prices ct_law_prices oc_law_cuts kV_law_cuts dc_law_cuts pm_law_cuts cd_law_cuts ct_law_cuts oc_law_prices_of kV_law_prices_of dc_law_prices_of pm_law_prices_of cd_law_prices_of ct_law_prices_of oc_law_piece_right kV_law_piece_right dc_law_piece_right pm_law_piece_right cd_law_piece_right ct_law_piece_right oc_law_sign_right kV_law_sign_right dc_law_sign_right pm_law_sign_right cd_law_sign_right ct_law_sign_right oc_law kV_law dc_law pm_law cd_law ct_law oc_Book__init kV_Book__init dc_Book__init pm_Book__init cd_Book__init ct_Book__init oc_Book__contains kV_Book__contains dc_Book__contains pm_Book__contains cd_Book__contains ct_Book__contains oc_Book__getitem kV_Book__getitem dc_Book__getitem pm_Book__getitem cd_Book__getitem ct_Book__getitem oc_Book__iter kV_Book__iter dc_Book__iter pm_Book__iter cd_Book__iter ct_Book__iter oc_Book__sub kV_Book__sub dc_Book__sub pm_Book__sub cd_Book__sub ct_Book__sub oc_Book_with_price kV_Book_with_price dc_Book_with_price pm_Book_with_price cd_Book_with_price ct_Book_with_price oc_Book_prices kV_Book_prices dc_Book_prices pm_Book_prices cd_Book_prices ct_Book_prices oc_Book_alphabet kV_Book_alphabet dc_Book_alphabet pm_Book_alphabet cd_Book_alphabet ct_Book_alphabet : Value} {t_MAX_SIGNS t_MAX_LENGTH t_MAX_PIECES t_MAX_ALPHABET t_MAX_PRICE : Tok} {rs_Book_prices rs_Book_alphabet : List Value}
    (a_is_integer : PySem.W.nsIn K mainGlobals "is_integer" = some (some (.ref f_is_integer)))
    (l_is_integer : K.lookup f_is_integer = some ⟨oc_is_integer, od_is_integer, .func (PySem.W.fnOf "is_integer" "is_integer" (defArgs s_is_integer) (defBody s_is_integer) (defScope s_is_integer) .none kV_is_integer dc_is_integer pm_is_integer an_is_integer cd_is_integer ct_is_integer), sl_is_integer⟩)
    (c_is_integer : PySem.W.codeIn K cd_is_integer "is_integer" = true) (k_is_integer : PySem.W.keepIn K (.ref f_is_integer) = true)
    (a_is_text : PySem.W.nsIn K mainGlobals "is_text" = some (some (.ref f_is_text)))
    (l_is_text : K.lookup f_is_text = some ⟨oc_is_text, od_is_text, .func (PySem.W.fnOf "is_text" "is_text" (defArgs s_is_text) (defBody s_is_text) (defScope s_is_text) .none kV_is_text dc_is_text pm_is_text an_is_text cd_is_text ct_is_text), sl_is_text⟩)
    (c_is_text : PySem.W.codeIn K cd_is_text "is_text" = true) (k_is_text : PySem.W.keepIn K (.ref f_is_text) = true)
    (a_is_piece : PySem.W.nsIn K mainGlobals "is_piece" = some (some (.ref f_is_piece)))
    (l_is_piece : K.lookup f_is_piece = some ⟨oc_is_piece, od_is_piece, .func (PySem.W.fnOf "is_piece" "is_piece" (defArgs s_is_piece) (defBody s_is_piece) (defScope s_is_piece) .none kV_is_piece dc_is_piece pm_is_piece an_is_piece cd_is_piece ct_is_piece), sl_is_piece⟩)
    (c_is_piece : PySem.W.codeIn K cd_is_piece "is_piece" = true) (k_is_piece : PySem.W.keepIn K (.ref f_is_piece) = true)
    (a_is_price : PySem.W.nsIn K mainGlobals "_is_price" = some (some (.ref f_is_price)))
    (l_is_price : K.lookup f_is_price = some ⟨oc_is_price, od_is_price, .func (PySem.W.fnOf "_is_price" "_is_price" (defArgs s_is_price) (defBody s_is_price) (defScope s_is_price) .none kV_is_price dc_is_price pm_is_price an_is_price cd_is_price ct_is_price), sl_is_price⟩)
    (c_is_price : PySem.W.codeIn K cd_is_price "_is_price" = true) (k_is_price : PySem.W.keepIn K (.ref f_is_price) = true)
    (a_signs_in : PySem.W.nsIn K mainGlobals "_signs_in" = some (some (.ref f_signs_in)))
    (l_signs_in : K.lookup f_signs_in = some ⟨oc_signs_in, od_signs_in, .func (PySem.W.fnOf "_signs_in" "_signs_in" (defArgs s_signs_in) (defBody s_signs_in) (defScope s_signs_in) .none kV_signs_in dc_signs_in pm_signs_in an_signs_in cd_signs_in ct_signs_in), sl_signs_in⟩)
    (c_signs_in : PySem.W.codeIn K cd_signs_in "_signs_in" = true) (k_signs_in : PySem.W.keepIn K (.ref f_signs_in) = true)
    (a_are_prices : PySem.W.nsIn K mainGlobals "_are_prices" = some (some (.ref f_are_prices)))
    (l_are_prices : K.lookup f_are_prices = some ⟨oc_are_prices, od_are_prices, .func (PySem.W.fnOf "_are_prices" "_are_prices" (defArgs s_are_prices) (defBody s_are_prices) (defScope s_are_prices) .none kV_are_prices dc_are_prices pm_are_prices an_are_prices cd_are_prices ct_are_prices), sl_are_prices⟩)
    (c_are_prices : PySem.W.codeIn K cd_are_prices "_are_prices" = true) (k_are_prices : PySem.W.keepIn K (.ref f_are_prices) = true)
    (a_result : PySem.W.nsIn K mainGlobals "_result" = some (some (.ref f_result)))
    (l_result : K.lookup f_result = some ⟨oc_result, od_result, .func (PySem.W.fnOf "_result" "_result" (defArgs s_result) (defBody s_result) (defScope s_result) .none kV_result dc_result pm_result an_result cd_result ct_result), sl_result⟩)
    (c_result : PySem.W.codeIn K cd_result "_result" = true) (k_result : PySem.W.keepIn K (.ref f_result) = true)
    (a_least_price : PySem.W.nsIn K mainGlobals "_least_price" = some (some (.ref f_least_price)))
    (l_least_price : K.lookup f_least_price = some ⟨oc_least_price, od_least_price, .func (PySem.W.fnOf "_least_price" "_least_price" (defArgs s_least_price) (defBody s_least_price) (defScope s_least_price) .none kV_least_price dc_least_price pm_least_price an_least_price cd_least_price ct_least_price), sl_least_price⟩)
    (c_least_price : PySem.W.codeIn K cd_least_price "_least_price" = true) (k_least_price : PySem.W.keepIn K (.ref f_least_price) = true)
    (a_check_book : PySem.W.nsIn K mainGlobals "_check_book" = some (some (.ref f_check_book)))
    (l_check_book : K.lookup f_check_book = some ⟨oc_check_book, od_check_book, .func (PySem.W.fnOf "_check_book" "_check_book" (defArgs s_check_book) (defBody s_check_book) (defScope s_check_book) .none kV_check_book dc_check_book pm_check_book an_check_book cd_check_book ct_check_book), sl_check_book⟩)
    (c_check_book : PySem.W.codeIn K cd_check_book "_check_book" = true) (k_check_book : PySem.W.keepIn K (.ref f_check_book) = true)
    (a_check_books : PySem.W.nsIn K mainGlobals "_check_books" = some (some (.ref f_check_books)))
    (l_check_books : K.lookup f_check_books = some ⟨oc_check_books, od_check_books, .func (PySem.W.fnOf "_check_books" "_check_books" (defArgs s_check_books) (defBody s_check_books) (defScope s_check_books) .none kV_check_books dc_check_books pm_check_books an_check_books cd_check_books ct_check_books), sl_check_books⟩)
    (c_check_books : PySem.W.codeIn K cd_check_books "_check_books" = true) (k_check_books : PySem.W.keepIn K (.ref f_check_books) = true)
    (a_is_nowhere_dearer : PySem.W.nsIn K mainGlobals "is_nowhere_dearer" = some (some (.ref f_is_nowhere_dearer)))
    (l_is_nowhere_dearer : K.lookup f_is_nowhere_dearer = some ⟨oc_is_nowhere_dearer, od_is_nowhere_dearer, .func (PySem.W.fnOf "is_nowhere_dearer" "is_nowhere_dearer" (defArgs s_is_nowhere_dearer) (defBody s_is_nowhere_dearer) (defScope s_is_nowhere_dearer) .none kV_is_nowhere_dearer dc_is_nowhere_dearer pm_is_nowhere_dearer an_is_nowhere_dearer cd_is_nowhere_dearer ct_is_nowhere_dearer), sl_is_nowhere_dearer⟩)
    (c_is_nowhere_dearer : PySem.W.codeIn K cd_is_nowhere_dearer "is_nowhere_dearer" = true) (k_is_nowhere_dearer : PySem.W.keepIn K (.ref f_is_nowhere_dearer) = true)
    (a_dearer_piece : PySem.W.nsIn K mainGlobals "dearer_piece" = some (some (.ref f_dearer_piece)))
    (l_dearer_piece : K.lookup f_dearer_piece = some ⟨oc_dearer_piece, od_dearer_piece, .func (PySem.W.fnOf "dearer_piece" "dearer_piece" (defArgs s_dearer_piece) (defBody s_dearer_piece) (defScope s_dearer_piece) .none kV_dearer_piece dc_dearer_piece pm_dearer_piece an_dearer_piece cd_dearer_piece ct_dearer_piece), sl_dearer_piece⟩)
    (c_dearer_piece : PySem.W.codeIn K cd_dearer_piece "dearer_piece" = true) (k_dearer_piece : PySem.W.keepIn K (.ref f_dearer_piece) = true)
    (a_are_as_cheap : PySem.W.nsIn K mainGlobals "are_as_cheap" = some (some (.ref f_are_as_cheap)))
    (l_are_as_cheap : K.lookup f_are_as_cheap = some ⟨oc_are_as_cheap, od_are_as_cheap, .func (PySem.W.fnOf "are_as_cheap" "are_as_cheap" (defArgs s_are_as_cheap) (defBody s_are_as_cheap) (defScope s_are_as_cheap) .none kV_are_as_cheap dc_are_as_cheap pm_are_as_cheap an_are_as_cheap cd_are_as_cheap ct_are_as_cheap), sl_are_as_cheap⟩)
    (c_are_as_cheap : PySem.W.codeIn K cd_are_as_cheap "are_as_cheap" = true) (k_are_as_cheap : PySem.W.keepIn K (.ref f_are_as_cheap) = true)
    (a_is_ascending : PySem.W.nsIn K mainGlobals "_is_ascending" = some (some (.ref f_is_ascending)))
    (l_is_ascending : K.lookup f_is_ascending = some ⟨oc_is_ascending, od_is_ascending, .func (PySem.W.fnOf "_is_ascending" "_is_ascending" (defArgs s_is_ascending) (defBody s_is_ascending) (defScope s_is_ascending) .none kV_is_ascending dc_is_ascending pm_is_ascending an_is_ascending cd_is_ascending ct_is_ascending), sl_is_ascending⟩)
    (c_is_ascending : PySem.W.codeIn K cd_is_ascending "_is_ascending" = true) (k_is_ascending : PySem.W.keepIn K (.ref f_is_ascending) = true)
    (a_needless : PySem.W.nsIn K mainGlobals "needless" = some (some (.ref f_needless)))
    (l_needless : K.lookup f_needless = some ⟨oc_needless, od_needless, .func (PySem.W.fnOf "needless" "needless" (defArgs s_needless) (defBody s_needless) (defScope s_needless) .none kV_needless dc_needless pm_needless an_needless cd_needless ct_needless), sl_needless⟩)
    (c_needless : PySem.W.codeIn K cd_needless "needless" = true) (k_needless : PySem.W.keepIn K (.ref f_needless) = true)
    (a_least_book : PySem.W.nsIn K mainGlobals "least_book" = some (some (.ref f_least_book)))
    (l_least_book : K.lookup f_least_book = some ⟨oc_least_book, od_least_book, .func (PySem.W.fnOf "least_book" "least_book" (defArgs s_least_book) (defBody s_least_book) (defScope s_least_book) .none kV_least_book dc_least_book pm_least_book an_least_book cd_least_book ct_least_book), sl_least_book⟩)
    (c_least_book : PySem.W.codeIn K cd_least_book "least_book" = true) (k_least_book : PySem.W.keepIn K (.ref f_least_book) = true)
    (a_law_dice : PySem.W.nsIn K mainGlobals "_law_dice" = some (some (.ref f_law_dice)))
    (l_law_dice : K.lookup f_law_dice = some ⟨oc_law_dice, od_law_dice, .func (PySem.W.fnOf "_law_dice" "_law_dice" (defArgs s_law_dice) (defBody s_law_dice) (defScope s_law_dice) .none kV_law_dice dc_law_dice pm_law_dice an_law_dice cd_law_dice ct_law_dice), sl_law_dice⟩)
    (c_law_dice : PySem.W.codeIn K cd_law_dice "_law_dice" = true) (k_law_dice : PySem.W.keepIn K (.ref f_law_dice) = true)
    (a_law_roll : PySem.W.nsIn K mainGlobals "_law_roll" = some (some (.ref f_law_roll)))
    (l_law_roll : K.lookup f_law_roll = some ⟨oc_law_roll, od_law_roll, .func (PySem.W.fnOf "_law_roll" "_law_roll" (defArgs s_law_roll) (defBody s_law_roll) (defScope s_law_roll) .none kV_law_roll dc_law_roll pm_law_roll an_law_roll cd_law_roll ct_law_roll), sl_law_roll⟩)
    (c_law_roll : PySem.W.codeIn K cd_law_roll "_law_roll" = true) (k_law_roll : PySem.W.keepIn K (.ref f_law_roll) = true)
    (a_law_pick : PySem.W.nsIn K mainGlobals "_law_pick" = some (some (.ref f_law_pick)))
    (l_law_pick : K.lookup f_law_pick = some ⟨oc_law_pick, od_law_pick, .func (PySem.W.fnOf "_law_pick" "_law_pick" (defArgs s_law_pick) (defBody s_law_pick) (defScope s_law_pick) .none kV_law_pick dc_law_pick pm_law_pick an_law_pick cd_law_pick ct_law_pick), sl_law_pick⟩)
    (c_law_pick : PySem.W.codeIn K cd_law_pick "_law_pick" = true) (k_law_pick : PySem.W.keepIn K (.ref f_law_pick) = true)
    (a_law_some : PySem.W.nsIn K mainGlobals "_law_some" = some (some (.ref f_law_some)))
    (l_law_some : K.lookup f_law_some = some ⟨oc_law_some, od_law_some, .func (PySem.W.fnOf "_law_some" "_law_some" (defArgs s_law_some) (defBody s_law_some) (defScope s_law_some) .none kV_law_some dc_law_some pm_law_some an_law_some cd_law_some ct_law_some), sl_law_some⟩)
    (c_law_some : PySem.W.codeIn K cd_law_some "_law_some" = true) (k_law_some : PySem.W.keepIn K (.ref f_law_some) = true)
    (a_law_letters : PySem.W.nsIn K mainGlobals "_law_letters" = some (some (.ref f_law_letters)))
    (l_law_letters : K.lookup f_law_letters = some ⟨oc_law_letters, od_law_letters, .func (PySem.W.fnOf "_law_letters" "_law_letters" (defArgs s_law_letters) (defBody s_law_letters) (defScope s_law_letters) .none kV_law_letters dc_law_letters pm_law_letters an_law_letters cd_law_letters ct_law_letters), sl_law_letters⟩)
    (c_law_letters : PySem.W.codeIn K cd_law_letters "_law_letters" = true) (k_law_letters : PySem.W.keepIn K (.ref f_law_letters) = true)
    (a_law_prices : PySem.W.nsIn K mainGlobals "_law_prices" = some (some (.ref f_law_prices)))
    (l_law_prices : K.lookup f_law_prices = some ⟨oc_law_prices, od_law_prices, .func (PySem.W.fnOf "_law_prices" "_law_prices" (defArgs s_law_prices) (defBody s_law_prices) (defScope s_law_prices) .none kV_law_prices dc_law_prices pm_law_prices an_law_prices cd_law_prices ct_law_prices), sl_law_prices⟩)
    (c_law_prices : PySem.W.codeIn K cd_law_prices "_law_prices" = true) (k_law_prices : PySem.W.keepIn K (.ref f_law_prices) = true)
    (a_law_cuts : PySem.W.nsIn K mainGlobals "_law_cuts" = some (some (.ref f_law_cuts)))
    (l_law_cuts : K.lookup f_law_cuts = some ⟨oc_law_cuts, od_law_cuts, .func (PySem.W.fnOf "_law_cuts" "_law_cuts" (defArgs s_law_cuts) (defBody s_law_cuts) (defScope s_law_cuts) .none kV_law_cuts dc_law_cuts pm_law_cuts an_law_cuts cd_law_cuts ct_law_cuts), sl_law_cuts⟩)
    (c_law_cuts : PySem.W.codeIn K cd_law_cuts "_law_cuts" = true) (k_law_cuts : PySem.W.keepIn K (.ref f_law_cuts) = true)
    (a_law_prices_of : PySem.W.nsIn K mainGlobals "_law_prices_of" = some (some (.ref f_law_prices_of)))
    (l_law_prices_of : K.lookup f_law_prices_of = some ⟨oc_law_prices_of, od_law_prices_of, .func (PySem.W.fnOf "_law_prices_of" "_law_prices_of" (defArgs s_law_prices_of) (defBody s_law_prices_of) (defScope s_law_prices_of) .none kV_law_prices_of dc_law_prices_of pm_law_prices_of an_law_prices_of cd_law_prices_of ct_law_prices_of), sl_law_prices_of⟩)
    (c_law_prices_of : PySem.W.codeIn K cd_law_prices_of "_law_prices_of" = true) (k_law_prices_of : PySem.W.keepIn K (.ref f_law_prices_of) = true)
    (a_law_piece_right : PySem.W.nsIn K mainGlobals "_law_piece_right" = some (some (.ref f_law_piece_right)))
    (l_law_piece_right : K.lookup f_law_piece_right = some ⟨oc_law_piece_right, od_law_piece_right, .func (PySem.W.fnOf "_law_piece_right" "_law_piece_right" (defArgs s_law_piece_right) (defBody s_law_piece_right) (defScope s_law_piece_right) .none kV_law_piece_right dc_law_piece_right pm_law_piece_right an_law_piece_right cd_law_piece_right ct_law_piece_right), sl_law_piece_right⟩)
    (c_law_piece_right : PySem.W.codeIn K cd_law_piece_right "_law_piece_right" = true) (k_law_piece_right : PySem.W.keepIn K (.ref f_law_piece_right) = true)
    (a_law_sign_right : PySem.W.nsIn K mainGlobals "_law_sign_right" = some (some (.ref f_law_sign_right)))
    (l_law_sign_right : K.lookup f_law_sign_right = some ⟨oc_law_sign_right, od_law_sign_right, .func (PySem.W.fnOf "_law_sign_right" "_law_sign_right" (defArgs s_law_sign_right) (defBody s_law_sign_right) (defScope s_law_sign_right) .none kV_law_sign_right dc_law_sign_right pm_law_sign_right an_law_sign_right cd_law_sign_right ct_law_sign_right), sl_law_sign_right⟩)
    (c_law_sign_right : PySem.W.codeIn K cd_law_sign_right "_law_sign_right" = true) (k_law_sign_right : PySem.W.keepIn K (.ref f_law_sign_right) = true)
    (a_law : PySem.W.nsIn K mainGlobals "law" = some (some (.ref f_law)))
    (l_law : K.lookup f_law = some ⟨oc_law, od_law, .func (PySem.W.fnOf "law" "law" (defArgs s_law) (defBody s_law) (defScope s_law) .none kV_law dc_law pm_law an_law cd_law ct_law), sl_law⟩)
    (c_law : PySem.W.codeIn K cd_law "law" = true) (k_law : PySem.W.keepIn K (.ref f_law) = true)
    (a_Book : PySem.W.nsIn K mainGlobals "Book" = some (some (.ref C)))
    (b_pg : PySem.W.plainGet K C Str.empty = true)
    (b_hd : PySem.W.hasDictIn K C = true)
    (b_po : PySem.W.plainOver K C = true)
    (b_sa : PySem.W.findIn K (.ref C) "__setattr__" = some (some (.builtin "object.__setattr__")))
    (b_mk : PySem.W.makesIn K C = true)
    (b_kc : PySem.W.keepIn K (.ref C) = true)
    (b_sf : PySem.W.selfFirst K C = true)
    (n_prices : PySem.W.findIn K (.ref C) "_prices" = some none)
    (n_pieces : PySem.W.findIn K (.ref C) "_pieces" = some none)
    (n_alphabet : PySem.W.findIn K (.ref C) "_alphabet" = some none)
    (n_longest : PySem.W.findIn K (.ref C) "_longest" = some none)
    (n_dearest : PySem.W.findIn K (.ref C) "_dearest" = some none)
    (b_ha : PySem.W.findIn K (.ref C) "__class__" = some (some (.builtin "object.__class__")))
    (b_hn : PySem.W.specialIn K (.builtin "object.__class__") "__get__" = some (some (.builtin "getset_descriptor.__get__")))
    (b_tk : PySem.W.takesIn K (.builtin "object.__class__") = some true)
    (b_mo : PySem.W.mroIn K C (.type "object") = some true)
    (a_Book__init : PySem.W.findIn K (.ref C) "__init__" = some (some (.ref f_Book__init)))
    (i_Book__init : PySem.W.isFn K (.ref f_Book__init) = true)
    (l_Book__init : K.lookup f_Book__init = some ⟨oc_Book__init, od_Book__init, .func (PySem.W.fnOf "__init__" "Book.__init__" (defArgs s_Book__init) (defBody s_Book__init) (defScope s_Book__init) .none kV_Book__init dc_Book__init pm_Book__init an_Book__init cd_Book__init ct_Book__init), sl_Book__init⟩)
    (c_Book__init : PySem.W.codeIn K cd_Book__init "Book.__init__" = true) (k_Book__init : PySem.W.keepIn K (.ref f_Book__init) = true)
    (a_Book__contains : PySem.W.findIn K (.ref C) "__contains__" = some (some (.ref f_Book__contains)))
    (i_Book__contains : PySem.W.isFn K (.ref f_Book__contains) = true)
    (l_Book__contains : K.lookup f_Book__contains = some ⟨oc_Book__contains, od_Book__contains, .func (PySem.W.fnOf "__contains__" "Book.__contains__" (defArgs s_Book__contains) (defBody s_Book__contains) (defScope s_Book__contains) .none kV_Book__contains dc_Book__contains pm_Book__contains an_Book__contains cd_Book__contains ct_Book__contains), sl_Book__contains⟩)
    (c_Book__contains : PySem.W.codeIn K cd_Book__contains "Book.__contains__" = true) (k_Book__contains : PySem.W.keepIn K (.ref f_Book__contains) = true)
    (a_Book__getitem : PySem.W.findIn K (.ref C) "__getitem__" = some (some (.ref f_Book__getitem)))
    (i_Book__getitem : PySem.W.isFn K (.ref f_Book__getitem) = true)
    (l_Book__getitem : K.lookup f_Book__getitem = some ⟨oc_Book__getitem, od_Book__getitem, .func (PySem.W.fnOf "__getitem__" "Book.__getitem__" (defArgs s_Book__getitem) (defBody s_Book__getitem) (defScope s_Book__getitem) .none kV_Book__getitem dc_Book__getitem pm_Book__getitem an_Book__getitem cd_Book__getitem ct_Book__getitem), sl_Book__getitem⟩)
    (c_Book__getitem : PySem.W.codeIn K cd_Book__getitem "Book.__getitem__" = true) (k_Book__getitem : PySem.W.keepIn K (.ref f_Book__getitem) = true)
    (a_Book__iter : PySem.W.findIn K (.ref C) "__iter__" = some (some (.ref f_Book__iter)))
    (i_Book__iter : PySem.W.isFn K (.ref f_Book__iter) = true)
    (l_Book__iter : K.lookup f_Book__iter = some ⟨oc_Book__iter, od_Book__iter, .func (PySem.W.fnOf "__iter__" "Book.__iter__" (defArgs s_Book__iter) (defBody s_Book__iter) (defScope s_Book__iter) .none kV_Book__iter dc_Book__iter pm_Book__iter an_Book__iter cd_Book__iter ct_Book__iter), sl_Book__iter⟩)
    (c_Book__iter : PySem.W.codeIn K cd_Book__iter "Book.__iter__" = true) (k_Book__iter : PySem.W.keepIn K (.ref f_Book__iter) = true)
    (a_Book__sub : PySem.W.findIn K (.ref C) "__sub__" = some (some (.ref f_Book__sub)))
    (i_Book__sub : PySem.W.isFn K (.ref f_Book__sub) = true)
    (l_Book__sub : K.lookup f_Book__sub = some ⟨oc_Book__sub, od_Book__sub, .func (PySem.W.fnOf "__sub__" "Book.__sub__" (defArgs s_Book__sub) (defBody s_Book__sub) (defScope s_Book__sub) .none kV_Book__sub dc_Book__sub pm_Book__sub an_Book__sub cd_Book__sub ct_Book__sub), sl_Book__sub⟩)
    (c_Book__sub : PySem.W.codeIn K cd_Book__sub "Book.__sub__" = true) (k_Book__sub : PySem.W.keepIn K (.ref f_Book__sub) = true)
    (a_Book_with_price : PySem.W.findIn K (.ref C) "with_price" = some (some (.ref f_Book_with_price)))
    (i_Book_with_price : PySem.W.isFn K (.ref f_Book_with_price) = true)
    (l_Book_with_price : K.lookup f_Book_with_price = some ⟨oc_Book_with_price, od_Book_with_price, .func (PySem.W.fnOf "with_price" "Book.with_price" (defArgs s_Book_with_price) (defBody s_Book_with_price) (defScope s_Book_with_price) .none kV_Book_with_price dc_Book_with_price pm_Book_with_price an_Book_with_price cd_Book_with_price ct_Book_with_price), sl_Book_with_price⟩)
    (c_Book_with_price : PySem.W.codeIn K cd_Book_with_price "Book.with_price" = true) (k_Book_with_price : PySem.W.keepIn K (.ref f_Book_with_price) = true)
    (fi_getitem : PySem.W.fnIn K f_Book__getitem = true)
    (a_Book_prices : PySem.W.findIn K (.ref C) "prices" = some (some (.ref p_Book_prices)))
    (g_Book_prices : PySem.W.specialIn K (.ref p_Book_prices) "__get__" = some (some (.builtin "property.__get__")))
    (t_Book_prices : PySem.W.takesIn K (.ref p_Book_prices) = some true)
    (r_Book_prices : PySem.W.recIn K p_Book_prices "property" = some (.ref f_Book_prices :: rs_Book_prices))
    (l_Book_prices : K.lookup f_Book_prices = some ⟨oc_Book_prices, od_Book_prices, .func (PySem.W.fnOf "prices" "Book.prices" (defArgs s_Book_prices) (defBody s_Book_prices) (defScope s_Book_prices) .none kV_Book_prices dc_Book_prices pm_Book_prices an_Book_prices cd_Book_prices ct_Book_prices), sl_Book_prices⟩)
    (c_Book_prices : PySem.W.codeIn K cd_Book_prices "Book.prices" = true) (k_Book_prices : PySem.W.keepIn K (.ref f_Book_prices) = true)
    (a_Book_alphabet : PySem.W.findIn K (.ref C) "alphabet" = some (some (.ref p_Book_alphabet)))
    (g_Book_alphabet : PySem.W.specialIn K (.ref p_Book_alphabet) "__get__" = some (some (.builtin "property.__get__")))
    (t_Book_alphabet : PySem.W.takesIn K (.ref p_Book_alphabet) = some true)
    (r_Book_alphabet : PySem.W.recIn K p_Book_alphabet "property" = some (.ref f_Book_alphabet :: rs_Book_alphabet))
    (l_Book_alphabet : K.lookup f_Book_alphabet = some ⟨oc_Book_alphabet, od_Book_alphabet, .func (PySem.W.fnOf "alphabet" "Book.alphabet" (defArgs s_Book_alphabet) (defBody s_Book_alphabet) (defScope s_Book_alphabet) .none kV_Book_alphabet dc_Book_alphabet pm_Book_alphabet an_Book_alphabet cd_Book_alphabet ct_Book_alphabet), sl_Book_alphabet⟩)
    (c_Book_alphabet : PySem.W.codeIn K cd_Book_alphabet "Book.alphabet" = true) (k_Book_alphabet : PySem.W.keepIn K (.ref f_Book_alphabet) = true)
    (z_len : PySem.W.nsIn K mainGlobals "len" = some none)
    (z_isinstance : PySem.W.nsIn K mainGlobals "isinstance" = some none)
    (z_int : PySem.W.nsIn K mainGlobals "int" = some none)
    (z_bool : PySem.W.nsIn K mainGlobals "bool" = some none)
    (z_abs : PySem.W.nsIn K mainGlobals "abs" = some none)
    (z_str : PySem.W.nsIn K mainGlobals "str" = some none)
    (z_dict : PySem.W.nsIn K mainGlobals "dict" = some none)
    (z_list : PySem.W.nsIn K mainGlobals "list" = some none)
    (z_tuple : PySem.W.nsIn K mainGlobals "tuple" = some none)
    (z_set : PySem.W.nsIn K mainGlobals "set" = some none)
    (z_sorted : PySem.W.nsIn K mainGlobals "sorted" = some none)
    (z_all : PySem.W.nsIn K mainGlobals "all" = some none)
    (z_max : PySem.W.nsIn K mainGlobals "max" = some none)
    (z_min : PySem.W.nsIn K mainGlobals "min" = some none)
    (z_range : PySem.W.nsIn K mainGlobals "range" = some none)
    (z_iter : PySem.W.nsIn K mainGlobals "iter" = some none)
    (z_repr : PySem.W.nsIn K mainGlobals "repr" = some none)
    (z_sum : PySem.W.nsIn K mainGlobals "sum" = some none)
    (r_back : PySem.W.findIn K (.ref C) "__rsub__" = some none)
    (r_tup : PySem.W.findIn K (.type "tuple") "__sub__" = some none)
    (r_tback : PySem.W.findIn K (.type "tuple") "__rsub__" = some none)
    (r_apart : PySem.W.subIn K (.type "tuple") (.ref C) = some false)
    (z_MAX_SIGNS : PySem.W.nsIn K mainGlobals "MAX_SIGNS" = some (some (.int 8000 t_MAX_SIGNS)))
    (z_MAX_LENGTH : PySem.W.nsIn K mainGlobals "MAX_LENGTH" = some (some (.int 5 t_MAX_LENGTH)))
    (z_MAX_PIECES : PySem.W.nsIn K mainGlobals "MAX_PIECES" = some (some (.int 12 t_MAX_PIECES)))
    (z_MAX_ALPHABET : PySem.W.nsIn K mainGlobals "MAX_ALPHABET" = some (some (.int 4 t_MAX_ALPHABET)))
    (z_MAX_PRICE : PySem.W.nsIn K mainGlobals "MAX_PRICE" = some (some (.int 99 t_MAX_PRICE))) :
    ∃ fd : FuncData, (∀ (s : Shared) (u : Value), BindsTo s fd ⟨[u], []⟩ [("script", u)]) ∧ ∀ base : Heap, K.In base → base.Ns mainGlobals mg → FnG l.prog w K mg base CX0 11 fa fd ["script"] (spLaw K) := by
  have e := hfa.symm.trans (PySem.W.mg_of X G a_law)
  cases e
  have T : Tx mg := ⟨PySem.W.mg_none_of X G z_len, PySem.W.mg_none_of X G z_isinstance, PySem.W.mg_none_of X G z_int, PySem.W.mg_none_of X G z_bool, PySem.W.mg_none_of X G z_abs, PySem.W.mg_none_of X G z_str, PySem.W.mg_none_of X G z_dict, PySem.W.mg_none_of X G z_list, PySem.W.mg_none_of X G z_tuple, PySem.W.mg_none_of X G z_set, PySem.W.mg_none_of X G z_sorted, PySem.W.mg_none_of X G z_all, PySem.W.mg_none_of X G z_max, PySem.W.mg_none_of X G z_min, PySem.W.mg_none_of X G z_range, PySem.W.mg_none_of X G z_iter, PySem.W.mg_none_of X G z_repr, ⟨_, PySem.W.mg_of X G z_MAX_SIGNS⟩, ⟨_, PySem.W.mg_of X G z_MAX_LENGTH⟩, ⟨_, PySem.W.mg_of X G z_MAX_PIECES⟩, ⟨_, PySem.W.mg_of X G z_MAX_ALPHABET⟩, ⟨_, PySem.W.mg_of X G z_MAX_PRICE⟩⟩
  have F_is_integer := fun_mk (st := s_is_integer) l_is_integer c_is_integer k_is_integer
  have b_is_integer := F_is_integer.binds (ps := ["value"]) fun _ _ _ _ _ _ us hl => match us, hl with | [_], _ => rfl
  have F_is_text := fun_mk (st := s_is_text) l_is_text c_is_text k_is_text
  have b_is_text := F_is_text.binds (ps := ["value"]) fun _ _ _ _ _ _ us hl => match us, hl with | [_], _ => rfl
  have F_is_piece := fun_mk (st := s_is_piece) l_is_piece c_is_piece k_is_piece
  have b_is_piece := F_is_piece.binds (ps := ["value"]) fun _ _ _ _ _ _ us hl => match us, hl with | [_], _ => rfl
  have F_is_price := fun_mk (st := s_is_price) l_is_price c_is_price k_is_price
  have b_is_price := F_is_price.binds (ps := ["value"]) fun _ _ _ _ _ _ us hl => match us, hl with | [_], _ => rfl
  have F_signs_in := fun_mk (st := s_signs_in) l_signs_in c_signs_in k_signs_in
  have b_signs_in := F_signs_in.binds (ps := ["pieces"]) fun _ _ _ _ _ _ us hl => match us, hl with | [_], _ => rfl
  have F_are_prices := fun_mk (st := s_are_prices) l_are_prices c_are_prices k_are_prices
  have b_are_prices := F_are_prices.binds (ps := ["value"]) fun _ _ _ _ _ _ us hl => match us, hl with | [_], _ => rfl
  have F_result := fun_mk (st := s_result) l_result c_result k_result
  have b_result := F_result.binds (ps := ["prices"]) fun _ _ _ _ _ _ us hl => match us, hl with | [_], _ => rfl
  have F_least_price := fun_mk (st := s_least_price) l_least_price c_least_price k_least_price
  have b_least_price := F_least_price.binds (ps := ["book", "text"]) fun _ _ _ _ _ _ us hl => match us, hl with | [_, _], _ => rfl
  have F_check_book := fun_mk (st := s_check_book) l_check_book c_check_book k_check_book
  have b_check_book := F_check_book.binds (ps := ["book"]) fun _ _ _ _ _ _ us hl => match us, hl with | [_], _ => rfl
  have F_check_books := fun_mk (st := s_check_books) l_check_books c_check_books k_check_books
  have b_check_books := F_check_books.binds (ps := ["book", "other"]) fun _ _ _ _ _ _ us hl => match us, hl with | [_, _], _ => rfl
  have F_is_nowhere_dearer := fun_mk (st := s_is_nowhere_dearer) l_is_nowhere_dearer c_is_nowhere_dearer k_is_nowhere_dearer
  have b_is_nowhere_dearer := F_is_nowhere_dearer.binds (ps := ["book", "other"]) fun _ _ _ _ _ _ us hl => match us, hl with | [_, _], _ => rfl
  have F_dearer_piece := fun_mk (st := s_dearer_piece) l_dearer_piece c_dearer_piece k_dearer_piece
  have b_dearer_piece := F_dearer_piece.binds (ps := ["book", "other"]) fun _ _ _ _ _ _ us hl => match us, hl with | [_, _], _ => rfl
  have F_are_as_cheap := fun_mk (st := s_are_as_cheap) l_are_as_cheap c_are_as_cheap k_are_as_cheap
  have b_are_as_cheap := F_are_as_cheap.binds (ps := ["book", "other"]) fun _ _ _ _ _ _ us hl => match us, hl with | [_, _], _ => rfl
  have F_is_ascending := fun_mk (st := s_is_ascending) l_is_ascending c_is_ascending k_is_ascending
  have b_is_ascending := F_is_ascending.binds (ps := ["strings"]) fun _ _ _ _ _ _ us hl => match us, hl with | [_], _ => rfl
  have F_needless := fun_mk (st := s_needless) l_needless c_needless k_needless
  have b_needless := F_needless.binds (ps := ["book"]) fun _ _ _ _ _ _ us hl => match us, hl with | [_], _ => rfl
  have F_least_book := fun_mk (st := s_least_book) l_least_book c_least_book k_least_book
  have b_least_book := F_least_book.binds (ps := ["book"]) fun _ _ _ _ _ _ us hl => match us, hl with | [_], _ => rfl
  have F_law_dice := fun_mk (st := s_law_dice) l_law_dice c_law_dice k_law_dice
  have b_law_dice := F_law_dice.binds (ps := ["script", "spot"]) fun _ _ _ _ _ _ us hl => match us, hl with | [_, _], _ => rfl
  have F_law_roll := fun_mk (st := s_law_roll) l_law_roll c_law_roll k_law_roll
  have b_law_roll := F_law_roll.binds (ps := ["dice", "upto"]) fun _ _ _ _ _ _ us hl => match us, hl with | [_, _], _ => rfl
  have F_law_pick := fun_mk (st := s_law_pick) l_law_pick c_law_pick k_law_pick
  have b_law_pick := F_law_pick.binds (ps := ["dice", "items"]) fun _ _ _ _ _ _ us hl => match us, hl with | [_, _], _ => rfl
  have F_law_some := fun_mk (st := s_law_some) l_law_some c_law_some k_law_some
  have b_law_some := F_law_some.binds (ps := ["dice", "items", "many"]) fun _ _ _ _ _ _ us hl => match us, hl with | [_, _, _], _ => rfl
  have F_law_letters := fun_mk (st := s_law_letters) l_law_letters c_law_letters k_law_letters
  have b_law_letters := F_law_letters.binds (ps := ["dice", "signs", "many"]) fun _ _ _ _ _ _ us hl => match us, hl with | [_, _, _], _ => rfl
  have F_law_prices := fun_mk (st := s_law_prices) l_law_prices c_law_prices k_law_prices
  have b_law_prices := F_law_prices.binds (ps := ["dice", "signs", "many", "upto"]) fun _ _ _ _ _ _ us hl => match us, hl with | [_, _, _, _], _ => rfl
  have F_law_cuts := fun_mk (st := s_law_cuts) l_law_cuts c_law_cuts k_law_cuts
  have b_law_cuts := F_law_cuts.binds (ps := ["prices", "text"]) fun _ _ _ _ _ _ us hl => match us, hl with | [_, _], _ => rfl
  have F_law_prices_of := fun_mk (st := s_law_prices_of) l_law_prices_of c_law_prices_of k_law_prices_of
  have b_law_prices_of := F_law_prices_of.binds (ps := ["book"]) fun _ _ _ _ _ _ us hl => match us, hl with | [_], _ => rfl
  have F_law_piece_right := fun_mk (st := s_law_piece_right) l_law_piece_right c_law_piece_right k_law_piece_right
  have b_law_piece_right := F_law_piece_right.binds (ps := ["dice", "plain", "word"]) fun _ _ _ _ _ _ us hl => match us, hl with | [_, _, _], _ => rfl
  have F_law_sign_right := fun_mk (st := s_law_sign_right) l_law_sign_right c_law_sign_right k_law_sign_right
  have b_law_sign_right := F_law_sign_right.binds (ps := ["dice", "plain", "sign"]) fun _ _ _ _ _ _ us hl => match us, hl with | [_, _, _], _ => rfl
  have F_law := fun_mk (st := s_law) l_law c_law k_law
  have F_Book__init := fun_mk (st := s_Book__init) l_Book__init c_Book__init k_Book__init
  have b_Book__init := F_Book__init.binds (ps := ["self", "prices"]) fun _ _ _ _ _ _ us hl => match us, hl with | [_, _], _ => rfl
  have F_Book__contains := fun_mk (st := s_Book__contains) l_Book__contains c_Book__contains k_Book__contains
  have b_Book__contains := F_Book__contains.binds (ps := ["self", "value"]) fun _ _ _ _ _ _ us hl => match us, hl with | [_, _], _ => rfl
  have F_Book__getitem := fun_mk (st := s_Book__getitem) l_Book__getitem c_Book__getitem k_Book__getitem
  have b_Book__getitem := F_Book__getitem.binds (ps := ["self", "piece"]) fun _ _ _ _ _ _ us hl => match us, hl with | [_, _], _ => rfl
  have F_Book__iter := fun_mk (st := s_Book__iter) l_Book__iter c_Book__iter k_Book__iter
  have b_Book__iter := F_Book__iter.binds (ps := ["self"]) fun _ _ _ _ _ _ us hl => match us, hl with | [_], _ => rfl
  have F_Book__sub := fun_mk (st := s_Book__sub) l_Book__sub c_Book__sub k_Book__sub
  have b_Book__sub := F_Book__sub.binds (ps := ["self", "other"]) fun _ _ _ _ _ _ us hl => match us, hl with | [_, _], _ => rfl
  have F_Book_with_price := fun_mk (st := s_Book_with_price) l_Book_with_price c_Book_with_price k_Book_with_price
  have b_Book_with_price := F_Book_with_price.binds (ps := ["self", "piece", "price"]) fun _ _ _ _ _ _ us hl => match us, hl with | [_, _, _], _ => rfl
  have F_Book_prices := fun_mk (st := s_Book_prices) l_Book_prices c_Book_prices k_Book_prices
  have b_Book_prices := F_Book_prices.binds (ps := ["self"]) fun _ _ _ _ _ _ us hl => match us, hl with | [_], _ => rfl
  have F_Book_alphabet := fun_mk (st := s_Book_alphabet) l_Book_alphabet c_Book_alphabet k_Book_alphabet
  have b_Book_alphabet := F_Book_alphabet.binds (ps := ["self"]) fun _ _ _ _ _ _ us hl => match us, hl with | [_], _ => rfl
  refine ⟨PySem.W.fnOf "law" "law" (defArgs s_law) (defBody s_law) (defScope s_law) .none kV_law dc_law pm_law an_law cd_law ct_law, fun s v => .of_eq rfl, fun base _ _ => ?_⟩
  have B : Tb K mg C := ⟨⟨b_pg, b_hd, b_po, b_sa⟩, n_prices, n_pieces, n_alphabet, n_longest, n_dearest, PySem.W.mg_of X G a_Book, ⟨⟨b_pg, b_hd, b_po, b_sa⟩, b_ha, b_hn, b_tk, b_mo, if_pos (beq_self_eq_true _)⟩⟩
  have G_is_integer : Dn l.prog w K mg base 1 "is_integer" ["value"] (spKind isInteger) := ⟨⟨_, ⟨⟨_, ok_is_integer F_is_integer T, b_is_integer⟩⟩, PySem.W.mg_of X G a_is_integer, k_is_integer⟩⟩
  have G_is_text : Dn l.prog w K mg base 1 "is_text" ["value"] (spKind isText) := ⟨⟨_, ⟨⟨_, ok_is_text F_is_text T, b_is_text⟩⟩, PySem.W.mg_of X G a_is_text, k_is_text⟩⟩
  have G_is_piece : Dn l.prog w K mg base 2 "is_piece" ["value"] (spKind isPiece) := ⟨⟨_, ⟨⟨_, ok_is_piece F_is_piece T G_is_text, b_is_piece⟩⟩, PySem.W.mg_of X G a_is_piece, k_is_piece⟩⟩
  have G_is_price : Dn l.prog w K mg base 2 "_is_price" ["value"] (spKind isPrice) := ⟨⟨_, ⟨⟨_, ok_is_price F_is_price T G_is_integer, b_is_price⟩⟩, PySem.W.mg_of X G a_is_price, k_is_price⟩⟩
  have G_signs_in : Dn l.prog w K mg base 1 "_signs_in" ["pieces"] (spSigns K) := ⟨⟨_, ⟨⟨_, ok_signs_in F_signs_in T, b_signs_in⟩⟩, PySem.W.mg_of X G a_signs_in, k_signs_in⟩⟩
  have G_are_prices : Dn l.prog w K mg base 3 "_are_prices" ["value"] (spAre K) := ⟨⟨_, ⟨⟨_, ok_are_prices F_are_prices T G_is_piece G_is_price G_signs_in, b_are_prices⟩⟩, PySem.W.mg_of X G a_are_prices, k_are_prices⟩⟩
  have D_init : Dk l.prog w K mg base 4 f_Book__init ["self", "prices"] (spInit C) := ⟨⟨_, ok_init F_Book__init T B G_are_prices G_signs_in, b_Book__init⟩⟩
  have M : Tm l.prog w K mg base C f_Book__init := ⟨⟨b_mk, a_Book__init, i_Book__init, b_kc⟩, D_init⟩
  have bs : mg "sum" = none := PySem.W.mg_none_of X G z_sum
  have G_result : Dn l.prog w K mg base 6 "_result" ["prices"] (spRes C) := ⟨⟨_, ⟨⟨_, ok_result F_result T B M G_are_prices, b_result⟩⟩, PySem.W.mg_of X G a_result, k_result⟩⟩
  have G_is_ascending : Dn l.prog w K mg base 1 "_is_ascending" ["strings"] (spAsc K) := ⟨⟨_, ⟨⟨_, ok_is_ascending F_is_ascending T, b_is_ascending⟩⟩, PySem.W.mg_of X G a_is_ascending, k_is_ascending⟩⟩
  have D_contains : Dk l.prog w K mg base 1 f_Book__contains ["self", "value"] (spHas C) := ⟨⟨_, ok_contains F_Book__contains T B, b_Book__contains⟩⟩
  have O_contains : Own K C "__contains__" f_Book__contains := ⟨a_Book__contains, i_Book__contains⟩
  have D_getitem : Dk l.prog w K mg base 2 f_Book__getitem ["self", "piece"] (spGet C) := ⟨⟨_, ok_getitem F_Book__getitem T B O_contains D_contains, b_Book__getitem⟩⟩
  have D_iter : Ds l.prog w K mg base 1 f_Book__iter ["self"] (spIter K C "_pieces") := ⟨⟨_, ok_iter F_Book__iter T B, b_Book__iter⟩⟩
  have D_prices : Dk l.prog w K mg base 1 f_Book_prices ["self"] (spPrices C) := ⟨⟨_, ok_prices F_Book_prices T B, b_Book_prices⟩⟩
  have D_alphabet : Dk l.prog w K mg base 1 f_Book_alphabet ["self"] (spAlphabet C) := ⟨⟨_, ok_alphabet F_Book_alphabet T B, b_Book_alphabet⟩⟩
  have O : To l.prog w K mg base C f_Book__contains f_Book__getitem f_Book__iter := ⟨O_contains, D_contains, ⟨a_Book__getitem, i_Book__getitem⟩, fi_getitem, D_getitem, ⟨a_Book__iter, i_Book__iter⟩, D_iter⟩
  have R : Tp l.prog w K mg base C := ⟨⟨p_Book_prices, f_Book_prices, ⟨a_Book_prices, g_Book_prices, t_Book_prices, _, r_Book_prices⟩, D_prices⟩, ⟨p_Book_alphabet, f_Book_alphabet, ⟨a_Book_alphabet, g_Book_alphabet, t_Book_alphabet, _, r_Book_alphabet⟩, D_alphabet⟩⟩
  have G_least_price : Dn l.prog w K mg base 4 "_least_price" ["book", "text"] (spLeast C) := ⟨⟨_, ⟨⟨_, ok_least_price F_least_price T B O, b_least_price⟩⟩, PySem.W.mg_of X G a_least_price, k_least_price⟩⟩
  have G_check_book : Dn l.prog w K mg base 1 "_check_book" ["book"] (spChk C) := ⟨⟨_, ⟨⟨_, ok_check_book F_check_book T B, b_check_book⟩⟩, PySem.W.mg_of X G a_check_book, k_check_book⟩⟩
  have G_check_books : Dn l.prog w K mg base 3 "_check_books" ["book", "other"] (spChks C) := ⟨⟨_, ⟨⟨_, ok_check_books F_check_books T B R G_check_book, b_check_books⟩⟩, PySem.W.mg_of X G a_check_books, k_check_books⟩⟩
  have G_dearer_piece : Dn l.prog w K mg base 5 "dearer_piece" ["book", "other"] (spDearer C) := ⟨⟨_, ⟨⟨_, ok_dearer_piece F_dearer_piece T B O G_check_books G_least_price, b_dearer_piece⟩⟩, PySem.W.mg_of X G a_dearer_piece, k_dearer_piece⟩⟩
  have G_is_nowhere_dearer : Dn l.prog w K mg base 6 "is_nowhere_dearer" ["book", "other"] (spNowhere C) := ⟨⟨_, ⟨⟨_, ok_is_nowhere_dearer F_is_nowhere_dearer T G_dearer_piece, b_is_nowhere_dearer⟩⟩, PySem.W.mg_of X G a_is_nowhere_dearer, k_is_nowhere_dearer⟩⟩
  have G_are_as_cheap : Dn l.prog w K mg base 7 "are_as_cheap" ["book", "other"] (spAlike C) := ⟨⟨_, ⟨⟨_, ok_are_as_cheap F_are_as_cheap T G_is_nowhere_dearer, b_are_as_cheap⟩⟩, PySem.W.mg_of X G a_are_as_cheap, k_are_as_cheap⟩⟩
  have G_law_roll : Df l.prog w K mg base 1 "_law_roll" ["dice", "upto"] spRoll := ⟨⟨_, _, ok_law_roll F_law_roll T, PySem.W.mg_of X G a_law_roll, k_law_roll, b_law_roll⟩⟩
  have G_law_dice : Df l.prog w K mg base 1 "_law_dice" ["script", "spot"] (spDice K) := ⟨⟨_, _, ok_law_dice F_law_dice T, PySem.W.mg_of X G a_law_dice, k_law_dice, b_law_dice⟩⟩
  have G_law_pick : Df l.prog w K mg base 2 "_law_pick" ["dice", "items"] (spPick K) := ⟨⟨_, _, ok_law_pick F_law_pick T G_law_roll, PySem.W.mg_of X G a_law_pick, k_law_pick, b_law_pick⟩⟩
  have G_law_some : Df l.prog w K mg base 2 "_law_some" ["dice", "items", "many"] (spSome K) := ⟨⟨_, _, ok_law_some F_law_some T G_law_roll, PySem.W.mg_of X G a_law_some, k_law_some, b_law_some⟩⟩
  have G_someS : Df l.prog w K mg base 2 "_law_some" ["dice", "items", "many"] spSomeS := ⟨⟨_, _, ok_law_someS F_law_some T G_law_roll, PySem.W.mg_of X G a_law_some, k_law_some, b_law_some⟩⟩
  have D_sub : Dk l.prog w K mg base 7 f_Book__sub ["self", "other"] (spSub C) := ⟨⟨_, ok_sub F_Book__sub T B O_contains D_contains G_is_ascending G_result, b_Book__sub⟩⟩
  have U : Ts l.prog w K mg base C f_Book__sub := ⟨⟨b_sf, r_back, r_tup, r_tback, r_apart⟩, ⟨a_Book__sub, i_Book__sub⟩, D_sub⟩
  have D_with : Dk l.prog w K mg base 7 f_Book_with_price ["self", "piece", "price"] (spWith C) := ⟨⟨_, ok_with_price F_Book_with_price T B G_is_piece G_is_price G_result, b_Book_with_price⟩⟩
  have W : Tw l.prog w K mg base C f_Book_with_price := ⟨⟨a_Book_with_price, i_Book_with_price, k_Book_with_price⟩, D_with⟩
  have G_needless : Dn l.prog w K mg base 8 "needless" ["book"] (spNeedless C) := ⟨⟨_, ⟨⟨_, ok_needless F_needless T B O U G_check_book G_least_price, b_needless⟩⟩, PySem.W.mg_of X G a_needless, k_needless⟩⟩
  have G_least_book : Dn l.prog w K mg base 9 "least_book" ["book"] (spLeastB C) := ⟨⟨_, ⟨⟨_, ok_least_book F_least_book U G_needless, b_least_book⟩⟩, PySem.W.mg_of X G a_least_book, k_least_book⟩⟩
  have G_law_letters : Df l.prog w K mg base 3 "_law_letters" ["dice", "signs", "many"] (spLetters K) := ⟨⟨_, _, ok_law_letters F_law_letters T G_law_pick, PySem.W.mg_of X G a_law_letters, k_law_letters, b_law_letters⟩⟩
  have G_law_prices : Df l.prog w K mg base 3 "_law_prices" ["dice", "signs", "many", "upto"] (spPricesL K) := ⟨⟨_, _, ok_law_prices F_law_prices T G_law_roll G_law_pick G_law_some, PySem.W.mg_of X G a_law_prices, k_law_prices, b_law_prices⟩⟩
  have G_law_cuts : Df l.prog w K mg base 1 "_law_cuts" ["prices", "text"] spCuts := ⟨⟨_, _, ok_law_cuts F_law_cuts T, PySem.W.mg_of X G a_law_cuts, k_law_cuts, b_law_cuts⟩⟩
  have G_law_prices_of : Df l.prog w K mg base 3 "_law_prices_of" ["book"] (spPof C) := ⟨⟨_, _, ok_law_prices_of F_law_prices_of T B R, PySem.W.mg_of X G a_law_prices_of, k_law_prices_of, b_law_prices_of⟩⟩
  have G_law_piece_right : Df l.prog w K mg base 10 "_law_piece_right" ["dice", "plain", "word"] spPieceR := ⟨⟨_, _, ok_law_piece_right F_law_piece_right T bs B M O W G_law_roll G_law_cuts G_law_prices_of G_are_as_cheap G_is_nowhere_dearer G_dearer_piece G_needless G_least_book, PySem.W.mg_of X G a_law_piece_right, k_law_piece_right, b_law_piece_right⟩⟩
  have G_law_sign_right : Df l.prog w K mg base 10 "_law_sign_right" ["dice", "plain", "sign"] spSignR := ⟨⟨_, _, ok_law_sign_right F_law_sign_right T B M O W G_law_roll G_are_as_cheap G_is_nowhere_dearer G_needless G_least_book, PySem.W.mg_of X G a_law_sign_right, k_law_sign_right, b_law_sign_right⟩⟩
  exact ok_law F_law T G_law_dice G_law_roll G_someS G_law_pick G_law_letters G_law_prices G_law_piece_right G_law_sign_right
end K06
open PySem PySem.W PyProof.Rows
set_option maxHeartbeats 0 in
theorem PySem.Challenge.cw_cutbehind_k06_whole_prices_that_change_n_holds : PySem.Challenge.rw_cutbehind_k06_whole_prices_that_change_n.Holds := by
  w_on; o_law; k_head; (case hw => w_witness2)
  k_fill
  refine Gd.end_walk (l := PySem.Challenge.rw_cutbehind_k06_whole_prices_that_change_n) (n := 63) (k := 11) (x := "script") (sp := fun K => K06.spLaw K) rfl (by decide) rfl ⟨rfl, by decide, by decide⟩ (fun w h Y => PySem.W.kIn_of Y) ?F (fun K H a ns hl hS => ⟨a, ns, rfl, hS, hl, fun _ => rfl⟩)
  case F =>
    intro w mg fa h KX G hmg
    refine' K06.all_mk KX G hmg ?a_is_integer ?l_is_integer ?c_is_integer ?k_is_integer ?a_is_text ?l_is_text ?c_is_text ?k_is_text ?a_is_piece ?l_is_piece ?c_is_piece ?k_is_piece ?a_is_price ?l_is_price ?c_is_price ?k_is_price ?a_signs_in ?l_signs_in ?c_signs_in ?k_signs_in ?a_are_prices ?l_are_prices ?c_are_prices ?k_are_prices ?a_result ?l_result ?c_result ?k_result ?a_least_price ?l_least_price ?c_least_price ?k_least_price ?a_check_book ?l_check_book ?c_check_book ?k_check_book ?a_check_books ?l_check_books ?c_check_books ?k_check_books ?a_is_nowhere_dearer ?l_is_nowhere_dearer ?c_is_nowhere_dearer ?k_is_nowhere_dearer ?a_dearer_piece ?l_dearer_piece ?c_dearer_piece ?k_dearer_piece ?a_are_as_cheap ?l_are_as_cheap ?c_are_as_cheap ?k_are_as_cheap ?a_is_ascending ?l_is_ascending ?c_is_ascending ?k_is_ascending ?a_needless ?l_needless ?c_needless ?k_needless ?a_least_book ?l_least_book ?c_least_book ?k_least_book ?a_law_dice ?l_law_dice ?c_law_dice ?k_law_dice ?a_law_roll ?l_law_roll ?c_law_roll ?k_law_roll ?a_law_pick ?l_law_pick ?c_law_pick ?k_law_pick ?a_law_some ?l_law_some ?c_law_some ?k_law_some ?a_law_letters ?l_law_letters ?c_law_letters ?k_law_letters ?a_law_prices ?l_law_prices ?c_law_prices ?k_law_prices ?a_law_cuts ?l_law_cuts ?c_law_cuts ?k_law_cuts ?a_law_prices_of ?l_law_prices_of ?c_law_prices_of ?k_law_prices_of ?a_law_piece_right ?l_law_piece_right ?c_law_piece_right ?k_law_piece_right ?a_law_sign_right ?l_law_sign_right ?c_law_sign_right ?k_law_sign_right ?a_law ?l_law ?c_law ?k_law ?a_Book ?b_pg ?b_hd ?b_po ?b_sa ?b_mk ?b_kc ?b_sf ?n_prices ?n_pieces ?n_alphabet ?n_longest ?n_dearest ?b_ha ?b_hn ?b_tk ?b_mo ?a_Book__init ?i_Book__init ?l_Book__init ?c_Book__init ?k_Book__init ?a_Book__contains ?i_Book__contains ?l_Book__contains ?c_Book__contains ?k_Book__contains ?a_Book__getitem ?i_Book__getitem ?l_Book__getitem ?c_Book__getitem ?k_Book__getitem ?a_Book__iter ?i_Book__iter ?l_Book__iter ?c_Book__iter ?k_Book__iter ?a_Book__sub ?i_Book__sub ?l_Book__sub ?c_Book__sub ?k_Book__sub ?a_Book_with_price ?i_Book_with_price ?l_Book_with_price ?c_Book_with_price ?k_Book_with_price ?fi_getitem ?a_Book_prices ?g_Book_prices ?t_Book_prices ?r_Book_prices ?l_Book_prices ?c_Book_prices ?k_Book_prices ?a_Book_alphabet ?g_Book_alphabet ?t_Book_alphabet ?r_Book_alphabet ?l_Book_alphabet ?c_Book_alphabet ?k_Book_alphabet ?z_len ?z_isinstance ?z_int ?z_bool ?z_abs ?z_str ?z_dict ?z_list ?z_tuple ?z_set ?z_sorted ?z_all ?z_max ?z_min ?z_range ?z_iter ?z_repr ?z_sum ?r_back ?r_tup ?r_tback ?r_apart ?z_MAX_SIGNS ?z_MAX_LENGTH ?z_MAX_PIECES ?z_MAX_ALPHABET ?z_MAX_PRICE
    (case a_is_integer => k_is); (case l_is_integer => k_is); (case c_is_integer => k_is); (case k_is_integer => k_is); (case a_is_text => k_is); (case l_is_text => k_is)
    (case c_is_text => k_is); (case k_is_text => k_is); (case a_is_piece => k_is); (case l_is_piece => k_is); (case c_is_piece => k_is); (case k_is_piece => k_is)
    (case a_is_price => k_is); (case l_is_price => k_is); (case c_is_price => k_is); (case k_is_price => k_is); (case a_signs_in => k_is); (case l_signs_in => k_is)
    (case c_signs_in => k_is); (case k_signs_in => k_is); (case a_are_prices => k_is); (case l_are_prices => k_is); (case c_are_prices => k_is); (case k_are_prices => k_is)
    (case a_result => k_is); (case l_result => k_is); (case c_result => k_is); (case k_result => k_is); (case a_least_price => k_is); (case l_least_price => k_is)
    (case c_least_price => k_is); (case k_least_price => k_is); (case a_check_book => k_is); (case l_check_book => k_is); (case c_check_book => k_is); (case k_check_book => k_is)
    (case a_check_books => k_is); (case l_check_books => k_is); (case c_check_books => k_is); (case k_check_books => k_is); (case a_is_nowhere_dearer => k_is); (case l_is_nowhere_dearer => k_is)
    (case c_is_nowhere_dearer => k_is); (case k_is_nowhere_dearer => k_is); (case a_dearer_piece => k_is); (case l_dearer_piece => k_is); (case c_dearer_piece => k_is); (case k_dearer_piece => k_is)
    (case a_are_as_cheap => k_is); (case l_are_as_cheap => k_is); (case c_are_as_cheap => k_is); (case k_are_as_cheap => k_is); (case a_is_ascending => k_is); (case l_is_ascending => k_is)
    (case c_is_ascending => k_is); (case k_is_ascending => k_is); (case a_needless => k_is); (case l_needless => k_is); (case c_needless => k_is); (case k_needless => k_is)
    (case a_least_book => k_is); (case l_least_book => k_is); (case c_least_book => k_is); (case k_least_book => k_is); (case a_law_dice => k_is); (case l_law_dice => k_is)
    (case c_law_dice => k_is); (case k_law_dice => k_is); (case a_law_roll => k_is); (case l_law_roll => k_is); (case c_law_roll => k_is); (case k_law_roll => k_is)
    (case a_law_pick => k_is); (case l_law_pick => k_is); (case c_law_pick => k_is); (case k_law_pick => k_is); (case a_law_some => k_is); (case l_law_some => k_is)
    (case c_law_some => k_is); (case k_law_some => k_is); (case a_law_letters => k_is); (case l_law_letters => k_is); (case c_law_letters => k_is); (case k_law_letters => k_is)
    (case a_law_prices => k_is); (case l_law_prices => k_is); (case c_law_prices => k_is); (case k_law_prices => k_is); (case a_law_cuts => k_is); (case l_law_cuts => k_is)
    (case c_law_cuts => k_is); (case k_law_cuts => k_is); (case a_law_prices_of => k_is); (case l_law_prices_of => k_is); (case c_law_prices_of => k_is); (case k_law_prices_of => k_is)
    (case a_law_piece_right => k_is); (case l_law_piece_right => k_is); (case c_law_piece_right => k_is); (case k_law_piece_right => k_is); (case a_law_sign_right => k_is); (case l_law_sign_right => k_is)
    (case c_law_sign_right => k_is); (case k_law_sign_right => k_is); (case a_law => k_is); (case l_law => k_is); (case c_law => k_is); (case k_law => k_is)
    (case a_Book => k_is); (case b_pg => k_is); (case b_hd => k_is); (case b_po => k_is); (case b_sa => k_is); (case b_mk => k_is)
    (case b_kc => k_is); (case b_sf => k_is); (case n_prices => k_is); (case n_pieces => k_is); (case n_alphabet => k_is); (case n_longest => k_is)
    (case n_dearest => k_is); (case b_ha => k_is); (case b_hn => k_is); (case b_tk => k_is); (case b_mo => k_is); (case a_Book__init => k_is)
    (case i_Book__init => k_is); (case l_Book__init => k_is); (case c_Book__init => k_is); (case k_Book__init => k_is); (case a_Book__contains => k_is); (case i_Book__contains => k_is)
    (case l_Book__contains => k_is); (case c_Book__contains => k_is); (case k_Book__contains => k_is); (case a_Book__getitem => k_is); (case i_Book__getitem => k_is); (case l_Book__getitem => k_is)
    (case c_Book__getitem => k_is); (case k_Book__getitem => k_is); (case a_Book__iter => k_is); (case i_Book__iter => k_is); (case l_Book__iter => k_is); (case c_Book__iter => k_is)
    (case k_Book__iter => k_is); (case a_Book__sub => k_is); (case i_Book__sub => k_is); (case l_Book__sub => k_is); (case c_Book__sub => k_is); (case k_Book__sub => k_is)
    (case a_Book_with_price => k_is); (case i_Book_with_price => k_is); (case l_Book_with_price => k_is); (case c_Book_with_price => k_is); (case k_Book_with_price => k_is); (case fi_getitem => k_is)
    (case a_Book_prices => k_is); (case g_Book_prices => k_is); (case t_Book_prices => k_is); (case r_Book_prices => k_is); (case l_Book_prices => k_is); (case c_Book_prices => k_is)
    (case k_Book_prices => k_is); (case a_Book_alphabet => k_is); (case g_Book_alphabet => k_is); (case t_Book_alphabet => k_is); (case r_Book_alphabet => k_is); (case l_Book_alphabet => k_is)
    (case c_Book_alphabet => k_is); (case k_Book_alphabet => k_is); (case z_len => k_is); (case z_isinstance => k_is); (case z_int => k_is); (case z_bool => k_is)
    (case z_abs => k_is); (case z_str => k_is); (case z_dict => k_is); (case z_list => k_is); (case z_tuple => k_is); (case z_set => k_is)
    (case z_sorted => k_is); (case z_all => k_is); (case z_max => k_is); (case z_min => k_is); (case z_range => k_is); (case z_iter => k_is)
    (case z_repr => k_is); (case z_sum => k_is); (case r_back => k_is); (case r_tup => k_is); (case r_tback => k_is); (case r_apart => k_is)
    (case z_MAX_SIGNS => k_is); (case z_MAX_LENGTH => k_is); (case z_MAX_PIECES => k_is); (case z_MAX_ALPHABET => k_is); (case z_MAX_PRICE => k_is)


