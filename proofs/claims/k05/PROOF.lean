import PyProof.Rows.All
import Wide.All
import OpenK.AllK
import Wide.FinOn
import HandS.ForMost
import HandS.IsInst
import HandS.StrMore
import HandS.Style
import HandS.Flow
import HandS.Wide
import PyProof.ReprLen
import HandS.Set
import HandS.SetFor
import HandS.More
import PyProof.Rows.SortShellAny
import HandS.OwnEq
import HandS.Property
import HandS.IterVal
import HandS.Words
import KE.KOwnIter
import PyProof.FactsAll.tuple_iterator_1
import HandS.DictTup
import HandS.DictComp
import HandS.WordsDict
import KE.KItemsList
import HandS.Conv
import HandS.Sort
import HandS.Keys
import KE.KSortTup
import HandS.Codes
import PyProof.StrLawsIn
import KE.KOpsOwn
import PyProof.DictUpdate
import PyProof.DictCopy
import HandS.TupAny
import HandS.Exc
import PyProof.Draws
import PyProof.EnumMake
import HandS.Deep
import KE.KDictWalk
import KE.GoesSet
import HandS.TryOnly
import PySem.Challenge.RW_cutbehind_k05_whole_books_put_together
set_option Elab.async false
set_option linter.all false
set_option maxRecDepth 100000
set_option maxHeartbeats 4000000
/-! Gd: defs where no display is being shown (repr of lists and dicts), calls of them, the end of a law row. -/
namespace Gd
open PySem PySem.Spec PyProof.Rows L2

/-- a def's promise where the surroundings show nothing -/
structure FnG (P : Program) (w : World) (K : PySem.W.Frag) (mg : Str → Option Value) (base : Heap) (CX : CXT) (k : Nat) (f : Addr) (fd : FuncData) (ps : List Str) (sp : Sp) : Prop where
  len : ∀ vs H Q E, sp vs H Q E → vs.length = ps.length
  run : ∀ (A : Around) (outer : List Env) (s : Shared) (H : Hp) (args : Args) (us : List Value) (vs : List V) (Q : VK) (E : XK), Room k A → A.guards = some [] → Env0 P w K mg base A outer s H →
    BindsTo s fd args (ps.zip us) → Vals vs us → sp vs H Q E → codeAny (model P w) A (.call (.ref f) args) (CR CX outer P w H s Q E) s

section
variable {P : Program} {w : World} {K : PySem.W.Frag} {mg : Str → Option Value} {base : Heap} {CX : CXT} {k : Nat} {f : Addr} {fd : FuncData} {ps : List Str} {sp : Sp}
theorem FnG.of (F : FnOk P w K mg base CX k f fd ps sp) : FnG P w K mg base CX k f fd ps sp :=
  ⟨F.len, fun A outer s H args us vs Q E hr _ => F.run A outer s H args us vs Q E hr⟩
theorem FnG.up {j : Nat} (F : FnG P w K mg base CX j f fd ps sp) (h : j ≤ k) : FnG P w K mg base CX k f fd ps sp :=
  ⟨F.len, fun A outer s H args us vs Q E hr => F.run A outer s H args us vs Q E (hr.mono h)⟩
theorem FnG.imp {sp' : Sp} (F : FnG P w K mg base CX k f fd ps sp) (h : ∀ vs H Q E, sp' vs H Q E → sp vs H Q E) : FnG P w K mg base CX k f fd ps sp' :=
  ⟨fun vs H Q E q => F.len vs H Q E (h _ _ _ _ q), fun A outer s H args us vs Q E hr hg he hb hv hs => F.run A outer s H args us vs Q E hr hg he hb hv (h _ _ _ _ hs)⟩

/-- a def's promise from its body -/
theorem fn_ofG {name qual : Str} {params : Arguments} {body : List Stmt} {scope : Scope} {kV doc pm cdv ct oc : Value} {an od : Option Addr} {osl : Array (Option Value)} {N : List Str}
    (lk : K.lookup f = some ⟨oc, od, .func (PySem.W.fnOf name qual params body scope .none kV doc pm an cdv ct), osl⟩) (hcd : PySem.W.codeIn K cdv qual = true) (S : FnScope N ps scope)
    (len : ∀ vs H Q E, sp vs H Q E → vs.length = ps.length)
    (hbody : ∀ (A : Around) (outer : List Env) (s : Shared) (H : Hp) (vs : List V) (Q : VK) (E : XK), Room k (A.deeper (envOfC qual scope s.heap.objs.size f cdv)) → A.guards = some [] → sp vs H Q E →
      ∃ t, PSs (cxOf CX P w K mg base N qual scope f cdv A outer s H E) body t ∧ t { nx := fun _ H' => Q .non H', rt := Q } (start N vs) H) :
    FnG P w K mg base CX (k + 1) f (PySem.W.fnOf name qual params body scope .none kV doc pm an cdv ct) ps sp := by
  refine ⟨len, fun A outer s H args us vs Q E room quiet env bnd vals want => ?_⟩
  have same_len := len _ _ _ _ want
  have inK : K.In s.heap := env.mod.kin.keeps fun b o e => (env.bs b o e).1
  have noLim : s.heap.NoLimit := env.mod.nolimit.keeps fun b o e => (env.bs b o e).1
  have kinds : ∀ z ∈ ps.zip us, scope.names.lookup z.1 = some .local ∨ (scope.names.lookup z.1 = some .cell ∧ ((cellsFrom (s.heap.objs.size + 1) scope.names []).lookup z.1).isSome = true) := by
    rintro ⟨n, v⟩ hz
    rcases S.par n (List.of_mem_zip hz).1 with q | q
    · exact .inl q
    · exact .inr ⟨q, PySem.W.cellsFrom_some _ _ _ (.inl q)⟩
  refine codeAny_call_function room.depth (inK _ _ lk) rfl S.co S.gen rfl (PySem.W.codeRec_of inK hcd) (bnd _ _ _ _ ?_)
  refine wpAny_newFunctionEnv_cells S.kind kinds fun env' same s1 x => ?_
  subst same
  refine ⟨noLim.keeps x.toInCall.keep, codeAny_func ?_⟩
  obtain ⟨t, run, holds⟩ := hbody A outer s H vs Q E (room.deeper _) quiet want
  have I0 : Inv (cxOf CX P w K mg base N qual scope f cdv A outer s H E) [] (start N vs) H s1 := inv_start S room.hd env same_len vals x
  refine wpAny_mono (run.run [] s1 (start N vs) H _ I0 holds) (fun fl s2 hs => ?_) fun e s2 hs => hs
  cases fl with
  | ret u => exact hs.elim fun v h => h.elim fun _ h => h.elim fun H2 h => ⟨v, H2, h.1.os, h.1.bare, h.1.base, h.1.hok, h.2.1, h.2.2⟩
  | next => exact hs.elim fun _ h => h.elim fun H2 h => ⟨V.non, H2, h.1.os, h.1.bare, h.1.base, h.1.hok, rfl, h.2⟩
  | brk => exact hs.elim fun _ h => h.elim fun _ h => h.2.elim
  | cont => exact hs.elim fun _ h => h.elim fun _ h => h.2.elim
end

section
variable {P : Program} {w : World} {K : PySem.W.Frag} {mg : Str → Option Value} {base : Heap}
/-- the rule for a def of the text that lets no exception out -/
theorem okG {x qual : Str} {st : Stmt} {f : Addr} {fd : FuncData} {N ps : List Str} {k : Nat} {sp : Sp} (F : Fun K x qual st f fd) (S : FnScope N ps (defScope st)) (len : ∀ vs H Q E, sp vs H Q E → vs.length = ps.length)
    (hbody : ∀ (cdv : Value) (A : Around) (outer : List Env) (s : Shared) (H : Hp) (vs : List V) (Q : VK) (E : XK), Room k (A.deeper (envOfC qual (defScope st) s.heap.objs.size f cdv)) → (A.deeper (envOfC qual (defScope st) s.heap.objs.size f cdv)).guards = some [] → sp vs H Q E →
      ∃ t, PSs (cxOf CX0 P w K mg base N qual (defScope st) f cdv A outer s H E).nox (defBody st) t ∧ t { nx := fun _ H' => Q .non H', rt := Q } (start N vs) H) : FnG P w K mg base CX0 (k + 1) f fd ps sp := by
  obtain ⟨oc, od, kV, doc, pm, an, cdv, ct, osl, rfl, lk, hcd⟩ := F.ex
  refine fn_ofG lk hcd S len fun A outer s H vs Q E room quiet want => ?_
  obtain ⟨t, h, q⟩ := hbody cdv A outer s H vs Q E room quiet want
  exact ⟨t, h.nox, q⟩

/-- a def of the text that may be called by its name -/
structure Df (P : Program) (w : World) (K : PySem.W.Frag) (mg : Str → Option Value) (base : Heap) (k : Nat) (x : Str) (ps : List Str) (sp : Sp) : Prop where
  ex : ∃ (f : Addr) (fd : FuncData), FnG P w K mg base CX0 k f fd ps sp ∧ mg x = some (.ref f) ∧ PySem.W.keepIn K (.ref f) = true ∧ Binds K fd ps []
theorem Df.up {j k : Nat} {x : Str} {ps : List Str} {sp : Sp} (D : Df P w K mg base j x ps sp) (h : j ≤ k) : Df P w K mg base k x ps sp := by
  obtain ⟨f, fd, F, r⟩ := D.ex
  exact ⟨f, fd, F.up h, r⟩
theorem Df.imp {k : Nat} {x : Str} {ps : List Str} {sp sp' : Sp} (D : Df P w K mg base k x ps sp) (h : ∀ vs H Q E, sp' vs H Q E → sp vs H Q E) : Df P w K mg base k x ps sp' := by
  obtain ⟨f, fd, F, r⟩ := D.ex
  exact ⟨f, fd, F.imp h, r⟩
end

/-- room for calls where nothing is being shown -/
structure Rm (k : Nat) (A : Around) : Prop where
  room : Room k A
  still : A.guards = some []
theorem Rm.mono {j k : Nat} {A : Around} (r : Rm k A) (h : j ≤ k) : Rm j A := ⟨r.room.mono h, r.still⟩

section
variable {X : Cx} {CX : CXT} {k : Nat} {x : Str} {f : Addr} {fd : FuncData} {ps : List Str} {sp : Sp} {E : XK} {p pos : Pos} {e : Expr} {es : List Expr} {t : TA}
theorem run_fnG {pins : List (Addr × Obj)} {σ : L2.St} {H : Hp} {s : Shared} {Q : VK} {us ds : List Value} {vs dvs : List V} (F : FnG X.prog X.w X.K X.mg X.base CX k f fd ps sp) (hr : Rm k X.A) (hb : Binds X.K fd ps ds) (hd : Vals dvs ds) (hx : Passes CX X E)
    (I : Inv X pins σ H s) (r : Vals vs us) (h : sp (vs ++ dvs) H Q E) : wpAny (model X.prog X.w) X.A (call (.ref f) us) (EP X pins σ Q) X.xe s := by
  have both : Vals (vs ++ dvs) (us ++ ds) := r.append hd
  have many : (us ++ ds).length = ps.length := both.length ▸ F.len _ _ _ _ h
  refine wpAny_call (codeAny_mono (F.run X.A X.stack s H ⟨us, []⟩ (us ++ ds) (vs ++ dvs) Q E hr.room hr.still I.env0 (hb s us I.kIn many) both h) fun out s' got => ?_)
  match out, got with
  | .error e, got => exact hx pins σ H s e s' I got
  | .ok (.ret u), got => exact I.after got
  | .ok .next, got => exact got.elim
  | .ok .brk, got => exact got.elim
  | .ok .cont, got => exact got.elim
theorem pe_callD (D : Df X.prog X.w X.K X.mg X.base k x ps sp) (hr : Rm k X.A) (hg : Gl X x) (ha : PA X (e :: es) t) (hdb : (x == ("__debug__" : Str)) = false := by decide)
    (he : starEach (e :: es) X.env = (false, eval e X.env) :: starEach es X.env := by rfl) (hpl : (backTo pos (starEach es X.env)).any (·.1) = false := by rfl) : PE X (.Call (.Name x p) (e :: es) [] pos) (tCall sp [] E0 t) := by
  obtain ⟨f, fd, F, hm, hk, hb⟩ := D.ex
  refine ⟨fun pins s σ H Q I h => ?_⟩
  refine wpAny_Call_Name_kw (ld_glob I hg hm ?_ hdb)
  refine PySem.W.callWith_K (h₀ := X.base) I.ok.mod.kin hk (thn (ha.run pos pins s σ H _ I h) fun us s1 ⟨vs, H1, I1, r, q⟩ => ⟨I1.kIn, ?_⟩) he hpl
  exact run_fnG F hr hb .nil pass0 I1 r q
end
end Gd

namespace Gd
open PySem PySem.Spec PyProof.Rows L2
/-- a law's def called by its caller, from the heap behind the top: only the script may be tracked -/
theorem end_call {P : Program} {w : World} {K : PySem.W.Frag} {mg mb : Str → Option Value} {k : Nat} {fa a : Addr} {fd : FuncData} {x : Str} {sp : Sp} {s : Shared} {vs : List Value} {ns : List Int}
    (inK : K.In s.heap) (hns : s.heap.Ns mainGlobals mg) (hb : s.heap.Ns builtinsNs mb) (hbb : ∀ y : Str, y ≠ "__name__" → mb y = bootBuiltins y) (hlim : s.heap.NoLimit) (gens : s.gens = #[])
    (here : s.heap.get? a = some { cls := .type "list", data := .seq vs.toArray }) (ia : IntsAre vs ns) (many : ns.length ≤ sizeLine) (room : Room k callerA)
    (F : ∀ base : Heap, K.In base → base.Ns mainGlobals mg → FnG P w K mg base CX0 k fa fd [x] sp) (binds : ∀ (s : Shared) (u : Value), BindsTo s fd ⟨[u], []⟩ [(x, u)])
    (want : ∀ H : Hp, Only H → SqL K H a (ns.map V.int) → sp [.ref a] H (fun v _ => v = .bl true) E0) :
    codeAny (model P w) callerA (.call (.ref fa) ⟨[.ref a], []⟩) (fun r s' => r = .ok (.ret (.bool true)) ∧ OldK s.heap s'.heap ∧ s'.os = s.os ∧ AllBare s'.gens) s := by
  have vals : Vals (ns.map V.int) vs := vals_ints ia
  suffices go : ∀ H : Hp, Only H → SqL K H a (ns.map V.int) → HOk P w H s.heap → (∀ b u, H b = some u → b = a ∧ K.lookup a = none) →
      codeAny (model P w) callerA (.call (.ref fa) ⟨[.ref a], []⟩) (fun r s' => r = .ok (.ret (.bool true)) ∧ OldK s.heap s'.heap ∧ s'.os = s.os ∧ AllBare s'.gens) s by
    cases isK : K.lookup a with
    | some o =>
      have same := (inK a o isK).symm.trans here
      cases same
      refine go (fun _ => none) (fun _ => .inl rfl) (.inr ⟨_, vs.toArray, _, isK, rfl, rfl, rfl, ?_, ?_⟩) (fun b u z => ?_) (fun b u z => ?_)
      · rw [List.size_toArray, ia.length]
        exact many
      · exact vals
      · exact absurd z (by simp)
      · exact absurd z (by simp)
    | none =>
      let H : Hp := fun b => if b = a then some (.frz { cls := .type "list", data := .seq vs.toArray } (.lst (ns.map V.int))) else none
      have at_a : H a = some (.frz { cls := .type "list", data := .seq vs.toArray } (.lst (ns.map V.int))) := if_pos rfl
      have off_a : ∀ b, b ≠ a → H b = none := fun b z => if_neg z
      have isa : ∀ b u, H b = some u → b = a := fun b u z => Classical.byContradiction fun q => by
        rw [off_a b q] at z
        cases z
      refine go H (fun b => ?_) (.inl (.inr ⟨_, at_a⟩)) (fun b u z => ?_) (fun b u z => ⟨isa b u z, isK⟩)
      · by_cases q : b = a
        · exact .inr ⟨_, _, q ▸ at_a⟩
        · exact .inl (off_a b q)
      · obtain rfl := isa b u z
        have z' := at_a.symm.trans z
        cases z'
        refine ⟨here, ?_, vs, _, vals, here⟩
        rw [List.length_map]
        exact many
  intro H only seqs hok lone
  have plain : ∀ {b : Addr} {o : Obj}, s.heap.get? b = some o → H b = none → (hidT s.heap H).get? b = some o := fun q n => hidT_get q n
  have noDict : ∀ {b : Addr} {o : Obj} {es : Array DictEntry} {ep : Nat}, s.heap.get? b = some o → o.data = .dict es ep → H b = none := by
    intro b o es ep q d
    cases z : H b with
    | none => rfl
    | some u =>
      obtain rfl := (lone b u z).1
      have q' := here.symm.trans q
      cases q'
      cases d
  have keepNs : ∀ {b : Addr} {m : Str → Option Value}, s.heap.Ns b m → (hidT s.heap H).Ns b m := by
    rintro b m ⟨o, es, ep, q, d, r⟩
    exact ⟨o, es, ep, plain q (noDict q d), d, r⟩
  have inB : K.In (hidT s.heap H) := by
    intro b o q
    refine plain (inK b o q) ?_
    cases z : H b with
    | none => rfl
    | some u =>
      obtain ⟨rfl, n⟩ := lone b u z
      rw [n] at q
      cases q
  have md : Mod K mg (hidT s.heap H) := ⟨inB, keepNs hns, ⟨mb, keepNs hb, hbb⟩, hlim.elim fun mc h => ⟨mc, keepNs h.1, h.2⟩⟩
  have env : Env0 P w K mg (hidT s.heap H) callerA [] s H :=
    ⟨rfl, md, fun b o q => of_hidT q, Nat.le_of_eq (hidT_size _ _), trivial, fun b z => (nomatch z), hok, .of_eq gens⟩
  have ran := (F _ inB (keepNs hns)).run callerA [] s H ⟨[.ref a], []⟩ [.ref a] [.ref a] _ _ room rfl env (binds s (.ref a)) (.cons rfl .nil) (want H only seqs)
  refine codeAny_mono ran fun out s' got => ?_
  match out, got with
  | .error e, got => exact got.elim
  | .ok .next, got => exact got.elim
  | .ok .brk, got => exact got.elim
  | .ok .cont, got => exact got.elim
  | .ok (.ret u), got =>
    obtain ⟨v, H', os, bare, un, hok', r, q⟩ := got
    obtain rfl : v = .bl true := q
    obtain rfl : u = Value.bool true := r
    refine ⟨rfl, OldK.of_keep fun b o q => ?_, os, bare⟩
    rcases only b with z | ⟨ob, xs, z⟩
    · exact un.keep b o q z (fun n => (nomatch n)) (fun n => (nomatch n))
    · have old := (hok b _ z).1
      have new := (hok' b _ (un.frzs b ob _ z)).1
      have same := q.symm.trans old
      cases same
      exact new
/-- the goal that the head leaves -/
theorem end_walk {l : PySem.W.OpenLaw} {n k : Nat} {q : Program} {loose : List Str} {XP : (Str → Option Value) → Heap → Prop} {YP : World → Heap → Prop} {d : DefRec} {K : Params → PySem.W.Frag} {sp : PySem.W.Frag → Sp} {x : Str}
    (hn : l.most = some n) (hn2 : n ≤ sizeLine) (hdf : d.params.defaults = []) (hr : Room k callerA) (hY : ∀ (w : World) (h : Heap), YP w h → (K w.params).In h)
    (F : ∀ (w : World) (mg : Str → Option Value) (fa : Addr) (h : Heap), (K w.params).In h → h.Ns mainGlobals mg → mg d.name = some (.ref fa) →
      ∃ fd : FuncData, (∀ (s : Shared) (u : Value), BindsTo s fd ⟨[u], []⟩ [(x, u)]) ∧ ∀ base : Heap, (K w.params).In base → base.Ns mainGlobals mg → FnG l.prog w (K w.params) mg base CX0 k fa fd [x] (sp (K w.params)))
    (want : ∀ (K : PySem.W.Frag) (H : Hp) (a : Addr) (ns : List Int), ns.length ≤ n → SqL K H a (ns.map V.int) → sp K [.ref a] H (fun v _ => v = .bl true) E0) :
    PySem.W.WalkO q loose XP YP l.row.toRowW d [] (fun f vs => PySem.call f vs) := by
  refine Att.attach_call hn hdf fun w s₀ s₁ mg mb fa o pm cd doc a vs ns G Y ho hd hcd hmg hobj hints hlen gens => ?_
  have inK := hY w _ Y
  obtain ⟨fd, hb, hF⟩ := F w mg fa _ inK G.T.g hmg
  exact end_call inK G.T.g G.T.b G.T.builtins G.T.nolimit gens hobj hints (Nat.le_trans hlen hn2) hr hF hb fun H _ hS => want _ H a ns hlen hS
end Gd

namespace Gd
open PySem PySem.Spec PyProof.Rows L2

/-! ### operators that the layer lacks -/
section
variable {X : Cx}
theorem op_powW : OpR X (binaryOp .Pow) (rI (fun i j => 0 ≤ j ∧ (Builtin.Int.intBits i : Int) * j ≤ 2 ^ 27) fun i j => .int (i ^ j.toNat)) := by
  intro pins s σ H x y v u Q I rx ry h
  obtain ⟨i, j, rfl, rfl, ⟨h1, h2⟩, q⟩ := h
  obtain ⟨t, rfl⟩ := rx
  obtain ⟨t', rfl⟩ := ry
  exact pow_int h1 h2 ⟨.int _, H, I.tok _, ⟨_, rfl⟩, q⟩
theorem op_mulS : OpR X (binaryOp .Mult) (fun x y H Q => ∃ a n, x = .str a ∧ y = .int n ∧ MulOk a n ∧ Q (.str (Txt.mul a n)) H) := by
  intro pins s σ H x y v u Q I rx ry h
  obtain ⟨a, n, rfl, rfl, ok, q⟩ := h
  obtain ⟨t, rfl⟩ := rx
  obtain ⟨t', rfl⟩ := ry
  exact SB.mul ok fun t' k => ⟨.str _, H, I.tok k, ⟨t', rfl⟩, q⟩
end

/-! ### repr of data (no dicts) -/
/-- data that repr can show: numbers written out, signs that exist, of some size -/
structure Sh (d : PyData) : Prop where
  short : d.leavesShort 600 = true
  can : d.showable = true
  plain : d.hasDict = false
  few : d.weight ≤ 20000
  low : d.depth ≤ 60
theorem Sh.len {d : PyData} (h : Sh d) : d.shown.length ≤ sizeLine := by
  have h1 := PyData.shown_le 600 (by decide) d h.short
  have h2 := h.few
  have h3 : sizeLine = 16777216 := by decide
  omega
section
variable {X : Cx} {k : Nat}
theorem call_repr (hr : Rm k X.A) : CallR X (.builtin "repr") (fun xs H Q => ∃ x d, xs = [x] ∧ Dp X.K H x d ∧ Sh d ∧ Q (.str d.shown) H) := by
  intro pins s σ H xs us Q I r h
  obtain ⟨x, d, rfl, hd, sh, q⟩ := h
  obtain ⟨u, rfl, rx⟩ := vals1 r
  have un := hr.room.units
  have le := sh.len
  cases hd with
  | non =>
    cases rx
    exact PySem.P.repr_of_none ⟨.str _, H, I.tok _, ⟨_, rfl⟩, q⟩
  | bl b =>
    cases rx
    exact PySem.P.repr_of_bool ⟨.str _, H, I.tok _, ⟨_, rfl⟩, by cases b <;> exact q⟩
  | int i =>
    obtain ⟨t, rfl⟩ := rx
    have hc := sh.can
    simp only [PyData.showable] at hc
    exact PySem.P.repr_of_int (of_decide_eq_true hc) ⟨.str _, H, I.tok _, ⟨_, rfl⟩, q⟩
  | str z =>
    obtain ⟨t, rfl⟩ := rx
    exact PySem.P.repr_of_str ⟨.str _, H, I.tok _, ⟨_, rfl⟩, q⟩ le
  | lst hs ha =>
    cases rx
    obtain ⟨as, rd⟩ := Dp.reads I _ _ _ (Dp.lst hs ha) rfl
    refine PySem.repr_of_reads' rd sh.can (fun z => absurd z (by rw [sh.plain]; decide)) hr.still (by have := sh.low; omega) (fun b o e => e) (fun h' u tk keep => ?_) le
    exact ⟨.str _, H, I.kept keep, ⟨u, rfl⟩, q⟩
  | tup hs ha =>
    cases rx
    obtain ⟨as, rd⟩ := Dp.reads I _ _ _ (Dp.tup hs ha) rfl
    refine PySem.repr_of_reads' rd sh.can (fun z => absurd z (by rw [sh.plain]; decide)) hr.still (by have := sh.low; omega) (fun b o e => e) (fun h' u tk keep => ?_) le
    exact ⟨.str _, H, I.kept keep, ⟨u, rfl⟩, q⟩
end
end Gd

/-! Gd4: the dice (a list of three numbers that the rolls change) as a thing of which only this much is known. -/
namespace Gd
open PySem PySem.Spec PyProof.Rows L2
abbrev three (x y z : Int) : HO := .lst [.int x, .int y, .int z]
/-- a list of three numbers, the first one not negative -/
def Dice (a : Addr) : HO := .ext fun h => ∃ (x y z : Int) (its : List Value) (n : Nat), 0 ≤ x ∧ Vals [.int x, .int y, .int z] its ∧ h.get? a = some { cls := .type "list", data := .seq its.toArray n }
section
variable {P : Program} {w : World} {H H' : Hp} {h h' : Heap} {a : Addr} {x y z : Int} {fs ex : List Addr}
theorem dice_show (ok : HOk P w H h) (e : H a = some (Dice a)) : ∃ x y z : Int, 0 ≤ x ∧ HOk P w (upd H a (three x y z)) h := by
  obtain ⟨⟨x, y, z, its, n, h0, vals, at_a⟩, _, _⟩ := (show ObjOk P w H h a (Dice a) from ok a _ e)
  refine ⟨x, y, z, h0, fun b u q => ?_⟩
  by_cases same : b = a
  · subst same
    rw [upd_same] at q
    cases q
    exact ⟨by show 3 ≤ sizeLine; decide, its, n, vals, at_a⟩
  · rw [upd_ne same] at q
    refine (ok b u q).stay (fun c v _ r => r) (fun c r => ?_) (fun c xs r => ?_)
    · rw [upd_ne (ne_of r e (by intro n; cases n))]
      exact r
    · rw [upd_ne (ne_of r e (by intro n; cases n))]
      exact r
theorem dice_hide (ok : HOk P w H h) (e : H a = some (three x y z)) (h0 : 0 ≤ x) : HOk P w (upd H a (Dice a)) h := by
  obtain ⟨_, its, n, vals, at_a⟩ := (show ObjOk P w H h a (three x y z) from ok a _ e)
  intro b u q
  by_cases same : b = a
  · subst same
    rw [upd_same] at q
    cases q
    exact ⟨⟨x, y, z, its, n, h0, vals, at_a⟩, ⟨_, at_a⟩, fun h1 h2 ⟨x, y, z, its, n, g0, g1, g2⟩ keep => ⟨x, y, z, its, n, g0, g1, keep _ g2⟩⟩
  · rw [upd_ne same] at q
    refine (ok b u q).stay (fun c v _ r => r) (fun c r => ?_) (fun c xs r => ?_)
    · rw [upd_ne (ne_of r e (by intro n; cases n))]
      exact r
    · rw [upd_ne (ne_of r e (by intro n; cases n))]
      exact r
theorem un_show (e : H a = some (Dice a)) (un : Un fs ex (upd H a (three x y z)) H' h h') : Un fs ex H H' h h' := by
  have off : ∀ b, H b = none → (upd H a (three x y z)) b = none := fun b n => by
    rw [upd_ne (fun q => by rw [q, e] at n; cases n)]
    exact n
  have off' : ∀ b u, H b = some u → u ≠ Dice a → (upd H a (three x y z)) b = some u := fun b u q d => by
    rw [upd_ne (ne_of q e d)]
    exact q
  exact ⟨fun b o q n => un.keep b o q (off b n), fun b o q n => un.slot b o q (off b n), fun b o q n => un.free b o q (off b n), un.there,
    fun b xs q => un.tups b xs (off' b _ q (by intro n; cases n)), fun b o u q => un.frzs b o u (off' b _ q (by intro n; cases n)), fun b ps q => un.tbls b ps (off' b _ q (by intro n; cases n))⟩
theorem un_hide (e : H' a = some (three x y z)) (un : Un fs ex H H' h h') : Un fs ex H (upd H' a (Dice a)) h h' := by
  have on : ∀ b u, H' b = some u → u ≠ three x y z → (upd H' a (Dice a)) b = some u := fun b u q d => by
    rw [upd_ne (ne_of q e d)]
    exact q
  refine ⟨un.keep, un.slot, fun b o q n hx => ?_, un.there, fun b xs q => on b _ (un.tups b xs q) (by intro n; cases n), fun b o u q => on b _ (un.frzs b o u q) (by intro n; cases n), fun b ps q => ?_⟩
  · have r := un.free b o q n hx
    rw [upd_ne (fun s => by rw [s, e] at r; cases r)]
    exact r
  · obtain ⟨more, r⟩ := un.tbls b ps q
    exact ⟨more, on b _ r (by intro n; cases n)⟩
theorem upd_back (e : H a = some (Dice a)) : upd (upd H a (three x y z)) a (Dice a) = H := by
  funext b
  by_cases same : b = a
  · subst same
    rw [upd_same, e]
  · rw [upd_ne same, upd_ne same]
theorem Env0.dice {K : PySem.W.Frag} {mg : Str → Option Value} {base : Heap} {A : Around} {outer : List Env} {s : Shared} (e : H a = some (Dice a)) (env : Env0 P w K mg base A outer s H) (ok : HOk P w (upd H a (three x y z)) s.heap) : Env0 P w K mg base A outer s (upd H a (three x y z)) := by
  have off : ∀ b, H b = none → (upd H a (three x y z)) b = none := fun b n => by
    rw [upd_ne (fun q => by rw [q, e] at n; cases n)]
    exact n
  exact ⟨env.frames, env.mod, fun b o q => ⟨(env.bs b o q).1, off b (env.bs b o q).2⟩, env.bsz, env.funs, fun b z => off b (env.frf b z), ok, env.bare⟩
end

section
variable {P : Program} {w : World} {K : PySem.W.Frag} {mg : Str → Option Value} {base : Heap} {k : Nat} {f : Addr} {fd : FuncData} {ps : List Str}
/-- a roll, told by the list -/
def spRoll0 : Sp := fun vs H Q _ => ∃ (a : Addr) (n x y z : Int), vs = [.ref a, .int n] ∧ (0 < n ∧ n < 1073741824) ∧ 0 ≤ x ∧ H a = some (three x y z) ∧ ∀ r x' y' z', 0 ≤ r → r < n → 0 ≤ x' → Q (.int r) (upd H a (three x' y' z'))
/-- a roll: some number below the bound -/
def spRoll : Sp := fun vs H Q _ => ∃ (a : Addr) (n : Int), vs = [.ref a, .int n] ∧ (0 < n ∧ n < 1073741824) ∧ H a = some (Dice a) ∧ ∀ r, 0 ≤ r → r < n → Q (.int r) H
theorem roll_hidden (F : FnG P w K mg base CX0 k f fd ps spRoll0) (len : ps.length = 2) : FnG P w K mg base CX0 k f fd ps spRoll := by
  refine ⟨fun vs H Q E h => ?_, fun A outer s H args us vs Q E room quiet env bnd vals want => ?_⟩
  · obtain ⟨a, n, rfl, _⟩ := h
    exact len.symm
  · obtain ⟨a, n, rfl, hn, e, q⟩ := want
    obtain ⟨x, y, z, h0, ok⟩ := dice_show env.hok e
    refine codeAny_mono (F.run A outer s (upd H a (three x y z)) args us _ (fun v H' => ∃ r x' y' z', v = .int r ∧ 0 ≤ r ∧ r < n ∧ 0 ≤ x' ∧ H' = upd H a (three x' y' z')) E room quiet (Env0.dice e env ok) bnd vals
      ⟨a, n, x, y, z, rfl, hn, h0, upd_same, fun r x' y' z' r0 r1 p0 => ⟨r, x', y', z', rfl, r0, r1, p0, upd_upd⟩⟩) fun out s' got => ?_
    match out, got with
    | .error e, got => exact got.elim
    | .ok .next, got => exact got.elim
    | .ok .brk, got => exact got.elim
    | .ok .cont, got => exact got.elim
    | .ok (.ret u), got =>
      obtain ⟨v, H', os, bare, un, ok', rv, r, x', y', z', rfl, r0, r1, p0, rfl⟩ := got
      have un' := un_hide upd_same (un_show e un)
      have hk := dice_hide ok' upd_same p0
      rw [upd_back e] at un' hk
      exact ⟨.int r, H, os, bare, un', hk, rv, q r r0 r1⟩
/-- new dice, told by the list -/
def spDice0 (K : PySem.W.Frag) : Sp := fun vs H Q _ => ∃ (a : Addr) (ns : List Int) (i : Int), vs = [.ref a, .int i] ∧ (0 ≤ i ∧ i < 63) ∧ SqL K H a (ns.map V.int) ∧ ns.length ≤ 63 ∧ ∀ p x y z, H p = none → 0 ≤ x → Q (.ref p) (upd H p (three x y z))
/-- new dice -/
def spDice (K : PySem.W.Frag) : Sp := fun vs H Q _ => ∃ (a : Addr) (ns : List Int) (i : Int), vs = [.ref a, .int i] ∧ (0 ≤ i ∧ i < 63) ∧ SqL K H a (ns.map V.int) ∧ ns.length ≤ 63 ∧ ∀ p, H p = none → Q (.ref p) (upd H p (Dice p))
theorem dice_hidden (F : FnG P w K mg base CX0 k f fd ps (spDice0 K)) (len : ps.length = 2) : FnG P w K mg base CX0 k f fd ps (spDice K) := by
  refine ⟨fun vs H Q E h => ?_, fun A outer s H args us vs Q E room quiet env bnd vals want => ?_⟩
  · obtain ⟨a, ns, i, rfl, _⟩ := h
    exact len.symm
  · obtain ⟨a, ns, i, rfl, hi, hS, many, q⟩ := want
    refine codeAny_mono (F.run A outer s H args us _ (fun v H' => ∃ p x y z, v = .ref p ∧ H p = none ∧ 0 ≤ x ∧ H' = upd H p (three x y z)) E room quiet env bnd vals
      ⟨a, ns, i, rfl, hi, hS, many, fun p x y z hp p0 => ⟨p, x, y, z, rfl, hp, p0, rfl⟩⟩) fun out s' got => ?_
    match out, got with
    | .error e, got => exact got.elim
    | .ok .next, got => exact got.elim
    | .ok .brk, got => exact got.elim
    | .ok .cont, got => exact got.elim
    | .ok (.ret u), got =>
      obtain ⟨v, H', os, bare, un, ok', rv, p, x', y', z', rfl, hp, p0, rfl⟩ := got
      have un' := un_hide upd_same un
      have hk := dice_hide ok' upd_same p0
      rw [upd_upd] at un' hk
      exact ⟨.ref p, _, os, bare, un', hk, rv, q p hp⟩
end
end Gd

/-! Gd5: readings made plain; kinds of values -/
namespace Gd
open PySem PySem.Spec PyProof.Rows L2
theorem seq_cut {t u : TS} {D : Ends} {σ : L2.St} {H : Hp} (h : ∀ k, k = u D → t { D with nx := k } σ H) : tSeq t u D σ H := h _ rfl
section
variable {CX : CXT} {P : Program} {w : World} {K : PySem.W.Frag} {mg : Str → Option Value} {base : Heap} {N : List Str} {q : Str} {sc : Scope} {f : Addr} {cd : Value} {A : Around} {o : List Env} {s : Shared} {H : Hp} {E : XK}
theorem cx_K : (cxOf CX P w K mg base N q sc f cd A o s H E).K = K := rfl
theorem cx_Kn : (cxOf CX P w K mg base N q sc f cd A o s H E).nox.K = K := rfl
end
/-- the kinds of values that the laws pass -/
inductive Kd (H : Hp) : V → String → Prop
  | non : Kd H .non "NoneType"
  | bl (b : Bool) : Kd H (.bl b) "bool"
  | int (i : Int) : Kd H (.int i) "int"
  | str {x : Str} (h : x.length ≤ sizeLine) : Kd H (.str x) "str"
  | lst {a : Addr} {xs : List V} : H a = some (.lst xs) → Kd H (.ref a) "list"
  | tup {a : Addr} {xs : List V} : H a = some (.tup xs) → Kd H (.ref a) "tuple"
  | dic {a : Addr} {kvs : List (Key × V)} : H a = some (.dK kvs) → Kd H (.ref a) "dict"
theorem Kd.ty {K : PySem.W.Frag} {H : Hp} {v : V} {T : String} (h : Kd H v T) : TyX K H v (.type T) := by
  cases h with
  | non => exact .base .non
  | bl b => exact .base (.bl b)
  | int i => exact .base (.int i)
  | @str x _ => exact .base (.str x)
  | lst h => exact .base (.lst h)
  | tup h => exact .base (.tup h)
  | dic h => exact .base (.dK h)
theorem isi_of {K : PySem.W.Frag} {H : Hp} {v : V} {T T' : String} {b : Bool} {Q : VK} (h : Kd H v T) (e : kitB T T' = some b) (q : Q (.bl b) H) : rIsi K [v, .ty T'] H Q :=
  ⟨v, .ty T', .type T, .type T', b, rfl, .ty T', h.ty, kit_ty e, q⟩
theorem len_str {K : PySem.W.Frag} {H : Hp} {x : Str} {n : Nat} : LenV K (.str x) H n ↔ x.length ≤ sizeLine ∧ n = x.length := Iff.rfl
theorem tyV_str {K : PySem.W.Frag} {H : Hp} {T : String} {x : Str} : tyV K T (.str x) H ↔ T = "str" := Iff.rfl
section
variable {X : Cx}
theorem call_intI : CallR X (.type "int") (fun xs H Q => ∃ i, xs = [.int i] ∧ Q (.int i) H) := fun pins s σ H xs us Q I r h => call_int1 pins s σ H xs us Q I r (.inl h)
theorem call_intB : CallR X (.type "int") (fun xs H Q => ∃ k, xs = [.bl k] ∧ Q (.int (if k then 1 else 0)) H) := fun pins s σ H xs us Q I r h => call_int1 pins s σ H xs us Q I r (.inr h)
end
theorem sq_lst {K : PySem.W.Frag} {H : Hp} {a : Addr} {xs : List V} (h : H a = some (.lst xs)) : SqL K H a xs := .inl (.inl h)
theorem sq_tup {K : PySem.W.Frag} {H : Hp} {a : Addr} {xs : List V} (h : H a = some (.tup xs)) : SqT K H a xs := .inl (.inl h)
end Gd

namespace Gd
open PySem PySem.Spec PyProof.Rows L2
/-- a small letter -/
def low (c : Nat) : Bool := decide (97 ≤ c ∧ c ≤ 122)
theorem low_alpha : ∀ c : Fin 128, Unicode.isAlpha c.val = (low c.val || decide (65 ≤ c.val ∧ c.val ≤ 90)) := by decide +kernel
theorem low_lower : ∀ c : Fin 128, Unicode.isLower c.val = low c.val := by decide +kernel
theorem low_upper : ∀ c : Fin 128, (Unicode.isUpper c.val || Unicode.isTitle c.val) = decide (65 ≤ c.val ∧ c.val ≤ 90) := by decide +kernel
/-- a letter's text of at most 8000 signs -/
def isText : V → Bool
  | .str x => decide (x.length ≤ 8000) && x.cps.toList.all low
  | _ => false
theorem isText_str (x : Str) : isText (.str x) = (decide (x.length ≤ 8000) && x.cps.toList.all low) := rfl
theorem list_low : ∀ l : List Nat, l ≠ [] → (l.all (fun c => decide (c < 128)) && (l.all Unicode.isAlpha && (l.any Unicode.isLower && !l.any fun c => Unicode.isUpper c || Unicode.isTitle c))) = l.all low := by
  intro l ne
  rw [Bool.eq_iff_iff]
  simp only [Bool.and_eq_true, List.all_eq_true, List.any_eq_true, Bool.not_eq_true', decide_eq_true_eq, List.any_eq_false]
  constructor
  · rintro ⟨h1, h2, _, h4⟩ c hc
    have a := low_alpha ⟨c, h1 c hc⟩
    have u := low_upper ⟨c, h1 c hc⟩
    have h4' := h4 c hc
    rw [h2 c hc] at a
    simp only at a u
    rw [u] at h4'
    cases l1 : low c with
    | true => rfl
    | false =>
      rw [l1] at a
      simp only [Bool.false_or] at a
      exact absurd a.symm h4'
  · intro h
    have lt : ∀ c ∈ l, c < 128 := fun c hc => by
      have := h c hc
      unfold low at this
      have := of_decide_eq_true this
      omega
    refine ⟨lt, fun c hc => ?_, ?_, fun c hc => ?_⟩
    · have a := low_alpha ⟨c, lt c hc⟩
      simp only at a
      rw [a, h c hc]
      rfl
    · obtain ⟨c, r, rfl⟩ := List.exists_cons_of_ne_nil ne
      have m : c ∈ c :: r := List.mem_cons_self
      have a := low_lower ⟨c, lt c m⟩
      simp only at a
      exact ⟨c, m, by rw [a]; exact h c m⟩
    · have u := low_upper ⟨c, lt c hc⟩
      simp only at u
      rw [u]
      have := h c hc
      unfold low at this
      have := of_decide_eq_true this
      intro z
      have := of_decide_eq_true z
      omega
theorem text_low {x : Str} (ne : x.cps.toList ≠ []) : (Txt.isascii x && (Txt.isalpha x && Txt.islower x)) = x.cps.toList.all low := by
  rw [← list_low _ ne]
  have pos : decide (x.length > 0) = true := by
    refine decide_eq_true ?_
    have : x.cps.toList.length = x.length := by simp [Str.length]
    cases e : x.cps.toList with
    | nil => exact absurd e ne
    | cons c r =>
      rw [e] at this
      simp only [List.length_cons] at this
      omega
  unfold Txt.isascii Txt.isalpha Txt.islower
  rw [pos]
  simp only [← Array.all_toList, ← Array.any_toList, Bool.true_and]
end Gd
namespace Gd
open PySem PySem.Spec PyProof.Rows L2
/-- the signs of a join without a separator -/
theorem join0 : ∀ ys : List Str, (Txt.join (Str.ofString "") ys).cps.toList = (ys.map fun y => y.cps.toList).flatten := by
  intro ys
  rw [show Txt.join (Str.ofString "") ys = Str.join (Str.ofString "") ys from PySem.StrLaws.glued_eq_join _ _]
  induction ys with
  | nil => rfl
  | cons x r ih =>
    cases r with
    | nil => simp [Str.join]
    | cons y r =>
      rw [show Str.join (Str.ofString "") (x :: y :: r) = x ++ Str.ofString "" ++ Str.join (Str.ofString "") (y :: r) from rfl]
      rw [show (x ++ Str.ofString "" ++ Str.join (Str.ofString "") (y :: r)).cps.toList = x.cps.toList ++ (Str.ofString "").cps.toList ++ (Str.join (Str.ofString "") (y :: r)).cps.toList by simp [Str.cps_append]]
      rw [ih, show (Str.ofString "").cps.toList = [] from rfl, List.append_nil]
      rfl
theorem str_len (x : Str) : x.cps.toList.length = x.length := by simp [Str.length]
abbrev sg (c : Nat) : Str := ⟨#[c]⟩
theorem signs_join (cs : List Nat) : (Txt.join (Str.ofString "") (cs.map sg)).cps.toList = cs := by
  rw [join0, List.map_map]
  induction cs with
  | nil => rfl
  | cons c r ih =>
    rw [List.map_cons, List.flatten_cons, ih]
    rfl
theorem signs_sum : ∀ l : List Nat, ((l.map sg).map fun y : Str => y.length).sum = l.length := by
  intro l
  induction l with
  | nil => rfl
  | cons c r ih =>
    rw [List.map_cons, List.map_cons, List.sum_cons, ih, List.length_cons, Nat.add_comm]
    rfl
/-- values that are signs -/
theorem signs_of {P : Nat → Prop} : ∀ {ys : List V}, (∀ (i : Nat) (y : V), ys[i]? = some y → ∃ c, y = .str (sg c) ∧ P c) → ∃ cs : List Nat, ys = (cs.map sg).map V.str ∧ ∀ c ∈ cs, P c
  | [], _ => ⟨[], rfl, fun _ h => nomatch h⟩
  | y :: r, h => by
    obtain ⟨c, rfl, hc⟩ := h 0 y rfl
    obtain ⟨cs, rfl, h2⟩ := signs_of (ys := r) fun i z e => h (i + 1) z e
    refine ⟨c :: cs, rfl, fun d hd => ?_⟩
    rcases List.mem_cons.mp hd with rfl | hd
    · exact hc
    · exact h2 d hd
/-- an integer of at most sixty digits -/
def isInteger : V → Bool
  | .int i => decide (i.natAbs < 10 ^ 60)
  | _ => false
def isSign : V → Bool
  | .str x => isText (.str x) && decide (x.length = 1)
  | _ => false
def isPiece : V → Bool
  | .str x => isText (.str x) && decide (1 ≤ x.length ∧ x.length ≤ 5)
  | _ => false
/-- a def that tells a truth of a value -/
def spKind (g : V → Bool) : Sp := fun vs H Q _ => ∃ v T, vs = [v] ∧ Kd H v T ∧ Q (.bl (g v)) H
end Gd

/-! Gd6: comprehensions whose elements only add to the heap -/
namespace Gd
open PySem PySem.Spec PyProof.Rows L2
theorem same_new {H : Hp} {p : Addr} {o : HO} (h : H p = none) : Same H (upd H p o) := fun b u e => by
  rw [upd_ne (ne_of_none e h)]
  exact e
/-- a thing that the older heap does not know may be anything -/
theorem same_over {H H' : Hp} {p : Addr} {o : HO} (e : Same H H') (h : H p = none) : Same H (upd H' p o) := fun b u q => by
  rw [upd_ne (ne_of_none q h)]
  exact e b u q
theorem Same.sqt {K : PySem.W.Frag} {H H' : Hp} {a : Addr} {xs : List V} (e : Same H H') (h : SqT K H a xs) : SqT K H' a xs := by
  rcases h with (h | ⟨o, h⟩) | h
  · exact .inl (.inl (e a _ h))
  · exact .inl (.inr ⟨o, e a _ h⟩)
  · exact .inr h
/-- [.. for x in range(..)] -/
theorem lc_rangeG {lo : Int} {n slot : Nat} {te : TE} {vs : List Nat} {σ : L2.St} {H1 : Hp} {D : Addr} {Qd : Hp → Prop} (R : Nat → V → Prop) (hD : H1 D = none) (hn : n ≤ 100000)
    (hw : ∀ x, wipe ((wipe σ vs).set slot (some x)) vs = wipe σ vs)
    (hs : ∀ (i : Nat) (H : Hp), i < n → Same H1 H → ∀ Q : VK, (∀ y H', Same H H' → R i y → Q y H') → te ((wipe σ vs).set slot (some (.int (lo + i)))) H Q)
    (hd : ∀ (H : Hp) (ys : List V), Same H1 H → H D = some (.lst ys) → ys.length = n → (∀ i y, ys[i]? = some y → R i y) → Qd H) :
    ∃ W : Nat → Nat → Hp → Prop, (∃ m, W 0 m (upd H1 D (.lst []))) ∧ ∀ i m H, W i m H →
      ((Itr lo n).stop i H ∧ Qd H) ∨ ((Itr lo n).go i H ∧ ∃ Nx : Hp → Prop, (∀ H', Nx H' → ∃ m', m' < m ∧ W (i + 1) m' H') ∧ ∀ x H', (Itr lo n).yld i H x H' → gName slot x (wipe σ vs) H' fun σ2 H2 => wipe σ2 vs = wipe σ vs ∧ tYes σ2 H2 fun b H3 =>
        if b = true then te σ2 H3 fun y H4 => ∃ acc, H4 D = some (.lst acc) ∧ acc.length < sizeLine ∧ Nx (upd H4 D (.lst (acc ++ [y]))) else Nx H3) := by
  refine lc_range (fun i H => Same H1 H ∧ ∃ ys, H D = some (.lst ys) ∧ ys.length = i ∧ ∀ i y, ys[i]? = some y → R i y) ⟨same_new hD, [], upd_same, rfl, fun i y e => by cases e⟩ ?_ ?_
  · rintro i H hi ⟨sm, ys, hd, rfl, hr⟩
    refine ⟨hw _, ?_⟩
    simp only [tYes, reduceIte]
    refine hs ys.length H hi sm _ fun y H' sm' ry => ⟨ys, sm' _ _ hd, Nat.lt_of_lt_of_le (by omega) (show 100000 ≤ sizeLine by decide), same_over (sm.trans sm') hD, _, upd_same, by rw [List.length_append]; rfl, fun j z e => ?_⟩
    by_cases lt : j < ys.length
    · rw [List.getElem?_append_left lt] at e
      exact hr j z e
    · rw [List.getElem?_append_right (by omega)] at e
      have z0 : j - ys.length = 0 := by
        cases q : j - ys.length with
        | zero => rfl
        | succ k =>
          rw [q] at e
          cases e
      rw [z0] at e
      cases e
      have : j = ys.length := by omega
      rw [this]
      exact ry
  · rintro H ⟨sm, ys, h, l, hr⟩
    exact hd H ys sm h l hr
/-- [.. for x in xs if ..], the test told by a function of the item -/
theorem lc_listG {K : PySem.W.Frag} {a : Addr} {xs : List V} {slot : Nat} {tt : TT} {te : TE} {vs : List Nat} {σ : L2.St} {H1 : Hp} {D : Addr} {Qd : Hp → Prop} (f : V → Bool) (g : V → V) (hD : H1 D = none) (hS : SqL K H1 a xs) (hn : xs.length ≤ 100000)
    (hw : ∀ x, wipe ((wipe σ vs).set slot (some x)) vs = wipe σ vs)
    (ht : ∀ (x : V) (H : Hp), x ∈ xs → Same H1 H → ∀ Q : Bool → Hp → Prop, (∀ H', Same H H' → Q (f x) H') → tt ((wipe σ vs).set slot (some x)) H Q)
    (hs : ∀ (x : V) (H : Hp), x ∈ xs → f x = true → Same H1 H → ∀ Q : VK, (∀ H', Same H H' → Q (g x) H') → te ((wipe σ vs).set slot (some x)) H Q)
    (hd : ∀ (H : Hp), Same H1 H → H D = some (.lst ((xs.filter f).map g)) → Qd H) :
    ∃ W : Nat → Nat → Hp → Prop, (∃ m, W 0 m (upd H1 D (.lst []))) ∧ ∀ i m H, W i m H →
      ((Itl K a).stop i H ∧ Qd H) ∨ ((Itl K a).go i H ∧ ∃ Nx : Hp → Prop, (∀ H', Nx H' → ∃ m', m' < m ∧ W (i + 1) m' H') ∧ ∀ x H', (Itl K a).yld i H x H' → gName slot x (wipe σ vs) H' fun σ2 H2 => wipe σ2 vs = wipe σ vs ∧ tt σ2 H2 fun b H3 =>
        if b = true then te σ2 H3 fun y H4 => ∃ acc, H4 D = some (.lst acc) ∧ acc.length < sizeLine ∧ Nx (upd H4 D (.lst (acc ++ [y]))) else Nx H3) := by
  refine lc_list (K := K) (a := a) (xs := xs) (fun i H => Same H1 H ∧ H D = some (.lst (((xs.take i).filter f).map g))) ⟨same_new hD, upd_same⟩ (fun i H _ h => h.1.seq hS) ?_ ?_
  · rintro i x H hi ⟨sm, h⟩
    have hx : x ∈ xs := List.mem_of_getElem? hi
    refine ⟨hw _, ht x H hx sm _ fun H' sm' => ?_⟩
    have et : xs.take (i + 1) = xs.take i ++ [x] := by rw [List.take_add_one, hi] <;> rfl
    cases e : f x with
    | true =>
      refine iteT (hs x H' hx e (sm.trans sm') _ fun H2 sm2 => ?_)
      refine ⟨_, sm2 _ _ (sm' _ _ h), Nat.lt_of_le_of_lt ?_ (show 100000 < sizeLine by decide), same_over ((sm.trans sm').trans sm2) hD, ?_⟩
      · rw [List.length_map]
        have h1 := List.length_filter_le f (xs.take i)
        rw [List.length_take] at h1
        omega
      · rw [upd_same, et, List.filter_append, List.map_append]
        simp only [List.filter_cons, e, List.filter_nil, if_true, List.map_cons, List.map_nil]
    | false =>
      refine iteF ⟨sm.trans sm', ?_⟩
      rw [et, List.filter_append]
      simp only [List.filter_cons, e, List.filter_nil, Bool.false_eq_true, if_false, List.append_nil]
      exact sm' _ _ h
  · rintro H ⟨sm, h⟩
    rw [List.take_length] at h
    exact hd H sm h
end Gd
namespace Gd
open PySem PySem.Spec PyProof.Rows L2
/-! ### what is new, its heap told by what is known of it -/
def New (H : Hp) (o : HO) (Q : VK) : Prop := ∀ p H', H p = none → Same H H' → H' p = some o → Q (.ref p) H'
theorem New.use {H : Hp} {o : HO} {Q : VK} (h : New H o Q) : ∀ p, H p = none → Q (.ref p) (upd H p o) := fun p hp => h p _ hp (same_new hp) upd_same
def upA (t : TA) : TA := fun σ H Q => ∃ R : List V → Hp → Prop, t σ H R ∧ ∀ x H', R x H' → Q x H'
def upE (t : TE) : TE := fun σ H Q => ∃ R : VK, t σ H R ∧ ∀ x H', R x H' → Q x H'
theorem pa_up {X : Cx} {es : List Expr} {t : TA} (h : PA X es t) : PA X es (upA t) := ⟨fun pos pins s σ H Q I ⟨R, hr, m⟩ =>
  thn (h.run pos pins s σ H R I hr) fun us s' ⟨vs, H', I', r, q⟩ => ⟨vs, H', I', r, m _ _ q⟩⟩
theorem pe_up {X : Cx} {e : Expr} {t : TE} (h : PE X e t) : PE X e (upE t) := ⟨fun pins s σ H Q I ⟨R, hr, m⟩ =>
  thn (h.run pins s σ H R I hr) fun us s' ⟨v, H', I', r, q⟩ => ⟨v, H', I', r, m _ _ q⟩⟩
theorem pe_weak {X : Cx} {e : Expr} {t t' : TE} (h : PE X e t) (w : ∀ σ H Q, t' σ H Q → t σ H Q) : PE X e t' := ⟨fun pins s σ H Q I hw => h.run pins s σ H Q I (w _ _ _ hw)⟩
def tLstN (t : TA) : TE := fun σ H Q => t σ H fun xs H1 => xs.length ≤ sizeLine ∧ New H1 (.lst xs) Q
def tTupN (t : TA) : TE := fun σ H Q => t σ H fun xs H1 => xs.length ≤ sizeLine ∧ New H1 (.tup xs) Q
def tDNewN : TE := fun σ H Q => New H (.dK []) Q
theorem pe_lstN {X : Cx} {es : List Expr} {t : TA} {pos : Pos} (h : PA X es t) : PE X (.List es pos) (tLstN t) :=
  pe_weak (pe_lst (pa_up h)) fun _ _ _ hw => ⟨_, hw, fun _ _ ⟨l, n⟩ => ⟨l, n.use⟩⟩
theorem pe_tupN {X : Cx} {es : List Expr} {t : TA} {x1} {pos : Pos} (h : PA X es t) : PE X (.Tuple es x1 pos) (tTupN t) :=
  pe_weak (pe_tup (pa_up h)) fun _ _ _ hw => ⟨_, hw, fun _ _ ⟨l, n⟩ => ⟨l, n.use⟩⟩
theorem pe_dnewN {X : Cx} {pos : Pos} : PE X (.Dict [] [] pos) tDNewN := pe_weak pe_dnewK fun _ _ _ hw => hw.use
/-- True comes out, what stood stands -/
def spRight : Sp := fun vs H Q _ => ∃ a : Addr, vs = [.ref a] ∧ H a = some (Dice a) ∧ ∀ H', Same H H' → Q (.bl true) H'
theorem same_at {A B : Hp} (h : Same A B) {b : Addr} {o : HO} (e : A b = some o) : B b = some o := h b o e
theorem same_go {A B C : Hp} (h : Same B C) (e : Same A B) : Same A C := e.trans h
theorem dp_boolsAll {K : PySem.W.Frag} {H : Hp} : ∀ bs : List Bool, DpAll K H (bs.map V.bl) (bs.map PyData.bool)
  | [] => .nil
  | b :: r => .cons (.bl b) (dp_boolsAll r)
theorem dp_bools {K : PySem.W.Frag} {H : Hp} {p : Addr} {bs : List Bool} (h : H p = some (.lst (bs.map V.bl))) : Dp K H (.ref p) (.list (bs.map PyData.bool)) := .lst (sq_lst h) (dp_boolsAll bs)
theorem sh_bools (bs : List Bool) (h : bs.length ≤ 1000) : Sh (.list (bs.map PyData.bool)) := by
  have all : PyData.leavesShortAll 600 (bs.map PyData.bool) = true ∧ PyData.showableAll (bs.map PyData.bool) = true ∧ PyData.hasDictAll (bs.map PyData.bool) = false ∧ PyData.weightAll (bs.map PyData.bool) = bs.length ∧ PyData.depthAll (bs.map PyData.bool) = 0 := by
    clear h
    induction bs with
    | nil => simp only [List.map_nil, PyData.leavesShortAll, PyData.showableAll, PyData.hasDictAll, PyData.weightAll, PyData.depthAll, List.length_nil, and_self]
    | cons b r ih =>
      obtain ⟨i1, i2, i3, i4, i5⟩ := ih
      simp only [List.map_cons, PyData.leavesShortAll, PyData.leavesShort, PyData.showableAll, PyData.showable, PyData.hasDictAll, PyData.hasDict, PyData.weightAll, PyData.weight, PyData.depthAll, PyData.depth, i1, i2, i3, i4, i5, Bool.and_self, Bool.or_self, List.length_cons, true_and]
      refine ⟨by omega, rfl⟩
  obtain ⟨e1, e2, e3, e4, e5⟩ := all
  refine ⟨by simp only [PyData.leavesShort]; exact e1, by simp only [PyData.showable]; exact e2, by simp only [PyData.hasDict]; exact e3, ?_, ?_⟩
  · simp only [PyData.weight]
    omega
  · simp only [PyData.depth]
    omega
/-! ### more that is new -/
theorem op_weak {X : Cx} {f : Value → Value → Sem Value} {r r' : R2} (h : OpR X f r) (wk : ∀ x y H Q, r' x y H Q → r x y H Q) : OpR X f r' := fun pins s σ H x y v u Q I rx ry hr => h pins s σ H x y v u Q I rx ry (wk _ _ _ _ hr)
theorem call_weak {X : Cx} {f : Value} {r r' : List V → Hp → VK → Prop} (h : CallR X f r) (wk : ∀ xs H Q, r' xs H Q → r xs H Q) : CallR X f r' := fun pins s σ H xs us Q I rx hr => h pins s σ H xs us Q I rx (wk _ _ _ hr)
def rCatN : R2 := fun x y H Q => ∃ l b xs zs, x = .ref l ∧ y = .ref b ∧ H l = some (.lst xs) ∧ H b = some (.lst zs) ∧ xs.length + zs.length ≤ sizeLine ∧ New H (.lst (xs ++ zs)) Q
theorem op_catN {X : Cx} : OpR X (binaryOp .Add) rCatN := op_weak op_cat fun _ _ _ _ ⟨l, b, xs, zs, h1, h2, h3, h4, h5, n⟩ => ⟨l, b, xs, zs, h1, h2, h3, h4, h5, n.use⟩
def rRepN : R2 := fun x y H Q => ∃ l k xs, x = .ref l ∧ y = .int k ∧ H l = some (.lst xs) ∧ -(2 ^ 63) ≤ k ∧ k < 2 ^ 63 ∧ xs.length * k.toNat ≤ sizeLine ∧ New H (.lst (List.replicate k.toNat xs).flatten) Q
theorem op_repN {X : Cx} : OpR X (binaryOp .Mult) rRepN := op_weak op_rep fun _ _ _ _ ⟨l, k, xs, h1, h2, h3, h4, h5, h6, n⟩ => ⟨l, k, xs, h1, h2, h3, h4, h5, h6, n.use⟩
def rSlLN (K : PySem.W.Frag) : V → Option Int → Option Int → Hp → VK → Prop := fun x lo hi H Q => ∃ a xs, x = .ref a ∧ SqL K H a xs ∧ New H (.lst (cutV xs lo hi)) Q
def rListN (K : PySem.W.Frag) : List V → Hp → VK → Prop := fun xs H Q => ∃ p ys, xs = [.ref p] ∧ (SqL K H p ys ∨ SqT K H p ys) ∧ New H (.lst ys) Q
theorem call_listN {X : Cx} : CallR X (.type "list") (rListN X.K) := call_weak call_list_of fun _ _ _ ⟨p, ys, h1, h2, n⟩ => ⟨p, ys, h1, h2, n.use⟩
end Gd

namespace Gd
open PySem PySem.Spec PyProof.Rows L2
theorem isText_low {x : Str} (h : ∀ c ∈ x.cps.toList, low c = true) (l : x.length ≤ 8000) : isText (.str x) = true := by
  rw [isText_str, decide_eq_true l, List.all_eq_true.mpr h]
  rfl
theorem isText_bad {x : Str} {c : Nat} (hc : c ∈ x.cps.toList) (h : low c = false) : isText (.str x) = false := by
  rw [isText_str]
  have e : x.cps.toList.all low = false := by
    rw [List.all_eq_false]
    exact ⟨c, hc, by rw [h]; decide⟩
  rw [e, Bool.and_false]
theorem isSign_str (x : Str) : isSign (.str x) = (isText (.str x) && decide (x.length = 1)) := rfl
theorem isPiece_str (x : Str) : isPiece (.str x) = (isText (.str x) && decide (1 ≤ x.length ∧ x.length ≤ 5)) := rfl
theorem isSign_bad {x : Str} (h : isText (.str x) = false) : isSign (.str x) = false := by rw [isSign_str, h, Bool.false_and]
theorem isPiece_bad {x : Str} (h : isText (.str x) = false) : isPiece (.str x) = false := by rw [isPiece_str, h, Bool.false_and]
theorem app_list (x y : Str) : (x ++ y).cps.toList = x.cps.toList ++ y.cps.toList := by
  rw [Str.cps_append, Array.toList_append]
theorem app_len (x y : Str) : (x ++ y).length = x.length + y.length := strLen_append x y
theorem cutS_list (z : Str) (lo hi : Option Int) : (cutS z lo hi).cps.toList = (z.cps.toList.drop (HT.sIx z.length 0 lo)).take (HT.sIx z.length z.length hi - HT.sIx z.length 0 lo) := by simp [cutS]
theorem cutS_len (z : Str) (lo hi : Option Int) : (cutS z lo hi).length = min (HT.sIx z.length z.length hi - HT.sIx z.length 0 lo) (z.length - HT.sIx z.length 0 lo) := by
  rw [← str_len, cutS_list, List.length_take, List.length_drop, str_len]
theorem cutS_le (z : Str) (lo hi : Option Int) : (cutS z lo hi).length ≤ z.length := by
  rw [cutS_len]
  omega
theorem cutS_mem {z : Str} {lo hi : Option Int} {c : Nat} (h : c ∈ (cutS z lo hi).cps.toList) : c ∈ z.cps.toList := by
  rw [cutS_list] at h
  exact List.mem_of_mem_drop (List.mem_of_mem_take h)
theorem sIx_pos {n d : Nat} {v : Int} (h : 0 ≤ v) : HT.sIx n d (some v) = min v.toNat n := by
  have e := HT.sIx_nat n d v.toNat
  rw [show ((v.toNat : Nat) : Int) = v by omega] at e
  exact e
end Gd
namespace Gd
open PySem PySem.Spec PyProof.Rows L2
theorem shown_eq {xs ys : List Bool} (e : xs = ys) : decide ((PyData.list (xs.map .bool)).shown = (PyData.list (ys.map .bool)).shown) = true := by
  rw [e, decide_eq_true rfl]
end Gd

/-! Gd7: list(text) -/
namespace Gd
open PySem PySem.Spec PyProof.Rows L2
section
variable {prog : Program} {w : World} {A : Around} {E : Value → Shared → Prop} {s : Shared} {x : Str} {t : Tok}
theorem hint_str {Q : Bool → Shared → Prop} (q : Q false s) : wpAny (model prog w) A (Builtin.List.listLengthHint (.str x t)) Q E s := by
  have ty : s.TypeIs (.str x t) "str" := typeIs_str s x t
  unfold Builtin.List.listLengthHint
  refine wpAny_bind (wpAny_specialOf ty PySem.F.slot_str_len.lookup ?_)
  generalize name : ("str.__len__" : String) = id1
  wp_delta
  rw [show splitId id1 = some ("str", "__len__") from by subst name; decide +kernel]
  subst name
  refine wpAny_bind (wpAny_isInstance (b := true) (T := "str") ty (by rw [isSubtype_type]; kernel_rfl) ?_)
  refine wpAny_ite_split (fun no => absurd no (by decide)) (fun _ => wpAny_ite_split (fun _ => ?_) (fun no => absurd (by decide +kernel) no))
  exact wpAny_bind (wpAny_typeOf ty (wpAny_pure q))
theorem extend_str {R : Result → Shared → Prop} (hh : A.handled = none) (S : Addr) (res : Value) (c₀ : Nat) (hS : s.heap.get? S = some { cls := .type "list", data := .seq #[] c₀ }) (hn : x.cps.size ≤ sizeLine)
    (done : ∀ h' tk acc c, (∀ b o, b ≠ S → s.heap.get? b = some o → h'.get? b = some o) → h'.get? S = some { cls := .type "list", dict := none, data := .seq acc c, slots := #[] } → ItemsOf (SignAt x) acc x.cps.size → R (.ok (.ret res)) { s with heap := h', toks := tk }) :
    wpAny (model prog w) A.in1 (Builtin.List.listExtendWith (.ref S) (.str x t) res)
      (fun fin s' => match fin with | .done f => R (.ok f) s' | .again c' => c'.quiet = true ∧ codeAny (model prog w) A c' R s') (fun e s' => R (.error e) s') s := by
  have away : S ≠ s.heap.objs.size := Nat.ne_of_lt (Heap.lt_size hS)
  unfold Builtin.List.listExtendWith
  refine wpAny_bind (wpAny_typeOf (T := "str") (typeIs_str s x t) ?_)
  have other : Builtin.List.listSameRef (.ref S) (.str x t) = false := rfl
  have nl : (Value.type "str" == Value.type "list") = false := by decide
  have nt : (Value.type "str" == Value.type "tuple") = false := by decide
  simp only [other, nl, nt, Bool.or_false, Bool.false_eq_true, if_false]
  refine wpAny_bind (wpAny_pyIter_str fun oI St walks st => ?_)
  have W := walks A.in1 hh
  have off : S ∉ [s.heap.objs.size] := fun m => away (List.mem_singleton.mp m)
  have go : ∀ (h : Heap) (c₁ tk : Nat), St 0 h → (∀ b o, b ≠ S → s.heap.get? b = some o → h.get? b = some o) → h.get? S = some { cls := .type "list", data := .seq #[] c₁ } →
      codeAny (model prog w) A (.builtin "list.extend.loop" ⟨[.ref S, .ref s.heap.objs.size, res], []⟩) R { s with heap := h, toks := tk } := fun h c₁ tk hst keep at_S =>
    codeAny_extend_loopS W.toS hn S off res x.cps.size 0 _ #[] c₁ rfl (Nat.zero_le _) hst at_S (ItemsOf.nil _) fun s' acc c moved at_S' items => by
      rw [Moved.eq_with moved]
      refine done s'.heap s'.toks acc c (fun b o hb e => moved.heap b o (fun m => ?_) (keep b o hb e)) at_S' items
      rcases List.mem_cons.mp m with same | m
      · exact hb same
      · exact Nat.lt_irrefl _ (List.mem_singleton.mp m ▸ Heap.lt_size e)
  have at1 := Heap.get?_push_of_some oI hS
  refine wpAny_bind (wpAny_holding (hint_str ?_))
  refine wpAny_ite_split (fun _ => ?_) (fun _ => wpAny_pure ⟨plainId_quiet PySem.F.plain_extend_loop _, go _ c₀ _ st (fun b o _ e => Heap.get?_push_of_some _ e) at1⟩)
  refine wpAny_bind (wpAny_rule (wpAny_bind ?_))
  show wpAny _ _ (updateSeq S (·.push .none) >>= fun _ => updateSeq S (·.pop)) _ _ _
  refine wpAny_bind (wpAny_updateSeq at1 rfl ?_)
  have at2 := Heap.get?_update_self (Obj.mapSeq (·.push Value.none)) at1 rfl
  refine wpAny_updateSeq (hz := by seq_fits) at2 rfl ?_
  have at3 := Heap.get?_update_self (Obj.mapSeq (·.pop)) at2 rfl
  have oth : ∀ b o, b ≠ S → (s.heap.push oI).get? b = some o → (((s.heap.push oI).update S (Obj.mapSeq (·.push Value.none))).update S (Obj.mapSeq (·.pop))).get? b = some o := fun b o hb e => by
    rw [Heap.get?_update_other _ _ hb.symm, Heap.get?_update_other _ _ hb.symm]
    exact e
  exact wpAny_pure ⟨plainId_quiet PySem.F.plain_extend_loop _, go _ _ _ (W.frame 0 _ _ st fun b m o e => oth b o (fun same => off (same ▸ m)) e) (fun b o hb e => oth b o hb (Heap.get?_push_of_some _ e)) at3⟩
theorem list_of_str {Q : Value → Shared → Prop} (hh : A.handled = none) (hn : x.cps.size ≤ sizeLine)
    (done : ∀ h' tk acc c, (∀ b o, s.heap.get? b = some o → h'.get? b = some o) → h'.get? s.heap.objs.size = some { cls := .type "list", dict := none, data := .seq acc c, slots := #[] } → ItemsOf (SignAt x) acc x.cps.size → Q (.ref s.heap.objs.size) { s with heap := h', toks := tk }) :
    wpAny (model prog w) A (call (.type "list") [.str x t]) Q E s := by
  refine callType_codes (Q₁ := fun obj s₁ => obj = .ref s.heap.objs.size ∧ s₁ = { s with heap := s.heap.push { cls := .type "list", data := .seq #[] } }) PySem.F.called_list (PySem.F.typeCall_list_1 _) PySem.F.entry_list_init
    (code_list_new _ ⟨rfl, rfl⟩) fun obj s₁ ⟨e1, e2⟩ => ?_
  subst e1 e2
  have at0 : (s.heap.push { cls := .type "list", data := .seq #[] }).get? s.heap.objs.size = some { cls := .type "list", data := .seq #[] } := Heap.get?_push_size _ rfl
  refine ⟨⟨_, at0, rfl⟩, PySem.F.args_list_init_2 _ _, ?_⟩
  show wpAny _ _ (do let old ← Builtin.List.listItems (.ref s.heap.objs.size); Builtin.List.listUpdate (.ref s.heap.objs.size) (fun _ => #[]); letGo old.toList.reverse; Builtin.List.listExtendWith (.ref s.heap.objs.size) (.str x t) .none) _ _ _
  refine wpAny_bind ?_
  unfold Builtin.List.listItems
  refine wpAny_bind (wpAny_seqItems at0 rfl (wpAny_pure ?_))
  show wpAny _ _ (updateSeq s.heap.objs.size (fun _ => #[]) >>= fun _ => letGo (#[] : Array Value).toList.reverse >>= fun _ => Builtin.List.listExtendWith (.ref s.heap.objs.size) (.str x t) .none) _ _ _
  refine wpAny_bind (wpAny_updateSeq at0 rfl (wpAny_bind (wpAny_letGo ?_)))
  have at1 := Heap.get?_update_self (Obj.mapSeq (fun _ => (#[] : Array Value))) at0 rfl
  refine extend_str (A := A.in1) hh _ .none _ at1 hn fun h' tk acc c keep at2 items => ⟨rfl, done h' tk acc c (fun b o e => ?_) at2 items⟩
  have ne : b ≠ s.heap.objs.size := Nat.ne_of_lt (Heap.lt_size e)
  exact keep b o ne ((Heap.get?_update_other _ _ ne.symm).trans (Heap.get?_push_of_some _ e))
end
theorem vals_signs {x : Str} {acc : Array Value} (h : ItemsOf (SignAt x) acc x.cps.size) : Vals ((x.cps.toList.map sg).map V.str) acc.toList := by
  have len : acc.toList.length = x.cps.toList.length := by rw [Array.length_toList, h.1, Array.length_toList]
  have at' : ∀ (j : Nat) (c : Nat) (v : Value), x.cps.toList[j]? = some c → acc.toList[j]? = some v → ∃ u, v = .str (sg c) u := fun j c v e1 e2 => by
    obtain ⟨c', u, e3, rfl⟩ := h.2 j v (by rw [← Array.getElem?_toList]; exact e2)
    rw [← Array.getElem?_toList, e1] at e3
    cases e3
    exact ⟨u, rfl⟩
  generalize acc.toList = vs at len at'
  generalize x.cps.toList = cs at len at'
  clear h
  induction cs generalizing vs with
  | nil =>
    cases vs with
    | nil => exact .nil
    | cons v r => simp at len
  | cons c r ih =>
    cases vs with
    | nil => simp at len
    | cons v vs =>
      obtain ⟨u, rfl⟩ := at' 0 c v rfl rfl
      exact .cons ⟨u, rfl⟩ (ih vs (by simpa using len) fun j c v e1 e2 => at' (j + 1) c v (by simpa using e1) (by simpa using e2))
def rListStr : List V → Hp → VK → Prop := fun xs H Q => ∃ x : Str, xs = [.str x] ∧ x.length ≤ sizeLine ∧ New H (.lst ((x.cps.toList.map sg).map V.str)) Q
theorem call_listStr {X : Cx} (hc : X.calm = true) : CallR X (.type "list") rListStr := by
  intro pins s σ H xs us Q I r h
  obtain ⟨x, rfl, hn, q⟩ := h
  obtain ⟨u, rfl, t, rfl⟩ := vals1 r
  refine list_of_str (I.ok.hd hc) hn fun h' tk acc c keep at0 items => ?_
  refine ⟨.ref s.heap.objs.size, upd H s.heap.objs.size (.lst ((x.cps.toList.map sg).map V.str)), I.laid keep (Nat.le_refl _) (show ObjOk X.prog X.w _ _ _ (.lst ((x.cps.toList.map sg).map V.str)) from ⟨?_, acc.toList, c, vals_signs items, ?_⟩), rfl, q.use _ (I.hok.fresh (Nat.le_refl _))⟩
  · rw [List.length_map, List.length_map, str_len]
    exact hn
  · rw [Array.toArray_toList]
    exact at0
end Gd
namespace Gd
open PySem PySem.Spec PyProof.Rows L2
theorem fold_app : ∀ (l : List (Array Nat)) (acc : Array Nat), (l.foldl (· ++ ·) acc).toList = acc.toList ++ (l.map Array.toList).flatten
  | [], acc => by simp
  | a :: r, acc => by
    rw [List.foldl_cons, fold_app r, Array.toList_append, List.map_cons, List.flatten_cons, List.append_assoc]
theorem mul_list {x : Str} {n : Nat} (h : 2 ≤ n) (pos : 0 < x.length) : (Txt.mul x (n : Int)).cps.toList = (List.replicate n x.cps.toList).flatten := by
  unfold Txt.mul
  rw [if_neg (by omega), if_neg (by
    rw [Bool.or_eq_true, beq_iff_eq, beq_iff_eq]
    omega)]
  show (List.foldl (· ++ ·) #[] (List.replicate (n : Int).toNat x.cps)).toList = _
  rw [fold_app, Int.toNat_natCast]
  simp
theorem mul_len {x : Str} {n : Nat} (h : 2 ≤ n) (pos : 0 < x.length) : (Txt.mul x (n : Int)).length = n * x.length := by
  rw [← str_len, mul_list h pos, List.length_flatten, List.map_replicate, List.sum_replicate_nat, str_len]
theorem mul_mem {x : Str} {n : Nat} (h : 2 ≤ n) (pos : 0 < x.length) {c : Nat} (hc : c ∈ (Txt.mul x (n : Int)).cps.toList) : c ∈ x.cps.toList := by
  rw [mul_list h pos] at hc
  obtain ⟨l, hl, hc⟩ := List.mem_flatten.mp hc
  rw [List.eq_of_mem_replicate hl] at hc
  exact hc
theorem mulOk {x : Str} {n : Nat} (h : 2 ≤ n) (hn : n ≤ 100000) (le : x.length ≤ 100) : MulOk x (n : Int) := by
  refine ⟨?_, fun _ _ => ?_, fun _ _ => ?_⟩
  · rw [decide_eq_false (by omega), decide_eq_false (by omega)]
    rfl
  · have big : (100000 : Int) ≤ (2 ^ 63 - 1) / (n : Int) := by
      refine (Int.le_ediv_iff_mul_le (by omega)).mpr ?_
      omega
    omega
  · have : x.length * (n : Int).toNat ≤ 100 * 100000 := Nat.mul_le_mul le (by omega)
    refine decide_eq_false (p := x.length * (n : Int).toNat > sizeLine) ?_
    have e : sizeLine = 16777216 := by decide
    omega
end Gd

/-! Gd8: sets of texts: made of a text, a list or a tuple of texts; sorted -/
namespace Gd
open PySem PySem.Spec PyProof.Rows L2
def textOf (e : Int × Value) : Str := match e.2 with
  | .str x _ => x
  | _ => Str.empty
def IsT (w : World) (e : Int × Value) : Prop := ∃ x tk, e.2 = Value.str x tk ∧ e.1 = hashStr w x
/-- a set of texts at a: S its members, n their number; its table can be walked -/
def TextSet (w : World) (h : Heap) (a : Addr) (S : Str → Bool) (n : Nat) : Prop :=
  ∃ o es ep t, h.get? a = some o ∧ o.ExactSet ∧ o.data = .set es ep t ∧ (∀ e ∈ es.toList, IsT w e) ∧ (es.toList.map textOf).Nodup ∧ (∀ k, S k = true ↔ k ∈ es.toList.map textOf) ∧
    es.size < scanBound ∧ t.fits es.size = true ∧ es.size = n ∧ Ris t.place.toList ∧ (w.params.followText "set-order" = true ∨ t.led = true)
section
variable {P : Program} {w : World} {h h' : Heap} {a : Addr} {S : Str → Bool} {n : Nat}
theorem TextSet.keep (R : TextSet w h a S n) (k : ∀ o, h.get? a = some o → h'.get? a = some o) : TextSet w h' a S n := by
  obtain ⟨o, es, ep, t, at_a, r⟩ := R
  exact ⟨o, es, ep, t, k o at_a, r⟩
theorem TextSet.same {S' : Str → Bool} (R : TextSet w h a S n) (e : ∀ k, S' k = S k) : TextSet w h a S' n := by
  obtain rfl : S' = S := funext e
  exact R
theorem isT_elems {l : List (Int × Value)} (g : ∀ e ∈ l, IsT w e) : ElemsOf (PySem.strKind P w) l := by
  intro e he
  obtain ⟨x, tk, e1, e2⟩ := g e he
  refine ⟨⟨x, ?_, e2⟩, ?_⟩
  · rw [e1]
    exact strKind_is _ _ _ _
  · rw [e1]
    rfl
theorem isT_is {e : Int × Value} (g : IsT w e) (x : Str) : (PySem.strKind P w).is x e.2 = true ↔ textOf e = x := by
  obtain ⟨y, tk, e1, _⟩ := g
  have e2 : textOf e = y := by
    unfold textOf
    rw [e1]
  rw [e2, e1]
  constructor
  · intro q
    obtain ⟨u, q⟩ := Value.isStrOf_shape (x := x) (v := .str y tk) q
    cases q
    rfl
  · rintro rfl
    exact strKind_is _ _ _ _
theorem isT_mem {l : List (Int × Value)} (g : ∀ e ∈ l, IsT w e) (x : Str) : x ∈ l.map textOf ↔ ∃ e ∈ l, (PySem.strKind P w).is x e.2 = true := by
  rw [List.mem_map]
  exact ⟨fun ⟨e, he, q⟩ => ⟨e, he, (isT_is (g e he) x).mpr q⟩, fun ⟨e, he, q⟩ => ⟨e, he, (isT_is (g e he) x).mp q⟩⟩
end
section
variable {P : Program} {w : World} {A : Around} {E : Value → Shared → Prop} {s : Shared} {a : Addr} {S : Str → Bool} {n : Nat}
theorem text_tail {g : Bool → Sem Unit} (quiet : ∀ (b : Bool) (s₁ : Shared) (Q' : Unit → Shared → Prop), Q' () s₁ → wpAny (model P w) A (g b) Q' E s₁)
    {o : Obj} {es : Array (Int × Value)} {ep : Nat} {t : SetTable} (at_a : s.heap.get? a = some o) (ex : o.ExactSet) (dt : o.data = .set es ep t)
    {es1 : Array (Int × Value)} {t2 : SetTable} {S' : Str → Bool} (good : ∀ e ∈ es1.toList, IsT w e) (nd : (es1.toList.map textOf).Nodup) (mem : ∀ k, S' k = true ↔ k ∈ es1.toList.map textOf)
    (few : es1.size < scanBound) (fit : t2.fits es1.size = true) (rise : Ris t2.place.toList) (led : w.params.followText "set-order" = true ∨ t2.led = true) {wasDummy : Bool} {R : Option Bool → Shared → Prop}
    (done : ∀ h', Heap.SameBut a s.heap h' → TextSet w h' a S' es1.size → R (some true) { s with heap := h' }) :
    wpAny (model P w) A (do
        storeSet a es1 t2
        if (!wasDummy && t2.tooFull) = true then do
            g (relayAll t2 es1 (SetTable.grown es1.size)).2.2
            storeSet a (relayAll t2 es1 (SetTable.grown es1.size)).1 (relayAll t2 es1 (SetTable.grown es1.size)).2.1
            pure (some true)
          else pure (some true)) R E s := by
  refine wpAny_bind (wpAny_storeSet_of at_a dt ?_ (fits_of_scanBound few))
  have at1 := store_at (es' := es1) (t' := t2) at_a dt
  have but1 := Heap.SameBut.update s.heap a (Obj.putSet es1 t2)
  split
  · have perm := relayAll_perm t2 es1 (SetTable.grown es1.size)
    have fit3 := relayAll_fits t2 es1 (SetTable.grown es1.size)
    have rise3 := relayAll_ris t2 es1 (SetTable.grown es1.size)
    have led3 := relayAll_led t2 es1 (SetTable.grown es1.size)
    generalize relayAll t2 es1 (SetTable.grown es1.size) = out at perm fit3 rise3 led3 ⊢
    rcases out with ⟨es2, t3, gave⟩
    dsimp only at perm fit3 rise3 led3 ⊢
    have size2 : es2.size = es1.size := by simpa using perm.length_eq
    have few2 : es2.size < scanBound := size2 ▸ few
    refine wpAny_bind (quiet _ _ _ (wpAny_bind (wpAny_storeSet_of at1 rfl ?_ (fits_of_scanBound few2))))
    have at2 := store_at (es' := es2) (t' := t3) at1 rfl
    refine wpAny_pure (done _ (but1.trans (Heap.SameBut.update _ a _)) ⟨_, es2, _, t3, at2, ex, rfl, fun e he => good e (perm.mem_iff.mp he), ?_, fun k => ?_, few2, fit3, size2, rise3, led.imp id fun z => led3.trans z⟩)
    · exact (perm.map textOf).nodup_iff.mpr nd
    · exact (mem k).trans (perm.map textOf).mem_iff.symm
  · exact wpAny_pure (done _ but1 ⟨_, es1, _, t2, at1, ex, rfl, good, nd, mem, few, fit, rfl, rise, led⟩)
theorem text_add {x : Str} {tk : Tok} {Q : Bool → Shared → Prop} (R : TextSet w s.heap a S n) (room : n + 1 < scanBound)
    (done : ∀ h', Heap.SameBut a s.heap h' → TextSet w h' a (fun j => S j || decide (j = x)) (if S x = true then n else n + 1) → Q (!S x) { s with heap := h' }) :
    wpAny (model P w) A (setAddHashed a (.str x tk) ((PySem.strKind P w).hash x)) Q E s := by
  obtain ⟨o, es, ep, t, at_a, ex, dt, good, nd, mem, few, fit, size, rise, led⟩ := R
  have key : (PySem.strKind P w).is x (.str x tk) = true := strKind_is _ _ _ _
  have scan : (Value.str x tk).scannable = true := rfl
  have elems : ElemsOf (PySem.strKind P w) es.toList := isT_elems good
  unfold setAddHashed setAddHashedIn
  refine wpAny_holding (wpAny_bind (wpAny_setState_of at_a dt fit ?_))
  dsimp only
  rw [byScan_of scan few elems]
  simp only [↓reduceIte]
  unfold setAddByScan
  refine wpAny_bind (wpAny_bind (wpAny_rule (wpAny_bind (wpAny_setScan_of key at_a dt fit elems ?_))))
  cases found : List.findIdx? (fun e => (PySem.strKind P w).is x e.2) es.toList with
  | some j =>
    dsimp only
    obtain ⟨lt, hit, _⟩ := List.findIdx?_eq_some_iff_getElem.mp found
    have isIn : S x = true := (mem x).mpr ((isT_mem (P := P) good x).mpr ⟨es.toList[j], List.getElem_mem lt, hit⟩)
    have q := done s.heap (Heap.SameBut.refl a s.heap) ⟨o, es, ep, t, at_a, ex, dt, good, nd, fun i => ?_, few, fit, by rw [if_pos isIn]; exact size, rise, led⟩
    · rw [isIn] at q
      exact wpAny_pure (wpAny_pure q)
    · rw [Bool.or_eq_true, decide_eq_true_eq, ← mem i]
      exact ⟨fun z => z.elim id (fun e => e ▸ isIn), .inl⟩
  | none =>
    dsimp only
    have notIn : x ∉ es.toList.map textOf := fun z => by
      obtain ⟨e, he, q⟩ := (isT_mem (P := P) good x).mp z
      have c := List.findIdx?_eq_none_iff.mp found e he
      rw [q] at c
      cases c
    have out : S x = false := Bool.eq_false_iff.mpr fun q => notIn ((mem x).mp q)
    have perm := layNew_perm t es ((PySem.strKind P w).hash x) (.str x tk)
    have fit1 := layNew_fits t es ((PySem.strKind P w).hash x) (.str x tk)
    have rise1 := layNew_ris t es ((PySem.strKind P w).hash x) (.str x tk) rise
    have led1 := layNew_led t es ((PySem.strKind P w).hash x) (.str x tk)
    generalize layNew t es ((PySem.strKind P w).hash x) (.str x tk) = out2 at perm fit1 rise1 led1 ⊢
    rcases out2 with ⟨es1, t1, wasDummy, gave⟩
    dsimp only at perm fit1 rise1 led1 ⊢
    rw [Array.toList_push] at perm
    have perm2 : es1.toList.Perm (((PySem.strKind P w).hash x, Value.str x tk) :: es.toList) := perm.trans (List.perm_append_singleton _ _)
    have keys : (es1.toList.map textOf).Perm (x :: es.toList.map textOf) := perm2.map textOf
    have good1 : ∀ e ∈ es1.toList, IsT w e := fun e he => (List.mem_cons.mp (perm2.mem_iff.mp he)).elim (fun z => z ▸ ⟨x, tk, rfl, rfl⟩) (good e)
    have nd1 : (es1.toList.map textOf).Nodup := keys.nodup_iff.mpr (List.nodup_cons.mpr ⟨notIn, nd⟩)
    have mem1 : ∀ i, (S i || decide (i = x)) = true ↔ i ∈ es1.toList.map textOf := fun i => by
      rw [Bool.or_eq_true, decide_eq_true_eq, mem i, keys.mem_iff, List.mem_cons, or_comm]
    have size1 : es1.size = n + 1 := by simpa [size] using perm2.length_eq
    have few1 : es1.size < scanBound := size1 ▸ room
    have led2 : w.params.followText "set-order" = true ∨ t1.led = true := led.imp id fun z => led1.trans z
    have fin : ∀ h', Heap.SameBut a s.heap h' → TextSet w h' a (fun j => S j || decide (j = x)) es1.size → Q true { s with heap := h' } := fun h' but r => by
      have q := done h' but
      rw [out, if_neg Bool.false_ne_true] at q
      exact q (size1 ▸ r)
    refine wpAny_bind ?_
    have gw : ∀ (b : Bool) {s₁ : Shared} {Q' : Unit → Shared → Prop}, Q' () s₁ → wpAny (model P w) A (match b with | true => rule "set.scan.the-table-gave-way" | false => pure ()) Q' E s₁ := by
      intro b s₁ Q' q
      cases b
      · exact wpAny_pure q
      · exact wpAny_rule q
    refine gw _ ?_
    split
    · refine wpAny_bind ?_
      rw [hashByValue_scannable 8 scan]
      refine wpAny_pure (text_tail ?_ at_a ex dt good1 nd1 mem1 few1 ?_ ?_ ?_ ?_)
      · intro b s₁ Q' q
        cases b <;> first | exact wpAny_pure q | exact wpAny_rule q
      · first | (split <;> first | exact fit1 | exact SetTable.fits_plain_off fit1) | exact fit1
      · first | (split <;> exact rise1) | exact rise1
      · first | (split <;> exact led2) | exact led2
      · intro h' but r
        exact wpAny_pure (fin h' but r)
    · refine wpAny_bind (wpAny_pure ?_)
      simp only [↓reduceIte]
      refine text_tail ?_ at_a ex dt good1 nd1 mem1 few1 fit1 rise1 led2 ?_
      · intro b s₁ Q' q
        cases b <;> first | exact wpAny_pure q | exact wpAny_rule q
      · intro h' but r
        exact wpAny_pure (fin h' but r)
end
end Gd

namespace Gd
open PySem PySem.Spec PyProof.Rows L2
abbrev bareSet (w : World) : Obj := { cls := .type "set", dict := none, data := .set #[] 0 (.fresh 0 0 (!w.params.followText "set-order")) }
theorem text_fresh {w : World} {h : Heap} {a : Addr} (e : h.get? a = some (bareSet w)) : TextSet w h a (fun _ => false) 0 := by
  refine ⟨_, #[], 0, _, e, ⟨rfl, rfl, rfl⟩, rfl, fun e he => by simp at he, by simp, fun k => by simp, by decide, by rfl, rfl, List.Pairwise.nil, ?_⟩
  show _ ∨ (!w.params.followText "set-order") = true
  cases w.params.followText "set-order"
  · exact .inr rfl
  · exact .inl rfl
/-- the texts of a list are few -/
def FewIn (xs : List Str) : Prop := ∀ l : List Str, l.Nodup → (∀ k ∈ l, k ∈ xs) → l.length + 1 < scanBound
theorem TextSet.room {w : World} {h : Heap} {a : Addr} {S : Str → Bool} {n : Nat} (R : TextSet w h a S n) {xs : List Str} (few : FewIn xs) (sub : ∀ k, S k = true → k ∈ xs) : n + 1 < scanBound := by
  obtain ⟨o, es, ep, t, _, _, _, _, nd, mem, _, _, size, _⟩ := R
  have := few _ nd fun k hk => sub k ((mem k).mpr hk)
  rw [List.length_map, Array.length_toList, size] at this
  exact this
section
variable {P : Program} {w : World} {A : Around} {E : Value → Shared → Prop} {s : Shared}
/-- the loop that fills a set: one text a turn -/
theorem text_loop {I : Addr} {fp wr : List Addr} {G : Array GenState → Array GenState → Prop} {n : Nat} {Pv : Nat → Value → Prop} {St : Nat → Shared → Prop} {R : Result → Shared → Prop}
    (W : WalksS P w A.in1 I fp wr G n Pv St) (S : Addr) (off : S ∉ fp) (xs : List Str) (len : n = xs.length) (few : FewIn xs) (is : ∀ i v, Pv i v → ∃ x t, xs[i]? = some x ∧ v = .str x t) :
    ∀ (left i : Nat) (s : Shared), n - i = left → i ≤ n → St i s → (∃ c, TextSet w s.heap S (fun j => decide (j ∈ xs.take i)) c) →
      (∀ s' c, Moved (S :: wr) G s s' → TextSet w s'.heap S (fun j => decide (j ∈ xs)) c → R (.ok (.ret .none)) s') →
      codeAny (model P w) A (.builtin "set.update.loop" ⟨[.ref S, .ref I], []⟩) R s := by
  have offw : S ∉ wr := fun m => off (W.sub _ m)
  have more : ∀ b ∈ wr, b ∈ S :: wr := fun b m => List.mem_cons_of_mem _ m
  intro left
  induction left with
  | zero =>
    rintro i s none le st ⟨c, set⟩ done
    obtain rfl : i = n := by omega
    refine codeAny_builtin PyProof.Rows.F.entry_set_update_loop ?_
    rw [Around.under_plainId PyProof.Rows.F.plain_set_update_loop _]
    show wpAny _ A.in1 (pyNext (.ref I) >>= _) _ _ s
    refine wpAny_bind (W.done s _ _ st fun s' moved => ?_)
    rw [show xs.take i = xs from List.take_of_length_le (by omega)] at set
    exact wpAny_pure (done s' c (moved.mono more) (set.keep fun o e => moved.heap S o offw e))
  | succ left ih =>
    rintro i s some_ le st ⟨c, set⟩ done
    have lt : i < n := by omega
    refine codeAny_builtin PyProof.Rows.F.entry_set_update_loop ?_
    rw [Around.under_plainId PyProof.Rows.F.plain_set_update_loop _]
    show wpAny _ A.in1 (pyNext (.ref I) >>= _) _ _ s
    refine wpAny_bind (W.item i s _ _ lt st fun v s' pv st' moved => ?_)
    obtain ⟨x, t, at_i, rfl⟩ := is i v pv
    have set' : TextSet w s'.heap S (fun j => decide (j ∈ xs.take i)) c := set.keep fun o e => moved.heap S o offw e
    show wpAny _ A.in1 (holding [Value.str x t] (setAdd S (.str x t)) >>= _) _ _ s'
    refine wpAny_bind (wpAny_holding ?_)
    unfold setAdd
    refine wpAny_holding (wpAny_bind ((PySem.strKind P w).pyHash (k := x) (strKind_is _ _ _ _) ?_))
    refine text_add (s := { s' with toks := s'.toks + 1 }) set' (set'.room few fun k hk => List.mem_of_mem_take (of_decide_eq_true hk)) fun h' but set2 => ?_
    have set3 : TextSet w h' S (fun j => decide (j ∈ xs.take (i + 1))) (if decide (x ∈ xs.take i) = true then c else c + 1) := set2.same fun j => by
      rw [List.take_add_one, at_i]
      simp [List.mem_append]
    refine wpAny_pure ⟨plainId_quiet PyProof.Rows.F.plain_set_update_loop _, ih (i + 1) _ (by omega) lt (W.frame _ s' _ _ st' (Nat.le_succ _) fun b m o e => ?_) ⟨_, set3⟩ fun s2 c2 moved2 fin => ?_⟩
    · rw [but.2 b (fun q : b = S => off (q ▸ m))]
      exact e
    · refine done s2 c2 (Moved.trans W.gtrans ((moved.mono more).then_heap (Nat.le_succ _) fun b o m e => ?_) moved2) fin
      rw [but.2 b (fun q : b = S => m (q ▸ List.mem_cons_self))]
      exact e
/-- what a set of texts is made of: a value that is walked, text by text -/
structure TextSrc (P : Program) (w : World) (T : String) (v : Value) (xs : List Str) (OK : Heap → Prop) : Prop where
  ty : ∀ s : Shared, OK s.heap → s.TypeIs v T
  keep : ∀ h h' : Heap, OK h → (∀ b o, h.get? b = some o → h'.get? b = some o) → OK h'
  noSet : isSubtype (.type T) (.type "set") = pure false
  noFro : isSubtype (.type T) (.type "frozenset") = pure false
  noDict : (Value.type T == Value.type "dict") = false
  iter : ∀ (A : Around) (s : Shared) (E : Value → Shared → Prop) (Q : Value → Shared → Prop), OK s.heap →
    (∀ (oI : Obj) (St : Nat → Heap → Prop) (fp : List Addr), (∀ b ∈ fp, b = s.heap.objs.size ∨ ∃ o, s.heap.get? b = some o ∧ o.cls = .type T) →
      (∀ A' : Around, A'.handled = none → Walks P w A' s.heap.objs.size fp [s.heap.objs.size] xs.length (fun i u => ∃ x t, xs[i]? = some x ∧ u = .str x t) St) → St 0 (s.heap.push oI) → Q (.ref s.heap.objs.size) { s with heap := s.heap.push oI }) → wpAny (model P w) A (pyIter v) Q E s
set_option maxHeartbeats 8000000 in
theorem set_of_texts {T : String} {v : Value} {xs : List Str} {OK : Heap → Prop} (src : TextSrc P w T v xs OK) (notSet : T ≠ "set") {Q : Value → Shared → Prop} (hh : A.handled = none) (ok : OK s.heap) (few : FewIn xs)
    (done : ∀ (h' : Heap) (tk c : Nat), TextSet w h' s.heap.objs.size (fun j => decide (j ∈ xs)) c → (∀ b o, s.heap.get? b = some o → h'.get? b = some o) → Q (.ref s.heap.objs.size) { s with heap := h', toks := tk }) :
    wpAny (model P w) A (call (.type "set") [v]) Q E s := by
  obtain ⟨c, tl, hmro⟩ := PySem.F.called_set.mro
  have hmade := PySem.F.called_set.made
  have hsub := PySem.F.called_set.sub
  refine wpAny_call (codeAny_of_tree ?_)
  show wpAny _ _ (callAny (.type "set") _) _ _ _
  refine wpAny_pure ⟨Code.quiet_builtin _ (by decide +kernel), codeAny_builtin PySem.F.entry_type_call ?_⟩
  rw [Around.under_plain (weight_type_call_type "set" [v] []) rfl]
  have h1 := PySem.F.called_set.notType
  have h2 := PySem.F.called_set.canCreate
  have hct := PySem.F.typeCall_set_1 v
  repeat (any_goals (first | assumption | wp_step))
  refine codeAny_mono (code_set_led1 v (E := E) (Q₁ := fun obj s₁ => obj = .ref s.heap.objs.size ∧ s₁ = { s with heap := s.heap.push (bareSet w) }) ⟨rfl, rfl⟩) fun r s₁ made => ?_
  match r, made with
  | .error e, made => exact made
  | .ok .next, made => exact made.elim
  | .ok .brk, made => exact made.elim
  | .ok .cont, made => exact made.elim
  | .ok (.ret obj), made =>
    obtain ⟨rfl, rfl⟩ := made
    have at_S : (s.heap.push (bareSet w)).get? s.heap.objs.size = some (bareSet w) := Heap.get?_push_size _ rfl
    have isSet : Shared.TypeIs { s with heap := s.heap.push (bareSet w) } (.ref s.heap.objs.size) "set" := ⟨_, at_S, rfl⟩
    have hli := PySem.F.called_set.init.lookup
    have hbi := PySem.F.called_set.init.bind (.ref s.heap.objs.size)
    repeat (any_goals (first | assumption | wp_step))
    refine codeAny_mono (codeAny_call_builtin (R := wants (fun r s₂ => r = .none ∧ ∃ h' tk c, s₂ = { s with heap := h', toks := tk } ∧ TextSet w h' s.heap.objs.size (fun j => decide (j ∈ xs)) c ∧ (∀ b o, s.heap.get? b = some o → h'.get? b = some o)) E)
      PySem.F.called_set.init.plain PySem.F.entry_set_init (check_set_init_1 isSet ?_)) fun r₂ s₂ ran => ?_
    · have ok1 : OK (s.heap.push (bareSet w)) := src.keep _ _ ok fun b o e => Heap.get?_push_of_some _ e
      have isT : Shared.TypeIs { s with heap := s.heap.push (bareSet w) } v T := src.ty _ ok1
      have noSet := src.noSet
      have noFro := src.noFro
      have noDict := src.noDict
      unfold Builtin.«set.__init__» noKeywords Builtin.Frozenset.updateFrom
      generalize hPI : pyIter = PI
      wp_walk
      subst hPI
      refine src.iter _ _ _ _ ok1 fun oI St fp own walks st => ?_
      refine wpAny_bind (wpAny_runValue ?_)
      have hh3 : A.in1.in1.in1.handled = none := hh
      have off : s.heap.objs.size ∉ fp := fun m => by
        rcases own _ m with q | ⟨o, q, cls⟩
        · rw [Heap.size_push] at q
          exact absurd q (Nat.ne_of_lt (Nat.lt_succ_self _))
        · have same := at_S.symm.trans q
          cases same
          exact notSet (by cases cls; rfl)
      refine text_loop (walks _ hh3).toS s.heap.objs.size off xs rfl few (fun i u h => h) (xs.length - 0) 0 _ rfl (Nat.zero_le _) st ⟨0, (text_fresh (Heap.get?_push_of_some _ at_S)).same fun k => ?_⟩ fun s' c' moved set => ?_
      · simp
      · obtain ⟨h', g', d', tk', os'⟩ := s'
        obtain rfl : g' = s.gens := moved.gens
        obtain rfl : d' = s.drawn := moved.drawn
        obtain rfl : os' = s.os := moved.os
        show wpAny _ _ _ _ _ _
        refine wpAny_pure ?_
        show wpAny _ _ (ret Value.none) _ _ _
        refine wpAny_pure ⟨rfl, h', tk', c', rfl, set, fun b o e => moved.heap b o (fun m => ?_) (Heap.get?_push_of_some _ (Heap.get?_push_of_some _ e))⟩
        have lt : b < s.heap.objs.size := Heap.lt_size e
        rcases List.mem_cons.mp m with q | q
        · exact absurd q (Nat.ne_of_lt lt)
        · have q2 := List.mem_singleton.mp q
          rw [Heap.size_push] at q2
          exact absurd q2 (Nat.ne_of_lt (Nat.lt_succ_of_lt lt))
    · match r₂, ran with
      | .error e, ran => exact ran
      | .ok .next, ran => exact ran.elim
      | .ok .brk, ran => exact ran.elim
      | .ok .cont, ran => exact ran.elim
      | .ok (.ret r), ran =>
        obtain ⟨rfl, h', tk, c2, rfl, set, keep⟩ := ran
        repeat (any_goals (first | assumption | wp_step))
        exact done _ _ _ set keep
end
end Gd

/-! M3: the order of texts; sorted lists of texts -/
namespace Gd
open PySem PySem.Spec PyProof.Rows L2
/-- not greater, in Python's order of texts -/
def leT (a b : Str) : Bool := !decide (b.cps.toList < a.cps.toList)
theorem leT_iff {a b : Str} : leT a b = true ↔ ¬ b.cps.toList < a.cps.toList := by
  unfold leT
  rw [Bool.not_eq_true', decide_eq_false_iff_not]
theorem leT_trans (a b c : Str) (h1 : leT a b = true) (h2 : leT b c = true) : leT a c = true := by
  rw [leT_iff, List.not_lt] at *
  exact List.le_trans h1 h2
theorem leT_total (a b : Str) : (leT a b || leT b a) = true := by
  rw [Bool.or_eq_true, leT_iff, leT_iff, List.not_lt, List.not_lt]
  exact List.le_total _ _
theorem leT_anti {a b : Str} (h1 : leT a b = true) (h2 : leT b a = true) : a = b := by
  rw [leT_iff, List.not_lt] at *
  exact str_eq_of_lists (List.le_antisymm h1 h2)
def sortT (xs : List Str) : List Str := xs.mergeSort leT
theorem sortT_perm (xs : List Str) : (sortT xs).Perm xs := List.mergeSort_perm xs leT
theorem sortT_sorted (xs : List Str) : (sortT xs).Pairwise (fun a b => leT a b = true) := List.pairwise_mergeSort leT_trans leT_total xs
theorem sorted_unique : ∀ {l1 l2 : List Str}, l1.Pairwise (fun a b => leT a b = true) → l2.Pairwise (fun a b => leT a b = true) → l1.Perm l2 → l1 = l2
  | [], l2, _, _, p => by rw [List.nil_perm.mp p]
  | x :: r, [], _, _, p => by
    have := p.length_eq
    simp at this
  | x :: r, y :: t, h1, h2, p => by
    rw [List.pairwise_cons] at h1 h2
    have e : x = y := by
      have hx : x ∈ y :: t := p.mem_iff.mp List.mem_cons_self
      have hy : y ∈ x :: r := p.mem_iff.mpr List.mem_cons_self
      rcases List.mem_cons.mp hx with e | hx
      · exact e
      · rcases List.mem_cons.mp hy with e | hy
        · exact e.symm
        · exact leT_anti (h1.1 y hy) (h2.1 x hx)
    subst e
    rw [sorted_unique h1.2 h2.2 (List.Perm.cons_inv p)]
theorem rising_all : ∀ {l : List Str} {p : Str}, risingS p l = true → (∀ x ∈ l, leT p x = true) ∧ l.Pairwise (fun a b => leT a b = true)
  | [], _, _ => ⟨fun _ h => (nomatch h), .nil⟩
  | x :: r, p, h => by
    have hp : leT p x = true ∧ risingS x r = true := by
      unfold risingS at h
      simp only [leT, ltCps_eq] at *
      simpa using h
    obtain ⟨h1, h2⟩ := rising_all hp.2
    refine ⟨fun y hy => ?_, List.pairwise_cons.mpr ⟨h1, h2⟩⟩
    rcases List.mem_cons.mp hy with rfl | hy
    · exact hp.1
    · exact leT_trans _ _ _ hp.1 (h1 y hy)
theorem sortedS_pairwise : ∀ {l : List Str}, sortedS l = true → l.Pairwise (fun a b => leT a b = true)
  | [], _ => .nil
  | x :: r, h => by
    obtain ⟨h1, h2⟩ := rising_all (p := x) (l := r) h
    exact List.pairwise_cons.mpr ⟨h1, h2⟩
theorem sortedS_is {ys xs : List Str} (h : sortedS ys = true) (p : ys.Perm xs) : ys = sortT xs :=
  sorted_unique (sortedS_pairwise h) (sortT_sorted xs) (p.trans (sortT_perm xs).symm)
end Gd

/-! Gd10: set(..) of texts and sorted(..) of it, as rules -/
namespace Gd
open PySem PySem.Spec PyProof.Rows L2
theorem walks_mono {prog : Program} {w : World} {A : Around} {I : Addr} {fp wr : List Addr} {n : Nat} {P P' : Nat → Value → Prop} {St : Nat → Heap → Prop} (W : Walks prog w A I fp wr n P St) (hP : ∀ i v, i < n → P i v → P' i v) : Walks prog w A I fp wr n P' St where
  sub := W.sub
  frame := W.frame
  item := fun i s Q E hi st hQ => W.item i s Q E hi st fun v h' tk hv st' hk => hQ v h' tk (hP i v hi hv) st' hk
  done := W.done
  self := W.self
def uniq : List Str → List Str
  | [] => []
  | x :: r => if x ∈ r then uniq r else x :: uniq r
theorem mem_uniq {y : Str} : ∀ {xs : List Str}, y ∈ uniq xs ↔ y ∈ xs
  | [] => Iff.rfl
  | x :: r => by
    unfold uniq
    split
    · next h =>
      rw [mem_uniq (xs := r), List.mem_cons]
      exact ⟨.inr, fun z => z.elim (fun e => e ▸ h) id⟩
    · rw [List.mem_cons, List.mem_cons, mem_uniq (xs := r)]
theorem nodup_uniq : ∀ xs : List Str, (uniq xs).Nodup
  | [] => .nil
  | x :: r => by
    unfold uniq
    split
    · exact nodup_uniq r
    · next h => exact List.nodup_cons.mpr ⟨fun m => h (mem_uniq.mp m), nodup_uniq r⟩
/-- the different texts of a list, ascending -/
def ascT (xs : List Str) : List Str := sortT (uniq xs)
theorem mem_ascT {y : Str} {xs : List Str} : y ∈ ascT xs ↔ y ∈ xs := (sortT_perm _).mem_iff.trans mem_uniq
theorem nodup_ascT (xs : List Str) : (ascT xs).Nodup := (sortT_perm _).nodup_iff.mpr (nodup_uniq xs)
/-- a set of these texts -/
def SetTx (w : World) (a : Addr) (xs : List Str) : HO := .ext fun h => ∃ n, TextSet w h a (fun j => decide (j ∈ xs)) n
theorem setTx_ok {P : Program} {w : World} {H : Hp} {h : Heap} {a : Addr} {xs : List Str} {n : Nat} (R : TextSet w h a (fun j => decide (j ∈ xs)) n) : ObjOk P w H h a (SetTx w a xs) := by
  refine ⟨⟨n, R⟩, ?_, fun h1 h2 ⟨m, q⟩ k => ⟨m, q.keep k⟩⟩
  obtain ⟨o, es, ep, t, e, _⟩ := R
  exact ⟨o, e⟩
/-- what a set of texts may be made of -/
def TextsIn (K : PySem.W.Frag) (H : Hp) (x : V) (xs : List Str) : Prop :=
  (∃ z : Str, x = .str z ∧ z.length ≤ sizeLine ∧ xs = z.cps.toList.map sg) ∨ (∃ a, x = .ref a ∧ SqL K H a (xs.map V.str)) ∨ ∃ a, x = .ref a ∧ SqT K H a (xs.map V.str)
theorem src_str {P : Program} {w : World} {z : Str} {t : Tok} : TextSrc P w "str" (.str z t) (z.cps.toList.map sg) (fun _ => True) where
  ty := fun s _ => typeIs_str s z t
  keep := fun _ _ _ _ => trivial
  noSet := by rw [isSubtype_type]; kernel_rfl
  noFro := by rw [isSubtype_type]; kernel_rfl
  noDict := by decide
  iter := fun A s E Q _ h => wpAny_pyIter_str fun oI St walks st => h oI St _ (fun b m => .inl (List.mem_singleton.mp m)) (fun A' hA' => by
    have W := walks_mono (P' := fun i u => ∃ x t, (z.cps.toList.map sg)[i]? = some x ∧ u = .str x t) (walks A' hA') fun i v _ ⟨c, u, e, ev⟩ => ⟨sg c, u, by
      rw [List.getElem?_map, Array.getElem?_toList, e]
      rfl, ev⟩
    rw [show (z.cps.toList.map sg).length = z.cps.size by rw [List.length_map, Array.length_toList]]
    exact W) st
theorem items_texts {items : Array Value} {xs : List Str} (v : Vals (xs.map V.str) items.toList) : (∀ (i : Nat) (u : Value), items[i]? = some u → ∃ x t, xs[i]? = some x ∧ u = .str x t) ∧ xs.length = items.size := by
  have len : xs.length = items.size := by
    have := v.length
    rw [List.length_map, Array.length_toList] at this
    exact this
  refine ⟨fun i u e => ?_, len⟩
  have lt : i < xs.length := by
    rw [len]
    exact (Array.getElem?_eq_some_iff.mp e).1
  have g : (xs.map V.str)[i]? = some (.str xs[i]) := by
    rw [List.getElem?_map, List.getElem?_eq_getElem lt]
    rfl
  obtain ⟨u', e', t, rfl⟩ := v.get g
  rw [Array.getElem?_toList, e] at e'
  cases e'
  exact ⟨xs[i], t, List.getElem?_eq_getElem lt, rfl⟩
theorem src_list {P : Program} {w : World} {l : Addr} {items : Array Value} {xs : List Str} (v : Vals (xs.map V.str) items.toList) : TextSrc P w "list" (.ref l) xs (fun h => h.IsList l items) where
  ty := fun s ok => ok.typeIs
  keep := fun h h' ok k => ok.at fun o e => k l o e
  noSet := by rw [isSubtype_type]; kernel_rfl
  noFro := by rw [isSubtype_type]; kernel_rfl
  noDict := by decide
  iter := fun A s E Q ok h => wpAny_pyIter_list ok (h _ (fun i k => k.IsListIter s.heap.objs.size l i ∧ k.IsList l items) [s.heap.objs.size, l] (fun b m => by
      rcases List.mem_cons.mp m with q | q
      · exact .inl q
      · obtain rfl := List.mem_singleton.mp q
        obtain ⟨o, e, c, _⟩ := ok
        exact .inr ⟨o, e, c⟩) (fun A' hA' => by
      rw [(items_texts v).2]
      refine walks_mono (Walks.list hA' _ l (Nat.ne_of_lt (by obtain ⟨o, e, _⟩ := ok; exact Heap.lt_size e)) items) fun i u _ e => (items_texts v).1 i u e)
    ⟨⟨_, Heap.get?_push_size _ rfl, rfl, rfl⟩, ok.push _⟩)
theorem src_tuple {P : Program} {w : World} {l : Addr} {items : Array Value} {xs : List Str} (v : Vals (xs.map V.str) items.toList) : TextSrc P w "tuple" (.ref l) xs (fun h => h.IsTuple l items) where
  ty := fun s ok => ok.typeIs
  keep := fun h h' ok k => ok.at fun o e => k l o e
  noSet := by rw [isSubtype_type]; kernel_rfl
  noFro := by rw [isSubtype_type]; kernel_rfl
  noDict := by decide
  iter := fun A s E Q ok h => wpAny_pyIter_tuple ok (h _ (fun i k => k.IsTupleIter s.heap.objs.size l i ∧ k.IsTuple l items) [s.heap.objs.size, l] (fun b m => by
      rcases List.mem_cons.mp m with q | q
      · exact .inl q
      · obtain rfl := List.mem_singleton.mp q
        obtain ⟨o, e, c, _⟩ := ok
        exact .inr ⟨o, e, c⟩) (fun A' hA' => by
      rw [(items_texts v).2]
      refine walks_mono (Walks.tuple hA' _ l (Nat.ne_of_lt (by obtain ⟨o, e, _⟩ := ok; exact Heap.lt_size e)) items) fun i u _ e => (items_texts v).1 i u e)
    ⟨⟨_, Heap.get?_push_size _ rfl, rfl, rfl⟩, ok.push _⟩)
section
variable {X : Cx}
def rSetT (K : PySem.W.Frag) (w : World) : List V → Hp → VK → Prop := fun vs H Q => ∃ x xs, vs = [x] ∧ TextsIn K H x xs ∧ FewIn xs ∧ ∀ p H', H p = none → Same H H' → H' p = some (SetTx w p xs) → Q (.ref p) H'
theorem set_end {pins : List (Addr × Obj)} {s : Shared} {σ : L2.St} {H : Hp} {Q : VK} {xs : List Str} {A : Around} (I : Inv X pins σ H s) (q : ∀ p H', H p = none → Same H H' → H' p = some (SetTx X.w p xs) → Q (.ref p) H') :
    ∀ (h' : Heap) (tk c : Nat), TextSet X.w h' s.heap.objs.size (fun j => decide (j ∈ xs)) c → (∀ b o, s.heap.get? b = some o → h'.get? b = some o) → EP X pins σ Q (.ref s.heap.objs.size) { s with heap := h', toks := tk } :=
  fun h' tk c set keep => ⟨.ref s.heap.objs.size, upd H s.heap.objs.size (SetTx X.w s.heap.objs.size xs), I.laid keep (Nat.le_refl _) (setTx_ok set), rfl,
    q _ _ (I.hok.fresh (Nat.le_refl _)) (same_new (I.hok.fresh (Nat.le_refl _))) upd_same⟩
theorem call_setT (hc : X.calm = true) : CallR X (.type "set") (rSetT X.K X.w) := by
  intro pins s σ H vs us Q I r h
  obtain ⟨x, xs, rfl, from_, few, q⟩ := h
  obtain ⟨u, rfl, rx⟩ := vals1 r
  rcases from_ with ⟨z, rfl, le, rfl⟩ | ⟨a, rfl, hS⟩ | ⟨a, rfl, hS⟩
  · obtain ⟨t, rfl⟩ := rx
    exact set_of_texts src_str (by decide) (I.ok.hd hc) trivial few (set_end (A := X.A) I q)
  · obtain rfl : u = .ref a := rx
    obtain ⟨its, rv, ⟨o, n, ho, hcl, hd0, hd⟩, hz⟩ := I.list hS
    exact set_of_texts (src_list (items := its.toArray) rv) (by decide) (I.ok.hd hc) ⟨o, ho, hcl, n, hd⟩ few (set_end (A := X.A) I q)
  · obtain rfl : u = .ref a := rx
    obtain ⟨its, rv, tup, hz⟩ := I.tuple hS
    obtain ⟨o, ho, hcl, n, hd⟩ := tup
    exact set_of_texts (src_tuple (items := its.toArray) rv) (by decide) (I.ok.hd hc) ⟨o, ho, hcl, n, hd⟩ few (set_end (A := X.A) I q)
end
end Gd

/-! Gd11: sorted(..) of a set of texts -/
namespace Gd
open PySem PySem.Spec PyProof.Rows L2
theorem sortT_eq_of {ys xs : List Str} (h : sortedS ys = true) (p : ys.Perm xs) : ys = sortT xs := sortedS_is h p
theorem nodup_perm {l1 l2 : List Str} (d1 : l1.Nodup) (d2 : l2.Nodup) (m : ∀ x, x ∈ l1 ↔ x ∈ l2) : l1.Perm l2 :=
  (List.perm_ext_iff_of_nodup d1 d2).mpr m
theorem strs_of_texts {w : World} : ∀ {vs : List Value}, (∀ v ∈ vs, ∃ x tk, v = Value.str x tk) → StrsAre vs (vs.map fun v => textOf (0, v))
  | [], _ => .nil
  | v :: r, h => by
    obtain ⟨x, tk, rfl⟩ := h v (List.mem_cons_self ..)
    exact .cons _ _ (strs_of_texts (w := w) fun u m => h u (List.mem_cons_of_mem _ m))
section
variable {P : Program} {w : World} {A : Around} {E : Value → Shared → Prop} {s : Shared} {a : Addr}
theorem sorted_textset {S : Str → Bool} {n : Nat} {xs : List Str} {Q : Value → Shared → Prop} (R : TextSet w s.heap a S n) (hS : ∀ k, S k = true ↔ k ∈ xs) (hh : A.handled = none)
    (hQ : ∀ s' p (out : Array Value) (c : Nat), (∀ b o, s.heap.get? b = some o → s'.heap.get? b = some o) → s'.gens = s.gens → s'.os = s.os → s.heap.objs.size ≤ p →
      s'.heap.get? p = some (seqObj "list" out c) → StrsAre out.toList (ascT xs) → Q (.ref p) s') :
    wpAny (model P w) A (call (.builtin "sorted") [.ref a]) Q E s := by
  obtain ⟨o, es, ep, t, ho, hex, hd, g, nd, hm, hb, hf, hn, hr, hl⟩ := R
  refine Calls.call_function_entry PyProof.Rows.kind_sorted PyProof.Rows.plain_sorted PyProof.Rows.entry_sorted (PyProof.Rows.args_sorted1 _) ?_
  unfold Builtin.«sorted»
  refine wpAny_bind (m := checkCount "sorted" 1 1 _) (wpAny_pure ?_)
  refine wpAny_bind (collect_set (A := A.in1) hh ⟨o, ho, hex.1, hd⟩ hf hb hr hl fun s1 vs k1 hz g1 o1 pm => ?_)
  have hvl : vs.length ≤ sizeLine := by
    rw [pm.length_eq, List.length_map, Array.length_toList]
    exact fits_of_scanBound hb
  have hI : StrsAre vs (vs.map fun v => textOf (0, v)) := strs_of_texts (w := w) fun v hv => by
    obtain ⟨e, he, q⟩ := List.mem_map.mp (pm.mem_iff.mp hv)
    obtain ⟨k, tk, h1, _⟩ := g e he
    exact ⟨k, tk, by rw [← q]; exact h1⟩
  have pk : (vs.map fun v => textOf (0, v)).Perm (es.toList.map textOf) := by
    have q := pm.map fun v => textOf (0, v)
    rw [List.map_map] at q
    exact q
  refine wpAny_bind (wpAny_newList ?_ hvl)
  have hoL : (s1.heap.push (seqObj "list" vs.toArray 0)).get? s1.heap.objs.size = some (seqObj "list" vs.toArray 0) := Heap.get?_push_size _ rfl
  refine wpAny_bind (wpAny_holding (wpAny_call_entry PyProof.Rows.slot_list_sort ⟨_, hoL, rfl⟩ PyProof.Rows.entry_list_sort
    (list_sort_treeKAny strKind_oneLt hoL hI.keysOf (fun v₁ v₂ rest e => keyKind_strs (by rw [← e]; exact hI)) hvl fun st' hp hs => ⟨_, rfl, ?_⟩) (PyProof.Rows.args_list_sort _)))
  obtain ⟨ys, g1', g2, g3⟩ := sorted_out_str hI hp hs
  obtain ⟨c, hc⟩ := PyProof.Rows.sortedHeap_at (vs := vs) (out := (arrOf st').map (·.2)) hoL
  have hys : ys = ascT xs := sortT_eq_of g3 ((g2.trans pk).trans (nodup_perm nd (nodup_uniq xs) fun k => ((hm k).symm.trans (hS k)).trans mem_uniq.symm))
  subst hys
  refine wpAny_pure ⟨_, rfl, hQ _ s1.heap.objs.size ((arrOf st').map (·.2)) c (fun b u e => ?_) g1 o1 hz hc g1'⟩
  have q := k1 b u e
  have hlt := Heap.lt_size q
  show (PyProof.Rows.sortedHeap (s1.heap.push (seqObj "list" vs.toArray 0)) s1.heap.objs.size vs _).get? b = some u
  rw [PyProof.Rows.sortedHeap_old (Nat.ne_of_lt hlt) (by rw [size_push']; exact Nat.lt_succ_of_lt hlt)]
  exact Heap.get?_push_of_some _ q
end
section
variable {X : Cx}
def rSortedTx (w : World) : List V → Hp → VK → Prop := fun vs H Q => ∃ (a : Addr) (xs : List Str), vs = [.ref a] ∧ H a = some (SetTx w a xs) ∧ xs.length ≤ sizeLine ∧ New H (.lst ((ascT xs).map V.str)) Q
theorem setTx_get {pins : List (Addr × Obj)} {σ : L2.St} {H : Hp} {s : Shared} {a : Addr} {xs : List Str} (I : Inv X pins σ H s) (e : H a = some (SetTx X.w a xs)) : ∃ n, TextSet X.w s.heap a (fun j => decide (j ∈ xs)) n :=
  (I.hok a _ e).1
theorem len_uniq : ∀ xs : List Str, (uniq xs).length ≤ xs.length
  | [] => Nat.le_refl _
  | x :: r => by
    unfold uniq
    split
    · exact Nat.le_succ_of_le (len_uniq r)
    · exact Nat.succ_le_succ (len_uniq r)
theorem len_ascT (xs : List Str) : (ascT xs).length ≤ xs.length := by
  unfold ascT
  rw [(sortT_perm _).length_eq]
  exact len_uniq xs
theorem cr_sortedTx (hc : X.calm = true) : CallR X (.builtin "sorted") (rSortedTx X.w) := by
  intro pins s σ H vs us Q I r h
  obtain ⟨a, xs, rfl, ha, few, q⟩ := h
  obtain ⟨n, R⟩ := setTx_get I ha
  rw [Vals.ref1 r]
  refine sorted_textset R (fun k => decide_eq_true_iff) (I.ok.hd hc) fun s' p out c k g o hp hg hi => ?_
  have hlen : ((ascT xs).map V.str).length ≤ sizeLine := by
    rw [List.length_map]
    exact Nat.le_trans (len_ascT xs) few
  have hn : H p = none := I.hok.fresh hp
  have J : Inv X pins σ (upd H p (.lst ((ascT xs).map V.str))) { s with heap := s'.heap, gens := s'.gens, drawn := s'.drawn, toks := s'.toks } :=
    I.call (ch := []) (Un.laid k hp hn) (I.hok.laid k hp ⟨hlen, out.toList, c, vals_of_strs hi, hg⟩) (by rw [g]; exact I.bare) (fun _ z => nomatch z)
  have e : s' = { s with heap := s'.heap, gens := s'.gens, drawn := s'.drawn, toks := s'.toks } := by
    cases s'
    cases s
    cases o
    rfl
  rw [e]
  exact ⟨.ref p, _, J, rfl, q.use p hn⟩
end
end Gd

/-! Gd12: the special methods of a class of the text, as rules; promises that know how many objects stand. -/
namespace Gd
open PySem PySem.Spec PyProof.Rows L2

/-- a def of the text by its place: the promise, and what a call needs -/
structure Dk (P : Program) (w : World) (K : PySem.W.Frag) (mg : Str → Option Value) (base : Heap) (k : Nat) (f : Addr) (ps : List Str) (sp : Sp) : Prop where
  ex : ∃ fd : FuncData, FnOk P w K mg base CX0 k f fd ps sp ∧ Binds K fd ps []
theorem Dk.up {P : Program} {w : World} {K : PySem.W.Frag} {mg : Str → Option Value} {base : Heap} {j k : Nat} {f : Addr} {ps : List Str} {sp : Sp} (D : Dk P w K mg base j f ps sp) (h : j ≤ k) : Dk P w K mg base k f ps sp := by
  obtain ⟨fd, F, b⟩ := D.ex
  exact ⟨fd, ⟨F.len, fun A outer s H args us vs Q E hr => F.run A outer s H args us vs Q E (hr.mono h)⟩, b⟩
theorem Dk.imp {P : Program} {w : World} {K : PySem.W.Frag} {mg : Str → Option Value} {base : Heap} {k : Nat} {f : Addr} {ps : List Str} {sp sp' : Sp} (D : Dk P w K mg base k f ps sp) (h : ∀ vs H Q E, sp' vs H Q E → sp vs H Q E) : Dk P w K mg base k f ps sp' := by
  obtain ⟨fd, F, b⟩ := D.ex
  exact ⟨fd, ⟨fun vs H Q E q => F.len vs H Q E (h _ _ _ _ q), fun A outer s H args us vs Q E hr he hb hv hs => F.run A outer s H args us vs Q E hr he hb hv (h _ _ _ _ hs)⟩, b⟩
/-- .. that has a name -/
structure Dn (P : Program) (w : World) (K : PySem.W.Frag) (mg : Str → Option Value) (base : Heap) (k : Nat) (x : Str) (ps : List Str) (sp : Sp) : Prop where
  ex : ∃ f : Addr, Dk P w K mg base k f ps sp ∧ mg x = some (.ref f) ∧ PySem.W.keepIn K (.ref f) = true
theorem Dn.df {P : Program} {w : World} {K : PySem.W.Frag} {mg : Str → Option Value} {base : Heap} {k : Nat} {x : Str} {ps : List Str} {sp : Sp} (D : Dn P w K mg base k x ps sp) : Df P w K mg base k x ps sp := by
  obtain ⟨f, ⟨fd, F, b⟩, m, kp⟩ := D.ex
  exact ⟨f, fd, FnG.of F, m, kp, b⟩
theorem Dn.imp {P : Program} {w : World} {K : PySem.W.Frag} {mg : Str → Option Value} {base : Heap} {k : Nat} {x : Str} {ps : List Str} {sp sp' : Sp} (D : Dn P w K mg base k x ps sp) (h : ∀ vs H Q E, sp' vs H Q E → sp vs H Q E) : Dn P w K mg base k x ps sp' := by
  obtain ⟨f, F, r⟩ := D.ex
  exact ⟨f, F.imp h, r⟩
theorem Dn.up {P : Program} {w : World} {K : PySem.W.Frag} {mg : Str → Option Value} {base : Heap} {j k : Nat} {x : Str} {ps : List Str} {sp : Sp} (D : Dn P w K mg base j x ps sp) (h : j ≤ k) : Dn P w K mg base k x ps sp := by
  obtain ⟨f, F, r⟩ := D.ex
  exact ⟨f, F.up h, r⟩

section
variable {X : Cx} {k : Nat} {x : Str} {f C : Addr} {ps : List Str} {sp : Sp} {p pos : Pos} {e : Expr} {es : List Expr} {t : TA}
theorem run_dk {pins : List (Addr × Obj)} {σ : L2.St} {H : Hp} {s : Shared} {Q : VK} {us : List Value} {vs : List V} (D : Dk X.prog X.w X.K X.mg X.base k f ps sp) (hr : Room k X.A)
    (I : Inv X pins σ H s) (r : Vals vs us) (h : sp vs H Q E0) : wpAny (model X.prog X.w) X.A (call (.ref f) us) (EP X pins σ Q) X.xe s := by
  obtain ⟨fd, F, hb⟩ := D.ex
  exact run_fn F hr hb .nil pass0 I r (by rw [List.append_nil]; exact h)
theorem run_dk1 {pins : List (Addr × Obj)} {σ : L2.St} {H : Hp} {s : Shared} {Q : VK} {us : List Value} {vs : List V} {E : Value → Shared → Prop} (D : Dk X.prog X.w X.K X.mg X.base k f ps sp) (hr : Room (k + 1) X.A)
    (I : Inv X pins σ H s) (r : Vals vs us) (h : sp vs H Q E0) : wpAny (model X.prog X.w) X.A.in1 (call (.ref f) us) (EP X pins σ Q) E s := by
  obtain ⟨fd, F, hb⟩ := D.ex
  have hl : us.length = ps.length := by
    rw [← r.length]
    exact F.len _ _ _ _ h
  refine wpAny_call (codeAny_mono (F.run X.A.in1 X.stack s H ⟨us, []⟩ us vs Q E0 hr.in1 I.env0.in1 (by
    have := hb s us I.kIn (by rw [List.append_nil]; exact hl)
    rw [List.append_nil] at this
    exact this) r h) fun r s' hq => ?_)
  cases r with
  | error er => exact (pass0 (X := X.nox) pins σ H s er s' (I.wish _) hq).elim
  | ok fl =>
    cases fl with
    | ret u => exact I.after hq
    | next => exact False.elim hq
    | brk => exact False.elim hq
    | cont => exact False.elim hq
theorem pe_callN (D : Dn X.prog X.w X.K X.mg X.base k x ps sp) (hr : Room k X.A) (hg : Gl X x) (ha : PA X (e :: es) t) (hdb : (x == ("__debug__" : Str)) = false := by decide)
    (he : starEach (e :: es) X.env = (false, eval e X.env) :: starEach es X.env := by rfl) (hpl : (backTo pos (starEach es X.env)).any (·.1) = false := by rfl) : PE X (.Call (.Name x p) (e :: es) [] pos) (tCall sp [] E0 t) := by
  obtain ⟨f, ⟨fd, F, hb⟩, hm, hk⟩ := D.ex
  exact pe_call F hr hg hm hk hb .nil pass0 ha hdb he hpl

/-- a special method of the class at C -/
structure Own (K : PySem.W.Frag) (C : Addr) (m : Str) (f : Addr) : Prop where
  at_ : PySem.W.findIn K (.ref C) m = some (some (.ref f))
  fn : PySem.W.isFn K (.ref f) = true
/-- x in o, o of the class at C -/
def rInOwn (C : Addr) (sp : Sp) (neg : Bool) : R2 := fun x y H Q => ∃ a dx fs, y = .ref a ∧ H a = some (.ins C dx fs) ∧ sp [.ref a, x] H (fun v H' => ∃ b : Bool, v = .bl b ∧ Q (.bl (b != neg)) H') E0
theorem op_inOwn (O : Own X.K C "__contains__" f) (D : Dk X.prog X.w X.K X.mg X.base k f ps sp) (hr : Room k X.A) : OpR X (compareOp .In) (rInOwn C sp false) := by
  intro pins s σ H x y v u Q I rx ry ⟨a, dx, fs, ey, ha, h⟩
  subst ey
  cases ry
  obtain ⟨mA, J, _⟩ := ins_get I.hok ha
  obtain ⟨od, J, _⟩ := J.look
  obtain ⟨m, hF⟩ := I.fr
  refine PySem.W.in_K hF I.ok.mod.kin J O.at_ O.fn (wpAny_mono (run_dk (vs := [.ref a, x]) D hr I (.cons rfl (.cons rx .nil)) h) (fun r s' q => ?_) fun _ _ z => z)
  obtain ⟨z, H', I', rz, b, rfl, q⟩ := q
  cases rz
  rw [Bool.bne_false] at q
  exact wpAny_truthy_bool ⟨.bl b, H', I', rfl, q⟩
theorem op_notinOwn (O : Own X.K C "__contains__" f) (D : Dk X.prog X.w X.K X.mg X.base k f ps sp) (hr : Room k X.A) : OpR X (compareOp .NotIn) (rInOwn C sp true) := by
  intro pins s σ H x y v u Q I rx ry ⟨a, dx, fs, ey, ha, h⟩
  subst ey
  cases ry
  obtain ⟨mA, J, _⟩ := ins_get I.hok ha
  obtain ⟨od, J, _⟩ := J.look
  obtain ⟨m, hF⟩ := I.fr
  refine PySem.W.notIn_K hF I.ok.mod.kin J O.at_ O.fn (wpAny_mono (run_dk (vs := [.ref a, x]) D hr I (.cons rfl (.cons rx .nil)) h) (fun r s' q => ?_) fun _ _ z => z)
  obtain ⟨z, H', I', rz, b, rfl, q⟩ := q
  cases rz
  rw [Bool.bne_true] at q
  exact wpAny_truthy_bool ⟨.bl (!b), H', I', rfl, q⟩
/-- x op y, both of the class at C -/
def rBinOwn (C : Addr) (sp : Sp) : R2 := fun x y H Q => ∃ a dx fs b dy gs, x = .ref a ∧ y = .ref b ∧ H a = some (.ins C dx fs) ∧ H b = some (.ins C dy gs) ∧ sp [.ref a, .ref b] H Q E0
theorem cmpBack_of {pins : List (Addr × Obj)} {σ : L2.St} {Q : VK} {v : Value} {s : Shared} (h : EP X pins σ Q v s) : PySem.W.CmpBack (EP X pins σ Q) v s := by
  obtain ⟨z, H', I', rz, q⟩ := h
  have e : EP X pins σ Q v s := ⟨z, H', I', rz, q⟩
  cases v <;> first | exact e | skip
  cases z <;> first | (obtain ⟨t, ht⟩ := rz; cases ht) | cases rz
theorem op_binOwn {op : Operator} (O : Own X.K C (PySem.dunder op.info.2) f) (self : PySem.W.selfFirst X.K C = true) (D : Dk X.prog X.w X.K X.mg X.base k f ps sp) (hr : Room k X.A) : OpR X (binaryOp op) (rBinOwn C sp) := by
  intro pins s σ H x y v u Q I rx ry ⟨a, dx, fs, b, dy, gs, ex, ey, ha, hb, h⟩
  subst ex
  subst ey
  cases rx
  cases ry
  obtain ⟨mA, J, _⟩ := ins_get I.hok ha
  obtain ⟨od, J, _⟩ := J.look
  obtain ⟨mB, J', _⟩ := ins_get I.hok hb
  obtain ⟨od', J', _⟩ := J'.look
  obtain ⟨m, hF⟩ := I.fr
  exact PySem.W.binop_K hF I.ok.mod.kin J J'.type self O.at_ O.fn (wpAny_mono (run_dk (vs := [.ref a, .ref b]) D hr I (.cons rfl (.cons rfl .nil)) h) (fun r s' q => cmpBack_of q) fun _ _ z => z)
theorem op_eqOwn (O : Own X.K C "__eq__" f) (D : Dk X.prog X.w X.K X.mg X.base k f ps sp) (hr : Room k X.A) : OpR X (compareOp .Eq) (rBinOwn C sp) := by
  intro pins s σ H x y v u Q I rx ry ⟨a, dx, fs, b, dy, gs, ex, ey, ha, hb, h⟩
  subst ex
  subst ey
  cases rx
  cases ry
  obtain ⟨mA, J, _⟩ := ins_get I.hok ha
  obtain ⟨od, J, _⟩ := J.look
  obtain ⟨mB, J', _⟩ := ins_get I.hok hb
  obtain ⟨od', J', _⟩ := J'.look
  obtain ⟨m, hF⟩ := I.fr
  show wpAny (model X.prog X.w) X.A (richCompare .Eq (.ref a) (.ref b)) (EP X pins σ Q) X.xe s
  exact PySem.W.cmp_K (op := .Eq) (tb := .ref C) hr.units0 hF I.ok.mod.kin J J'.type (by simp [PySem.W.notFirst]) O.at_ O.fn (wpAny_mono (run_dk (vs := [.ref a, .ref b]) D hr I (.cons rfl (.cons rfl .nil)) h) (fun r s' q => cmpBack_of q) fun _ _ z => z)
/-- o[i] -/
def rIxOwn (C : Addr) (sp : Sp) : R2 := fun x y H Q => ∃ a dx fs, x = .ref a ∧ H a = some (.ins C dx fs) ∧ sp [.ref a, y] H Q E0
theorem pe_ixOwn {a b : Expr} {ta tb : TE} (O : Own X.K C "__getitem__" f) (fi : PySem.W.fnIn X.K f = true) (D : Dk X.prog X.w X.K X.mg X.base k f ps sp) (hr : Room (k + 1) X.A) (ha : PE X a ta) (hb : PE X b tb)
    (hs : ∀ o i, subscripted b true o i = runValue (.builtin "lifetime.subscript" ⟨[o, i], []⟩)) : PE X (.Subscript a b pos) (tOp (rIxOwn C sp) ta tb) := by
  refine ⟨fun pins s σ H Q I h => ?_⟩
  refine Subscript_ (binT ha hb I h fun v u s2 x y H2 I2 rx ry q => ?_)
  obtain ⟨c, dx, fs, ex, hc, q⟩ := q
  subst ex
  cases rx
  obtain ⟨mA, J, _⟩ := ins_get I2.hok hc
  obtain ⟨od, J, _⟩ := J.look
  obtain ⟨m, hF⟩ := I2.fr
  exact PySem.W.sub_K hF I2.ok.mod.kin J O.at_ fi O.fn (run_dk1 (vs := [.ref c, y]) D hr I2 (.cons rfl (.cons ry .nil)) q) (hs _ _)
/-- len(o) -/
def rLenOwn (C : Addr) (sp : Sp) : List V → Hp → VK → Prop := fun xs H Q => ∃ a dx fs, xs = [.ref a] ∧ H a = some (.ins C dx fs) ∧ sp [.ref a] H (fun v H' => ∃ n : Nat, v = .int n ∧ (n : Int) < 2 ^ 63 ∧ Q (.int n) H') E0
theorem call_lenOwn (O : Own X.K C "__len__" f) (D : Dk X.prog X.w X.K X.mg X.base k f ps sp) (hr : Room (k + 1) X.A) : CallR X (.builtin "len") (rLenOwn C sp) := by
  intro pins s σ H xs us Q I r ⟨a, dx, fs, ex, ha, h⟩
  subst ex
  obtain ⟨u, rfl, ru⟩ := vals1 r
  cases ru
  obtain ⟨mA, J, _⟩ := ins_get I.hok ha
  obtain ⟨od, J, _⟩ := J.look
  obtain ⟨m, hF⟩ := I.fr
  refine PySem.W.len_K hF I.ok.mod.kin J O.at_ O.fn (wpAny_mono (run_dk1 (vs := [.ref a]) D hr I (.cons rfl .nil) h) (fun r s' q => ?_) fun _ _ z => z)
  obtain ⟨z, H', I', rz, n, rfl, le, q⟩ := q
  obtain ⟨t, rfl⟩ := rz
  exact ⟨⟨by omega, le⟩, .int n, H', I'.tok _, ⟨_, rfl⟩, q⟩
end
end Gd

/-! Gd13: for x in o, o of a class of the text whose __iter__ is iter(of a tuple). -/
namespace Gd
open PySem PySem.Spec PyProof.Rows L2 ItX

/-- a promise that knows how many objects stand when the call begins -/
structure FnS (P : Program) (w : World) (K : PySem.W.Frag) (mg : Str → Option Value) (base : Heap) (CX : CXT) (k : Nat) (f : Addr) (fd : FuncData) (ps : List Str) (sp : Nat → Sp) : Prop where
  len : ∀ n vs H Q E, sp n vs H Q E → vs.length = ps.length
  run : ∀ (A : Around) (outer : List Env) (s : Shared) (H : Hp) (args : Args) (us : List Value) (vs : List V) (Q : VK) (E : XK), Room k A → Env0 P w K mg base A outer s H →
    BindsTo s fd args (ps.zip us) → Vals vs us → sp s.heap.objs.size vs H Q E → codeAny (model P w) A (.call (.ref f) args) (CR CX outer P w H s Q E) s
section
variable {P : Program} {w : World} {K : PySem.W.Frag} {mg : Str → Option Value} {base : Heap} {CX : CXT} {k : Nat} {f : Addr} {fd : FuncData} {ps : List Str} {sp : Nat → Sp}
theorem fn_ofS {name qual : Str} {params : Arguments} {body : List Stmt} {scope : Scope} {kV doc pm cdv ct oc : Value} {an od : Option Addr} {osl : Array (Option Value)} {N : List Str}
    (lk : K.lookup f = some ⟨oc, od, .func (PySem.W.fnOf name qual params body scope .none kV doc pm an cdv ct), osl⟩) (hcd : PySem.W.codeIn K cdv qual = true) (S : FnScope N ps scope)
    (len : ∀ n vs H Q E, sp n vs H Q E → vs.length = ps.length)
    (hbody : ∀ (A : Around) (outer : List Env) (s : Shared) (H : Hp) (vs : List V) (Q : VK) (E : XK), Room k (A.deeper (envOfC qual scope s.heap.objs.size f cdv)) → sp s.heap.objs.size vs H Q E →
      ∃ t, PSs (cxOf CX P w K mg base N qual scope f cdv A outer s H E) body t ∧ t { nx := fun _ H' => Q .non H', rt := Q } (start N vs) H) :
    FnS P w K mg base CX (k + 1) f (PySem.W.fnOf name qual params body scope .none kV doc pm an cdv ct) ps sp := by
  refine ⟨len, fun A outer s H args us vs Q E room env bnd vals want => ?_⟩
  have same_len := len _ _ _ _ _ want
  have inK : K.In s.heap := env.mod.kin.keeps fun b o e => (env.bs b o e).1
  have noLim : s.heap.NoLimit := env.mod.nolimit.keeps fun b o e => (env.bs b o e).1
  have kinds : ∀ z ∈ ps.zip us, scope.names.lookup z.1 = some .local ∨ (scope.names.lookup z.1 = some .cell ∧ ((cellsFrom (s.heap.objs.size + 1) scope.names []).lookup z.1).isSome = true) := by
    rintro ⟨n, v⟩ hz
    rcases S.par n (List.of_mem_zip hz).1 with q | q
    · exact .inl q
    · exact .inr ⟨q, PySem.W.cellsFrom_some _ _ _ (.inl q)⟩
  refine codeAny_call_function room.depth (inK _ _ lk) rfl S.co S.gen rfl (PySem.W.codeRec_of inK hcd) (bnd _ _ _ _ ?_)
  refine wpAny_newFunctionEnv_cells S.kind kinds fun env' same s1 x => ?_
  subst same
  refine ⟨noLim.keeps x.toInCall.keep, codeAny_func ?_⟩
  obtain ⟨t, run, holds⟩ := hbody A outer s H vs Q E (room.deeper _) want
  have I0 : Inv (cxOf CX P w K mg base N qual scope f cdv A outer s H E) [] (start N vs) H s1 := inv_start S room.hd env same_len vals x
  refine wpAny_mono (run.run [] s1 (start N vs) H _ I0 holds) (fun fl s2 hs => ?_) fun e s2 hs => hs
  cases fl with
  | ret u => exact hs.elim fun v h => h.elim fun _ h => h.elim fun H2 h => ⟨v, H2, h.1.os, h.1.bare, h.1.base, h.1.hok, h.2.1, h.2.2⟩
  | next => exact hs.elim fun _ h => h.elim fun H2 h => ⟨V.non, H2, h.1.os, h.1.bare, h.1.base, h.1.hok, rfl, h.2⟩
  | brk => exact hs.elim fun _ h => h.elim fun _ h => h.2.elim
  | cont => exact hs.elim fun _ h => h.elim fun _ h => h.2.elim
end

/-- a tuple's iterator at its place -/
abbrev tupIt (t : Addr) (i : Nat) : Obj := { cls := .type "tuple_iterator", data := .fields #[.ref t, rawInt i] }
def ItU (t it : Addr) : HO := .ext fun h => h.IsTupleIter it t 0
theorem itU_ok {P : Program} {w : World} {H : Hp} {h : Heap} {t it : Addr} (e : h.IsTupleIter it t 0) : ObjOk P w H h it (ItU t it) := by
  refine ⟨e, ?_, fun h1 h2 q k => q.at k⟩
  obtain ⟨o, e, _⟩ := e
  exact ⟨o, e⟩
section
variable {prog : Program} {w : World} {A : Around} {E : Value → Shared → Prop} {s : Shared}
theorem call_iterTup {l : Addr} {items : Array Value} {Q : Value → Shared → Prop} (hl : s.heap.IsTuple l items) (h : Q (.ref s.heap.objs.size) { s with heap := s.heap.push { cls := .type "tuple_iterator", data := .fields #[.ref l, .int 0 0] } }) : wpAny (model prog w) A (call (.builtin "iter") [.ref l]) Q E s := by
  refine Calls.call_function_entry (by decide +kernel) (by decide +kernel) PySem.W.kdk_entry_iter (PySem.W.kdk_args_iter _) ?_
  unfold Builtin.«iter»
  refine wpAny_bind (m := someArgs "iter" 1 2 _) (wpAny_of_eq (a := [Value.ref l]) (by first | rfl | kernel_rfl!) ?_)
  show wpAny _ _ (pyIter (.ref l) >>= _) _ _ _
  refine wpAny_bind (wpAny_pyIter_tuple hl ?_)
  exact wpAny_pure ⟨_, rfl, h⟩
end
/-- iter(t), t a tuple: the iterator stands at n or above -/
def rIterU (K : PySem.W.Frag) (n : Nat) : List V → Hp → VK → Prop := fun xs H Q => ∃ (l : Addr) (zs : List V), xs = [.ref l] ∧ SqT K H l zs ∧ ∀ it, H it = Option.none → n ≤ it → Q (.ref it) (upd H it (ItU l it))
section
variable {X : Cx}
theorem call_iterU : CallR X (.builtin "iter") (rIterU X.K X.s_0.heap.objs.size) := by
  intro pins s σ H xs us Q I r h
  obtain ⟨l, zs, rfl, hq, q⟩ := h
  obtain ⟨u, rfl, ru⟩ := vals1 r
  cases ru
  obtain ⟨its, rv, pl, hz⟩ := I.tuple hq
  refine call_iterTup (show s.heap.IsTuple l its.toArray from pl) ?_
  exact ⟨.ref s.heap.objs.size, _, I.laid (t' := s.toks) (fun b u e => Heap.get?_push_of_some _ e) (Nat.le_refl _) (itU_ok ⟨_, Heap.get?_push_size _ rfl, rfl, rfl⟩), rfl, q _ (I.hok.fresh (Nat.le_refl _)) I.sz⟩
end
/-- what __iter__ promises: o's attribute fl is a tuple, and its iterator comes out -/
def spIter (K : PySem.W.Frag) (C : Addr) (fl : Str) (n : Nat) : Sp := fun vs H Q _ => ∃ a dx fs t zs, vs = [.ref a] ∧ H a = some (.ins C dx fs) ∧ fs.lookup fl = some (.ref t) ∧ SqT K H t zs ∧ ∀ it, H it = Option.none → n ≤ it → Q (.ref it) (upd H it (ItU t it))
structure Ds (P : Program) (w : World) (K : PySem.W.Frag) (mg : Str → Option Value) (base : Heap) (k : Nat) (f : Addr) (ps : List Str) (sp : Nat → Sp) : Prop where
  ex : ∃ fd : FuncData, FnS P w K mg base CX0 k f fd ps sp ∧ Binds K fd ps []
/-- for x in o -/
def iOwn (K : PySem.W.Frag) (C : Addr) (fl : Str) (te : TE) : TI := fun σ H R => te σ H fun x H1 => ∃ a dx fs t zs, x = .ref a ∧ H1 a = some (.ins C dx fs) ∧ fs.lookup fl = some (.ref t) ∧ SqT K H1 t zs ∧ R (Itt K t) H1
section
variable {X : Cx} {tg : Expr} {k : Nat} {f C : Addr} {fl : Str} {ps : List Str} {e : Expr} {te : TE}
theorem nextSlot {s : Shared} {it t : Addr} {i : Nat} (st : s.heap.IsTupleIter it t i) {M : Model} {A : Around} {E : Value → Shared → Prop} {Q : Value → Shared → Prop} (h : Q (.ref it) s) : PySem.W.OwitIt M A Q E (.ref it) s := by
  unfold PySem.W.OwitIt
  exact wpAny_specialOf st.typeIs PySem.F.slot_tuple_iterator_next.lookup h
theorem pi_own (he : PE X e te) (O : Own X.K C "__iter__" f) (D : Ds X.prog X.w X.K X.mg X.base k f ps (spIter X.K C fl)) (hr : Room k X.A) : PI X tg e (iOwn X.K C fl te) := by
  refine ⟨fun pins s σ H R I h => ?_⟩
  refine thn (he.run pins s σ H _ I h) fun v s1 ⟨x, H1, I1, r1, a, dx, fs, t, zs, ex, ha, lk, tp, q⟩ => ?_
  subst ex
  obtain rfl : v = Value.ref a := r1
  obtain ⟨mA, J, _⟩ := ins_get I1.hok ha
  obtain ⟨od, J, _⟩ := J.look
  obtain ⟨m, hF⟩ := I1.fr
  obtain ⟨fd, F, hb⟩ := D.ex
  refine PySem.W.owit_iter hF I1.ok.mod.kin J O.at_ O.fn ?_
  have want : spIter X.K C fl s1.heap.objs.size [.ref a] H1 (fun v H2 => ∃ it, v = .ref it ∧ H1 it = none ∧ s1.heap.objs.size ≤ it ∧ H2 = upd H1 it (ItU t it)) E0 := ⟨a, dx, fs, t, zs, rfl, ha, lk, tp, fun it n le => ⟨it, rfl, n, le, rfl⟩⟩
  have hl : ([Value.ref a] ++ []).length = ps.length := (F.len _ [.ref a] _ _ _ want)
  refine wpAny_call (codeAny_mono (F.run X.A X.stack s1 H1 ⟨[.ref a], []⟩ [.ref a] [.ref a] _ E0 hr I1.env0 (by
    have := hb s1 [.ref a] I1.kIn hl
    rw [List.append_nil] at this
    exact this) (.cons rfl .nil) want) fun r s' hq => ?_)
  cases r with
  | error er => exact (pass0 (X := X) pins σ H1 s1 er s' I1 hq)
  | ok fl =>
    cases fl with
    | ret u =>
      obtain ⟨z, H2, I2, rz, it, rfl, n, le, rfl⟩ := I1.after hq
      cases rz
      have st : s'.heap.IsTupleIter it t 0 := (I2.hok it _ upd_same).1
      refine nextSlot st ?_
      have I3 := inv_drop I2 (show upd H1 it (ItU t it) it = some (.ext _) from upd_same)
      have fp := inv_fp I2 (show upd H1 it (ItU t it) it = some (ItU t it) from upd_same) (Nat.le_trans I1.sz le)
      rw [dropH_upd n] at I3 fp
      refine ⟨it, [it], _, _, H1, rfl, I3, turn_tuple t it, st, fun b hb => ?_, q⟩
      have e : b = it := by simpa using hb
      rw [e]
      exact fp
    | next => exact False.elim hq
    | brk => exact False.elim hq
    | cont => exact False.elim hq
end
end Gd

/-! Gd14: dicts from texts to integers. -/
namespace Gd
open PySem PySem.Spec PyProof.Rows L2 L2.DX
/-- a dict from texts to integers, as the heap has it -/
def pr (L : List (Str × Int)) : List (Key × V) := L.map fun p => (Sum.inr p.1, V.int p.2)
theorem pr_len {L : List (Str × Int)} : (pr L).length = L.length := List.length_map ..
theorem valV_pr {z : Str} : ∀ {L : List (Str × Int)}, valV (pr L) (Sum.inr z) = (L.lookup z).map V.int
  | [] => rfl
  | (k, v) :: r => by
    show valV ((Sum.inr k, V.int v) :: pr r) (Sum.inr z) = _
    by_cases e : k = z
    · rw [valV_pos (p := ((Sum.inr k : Key), V.int v)) (by rw [e]), e, List.lookup_cons_self]
      rfl
    · rw [valV_neg (p := ((Sum.inr k : Key), V.int v)) (fun h => e (Sum.inr.inj h)), valV_pr, List.lookup_cons, show (z == k) = false from beq_eq_false_iff_ne.mpr (Ne.symm e)]
/-- d[k] = v on such lists -/
def putP (L : List (Str × Int)) (k : Str) (v : Int) : List (Str × Int) := if (L.any fun p => decide (p.1 = k)) = true then L.map (fun p => if p.1 = k then (p.1, v) else p) else L ++ [(k, v)]
theorem putK_pr {L : List (Str × Int)} {k : Str} {v : Int} : putK (pr L) (Sum.inr k) (V.int v) = pr (putP L k v) := by
  unfold putK putP pr
  have e1 : (L.map fun p : Str × Int => ((Sum.inr p.1 : Key), V.int p.2)).any (fun kv => decide (kv.1 = Sum.inr k)) = L.any (fun p => decide (p.1 = k)) := by
    rw [List.any_map]
    congr 1
    funext p
    show decide ((Sum.inr p.1 : Key) = Sum.inr k) = decide (p.1 = k)
    rw [decide_eq_decide]
    exact ⟨Sum.inr.inj, fun h => by rw [h]⟩
  rw [e1]
  split
  · rw [List.map_map, List.map_map]
    refine List.map_congr_left fun p _ => ?_
    show (if (Sum.inr p.1 : Key) = Sum.inr k then ((Sum.inr p.1 : Key), V.int v) else (Sum.inr p.1, V.int p.2)) = _
    by_cases e : p.1 = k
    · rw [if_pos (by rw [e])]
      show _ = (fun p : Str × Int => ((Sum.inr p.1 : Key), V.int p.2)) (if p.1 = k then (p.1, v) else p)
      rw [if_pos e]
    · rw [if_neg (fun h => e (Sum.inr.inj h))]
      show _ = (fun p : Str × Int => ((Sum.inr p.1 : Key), V.int p.2)) (if p.1 = k then (p.1, v) else p)
      rw [if_neg e]
  · rw [List.map_append]
    rfl
theorem lookup_putP {L : List (Str × Int)} {k z : Str} {v : Int} : (putP L k v).lookup z = if z = k then some v else L.lookup z := by
  have h := valV_put (pr L) (Sum.inr k) (Sum.inr z) (V.int v)
  rw [putK_pr, valV_pr, valV_pr] at h
  have inj : ∀ {a b : Option Int}, a.map V.int = b.map V.int → a = b := fun {a b} e => by
    cases a <;> cases b <;> simp_all
  refine inj (h.trans ?_)
  by_cases e : z = k
  · rw [if_pos (by rw [e]), if_pos e]
    rfl
  · rw [if_neg (fun h => e (Sum.inr.inj h)), if_neg e]
theorem putP_new {L : List (Str × Int)} {k : Str} {v : Int} (h : k ∉ L.map (·.1)) : putP L k v = L ++ [(k, v)] := by
  unfold putP
  rw [if_neg]
  simp only [List.any_eq_true, decide_eq_true_eq, not_exists, not_and]
  exact fun p m e => h (List.mem_map.mpr ⟨p, m, e⟩)
theorem nodup_putP {L : List (Str × Int)} {k : Str} {v : Int} (nd : (L.map (·.1)).Nodup) : ((putP L k v).map (·.1)).Nodup := by
  by_cases h : k ∈ L.map (·.1)
  · have e : (putP L k v).map (·.1) = L.map (·.1) := by
      unfold putP
      obtain ⟨p, m, e⟩ := List.mem_map.mp h
      rw [if_pos (List.any_eq_true.mpr ⟨p, m, decide_eq_true e⟩), List.map_map]
      refine List.map_congr_left fun p _ => ?_
      show (if p.1 = k then (p.1, v) else p).1 = p.1
      split <;> rfl
    rw [e]
    exact nd
  · rw [putP_new h, List.map_append]
    refine List.nodup_append.mpr ⟨nd, by simp, fun a m b mb => ?_⟩
    obtain rfl : b = k := by simpa using mb
    exact fun e => h (e ▸ m)
theorem mem_look {z : Str} : ∀ {L : List (Str × Int)}, z ∈ L.map (·.1) ↔ (L.lookup z).isSome = true
  | [] => ⟨fun h => (nomatch h), fun h => (nomatch h)⟩
  | (k, v) :: r => by
    rw [List.map_cons, List.mem_cons, mem_look, List.lookup_cons]
    by_cases e : z = k
    · rw [show (z == k) = true from beq_iff_eq.mpr e]
      exact ⟨fun _ => rfl, fun _ => .inl e⟩
    · rw [show (z == k) = false from beq_eq_false_iff_ne.mpr e]
      exact ⟨fun h => h.elim (fun h => absurd h e) id, .inr⟩
theorem mem_putP {L : List (Str × Int)} {k z : Str} {v : Int} : z ∈ (putP L k v).map (·.1) ↔ z = k ∨ z ∈ L.map (·.1) := by
  rw [mem_look, mem_look, lookup_putP]
  split
  · next e => simp [e]
  · next e => simp [e]
/-- the same prices at the same pieces -/
def eqPr (L M : List (Str × Int)) : Bool := L.length == M.length && L.all fun p => M.lookup p.1 == some p.2
theorem hits_pr {A : Around} {s : Shared} {M : List (Str × Int)} {vb : List (Key × Value)} (rb : KV (pr M) vb) : ∀ {L : List (Str × Int)} {va : List (Key × Value)}, KV (pr L) va → ∃ b, PySem.W.KeqHits A s vb va b ∧ b = L.all fun p => M.lookup p.1 == some p.2
  | [], _, ra => by
    have ra' : KV ([] : List (Key × V)) _ := ra
    unfold KV at ra'
    cases ra'
    exact ⟨true, .nil, rfl⟩
  | (k, i) :: r, va, ra => by
    have ra' : KV ((Sum.inr k, V.int i) :: pr r) va := ra
    unfold KV at ra'
    cases ra' with
    | @cons _ q _ qs h t =>
      obtain ⟨b, hb, e⟩ := hits_pr rb (L := r) (va := qs) t
      obtain ⟨k', v⟩ := q
      obtain ⟨h1, h2⟩ := h
      have h1' : (Sum.inr k : Key) = k' := h1
      subst h1'
      have rv : RelO (valV (pr M) (Sum.inr k)) (valueAt vb (Sum.inr k)) := rb.val (Sum.inr k)
      rw [valV_pr] at rv
      cases em : M.lookup k with
      | none =>
        rw [em] at rv
        cases ev : valueAt vb (Sum.inr k) with
        | some y =>
          rw [ev] at rv
          exact (show False from rv).elim
        | none =>
          refine ⟨false, .miss ev, ?_⟩
          rw [List.all_cons]
          show false = (M.lookup k == some i && _)
          rw [em]
          rfl
      | some j =>
        rw [em] at rv
        obtain ⟨y, ey, ry⟩ := rv.some_of
        refine ⟨eqV (.int i) (.int j) && b, .hit ey (eqAt_V (y := .int i) (x := .int j) h2 ry rfl rfl) hb, ?_⟩
        rw [List.all_cons, e]
        show _ = (M.lookup k == some i && _)
        rw [em]
        congr 1
        show decide (i = j) = (some j == some i)
        by_cases q : i = j
        · rw [q, decide_eq_true rfl]
          exact (beq_iff_eq.mpr rfl).symm
        · rw [decide_eq_false q]
          exact (beq_eq_false_iff_ne.mpr fun z => q (Option.some.inj z).symm).symm
section
variable {X : Cx}
def rEqPr : R2 := fun x y H Q => ∃ a b L M, x = .ref a ∧ y = .ref b ∧ H a = some (.dK (pr L)) ∧ H b = some (.dK (pr M)) ∧ Q (.bl (eqPr L M)) H
theorem op_eqPr (hu : X.A.units < cLine) : OpR X (compareOp .Eq) rEqPr := by
  intro pins s σ H x y v u Q I rx ry h
  obtain ⟨a, b, L, M, rfl, rfl, ea, eb, q⟩ := h
  obtain rfl : v = Value.ref a := rx
  obtain rfl : u = Value.ref b := ry
  obtain ⟨_, ya, va, ra, da⟩ := (show ObjOk X.prog X.w H s.heap a (.dK (pr L)) from I.hok a _ ea)
  obtain ⟨_, yb, vb, rb, db⟩ := (show ObjOk X.prog X.w H s.heap b (.dK (pr M)) from I.hok b _ eb)
  obtain ⟨r, hits, er⟩ := hits_pr (A := X.A.in1) (s := s) rb ra
  refine PySem.W.keq_eq (knd := mixKind X.prog X.w) (r := r) ya yb da db hu (fun _ => hits) (fin_bl I q ?_)
  unfold eqPr
  rw [er, ← ra.length, ← rb.length, pr_len, pr_len]
/-- z in d, z not in d -/
def rInPr (neg : Bool) : R2 := fun x y H Q => ∃ z d L, x = .str z ∧ y = .ref d ∧ Rd H d (.dK (pr L)) ∧ Q (.bl ((L.lookup z).isSome != neg)) H
theorem dget_pr {H : Hp} {d : Addr} {L : List (Str × Int)} {z : Str} (h : Rd H d (.dK (pr L))) : DGet H d (.str z) ((L.lookup z).map V.int) := .inl ⟨pr L, Sum.inr z, h, rfl, by rw [valV_pr]⟩
theorem op_inPr (hu : X.A.units + 1 < cLine) : OpR X (compareOp .In) (rInPr false) := by
  intro pins s σ H x y v u Q I rx ry ⟨z, d, L, ex, ey, hd, q⟩
  subst ex
  subst ey
  cases ry
  refine d_in hu I (dget_pr (z := z) hd) rx fun s' I' => fin_bl I' q ?_
  rw [Bool.bne_false, Option.isSome_map]
theorem op_notinPr (hu : X.A.units + 1 < cLine) : OpR X (compareOp .NotIn) (rInPr true) := by
  intro pins s σ H x y v u Q I rx ry ⟨z, d, L, ex, ey, hd, q⟩
  subst ex
  subst ey
  cases ry
  refine d_notIn hu I (dget_pr (z := z) hd) rx fun s' I' => fin_bl I' q ?_
  rw [Bool.bne_true, Option.isSome_map]
/-- d.items() -/
def rItemsD : V → List V → Hp → VK → Prop := fun x xs H Q => ∃ (a : Addr) (kvs : List (Key × V)), x = .ref a ∧ xs = [] ∧ Rd H a (.dK kvs) ∧ ∀ p H', H p = none → Same H H' → H' p = some (itemsO p a) → Q (.ref p) H'
theorem mt_itemsD : MtR X "dict.items" rItemsD := by
  intro pins s σ H x xs v us Q I rx rxs h
  obtain ⟨a, kvs, rfl, rfl, ha, q⟩ := h
  cases rx
  cases rxs
  obtain ⟨z, lo, vs, rel, dd⟩ := dk_rd I.hok ha
  have hf : H s.heap.objs.size = none := I.hok.fresh (Nat.le_refl _)
  refine call_meetsIn PySem.F.slot_dict_items dd.typeIs PySem.F.entry_dict_items (PySem.F.args_dict_items_1 _) (meets_dict_items (mixKind X.prog X.w) a lo) ⟨⟨vs, dd⟩, ?_⟩
  exact ⟨.ref s.heap.objs.size, upd H s.heap.objs.size (itemsO s.heap.objs.size a), I.laid (t' := s.toks) (fun b u e => Heap.get?_push_of_some _ e) (Nat.le_refl _) (itemsO_ok (Heap.get?_push_size _ rfl)), rfl, q _ _ hf (same_new hf) upd_same⟩
end
end Gd

/-! Gd15: list(d.items()), tuple(d), max(d.values()). -/
namespace Gd
open PySem PySem.Spec PyProof.Rows L2 L2.DX
/-- a list of new pairs (text, integer) -/
def PairsAt (H : Hp) (l : Addr) (L : List (Str × Int)) : Prop := ∃ ps : List Addr, H l = some (.lst (ps.map V.ref)) ∧ Paired (fun b (e : Str × Int) => H b = some (.tup [.str e.1, .int e.2])) ps L
/-- .. of new pairs -/
def PairsNew (H H' : Hp) (l : Addr) (L : List (Str × Int)) : Prop := ∃ ps : List Addr, H' l = some (.lst (ps.map V.ref)) ∧ Paired (fun b (e : Str × Int) => H' b = some (.tup [.str e.1, .int e.2])) ps L ∧ ∀ b ∈ ps, H b = none ∧ b ≠ l
theorem PairsNew.at_ {H H' : Hp} {l : Addr} {L : List (Str × Int)} (p : PairsNew H H' l L) : PairsAt H' l L := by
  obtain ⟨ps, a, r, _⟩ := p
  exact ⟨ps, a, r⟩
theorem PairsAt.up {H H' : Hp} {l : Addr} {L : List (Str × Int)} (p : PairsAt H l L) (k : Same H H') : PairsAt H' l L := by
  obtain ⟨ps, a, r⟩ := p
  exact ⟨ps, k _ _ a, Paired.mapP r fun b e h => k _ _ h⟩
theorem paired_get {α β : Type} {F : α → β → Prop} : ∀ {as : List α} {bs : List β}, as.length = bs.length → (∀ (j : Nat) (a : α), as[j]? = some a → ∃ b, bs[j]? = some b ∧ F a b) → Paired F as bs
  | [], [], _, _ => .nil
  | [], _ :: _, h, _ => by simp at h
  | _ :: _, [], h, _ => by simp at h
  | a :: as, b :: bs, h, f => by
    obtain ⟨b', e, r⟩ := f 0 a rfl
    obtain rfl : b = b' := by simpa using e
    exact .cons r (paired_get (by simpa using h) fun j x e => f (j + 1) x (by simpa using e))
theorem refs_vals : ∀ as : List Addr, Vals (as.map V.ref) (as.map Value.ref)
  | [] => .nil
  | _ :: r => .cons rfl (refs_vals r)
/-- what a made pair is -/
theorem kv_at {L : List (Str × Int)} {vs : List (Key × Value)} (rel : KV (pr L) vs) {j : Nat} {k : Key} {x : Value} (e : vs[j]? = some (k, x)) : ∃ e : Str × Int, L[j]? = some e ∧ k = Sum.inr e.1 ∧ RelV (.int e.2) x := by
  obtain ⟨v, h1, h2⟩ := KV.at' rel e
  unfold pr at h1
  rw [List.getElem?_map] at h1
  cases hj : L[j]? with
  | none =>
    rw [hj] at h1
    cases h1
  | some q =>
    rw [hj] at h1
    have h3 : ((Sum.inr q.1 : Key), V.int q.2) = (k, v) := Option.some.inj h1
    injection h3 with h4 h5
    exact ⟨q, rfl, h4.symm, h5 ▸ h2⟩
theorem key_str {P : Program} {w : World} {z : Str} {v : Value} (h : (mixKind P w).is (Sum.inr z) v = true) : ∃ t, v = .str z t := by
  have q := keyIs_rel (k := Sum.inr z) (v := v) h
  exact q
section
variable {X : Cx}
def rListI : List V → Hp → VK → Prop := fun xs H Q => ∃ p a L, xs = [.ref p] ∧ H p = some (itemsO p a) ∧ Rd H a (.dK (pr L)) ∧ ∀ l H', H l = none → Same H H' → PairsNew H H' l L → Q (.ref l) H'
theorem call_listI (hc : X.calm = true) : CallR X (.type "list") rListI := by
  intro pins s σ H xs us Q I r ⟨p, a, L, ex, hp, ha, q⟩
  subst ex
  obtain rfl := Vals.ref1 r
  have view : s.heap.IsItemsView p a := (show ObjOk X.prog X.w H s.heap p (itemsO p a) from I.hok p _ hp).1
  obtain ⟨z, lo, vs, rel, dd⟩ := dk_rd I.hok ha
  obtain ⟨ep, hat⟩ := dd.dictAt
  have hlen : vs.length = L.length := rel.length.symm.trans pr_len
  rw [pr_len] at z
  refine PySem.W.kdx_call (knd := mixKind X.prog X.w) (kvs := vs) (ep := ep) (I.ok.hd hc) view hat (by rw [hlen]; exact z) fun h' tk acc c as hk hS hl hG hacc => ?_
  have hn0 : H s.heap.objs.size = none := I.hok.fresh (Nat.le_refl _)
  have nd : as.Nodup := List.Pairwise.imp (fun h => Nat.ne_of_lt h) hG.rise
  have I1 : Inv X pins σ (upd H s.heap.objs.size (.lst (as.map V.ref))) { s with heap := h', toks := tk } := I.laid (t' := tk) hk (Nat.le_refl _)
    (show ObjOk X.prog X.w _ _ _ (.lst (as.map V.ref)) from ⟨by rw [List.length_map, hl, hlen]; exact z, acc.toList, c, by rw [hacc]; exact refs_vals as, by rw [Array.toArray_toList]; exact hS⟩)
  have made : ∀ (j : Nat) (b : Addr), as[j]? = some b → ∃ e : Str × Int, L[j]? = some e ∧ ∀ H2, ObjOk X.prog X.w H2 h' b (.tup [.str e.1, .int e.2]) := fun j b hj => by
    obtain ⟨key, k, x, e1, e2, e3⟩ := hG.pairs j b hj
    obtain ⟨e, h1, rfl, h3⟩ := kv_at rel e1
    obtain ⟨t, rfl⟩ := key_str e2
    exact ⟨e, h1, fun H2 => ⟨by rw [sizeLine_eq]; show 2 ≤ 16777216; omega, [.str e.1 t, x], .cons ⟨t, rfl⟩ (.cons h3 .nil), ⟨_, e3, rfl, 0, rfl⟩⟩⟩
  obtain ⟨H2, I3, g, qt⟩ := takeT (P := fun b vs => ∃ (j : Nat) (e : Str × Int), as[j]? = some b ∧ L[j]? = some e ∧ vs = [.str e.1, .int e.2]) I as _ I1 nd fun b hb => by
    obtain ⟨j, hj⟩ := List.mem_iff_getElem?.mp hb
    obtain ⟨e, he, ok⟩ := made j b hj
    have lt := hG.above b hb
    exact ⟨Nat.le_of_lt lt, by rw [upd_ne (Nat.ne_of_gt lt)]; exact I.hok.fresh (Nat.le_of_lt lt), _, ⟨j, e, hj, he, rfl⟩, ok⟩
  refine ⟨.ref s.heap.objs.size, H2, I3, rfl, q _ _ hn0 (fun b o e => g b o (by rw [upd_ne (ne_of_none e hn0)]; exact e)) ⟨as, g _ _ upd_same, paired_get (hl.trans hlen) fun j b hj => ?_, fun b hb => ⟨I.hok.fresh (Nat.le_of_lt (hG.above b hb)), Nat.ne_of_gt (hG.above b hb)⟩⟩⟩
  obtain ⟨vs', ⟨j', e, h1, h2, rfl⟩, h3⟩ := qt b (List.mem_of_getElem? hj)
  have lt : j < as.length := (List.getElem?_eq_some_iff.mp hj).1
  have same : j = j' := (List.getElem?_inj lt nd).mp (hj.trans h1.symm)
  subst same
  exact ⟨e, h2, h3⟩

/-- tuple(d): its keys -/
def rTupD : List V → Hp → VK → Prop := fun xs H Q => ∃ a L, xs = [.ref a] ∧ Rd H a (.dK (pr L)) ∧ New H (.tup (L.map fun p => V.str p.1)) Q
end
section
variable {prog : Program} {w : World} {A : Around} {E : Value → Shared → Prop} {s : Shared} {r : Addr} {kvs : List (Key × Value)} {ep : Nat}
theorem code_tuple_new_dict {Q₁ : Value → Shared → Prop} (hh : A.handled = none) (lo : (r == sysModules) = false) (hT : s.TypeIs (.ref r) "dict") (hat : s.heap.DictAt (mixKind prog w) r kvs ep) (hlen : kvs.length ≤ sizeLine)
    (h : ∀ (h' : Heap) (tk : Nat) (acc : Array Value), (∀ b o, s.heap.get? b = some o → h'.get? b = some o) → ItemsOf (fun i v => ∃ k x, kvs[i]? = some (k, x) ∧ keyIs k v = true) acc kvs.length →
      Q₁ (.ref h'.objs.size) { s with heap := h'.push { cls := .type "tuple", data := .seq acc }, toks := tk }) :
    codeAny (model prog w) A (.call (.builtin "tuple.__new__") ⟨[.type "tuple", .ref r], []⟩) (wants Q₁ E) s := by
  refine codeAny_of_tree ?_
  show wpAny _ A.in1 (do checkBuiltinCall "tuple.__new__" ⟨[.type "tuple", .ref r], []⟩; again (.builtin "tuple.__new__" ⟨[.type "tuple", .ref r], []⟩)) _ _ s
  refine wpAny_bind (wpAny_of_eq (F.newCall_tuple_1 _) (wpAny_pure ⟨plainId_quiet F.plain_tuple_new _, codeAny_builtin F.entry_tuple_new ?_⟩))
  rw [Around.under_plainId F.plain_tuple_new _]
  have hsub := sub_tuple_self
  have hinit := init_tuple_lookup
  have hmh := madeHere_tuple
  have hh1 : A.in1.handled = none := hh
  wp_walk using wpAny_typeOf hT, PySem.W.kdu_collect (A := A.in1) (PySem.W.kdl_dict (knd := mixKind prog w) (kvs := kvs) (ep := ep) lo) hh1 hat hlen
  intro h' tk acc hk hacc
  show wpAny _ _ (Builtin.Tuple.tupleExact acc.toList.toArray >>= fun v => ret v) _ _ _
  unfold Builtin.Tuple.tupleExact
  refine wpAny_bind (wpAny_newObj_type ?_ (by show acc.toList.toArray.size ≤ sizeLine; simp only [Array.toArray_toList]; rw [hacc.1]; exact hlen))
  refine wpAny_pure ?_
  have e : acc.toList.toArray = acc := by simp
  rw [e]
  exact h h' tk acc hk hacc
end
section
variable {X : Cx}
theorem call_tupD (hc : X.calm = true) : CallR X (.type "tuple") rTupD := by
  intro pins s σ H xs us Q I r ⟨a, L, ex, ha, q⟩
  subst ex
  obtain rfl := Vals.ref1 r
  obtain ⟨z, lo, vs, rel, dd⟩ := dk_rd I.hok ha
  obtain ⟨ep, hat⟩ := dd.dictAt
  have hlen : vs.length = L.length := rel.length.symm.trans pr_len
  rw [pr_len] at z
  refine callType_codes (Q₁ := fun obj s₁ => s₁.TypeIs obj "tuple" ∧ EP X pins σ Q obj s₁) F.called_tuple (F.typeCall_tuple_1 _) F.entry_object_init
    (code_tuple_new_dict (A := X.A.in1) (I.ok.hd hc) lo dd.typeIs hat (by rw [hlen]; exact z) fun h' tk acc hk hacc => ⟨⟨_, Heap.get?_push_size _ rfl, rfl⟩, ?_⟩) fun obj s₁ h₁ => ?_
  · have ek : (L.map fun p => V.str p.1) = vs.map fun p => kV p.1 := by
      have e := congrArg (List.map kV) rel.keys
      unfold pr at e
      rw [List.map_map, List.map_map, List.map_map] at e
      exact e
    have hv : Vals (vs.map fun p => kV p.1) acc.toList := keys_at (by rw [Array.length_toList]; exact hacc.1) fun j v e => hacc.2 j v (by rw [← Array.getElem?_toList]; exact e)
    have I1 : Inv X pins σ H { s with heap := h', toks := tk } := I.kept (t' := tk) hk
    have hn := I1.hok.fresh (Nat.le_refl h'.objs.size)
    have I2 : Inv X pins σ (upd H h'.objs.size (.tup (L.map fun p => V.str p.1))) { s with heap := h'.push { cls := .type "tuple", data := .seq acc }, toks := tk } :=
      I1.laid (t' := tk) (fun b o e => Heap.get?_push_of_some _ e) (Nat.le_refl _) (show ObjOk X.prog X.w _ _ _ (.tup _) from ⟨by rw [List.length_map]; exact z, acc.toList, by rw [ek]; exact hv, by
        rw [Array.toArray_toList]
        exact IsTup.new _ _⟩)
    exact ⟨.ref h'.objs.size, _, I2, rfl, q.use _ hn⟩
  · exact ⟨h₁.1, F.args_object_init_2 obj _, object_init_meets F.called_tuple.init.lookup F.called_tuple.made (by decide) X.prog X.w X.A.in1 _ s₁ ⟨h₁.1, rfl, h₁.2⟩⟩

/-- d.values() -/
def valsO (p a : Addr) : HO := .ext fun h => h.get? p = some { cls := .type "dict_values", data := .fields #[.ref a] }
def rValuesD : V → List V → Hp → VK → Prop := fun x xs H Q => ∃ (a : Addr) (kvs : List (Key × V)), x = .ref a ∧ xs = [] ∧ Rd H a (.dK kvs) ∧ ∀ p H', H p = none → Same H H' → H' p = some (valsO p a) → Q (.ref p) H'
theorem mt_valuesD : MtR X "dict.values" rValuesD := by
  intro pins s σ H x xs v us Q I rx rxs h
  obtain ⟨a, kvs, rfl, rfl, ha, q⟩ := h
  cases rx
  cases rxs
  obtain ⟨z, lo, vs, rel, dd⟩ := dk_rd I.hok ha
  have hf : H s.heap.objs.size = none := I.hok.fresh (Nat.le_refl _)
  refine call_meetsIn PySem.F.slot_dict_values dd.typeIs PySem.F.entry_dict_values (PySem.F.args_dict_values_1 _) (meets_dict_values (mixKind X.prog X.w) a lo) ⟨⟨vs, dd⟩, ?_⟩
  refine ⟨.ref s.heap.objs.size, upd H s.heap.objs.size (valsO s.heap.objs.size a), I.laid (t' := s.toks) (fun b u e => Heap.get?_push_of_some _ e) (Nat.le_refl _) ?_, rfl, q _ _ hf (same_new hf) upd_same⟩
  have e : (s.heap.push { cls := .type "dict_values", data := .fields #[.ref a] }).get? s.heap.objs.size = some { cls := .type "dict_values", data := .fields #[.ref a] } := Heap.get?_push_size _ rfl
  exact ⟨e, ⟨_, e⟩, fun h1 h2 q k => k _ q⟩
/-- max(d.values()) -/
def rMaxV : List V → Hp → VK → Prop := fun xs H Q => ∃ p a L, xs = [.ref p] ∧ H p = some (valsO p a) ∧ Rd H a (.dK (pr L)) ∧ L ≠ [] ∧ ∀ m, m ∈ L.map (·.2) → (∀ j ∈ L.map (·.2), j ≤ m) → Q (.int m) H
theorem call_maxV (hc : X.calm = true) : CallR X (.builtin "max") rMaxV := by
  intro pins s σ H xs us Q I r ⟨p, a, L, ex, hp, ha, hne, q⟩
  subst ex
  obtain rfl := Vals.ref1 r
  have view : s.heap.get? p = some { cls := .type "dict_values", data := .fields #[.ref a] } := (show ObjOk X.prog X.w H s.heap p (valsO p a) from I.hok p _ hp).1
  obtain ⟨_, lo, vs, rel, dof⟩ := dk_rd I.hok ha
  obtain ⟨ep, dat⟩ := dof.dictAt
  obtain ⟨ob, es, ho, ex, hdat, hko, hpr, hnd⟩ := id dat
  have hlv : vs.length = (L.map (·.2)).length := by rw [← rel.length, pr_len, List.length_map]
  have hlen : 0 < vs.length := by
    rw [hlv, List.length_map]
    exact List.length_pos_iff.mpr hne
  have hval : ∀ (i : Nat) (v : Value), (∃ k, vs[i]? = some (k, v)) → ∃ t, v = Value.int ((L.map (·.2)).getD i 0) t := fun i v ⟨k, hk⟩ => by
    obtain ⟨e, h1, _, t, h3⟩ := kv_at rel hk
    refine ⟨t, ?_⟩
    rw [h3, List.getD_eq_getElem?_getD, List.getElem?_map, h1]
    rfl
  refine call_max_walk (wpAny_pyIter_values (v := p) (d := a) ⟨_, view, rfl, rfl⟩ dat ?_)
  have hlt : a < s.heap.objs.size := Heap.lt_size ho
  refine ⟨_, _, _, _, _, _, _, rfl, Walks.dictValues (knd := mixKind X.prog X.w) (A := X.A.in1) (I.ok.hd hc) s.heap.objs.size a (Nat.ne_of_lt hlt) vs ep,
    ⟨⟨_, Heap.get?_push_size _ rfl, rfl, rfl⟩, dat.keep fun b u e => Heap.get?_push_of_some _ e⟩, fun b hb => ?_, hlen, CmpOf.ints_gt (fun i => (L.map (·.2)).getD i 0) hval, fun v h' tk hP hk => ?_⟩
  · show b < (s.heap.push _).objs.size
    rw [Heap.size_push]
    rcases List.mem_cons.mp hb with e | hb
    · rw [e]
      exact Nat.lt_succ_self _
    · have e : b = a := List.mem_singleton.mp hb
      rw [e]
      exact Nat.lt_succ_of_lt hlt
  · obtain ⟨t, rfl⟩ := hval _ v hP
    obtain ⟨b1, b2⟩ := argBest_gt (fun i => (L.map (·.2)).getD i 0) (vs.length - 1)
    refine ⟨.int _, H, I.kept (t' := tk) fun b u e => hk b u (fun hmem => ?_) (Heap.get?_push_of_some _ e), ⟨t, rfl⟩, q _ ?_ fun j hj => ?_⟩
    · have e1 : b = s.heap.objs.size := List.mem_singleton.mp hmem
      rw [e1] at e
      exact absurd (Heap.lt_size e) (Nat.lt_irrefl _)
    · have hb : argBest (fun i j => decide ((L.map (·.2)).getD i 0 > (L.map (·.2)).getD j 0)) (vs.length - 1) < (L.map (·.2)).length := by omega
      rw [List.getD_eq_getElem?_getD, List.getElem?_eq_getElem hb]
      exact List.getElem_mem hb
    · obtain ⟨i, hi, e⟩ := List.mem_iff_getElem.mp hj
      have e2 : (L.map (·.2)).getD i 0 = j := by
        rw [List.getD_eq_getElem?_getD, List.getElem?_eq_getElem hi, ← e]
        rfl
      rw [← e2]
      exact b2 i (by omega)
end
end Gd

/-! Gd16: sorted(d.items()), d from texts to integers. -/
namespace Gd
open PySem PySem.Spec PyProof.Rows L2 L2.DX DT
open PySem.W (kat_kind kat_lt kat_cons kat_go kat_yes kat_no kat_nil KatLex KatTups)
/-- how many of these texts stand in front -/
def rankT (xs : List Str) (z : Str) : Int := ((xs.countP fun y => decide (y.cps.toList < z.cps.toList) : Nat) : Int)
theorem countP_lt {α : Type} {p q : α → Bool} : ∀ {xs : List α}, (∀ y ∈ xs, p y = true → q y = true) → (∃ y ∈ xs, p y = false ∧ q y = true) → xs.countP p < xs.countP q
  | [], _, h => by
    obtain ⟨y, m, _⟩ := h
    cases m
  | x :: r, sub, ⟨y, m, py, qy⟩ => by
    rw [List.countP_cons, List.countP_cons]
    have le : r.countP p ≤ r.countP q := List.countP_mono_left fun z mz => sub z (List.mem_cons_of_mem _ mz)
    rcases List.mem_cons.mp m with rfl | m
    · rw [py, qy]
      simp only [Bool.false_eq_true, if_false, if_true]
      omega
    · have lt := countP_lt (p := p) (q := q) (xs := r) (fun z mz => sub z (List.mem_cons_of_mem _ mz)) ⟨y, m, py, qy⟩
      have hx := sub x (List.mem_cons_self ..)
      cases hp : p x with
      | false =>
        rw [if_neg Bool.false_ne_true]
        omega
      | true =>
        rw [hx hp]
        simp only [if_true]
        omega
theorem rank_lt {xs : List Str} {a b : Str} (ma : a ∈ xs) (mb : b ∈ xs) : decide (a.cps.toList < b.cps.toList) = decide (rankT xs a < rankT xs b) := by
  rw [decide_eq_decide]
  unfold rankT
  constructor
  · intro h
    refine Int.ofNat_lt.mpr (countP_lt (fun y _ p => ?_) ⟨a, ma, decide_eq_false (List.lt_irrefl _), decide_eq_true h⟩)
    exact decide_eq_true (List.lt_trans (of_decide_eq_true p) h)
  · intro h
    apply Classical.byContradiction
    intro n
    have le : xs.countP (fun y => decide (y.cps.toList < b.cps.toList)) ≤ xs.countP (fun y => decide (y.cps.toList < a.cps.toList)) := List.countP_mono_left fun y _ p => by
      have p' : y.cps.toList < b.cps.toList := of_decide_eq_true p
      refine decide_eq_true (Classical.byContradiction fun q => ?_)
      have q1 : a.cps.toList ≤ y.cps.toList := List.not_lt.mp q
      exact n (List.lt_of_le_of_lt q1 p')
    omega
/-- v is a tuple of the text y and the integer i -/
def PairSI (h : Heap) (v : Value) (y : Str) (i : Int) : Prop := ∃ (a : Addr) (o : Obj) (n : Nat) (t u : Tok), v = .ref a ∧ h.get? a = some o ∧ o.cls = .type "tuple" ∧ o.data = .seq #[.str y t, .int i u] n
/-- the text of a pair, read off the heap -/
def fstT (h : Heap) (v : Value) : Str := txOf (seqAt0 h (refOf (some v)))
theorem PairSI.tx {h : Heap} {v : Value} {y : Str} {i : Int} (x : PairSI h v y i) : fstT h v = y := by
  obtain ⟨a, o, n, t, u, rfl, ho, hc, hd⟩ := x
  show txOf (seqAt0 h a) = y
  rw [seqAt0_of (items := #[.str y t, .int i u]) ⟨o, ho, hc, n, hd⟩]
  rfl
section
variable {prog : Program} {w : World} {A : Around} {E : Value → Shared → Prop} {s : Shared}
theorem firsts_si {h : Heap} : ∀ vs : List Value, (∀ v ∈ vs, ∃ y i, PairSI h v y i) → ∃ fs : List Value, KatTups h vs fs ∧ fs.length = vs.length ∧ ∀ f ∈ fs, ∃ (x : Str) (t : Tok), f = Value.str x t
  | [], _ => ⟨[], KatTups.nil, rfl, fun f hf => by simp at hf⟩
  | v :: vs, x => by
    obtain ⟨fs, k, hl, hi⟩ := firsts_si vs fun u hu => x u (List.mem_cons_of_mem _ hu)
    obtain ⟨y, i, a, o, n, t, u, rfl, ho, hc, hd⟩ := x v (List.mem_cons_self ..)
    refine ⟨.str y t :: fs, KatTups.cons ho hc hd rfl k, by rw [List.length_cons, List.length_cons, hl], fun f hf => ?_⟩
    rcases List.mem_cons.mp hf with rfl | hf
    · exact ⟨y, t, rfl⟩
    · exact hi f hf
theorem kind_si {vs : List Value} {xs : List Str} (h2 : 2 ≤ vs.length) (x : ∀ v ∈ vs, ∃ y i, PairSI s.heap v y i ∧ y ∈ xs) (one : ∀ v ∈ vs, ∀ u ∈ vs, ∀ y i j, PairSI s.heap v y i → PairSI s.heap u y j → i = j) (Q : SortKind → Shared → Prop)
    (h : ∀ κ, TS.Cmp prog w A s κ (pairsOf vs) (fun v => rankT xs (fstT s.heap v)) → Q κ s) : wpAny (model prog w) A (keyKind' vs.toArray) Q E s := by
  obtain ⟨fs, k, hl, hi⟩ := firsts_si vs fun v m => by
    obtain ⟨y, i, p, _⟩ := x v m
    exact ⟨y, i, p⟩
  refine kat_kind (T := Value.type "str") k (by omega) (fun f hf => ?_) rfl (h _ ?_)
  · obtain ⟨z, t, rfl⟩ := hi f hf
    exact .now
  · intro p q hp hq Q' E' hQ
    rw [pairsOf_toList] at hp hq
    have mp := (mem_zip_self hp).2
    have mq := (mem_zip_self hq).2
    obtain ⟨y, i, py, my⟩ := x _ mp
    obtain ⟨z, j, pz, mz⟩ := x _ mq
    have hQ' : Q' (decide (y.cps.toList < z.cps.toList)) s := by
      rw [rank_lt my mz]
      have hQ2 : Q' (decide (rankT xs (fstT s.heap p.1) < rankT xs (fstT s.heap q.1))) s := hQ
      rw [py.tx, pz.tx] at hQ2
      exact hQ2
    have same : y = z → i = j := fun e => one _ mp _ mq y i j py (e ▸ pz)
    obtain ⟨a, o, n, t, u, e1, ho, hc, hd⟩ := py
    obtain ⟨a', o', n', t', u', e2, ho', hc', hd'⟩ := pz
    rw [e1, e2]
    refine kat_lt ho hd ho' hd' ?_
    show KatLex prog w A true false Q' [(Value.str y t, Value.str z t'), (Value.int i u, Value.int j u')] 0 s
    by_cases e : y = z
    · have irr : decide (y.cps.toList < z.cps.toList) = false := by
        rw [e]
        exact decide_eq_false (List.lt_irrefl _)
      rw [irr] at hQ'
      refine kat_cons (SeqAt.EqAt.str_str (A := A) (s := s) y t z t' prog w _ _ ?_)
      refine kat_go (fun _ => ?_) (fun e0 => absurd (beq_iff_eq.mpr e) (by rw [e0]; exact Bool.false_ne_true))
      refine kat_yes (kat_cons (SeqAt.EqAt.int_int (A := A) (s := s) i u j u' prog w _ _ ?_))
      refine kat_go (fun _ => ?_) (fun e0 => absurd (beq_iff_eq.mpr (same e)) (by rw [e0]; exact Bool.false_ne_true))
      exact kat_yes (kat_nil hQ')
    · refine kat_cons (SeqAt.EqAt.str_str (A := A) (s := s) y t z t' prog w _ _ ?_)
      refine kat_go (fun e0 => absurd (beq_iff_eq.mp e0) e) (fun _ => ?_)
      exact kat_no (oneLt_str hQ')
end
section
variable {X : Cx}
/-- texts ascend -/
def AscP (L : List (Str × Int)) : Prop := (L.map (·.1)).Pairwise fun a b => leT a b = true
def rSortedI : List V → Hp → VK → Prop := fun xs H Q => ∃ p a L, xs = [.ref p] ∧ H p = some (itemsO p a) ∧ Rd H a (.dK (pr L)) ∧ (L.map (·.1)).Nodup ∧ L ≠ [] ∧ L.length < 64 ∧ ∀ l H' M, H l = none → Same H H' → PairsNew H H' l M → M.Perm L → AscP M → Q (.ref l) H'
theorem nodup_inj {L : List (Str × Int)} (nd : (L.map (·.1)).Nodup) {j k : Nat} {e f : Str × Int} (h1 : L[j]? = some e) (h2 : L[k]? = some f) (h : e.1 = f.1) : j = k := by
  have lt : j < (L.map (·.1)).length := by
    rw [List.length_map]
    exact (List.getElem?_eq_some_iff.mp h1).1
  refine (List.getElem?_inj lt nd).mp ?_
  rw [List.getElem?_map, List.getElem?_map, h1, h2]
  exact congrArg some h
theorem cr_sortedI (hc : X.calm = true) : CallR X (.builtin "sorted") rSortedI := by
  intro pins s σ H xs us Q I r ⟨p, a, L, ex, hp, ha, nodup, hne, h64, q⟩
  subst ex
  obtain rfl := Vals.ref1 r
  have view : s.heap.IsItemsView p a := (show ObjOk X.prog X.w H s.heap p (itemsO p a) from I.hok p _ hp).1
  obtain ⟨z, lo, vs, rel, dd⟩ := dk_rd I.hok ha
  obtain ⟨ep, hat⟩ := dd.dictAt
  have hlen : vs.length = L.length := rel.length.symm.trans pr_len
  rw [pr_len] at z
  refine Calls.call_function_entry PyProof.Rows.kind_sorted PyProof.Rows.plain_sorted PyProof.Rows.entry_sorted (PyProof.Rows.args_sorted1 _) ?_
  unfold Builtin.«sorted»
  refine wpAny_bind (m := checkCount "sorted" 1 1 _) (wpAny_pure ?_)
  refine wpAny_bind (PySem.W.kdx_collect (A := X.A.in1) (knd := mixKind X.prog X.w) (kvs := vs) (ep := ep) (I.ok.hd hc) view hat (by rw [hlen]; exact z) fun h' tk as hk hl hG => ?_)
  refine wpAny_bind (wpAny_newList ?_ (by rw [List.length_map, hl, hlen]; exact z))
  have nd : as.Nodup := List.Pairwise.imp (fun h => Nat.ne_of_lt h) hG.rise
  have hal : as.length = L.length := hl.trans hlen
  have hle : s.heap.objs.size ≤ h'.objs.size := by
    cases ea : as with
    | nil =>
      rw [ea] at hal
      exact absurd (List.length_eq_zero_iff.mp hal.symm) hne
    | cons b r =>
      have m : b ∈ as := by
        rw [ea]
        exact List.mem_cons_self ..
      exact Nat.le_of_lt (Nat.lt_trans (hG.above b m) (hG.there m))
  have hob : (h'.push { cls := .type "list", data := .seq (as.map Value.ref).toArray }).get? h'.objs.size = some (seqObj "list" (as.map Value.ref).toArray 0) := Heap.get?_push_size _ rfl
  have ka0 : ∀ b o, h'.get? b = some o → (h'.push { cls := .type "list", data := .seq (as.map Value.ref).toArray }).get? b = some o := fun b o e => Heap.get?_push_of_some _ e
  generalize hh2 : h'.push { cls := .type "list", data := .seq (as.map Value.ref).toArray } = h2 at hob ka0 ⊢
  have ka := ka0
  have ne0 : ∀ b o, h'.get? b = some o → b ≠ h'.objs.size := fun b o e => Nat.ne_of_lt (Heap.lt_size e)
  have made : ∀ (j : Nat) (b : Addr), as[j]? = some b → ∃ (e : Str × Int) (t u : Tok), L[j]? = some e ∧ h'.get? b = some { cls := .type "tuple", data := .seq #[.str e.1 t, .int e.2 u] } := fun j b hj => by
    obtain ⟨key, k, x, e1, e2, e3⟩ := hG.pairs j b hj
    obtain ⟨e, h1, rfl, u, rfl⟩ := kv_at rel e1
    obtain ⟨t, rfl⟩ := key_str e2
    exact ⟨e, t, u, h1, e3⟩
  have pin : ∀ (j : Nat) (b : Addr), as[j]? = some b → ∃ e : Str × Int, L[j]? = some e ∧ PairSI (TS.midHeap h2 h'.objs.size (as.map Value.ref)) (.ref b) e.1 e.2 := fun j b hj => by
    obtain ⟨e, t, u, he, hg⟩ := made j b hj
    exact ⟨e, he, b, _, 0, t, u, rfl, TS.midHeap_old (ne0 _ _ hg) (ka _ _ hg), rfl, rfl⟩
  have at_ : ∀ v ∈ as.map Value.ref, ∃ (j : Nat) (b : Addr) (e : Str × Int), v = .ref b ∧ as[j]? = some b ∧ L[j]? = some e ∧ PairSI (TS.midHeap h2 h'.objs.size (as.map Value.ref)) (.ref b) e.1 e.2 := fun v hv => by
    obtain ⟨b, hb, rfl⟩ := List.mem_map.mp hv
    obtain ⟨j, hj⟩ := List.mem_iff_getElem?.mp hb
    obtain ⟨e, he, ps⟩ := pin j b hj
    exact ⟨j, b, e, rfl, hj, he, ps⟩
  have det : ∀ {h : Heap} {v : Value} {y y' : Str} {i i' : Int}, PairSI h v y i → PairSI h v y' i' → y = y' ∧ i = i' := fun {h v y y' i i'} p1 p2 => by
    obtain ⟨a1, o1, n1, t1, u1, e1, g1, c1, d1⟩ := p1
    obtain ⟨a2, o2, n2, t2, u2, e2, g2, c2, d2⟩ := p2
    rw [e1] at e2
    cases e2
    rw [g1] at g2
    cases g2
    rw [d1] at d2
    injection d2 with d3 d4
    have l := congrArg Array.toList d3
    injection l with l1 l2
    injection l1 with l3
    injection l2 with l4
    injection l4 with l5
    exact ⟨l3, l5⟩
  refine wpAny_bind (wpAny_holding (wpAny_call_entry PyProof.Rows.slot_list_sort ⟨_, hob, rfl⟩ PyProof.Rows.entry_list_sort
    (SK.plain_sort (s := { s with heap := h2, toks := tk }) (r := fun v => rankT (L.map (·.1)) (fstT (TS.midHeap h2 h'.objs.size (as.map Value.ref)) v)) hob (by rw [List.length_map]; omega) (fun h2' Qk hQk => ?_) fun ps out o1 o2 o3 => ⟨.none, rfl, ?_⟩) (PyProof.Rows.args_list_sort _)))
  · refine kind_si (s := { s with heap := TS.midHeap h2 h'.objs.size (as.map Value.ref), toks := tk }) (xs := L.map (·.1)) h2' (fun v hv => ?_) (fun v hv u hu y i j pv pu => ?_) Qk hQk
    · obtain ⟨j, b, e, rfl, hj, he, ps⟩ := at_ v hv
      exact ⟨e.1, e.2, ps, List.mem_map.mpr ⟨e, List.mem_of_getElem? he, rfl⟩⟩
    · obtain ⟨j1, b1, e1, rfl, hj1, he1, ps1⟩ := at_ v hv
      obtain ⟨j2, b2, e2, rfl, hj2, he2, ps2⟩ := at_ u hu
      obtain ⟨m1, m2⟩ := det pv ps1
      obtain ⟨m3, m4⟩ := det pu ps2
      have jj := nodup_inj nodup he1 he2 (m1.symm.trans m3)
      subst jj
      rw [he1] at he2
      cases he2
      rw [m2, m4]
  · refine wpAny_pure ⟨_, rfl, ?_⟩
    show EP X pins σ Q (.ref h'.objs.size) { s with heap := sortedHeap h2 h'.objs.size (as.map Value.ref) out, toks := tk }
    obtain ⟨zs, pz, ez⟩ := perm_lift (fun z : Addr × Str × Int => (Value.ref z.1, Value.ref z.1)) o2 (as.zip L) (zip_self Value.ref as L hal)
    have idx : ∀ z ∈ zs, ∃ j : Nat, as[j]? = some z.1 ∧ L[j]? = some z.2 := fun z' hz' => by
      obtain ⟨j, hj⟩ := List.mem_iff_getElem?.mp (pz.mem_iff.mp hz')
      exact ⟨j, List.getElem?_zip_eq_some.mp hj⟩
    have hout : out.toList = zs.map fun z => Value.ref z.1 := by
      rw [o1, ← ez, List.map_map]
      all_goals rfl
    have hperm : (zs.map (·.2)).Perm L := by
      have e := pz.map (·.2)
      have m2 : (as.zip L).map (·.2) = L := List.map_snd_zip (by rw [hal]; exact Nat.le_refl _)
      rw [m2] at e
      exact e
    have hsort : AscP (zs.map (·.2)) := by
      rw [← ez, List.pairwise_map] at o3
      unfold AscP
      rw [List.map_map, List.pairwise_map]
      refine List.Pairwise.imp_of_mem (fun {x y} hx hy h => ?_) o3
      obtain ⟨j, j1, j2⟩ := idx x hx
      obtain ⟨i, i1, i2⟩ := idx y hy
      obtain ⟨e1, he1, pe1⟩ := pin j _ j1
      obtain ⟨e2, he2, pe2⟩ := pin i _ i1
      rw [j2] at he1
      rw [i2] at he2
      cases he1
      cases he2
      have h' : rankT (L.map (·.1)) (fstT (TS.midHeap h2 h'.objs.size (as.map Value.ref)) (.ref x.1)) ≤ rankT (L.map (·.1)) (fstT (TS.midHeap h2 h'.objs.size (as.map Value.ref)) (.ref y.1)) := h
      rw [pe1.tx, pe2.tx] at h'
      refine leT_iff.mpr fun lt => ?_
      have lt : y.2.1.cps.toList < x.2.1.cps.toList := lt
      have := rank_lt (xs := L.map (·.1)) (List.mem_map.mpr ⟨_, List.mem_of_getElem? i2, rfl⟩) (List.mem_map.mpr ⟨_, List.mem_of_getElem? j2, rfl⟩)
      rw [decide_eq_true lt] at this
      have := of_decide_eq_true this.symm
      omega
    have kF : ∀ b o, b ≠ h'.objs.size → h2.get? b = some o → (sortedHeap h2 h'.objs.size (as.map Value.ref) out).get? b = some o := fun b o hb e => (PyProof.Rows.sortedHeap_old hb (Heap.lt_size e)).trans e
    have kS : ∀ b o, s.heap.get? b = some o → (sortedHeap h2 h'.objs.size (as.map Value.ref) out).get? b = some o := fun b o e => kF b o (ne0 _ _ (hk b o e)) (ka _ _ (hk b o e))
    obtain ⟨eF, heF⟩ := PyProof.Rows.sortedHeap_at (vs := as.map Value.ref) (out := out) hob
    have I1 : Inv X pins σ H { s with heap := sortedHeap h2 h'.objs.size (as.map Value.ref) out, toks := tk } := I.kept (t' := tk) kS
    have hn0 : H h'.objs.size = none := I.hok.fresh hle
    have hzl : zs.length = L.length := by
      have e := hperm.length_eq
      rw [List.length_map] at e
      exact e
    have I2 : Inv X pins σ (upd H h'.objs.size (.lst ((zs.map (·.1)).map V.ref))) { s with heap := sortedHeap h2 h'.objs.size (as.map Value.ref) out, toks := tk } :=
      I1.take (h' := sortedHeap h2 h'.objs.size (as.map Value.ref) out) (t' := tk) (fun b ob _ e => e) (I.fpOk hle hn0)
        ⟨by rw [List.length_map, List.length_map, hzl]; exact z, out.toList, eF, by
          rw [hout, show (zs.map fun z => Value.ref z.1) = (zs.map (·.1)).map Value.ref by rw [List.map_map]; rfl]
          exact refs_vals _, heF⟩
    obtain ⟨H2, I3, g, qt⟩ := takeT (P := fun b vs => ∃ (j : Nat) (e : Str × Int), as[j]? = some b ∧ L[j]? = some e ∧ vs = [.str e.1, .int e.2]) I as _ I2 nd fun b hb => by
      obtain ⟨j, hj⟩ := List.mem_iff_getElem?.mp hb
      obtain ⟨e, t, u, he, hg⟩ := made j b hj
      have lt := hG.above b hb
      exact ⟨Nat.le_of_lt lt, by rw [upd_ne (ne0 _ _ hg)]; exact I.hok.fresh (Nat.le_of_lt lt), _, ⟨j, e, hj, he, rfl⟩, fun H3 => ⟨(by rw [sizeLine_eq]; show 2 ≤ 16777216; omega), [Value.str e.1 t, Value.int e.2 u], .cons ⟨t, rfl⟩ (.cons ⟨u, rfl⟩ .nil), ⟨_, kF _ _ (ne0 _ _ hg) (ka _ _ hg), rfl, 0, rfl⟩⟩⟩
    refine ⟨.ref h'.objs.size, H2, I3, rfl, q _ _ (zs.map (·.2)) hn0 (fun b o e => g b o (by rw [upd_ne (ne_of_none e hn0)]; exact e)) ⟨zs.map (·.1), g _ _ upd_same, paired_get (by rw [List.length_map, List.length_map]) fun j b hj => ?_, fun b hb => ?_⟩ hperm hsort⟩
    rotate_left
    · obtain ⟨zz, mz, rfl⟩ := List.mem_map.mp hb
      obtain ⟨j, j1, j2⟩ := idx zz mz
      obtain ⟨e, t, u, he, hg⟩ := made j _ j1
      exact ⟨I.hok.fresh (Nat.le_of_lt (hG.above _ (List.mem_of_getElem? j1))), ne0 _ _ hg⟩
    rw [List.getElem?_map] at hj
    cases hzj : zs[j]? with
    | none =>
      rw [hzj] at hj
      cases hj
    | some zz =>
      rw [hzj] at hj
      obtain rfl : zz.1 = b := Option.some.inj hj
      refine ⟨zz.2, by rw [List.getElem?_map, hzj]; rfl, ?_⟩
      obtain ⟨j', j1, j2⟩ := idx zz (List.mem_of_getElem? hzj)
      obtain ⟨vs', ⟨j'', e, h1, h2', rfl⟩, h3⟩ := qt zz.1 (List.mem_of_getElem? j1)
      have lt : j' < as.length := (List.getElem?_eq_some_iff.mp j1).1
      have same : j' = j'' := (List.getElem?_inj lt nd).mp (j1.trans h1.symm)
      subst same
      rw [j2] at h2'
      cases h2'
      exact h3
end
end Gd

/-! Gd17: comprehensions over tuples, over d.items(), and those of dicts; what a lock leaves. -/
namespace Gd
open PySem PySem.Spec PyProof.Rows L2 L2.DX
theorem same_lock {H H2 : Hp} {d : Addr} {u f : HO} (hd : H d = some u) (sm : Same (upd H d f) H2) : Same H (upd H2 d u) := fun b o e => by
  by_cases h : b = d
  · subst h
    rw [hd] at e
    cases e
    exact upd_same
  · rw [upd_ne h]
    exact sm b o (by rw [upd_ne h]; exact e)
theorem lock_at {H2 : Hp} {d p : Addr} {u f o : HO} (at_d : H2 d = some f) (at_p : H2 p = some o) (ne : o ≠ f) : upd H2 d u p = some o := by
  rw [upd_ne (ne_of at_p at_d ne)]
  exact at_p
theorem Same.seqT {K : PySem.W.Frag} {H H' : Hp} {a : Addr} {xs : List V} (e : Same H H') (h : SqT K H a xs) : SqT K H' a xs := Gd.Same.sqt e h
/-- [.. for x in t if ..], t a tuple, the test told by a function of the item -/
theorem lc_tupG {K : PySem.W.Frag} {a : Addr} {xs : List V} {slot : Nat} {tt : TT} {te : TE} {vs : List Nat} {σ : L2.St} {H1 : Hp} {D : Addr} {Qd : Hp → Prop} (f : V → Bool) (g : V → V) (hD : H1 D = none) (hS : SqT K H1 a xs) (hn : xs.length ≤ 100000)
    (hw : ∀ x, wipe ((wipe σ vs).set slot (some x)) vs = wipe σ vs)
    (ht : ∀ (x : V) (H : Hp), x ∈ xs → Same H1 H → ∀ Q : Bool → Hp → Prop, (∀ H', Same H H' → Q (f x) H') → tt ((wipe σ vs).set slot (some x)) H Q)
    (hs : ∀ (x : V) (H : Hp), x ∈ xs → f x = true → Same H1 H → ∀ Q : VK, (∀ H', Same H H' → Q (g x) H') → te ((wipe σ vs).set slot (some x)) H Q)
    (hd : ∀ (H : Hp), Same H1 H → H D = some (.lst ((xs.filter f).map g)) → Qd H) :
    ∃ W : Nat → Nat → Hp → Prop, (∃ m, W 0 m (upd H1 D (.lst []))) ∧ ∀ i m H, W i m H →
      ((Itt K a).stop i H ∧ Qd H) ∨ ((Itt K a).go i H ∧ ∃ Nx : Hp → Prop, (∀ H', Nx H' → ∃ m', m' < m ∧ W (i + 1) m' H') ∧ ∀ x H', (Itt K a).yld i H x H' → gName slot x (wipe σ vs) H' fun σ2 H2 => wipe σ2 vs = wipe σ vs ∧ tt σ2 H2 fun b H3 =>
        if b = true then te σ2 H3 fun y H4 => ∃ acc, H4 D = some (.lst acc) ∧ acc.length < sizeLine ∧ Nx (upd H4 D (.lst (acc ++ [y]))) else Nx H3) := by
  refine lc_tup (K := K) (a := a) (xs := xs) (fun i H => Same H1 H ∧ H D = some (.lst (((xs.take i).filter f).map g))) ⟨same_new hD, upd_same⟩ (fun i H _ h => Gd.Same.sqt h.1 hS) ?_ ?_
  · rintro i x H hi ⟨sm, h⟩
    have hx : x ∈ xs := List.mem_of_getElem? hi
    refine ⟨hw _, ht x H hx sm _ fun H' sm' => ?_⟩
    have et : xs.take (i + 1) = xs.take i ++ [x] := by rw [List.take_add_one, hi] <;> rfl
    cases e : f x with
    | true =>
      refine iteT (hs x H' hx e (sm.trans sm') _ fun H2 sm2 => ?_)
      refine ⟨_, sm2 _ _ (sm' _ _ h), Nat.lt_of_le_of_lt ?_ (show 100000 < sizeLine by decide), same_over ((sm.trans sm').trans sm2) hD, ?_⟩
      · rw [List.length_map]
        have h1 := List.length_filter_le f (xs.take i)
        rw [List.length_take] at h1
        omega
      · rw [upd_same, et, List.filter_append, List.map_append]
        simp only [List.filter_cons, e, List.filter_nil, if_true, List.map_cons, List.map_nil]
    | false =>
      refine iteF ⟨sm.trans sm', ?_⟩
      rw [et, List.filter_append]
      simp only [List.filter_cons, e, List.filter_nil, Bool.false_eq_true, if_false, List.append_nil]
      exact sm' _ _ h
  · rintro H ⟨sm, h⟩
    rw [List.take_length] at h
    exact hd H sm h
theorem pr_get {L : List (Str × Int)} {i : Nat} {k : Key} {v : V} (h : (pr L)[i]? = some (k, v)) : ∃ e : Str × Int, L[i]? = some e ∧ k = Sum.inr e.1 ∧ v = V.int e.2 := by
  unfold pr at h
  rw [List.getElem?_map] at h
  cases hj : L[i]? with
  | none =>
    rw [hj] at h
    cases h
  | some q =>
    rw [hj] at h
    have h3 : ((Sum.inr q.1 : Key), V.int q.2) = (k, v) := Option.some.inj h
    injection h3 with h4 h5
    exact ⟨q, rfl, h4.symm, h5.symm⟩
/-- [.. for k, v in d.items()] -/
theorem lc_itemsG {K : PySem.W.Frag} {d : Addr} {o : Obj} {L : List (Str × Int)} {s1 s2 : Nat} {te : TE} {vs : List Nat} {σ : L2.St} {H1 : Hp} {D : Addr} {Qd : Hp → Prop} (f : Str × Int → V) (hD : H1 D = none) (h0 : H1 d = some (.frz o (.dK (pr L)))) (hn : L.length ≤ 100000)
    (hw : ∀ x y, wipe (((wipe σ vs).set s1 (some x)).set s2 (some y)) vs = wipe σ vs)
    (hs : ∀ (e : Str × Int) (H : Hp), e ∈ L → Same H1 H → ∀ Q : VK, (∀ H', Same H H' → Q (f e) H') → te (((wipe σ vs).set s1 (some (.str e.1))).set s2 (some (.int e.2))) H Q)
    (hd : ∀ (H : Hp), Same H1 H → H D = some (.lst (L.map f)) → Qd H) :
    ∃ W : Nat → Nat → Hp → Prop, (∃ m, W 0 m (upd H1 D (.lst []))) ∧ ∀ i m H, W i m H →
      ((Iti d o (pr L)).stop i H ∧ Qd H) ∨ ((Iti d o (pr L)).go i H ∧ ∃ Nx : Hp → Prop, (∀ H', Nx H' → ∃ m', m' < m ∧ W (i + 1) m' H') ∧ ∀ x H', (Iti d o (pr L)).yld i H x H' → gTup K 2 (gCons (gName s1) (gCons (gName s2) gNil)) x (wipe σ vs) H' fun σ2 H2 => wipe σ2 vs = wipe σ vs ∧ tYes σ2 H2 fun b H3 =>
        if b = true then te σ2 H3 fun y H4 => ∃ acc, H4 D = some (.lst acc) ∧ acc.length < sizeLine ∧ Nx (upd H4 D (.lst (acc ++ [y]))) else Nx H3) := by
  refine ⟨fun i m H => m = L.length - i ∧ i ≤ L.length ∧ Same H1 H ∧ H D = some (.lst ((L.take i).map f)), ⟨L.length - 0, rfl, Nat.zero_le _, same_new hD, upd_same⟩, ?_⟩
  rintro i m H ⟨rfl, hi, sm, h⟩
  have hd' := sm _ _ h0
  by_cases hlt : i < L.length
  · refine .inr ⟨⟨hd', by rw [pr_len]; exact hlt⟩, fun H' => Same H1 H' ∧ H' D = some (.lst ((L.take (i + 1)).map f)), fun H' p' => ⟨L.length - (i + 1), by omega, rfl, hlt, p'⟩, fun x H' y => ?_⟩
    obtain ⟨T, k, v, hk, rfl, hT, rfl⟩ := y
    obtain ⟨e, he, rfl, rfl⟩ := pr_get hk
    refine ⟨T, [.str e.1, .int e.2], rfl, sq_tup upd_same, rfl, _, _, rfl, _, _, rfl, rfl, hw _ _, ?_⟩
    simp only [tYes, reduceIte]
    refine hs e _ (List.mem_of_getElem? he) (sm.trans (same_new hT)) _ fun H2 sm2 => ?_
    refine ⟨_, sm2 _ _ (by rw [upd_ne (ne_of_none h hT)]; exact h), Nat.lt_of_le_of_lt ?_ (show 100000 < sizeLine by decide), same_over ((sm.trans (same_new hT)).trans sm2) hD, ?_⟩
    · rw [List.length_map, List.length_take]
      omega
    · rw [upd_same, List.take_add_one, he, List.map_append]
      rfl
  · have e : i = L.length := by omega
    refine .inl ⟨⟨hd', by rw [pr_len]; omega⟩, hd H sm ?_⟩
    rw [e, List.take_length] at h
    exact h
/-- {z: .. for z in zs}, zs a list of texts -/
theorem dc_textsG {K : PySem.W.Frag} {a : Addr} {zs : List Str} {slot : Nat} {tv : TE} {vs : List Nat} {σ : L2.St} {H1 : Hp} {D : Addr} {Qd : Hp → Prop} (val : Str → Int) (hD : H1 D = none) (hS : SqL K H1 a (zs.map V.str)) (nd : zs.Nodup) (hn : zs.length ≤ 100000)
    (hw : ∀ x, wipe ((wipe σ vs).set slot (some x)) vs = wipe σ vs) (hk : ∀ x, ((wipe σ vs).set slot (some x))[slot]? = some (some x))
    (hs : ∀ (z : Str) (H : Hp), z ∈ zs → Same H1 H → ∀ Q : VK, (∀ H', Same H H' → Q (.int (val z)) H') → tv ((wipe σ vs).set slot (some (.str z))) H Q)
    (hd : ∀ (H : Hp), Same H1 H → H D = some (.dK (pr (zs.map fun z => (z, val z)))) → Qd H) :
    ∃ W : Nat → Nat → Hp → Prop, (∃ m, W 0 m (upd H1 D (.dK []))) ∧ ∀ i m H, W i m H →
      ((Itl K a).stop i H ∧ Qd H) ∨ ((Itl K a).go i H ∧ ∃ Nx : Hp → Prop, (∀ H', Nx H' → ∃ m', m' < m ∧ W (i + 1) m' H') ∧ ∀ x H', (Itl K a).yld i H x H' → gName slot x (wipe σ vs) H' fun σ2 H2 => wipe σ2 vs = wipe σ vs ∧ tYes σ2 H2 fun b H3 =>
        if b = true then tVar slot σ2 H3 fun y H4 => tv σ2 H4 fun z H5 => ∃ kvs k, y = kV k ∧ H5 D = some (.dK kvs) ∧ kvs.length < sizeLine ∧ Nx (upd H5 D (.dK (putK kvs k z))) else Nx H3) := by
  refine ⟨fun i m H => m = zs.length - i ∧ i ≤ zs.length ∧ Same H1 H ∧ H D = some (.dK (pr ((zs.take i).map fun z => (z, val z)))), ⟨zs.length - 0, rfl, Nat.zero_le _, same_new hD, upd_same⟩, ?_⟩
  rintro i m H ⟨rfl, hi, sm, h⟩
  have q : SqL K H a (zs.map V.str) := sm.seq hS
  by_cases hlt : i < zs.length
  · have hz : zs[i]? = some zs[i] := List.getElem?_eq_getElem hlt
    refine .inr ⟨⟨_, .str zs[i], q, by rw [List.getElem?_map, hz]; rfl⟩, fun H' => Same H1 H' ∧ H' D = some (.dK (pr ((zs.take (i + 1)).map fun z => (z, val z)))), fun H' p' => ⟨zs.length - (i + 1), by omega, rfl, hlt, p'⟩, fun x H' y => ?_⟩
    obtain ⟨rfl, y⟩ := y
    have ex := y _ q
    rw [List.getElem?_map, hz] at ex
    cases ex
    refine ⟨hw _, ?_⟩
    simp only [tYes, reduceIte]
    refine ⟨_, hk _, ?_⟩
    refine hs zs[i] _ (List.getElem_mem hlt) sm _ fun H2 sm2 => ?_
    refine ⟨_, Sum.inr zs[i], rfl, sm2 _ _ h, Nat.lt_of_le_of_lt ?_ (show 100000 < sizeLine by decide), same_over (sm.trans sm2) hD, ?_⟩
    · rw [pr_len, List.length_map, List.length_take]
      omega
    · rw [upd_same, putK_pr, putP_new, List.take_add_one, hz, List.map_append]
      · rfl
      · rw [List.map_map, show ((fun p : Str × Int => p.1) ∘ fun z => (z, val z)) = id from rfl, List.map_id]
        intro m
        obtain ⟨j, hj, e⟩ := List.mem_iff_getElem.mp m
        rw [List.length_take] at hj
        rw [List.getElem_take] at e
        have lt : j < zs.length := by omega
        have := (List.getElem?_inj (i := j) (j := i) lt nd).mp (by rw [List.getElem?_eq_getElem lt, hz, e])
        omega
  · have e : i = zs.length := by omega
    refine .inl ⟨⟨_, q, by rw [List.length_map]; omega⟩, hd H sm ?_⟩
    rw [e, List.take_length] at h
    exact h
end Gd

/-! Gd18: dict(..) and tuple(..) with the new heap told by what is known of it; classes made, properties read. -/
namespace Gd
open PySem PySem.Spec PyProof.Rows L2 L2.DX
def mergeP (L M : List (Str × Int)) : List (Str × Int) := M.foldl (fun acc e => putP acc e.1 e.2) L
theorem mergeK_pr : ∀ {M L : List (Str × Int)}, mergeK (pr L) (pr M) = pr (mergeP L M)
  | [], L => rfl
  | (k, v) :: r, L => by
    show mergeK (putK (pr L) (Sum.inr k) (V.int v)) (pr r) = _
    rw [putK_pr, mergeK_pr]
    rfl
theorem mergeP_new : ∀ {M L : List (Str × Int)}, ((L ++ M).map (·.1)).Nodup → mergeP L M = L ++ M
  | [], L, _ => (List.append_nil L).symm
  | (k, v) :: r, L, nd => by
    have e1 : ((L ++ (k, v) :: r).map (·.1)) = L.map (·.1) ++ k :: r.map (·.1) := by rw [List.map_append]; rfl
    have h1 : k ∉ L.map (·.1) := fun m => by
      rw [e1] at nd
      exact (List.nodup_append.mp nd).2.2 k m k (List.mem_cons_self ..) rfl
    show mergeP (putP L k v) r = _
    rw [putP_new h1, mergeP_new (by rw [List.append_assoc]; exact nd), List.append_assoc]
    rfl
theorem nodup_mergeP : ∀ {M L : List (Str × Int)}, (L.map (·.1)).Nodup → ((mergeP L M).map (·.1)).Nodup
  | [], L, nd => nd
  | (k, v) :: r, L, nd => nodup_mergeP (M := r) (nodup_putP (k := k) (v := v) nd)
theorem mem_mergeP {z : Str} : ∀ {M L : List (Str × Int)}, z ∈ (mergeP L M).map (·.1) ↔ z ∈ L.map (·.1) ∨ z ∈ M.map (·.1)
  | [], L => ⟨.inl, fun h => h.elim id fun h => (nomatch h)⟩
  | (k, v) :: r, L => by
    show z ∈ (mergeP (putP L k v) r).map (·.1) ↔ _
    rw [mem_mergeP, mem_putP, List.map_cons, List.mem_cons]
    constructor
    · rintro ((h | h) | h)
      · exact .inr (.inl h)
      · exact .inl h
      · exact .inr (.inr h)
    · rintro (h | h | h)
      · exact .inl (.inr h)
      · exact .inl (.inl h)
      · exact .inr h
theorem all_putP {p : Int → Prop} {L : List (Str × Int)} {k : Str} {v : Int} (h : ∀ e ∈ L, p e.2) (hv : p v) : ∀ e ∈ putP L k v, p e.2 := by
  intro e m
  unfold putP at m
  split at m
  · obtain ⟨f, mf, rfl⟩ := List.mem_map.mp m
    split
    · exact hv
    · exact h f mf
  · rcases List.mem_append.mp m with m | m
    · exact h e m
    · obtain rfl : e = (k, v) := by simpa using m
      exact hv
theorem all_mergeP {p : Int → Prop} : ∀ {M L : List (Str × Int)}, (∀ e ∈ L, p e.2) → (∀ e ∈ M, p e.2) → ∀ e ∈ mergeP L M, p e.2
  | [], L, h, _ => h
  | (k, v) :: r, L, h, h' => all_mergeP (M := r) (all_putP h (h' (k, v) (List.mem_cons_self ..))) fun e m => h' e (List.mem_cons_of_mem _ m)
section
variable {X : Cx}
/-- dict(d), d a dict of prices: a copy -/
def rDictC : List V → Hp → VK → Prop := fun xs H Q => ∃ a L, xs = [.ref a] ∧ Rd H a (.dK (pr L)) ∧ New H (.dK (pr L)) Q
theorem call_dictC : CallR X (.type "dict") rDictC := call_weak call_dictD fun _ _ _ ⟨a, L, h1, h2, n⟩ => ⟨a, pr L, h1, h2, n.use⟩
/-- dict(xs), xs a list of pairs -/
def rDictL : List V → Hp → VK → Prop := fun xs H Q => ∃ a L, xs = [.ref a] ∧ PairsAt H a L ∧ New H (.dK (pr (mergeP [] L))) Q
theorem call_dictL (hc : X.calm = true) : CallR X (.type "dict") rDictL := call_weak (call_dictP hc) fun xs H Q ⟨a, L, h1, ⟨ps, h2, h3⟩, n⟩ => by
  refine ⟨a, ps, pr L, h1, sq_lst h2, ?_, ?_⟩
  · clear h2 n
    induction h3 with
    | nil => exact .nil
    | cons h _ ih => exact .cons (sq_tup h) ih
  · have e : mergeK [] (pr L) = pr (mergeP [] L) := mergeK_pr (L := [])
    rw [e]
    exact n.use
/-- tuple(xs) -/
def rTupleN (K : PySem.W.Frag) : List V → Hp → VK → Prop := fun xs H Q => ∃ p ys, xs = [.ref p] ∧ ((SqL K H p ys ∧ New H (.tup ys) Q) ∨ (SqT K H p ys ∧ Q (.ref p) H))
theorem call_tupleN : CallR X (.type "tuple") (rTupleN X.K) := call_weak call_tuple_of fun _ _ _ ⟨p, ys, h1, h⟩ => ⟨p, ys, h1, h.imp (fun h => ⟨h.1, h.2.use⟩) id⟩
/-- list(d): its keys -/
def rListD' : List V → Hp → VK → Prop := fun xs H Q => ∃ a L, xs = [.ref a] ∧ Rd H a (.dK (pr L)) ∧ New H (.lst (L.map fun p => V.str p.1)) Q
theorem call_listD' (hc : X.calm = true) : CallR X (.type "list") rListD' := call_weak (call_listD hc) fun _ _ _ ⟨a, L, h1, h2, n⟩ => ⟨a, pr L, h1, h2, by
  have e : (pr L).map (fun kv => kV kv.1) = L.map fun p => V.str p.1 := by
    unfold pr
    rw [List.map_map]
    rfl
  rw [e]
  exact n.use⟩
/-- sorted(d): its keys, ascending -/
def rSortedD : List V → Hp → VK → Prop := fun xs H Q => ∃ a L, xs = [.ref a] ∧ Rd H a (.dK (pr L)) ∧ L.length < 64 ∧ New H (.lst ((sortT (L.map (·.1))).map V.str)) Q
theorem cr_sortedD (hc : X.calm = true) : CallR X (.builtin "sorted") rSortedD := call_weak (call_sortedD hc) fun _ _ _ ⟨a, L, h1, h2, h3, n⟩ => ⟨a, pr L, L.map (·.1), h1, h2, by
  unfold pr
  rw [List.map_map, List.map_map]
  rfl, by rw [List.length_map]; exact h3, fun ys p pm so hp => by
    rw [sortT_eq_of so pm]
    exact n.use p hp⟩
/-- sorted(xs), xs a list of few texts -/
def rSortedL (K : PySem.W.Frag) : List V → Hp → VK → Prop := fun xs H Q => ∃ a zs, xs = [.ref a] ∧ SqL K H a (zs.map V.str) ∧ zs.length < 64 ∧ New H (.lst ((sortT zs).map V.str)) Q
/-- len(d) -/
def rLenP : List V → Hp → VK → Prop := fun xs H Q => ∃ a L, xs = [.ref a] ∧ H a = some (.dK (pr L)) ∧ Q (.int L.length) H
theorem call_lenP : CallR X (.builtin "len") rLenP := call_weak call_lenD fun _ _ _ ⟨a, L, h1, h2, q⟩ => ⟨a, pr L, h1, h2, by rw [pr_len]; exact q⟩
variable {k : Nat} {x m : Str} {f C p g : Addr} {ps : List Str} {sp : Sp} {pp pos : Pos} {e : Expr} {es : List Expr} {t : TA} {ta : TE}
theorem pe_makeD (M : Mk X.K C f) (D : Dk X.prog X.w X.K X.mg X.base k f ps sp) (hr : Room (k + 1) X.A) (hg : Gl X x) (hm : X.mg x = some (.ref C)) (ha : PA X (e :: es) t) (hdb : (x == ("__debug__" : Str)) = false := by decide)
    (he : starEach (e :: es) X.env = (false, eval e X.env) :: starEach es X.env := by rfl) (hpl : (backTo pos (starEach es X.env)).any (·.1) = false := by rfl) : PE X (.Call (.Name x pp) (e :: es) [] pos) (tMake C sp [] E0 t) := by
  obtain ⟨fd, F, hb⟩ := D.ex
  exact pe_make M F hr hg hm hb .nil pass0 ha hdb he hpl
theorem pe_propD (he : PE X e ta) (c : Cls X.K C) (hp : PropOf X.K C m p g) (D : Dk X.prog X.w X.K X.mg X.base k g ps sp) (hr : Room (k + 1) X.A) (hab : attributeBase e m X.env (eval e X.env) = eval e X.env) : PE X (.Attribute e m pos) (tProp C sp [] E0 ta) := by
  obtain ⟨fd, F, hb⟩ := D.ex
  exact pe_prop he c hp F hr hb .nil pass0 hab
theorem pe_methD {o : Expr} {apos : Pos} {pl : Sem Bool} (he : PE X o ta) (c : Cls X.K C) (hm : Meth X.K C m f) (D : Dk X.prog X.w X.K X.mg X.base k f ps sp) (hr : Room k X.A) (ha : PA X (e :: es) t)
    (hst : starEach (e :: es) X.env = (false, eval e X.env) :: starEach es X.env := by rfl) (hpl : (backTo pos (starEach es X.env)).any (·.1) = false := by rfl)
    (ht : eval (.Call (.Attribute o m apos) (e :: es) [] pos) X.env = (do
      let ov ← eval o X.env
      standAt apos.atName
      let (f, first) ← holding [ov] (getMethod ov m pl)
      callWith pos f first (backTo pos (starEach (e :: es) X.env)) (backToKw pos (keywordEach [] X.env))) := by rfl) :
    PE X (.Call (.Attribute o m apos) (e :: es) [] pos) (tMeth C m sp [] E0 ta t) := by
  obtain ⟨fd, F, hb⟩ := D.ex
  exact pe_meth he c hm F hr hb .nil pass0 ha hst hpl ht
theorem pe_fldK {K : PySem.W.Frag} {fl : Str} (he : PE X e ta) (hK : X.K = K) (hb : attributeBase e fl X.env (eval e X.env) = eval e X.env) : PE X (.Attribute e fl pos) (tFld K ta fl) := by
  subst hK
  exact pe_fld he hb
variable {T : String} {name : Str} {id : String} {r : V → List V → Hp → VK → Prop} {o : Expr} {to : TE} {apos cpos : Pos}
theorem pe_bm0K {K : PySem.W.Frag} (pa : PlainAttrs T) (slot : Slot T name id) (hty : typeOf (.builtin id) = pure (.type "method_descriptor")) (hm : MtR X id r) (ho : PE X o to) (hK : X.K = K)
    (hbase : attributeBase o name X.env (eval o X.env) = eval o X.env := by rfl) (hline : (apos.endLine == cpos.line) = true := by rfl) : PE X (.Call (.Attribute o name apos) [] [] cpos) (tBM0 K T r to) := by
  subst hK
  exact pe_bm0 pa slot hty hm ho hbase hline
theorem pe_bmK {K : PySem.W.Frag} (pa : PlainAttrs T) (slot : Slot T name id) (hty : typeOf (.builtin id) = pure (.type "method_descriptor")) (hm : MtR X id r) (ho : PE X o to) (ha : PA X (e :: es) t) (hK : X.K = K)
    (hbase : attributeBase o name X.env (eval o X.env) = eval o X.env := by rfl)
    (hfew : ((backTo cpos (starEach (e :: es) X.env)).all (fun x => !x.1) && (backToKw cpos (keywordEach [] X.env)).all (fun x => x.1.isSome)
      && decide ((e :: es).length + ([] : List Keyword).length + (if ([] : List Keyword).isEmpty then 0 else 1) < 30)) = true := by rfl)
    (hline : (apos.endLine == cpos.line) = true := by rfl) (hs : starEach (e :: es) X.env = (false, eval e X.env) :: starEach es X.env := by rfl) (hplain : (backTo cpos (starEach es X.env)).any (·.1) = false := by rfl) :
    PE X (.Call (.Attribute o name apos) (e :: es) [] cpos) (tBM K T r to t) := by
  subst hK
  exact pe_bm pa slot hty hm ho ha hbase hfew hline hs hplain
end
end Gd

/-! M4: what prices a book takes -/
namespace Gd
open PySem PySem.Spec PyProof.Rows L2
def isPrice : V → Bool
  | .int i => decide (1 ≤ i ∧ i ≤ 99)
  | _ => false
/-- the signs of these texts, one by one -/
def sgs (zs : List Str) : List Str := (zs.map fun z => z.cps.toList.map sg).flatten
theorem join_sgs (zs : List Str) : (Txt.join (Str.ofString "") zs).cps.toList.map sg = sgs zs := by
  rw [join0, List.map_flatten, List.map_map]
  rfl
theorem len_sgs : ∀ zs : List Str, (sgs zs).length = (zs.map (·.length)).sum
  | [] => rfl
  | z :: r => by
    show ((z.cps.toList.map sg) ++ sgs r).length = z.length + (r.map (·.length)).sum
    rw [List.length_append, List.length_map, len_sgs, str_len]
theorem len_join (zs : List Str) : (Txt.join (Str.ofString "") zs).length = (zs.map (·.length)).sum := by
  rw [← len_sgs, ← join_sgs, List.length_map, str_len]
theorem nodup_le : ∀ {l xs : List Str}, l.Nodup → (∀ k ∈ l, k ∈ xs) → l.length ≤ xs.length
  | [], _, _, _ => Nat.zero_le _
  | a :: r, xs, nd, sub => by
    obtain ⟨h1, h2⟩ := List.nodup_cons.mp nd
    have ma := sub a (List.mem_cons_self ..)
    have ih := nodup_le (l := r) (xs := xs.erase a) h2 fun k m => (List.mem_erase_of_ne (a := k) (b := a) fun e => h1 (e ▸ m)).mpr (sub k (List.mem_cons_of_mem _ m))
    rw [List.length_erase_of_mem ma] at ih
    have pos := List.length_pos_of_mem ma
    rw [List.length_cons]
    omega
theorem few_of {xs : List Str} (h : xs.length ≤ 4000) : FewIn xs := fun l nd sub => by
  have le : l.length ≤ xs.length := nodup_le nd sub
  have e : scanBound = 4096 := rfl
  omega
/-- the signs of the pieces, ascending -/
def sigsP (L : List (Str × Int)) : List Str := ascT (sgs (L.map (·.1)))
/-- whether a dict from texts to integers makes a book -/
def arePr (L : List (Str × Int)) : Bool := decide (1 ≤ L.length ∧ L.length ≤ 12) && (L.all fun e => isPiece (.str e.1) && isPrice (.int e.2)) && decide ((sigsP L).length ≤ 4) && (sigsP L).all fun z => (L.lookup z).isSome
theorem sum_five : ∀ {zs : List Str}, (∀ z ∈ zs, z.length ≤ 5) → (zs.map (·.length)).sum ≤ 5 * zs.length
  | [], _ => Nat.le_refl _
  | z :: r, h => by
    have h1 := h z (List.mem_cons_self ..)
    have h2 := sum_five (zs := r) fun y m => h y (List.mem_cons_of_mem _ m)
    rw [List.map_cons, List.sum_cons, List.length_cons]
    omega
theorem piece_len {x : Str} (h : isPiece (.str x) = true) : 1 ≤ x.length ∧ x.length ≤ 5 := by
  rw [isPiece_str, Bool.and_eq_true] at h
  exact of_decide_eq_true h.2
theorem piece_low {x : Str} (h : isPiece (.str x) = true) : ∀ c ∈ x.cps.toList, low c = true := by
  rw [isPiece_str, Bool.and_eq_true, isText_str, Bool.and_eq_true] at h
  exact List.all_eq_true.mp h.1.2
end Gd

/-! M5: a book as it stands -/
namespace Gd
open PySem PySem.Spec PyProof.Rows L2
theorem lookup_nodup : ∀ {L : List (Str × Int)}, (L.map (·.1)).Nodup → ∀ e ∈ L, L.lookup e.1 = some e.2
  | [], _, e, m => by cases m
  | (k, v) :: r, nd, e, m => by
    obtain ⟨h1, h2⟩ := List.nodup_cons.mp nd
    rcases List.mem_cons.mp m with rfl | m
    · exact List.lookup_cons_self
    · have ne : (e.1 == k) = false := beq_eq_false_iff_ne.mpr fun z => h1 (List.mem_map.mpr ⟨e, m, z⟩)
      rw [List.lookup_cons, ne]
      exact lookup_nodup h2 e m
theorem lookup_mem : ∀ {L : List (Str × Int)} {z : Str} {v : Int}, L.lookup z = some v → (z, v) ∈ L
  | [], z, v, h => by cases h
  | (k, u) :: r, z, v, h => by
    rw [List.lookup_cons] at h
    by_cases e : z = k
    · rw [show (z == k) = true from beq_iff_eq.mpr e] at h
      have : u = v := Option.some.inj h
      rw [e, this]
      exact List.mem_cons_self ..
    · rw [show (z == k) = false from beq_eq_false_iff_ne.mpr e] at h
      exact List.mem_cons_of_mem _ (lookup_mem h)
/-- the prices by ascending pieces -/
def sortP (L : List (Str × Int)) : List (Str × Int) := (sortT (L.map (·.1))).map fun z => (z, (L.lookup z).getD 0)
theorem sortP_keys (L : List (Str × Int)) : (sortP L).map (·.1) = sortT (L.map (·.1)) := by
  unfold sortP
  rw [List.map_map]
  exact List.map_id' _
theorem sortP_asc (L : List (Str × Int)) : AscP (sortP L) := by
  unfold AscP
  rw [sortP_keys]
  exact sortT_sorted _
theorem sortP_nodup {L : List (Str × Int)} (nd : (L.map (·.1)).Nodup) : ((sortP L).map (·.1)).Nodup := by
  rw [sortP_keys]
  exact (sortT_perm _).nodup_iff.mpr nd
theorem sortP_len (L : List (Str × Int)) : (sortP L).length = L.length := by
  have h := congrArg List.length (sortP_keys L)
  rw [List.length_map, (sortT_perm _).length_eq, List.length_map] at h
  exact h
theorem mem_sortP {L : List (Str × Int)} (nd : (L.map (·.1)).Nodup) {e : Str × Int} : e ∈ sortP L ↔ e ∈ L := by
  unfold sortP
  rw [List.mem_map]
  constructor
  · rintro ⟨z, m, rfl⟩
    obtain ⟨f, mf, rfl⟩ := List.mem_map.mp ((sortT_perm _).mem_iff.mp m)
    rw [lookup_nodup nd f mf]
    exact mf
  · intro m
    refine ⟨e.1, (sortT_perm _).mem_iff.mpr (List.mem_map.mpr ⟨e, m, rfl⟩), ?_⟩
    rw [lookup_nodup nd e m]
    rfl
theorem lookup_eq {L M : List (Str × Int)} (n1 : (L.map (·.1)).Nodup) (n2 : (M.map (·.1)).Nodup) (h : ∀ e, e ∈ L ↔ e ∈ M) (z : Str) : L.lookup z = M.lookup z := by
  cases e1 : L.lookup z with
  | some v => exact (lookup_nodup n2 (z, v) ((h _).mp (lookup_mem e1))).symm
  | none =>
    cases e2 : M.lookup z with
    | none => rfl
    | some v =>
      have := lookup_nodup n1 (z, v) ((h _).mpr (lookup_mem e2))
      rw [e1] at this
      cases this
theorem lookup_sortP {L : List (Str × Int)} (nd : (L.map (·.1)).Nodup) (z : Str) : (sortP L).lookup z = L.lookup z := lookup_eq (sortP_nodup nd) nd (fun _ => mem_sortP nd) z
theorem ascT_eq {xs ys : List Str} (h : ∀ z, z ∈ xs ↔ z ∈ ys) : ascT xs = ascT ys :=
  sorted_unique (sortT_sorted _) (sortT_sorted _) (((sortT_perm _).trans (nodup_perm (nodup_uniq xs) (nodup_uniq ys) fun z => by rw [mem_uniq, mem_uniq, h])).trans (sortT_perm _).symm)
theorem mem_sgs {z : Str} {zs : List Str} : z ∈ sgs zs ↔ ∃ x ∈ zs, ∃ c ∈ x.cps.toList, z = sg c := by
  unfold sgs
  simp only [List.mem_flatten, List.mem_map]
  constructor
  · rintro ⟨l, ⟨x, mx, rfl⟩, ml⟩
    obtain ⟨c, mc, ec⟩ := List.mem_map.mp ml
    exact ⟨x, mx, c, mc, ec.symm⟩
  · rintro ⟨x, mx, c, mc, rfl⟩
    exact ⟨_, ⟨x, mx, rfl⟩, List.mem_map.mpr ⟨c, mc, rfl⟩⟩
theorem sigsP_eq {L M : List (Str × Int)} (h : ∀ z, z ∈ L.map (·.1) ↔ z ∈ M.map (·.1)) : sigsP L = sigsP M := ascT_eq fun z => by
  rw [mem_sgs, mem_sgs]
  exact ⟨fun ⟨x, mx, r⟩ => ⟨x, (h x).mp mx, r⟩, fun ⟨x, mx, r⟩ => ⟨x, (h x).mpr mx, r⟩⟩
theorem all_mem {α : Type} {p : α → Bool} {l m : List α} (h : ∀ e, e ∈ l ↔ e ∈ m) : l.all p = m.all p := by
  rw [Bool.eq_iff_iff, List.all_eq_true, List.all_eq_true]
  exact ⟨fun f e m => f e ((h e).mpr m), fun f e m => f e ((h e).mp m)⟩
theorem arePr_eq {L M : List (Str × Int)} (n1 : (L.map (·.1)).Nodup) (n2 : (M.map (·.1)).Nodup) (h : ∀ e, e ∈ L ↔ e ∈ M) (l : L.length = M.length) : arePr L = arePr M := by
  have hk : ∀ z, z ∈ L.map (·.1) ↔ z ∈ M.map (·.1) := fun z => by
    rw [List.mem_map, List.mem_map]
    exact ⟨fun ⟨e, m, q⟩ => ⟨e, (h e).mp m, q⟩, fun ⟨e, m, q⟩ => ⟨e, (h e).mpr m, q⟩⟩
  unfold arePr
  rw [l, all_mem h, sigsP_eq hk]
  congr 1
  congr 1
  funext z
  rw [lookup_eq n1 n2 h]
theorem arePr_sortP {L : List (Str × Int)} (nd : (L.map (·.1)).Nodup) : arePr (sortP L) = arePr L := arePr_eq (sortP_nodup nd) nd (fun _ => mem_sortP nd) (sortP_len L)
/-- m is the greatest of these -/
def IsMx (m : Int) (l : List Int) : Prop := m ∈ l ∧ ∀ j ∈ l, j ≤ m
/-- the attributes of a book -/
def flds (d t al : Addr) (m n : Int) : List (Str × V) := [("_prices", .ref d), ("_pieces", .ref t), ("_alphabet", .ref al), ("_longest", .int m), ("_dearest", .int n)]
/-- a book of these prices stands at b -/
structure BookAt (C : Addr) (H : Hp) (b : Addr) (L : List (Str × Int)) : Prop where
  ex : ∃ dx d t al m n, H b = some (.ins C dx (flds d t al m n)) ∧ H d = some (.dK (pr L)) ∧ H t = some (.tup (L.map fun p => V.str p.1)) ∧ H al = some (.tup ((sigsP L).map V.str)) ∧ IsMx m (L.map fun e => (e.1.length : Int)) ∧ IsMx n (L.map (·.2))
  asc : AscP L
  nd : (L.map (·.1)).Nodup
  good : arePr L = true
theorem BookAt.up {C : Addr} {H H' : Hp} {b : Addr} {L : List (Str × Int)} (B : BookAt C H b L) (k : Same H H') : BookAt C H' b L := by
  obtain ⟨⟨dx, d, t, al, m, n, h1, h2, h3, h4, h5⟩, r1, r2, r3⟩ := B
  exact ⟨⟨dx, d, t, al, m, n, k _ _ h1, k _ _ h2, k _ _ h3, k _ _ h4, h5⟩, r1, r2, r3⟩
/-- what good prices are -/
theorem good_len {L : List (Str × Int)} (g : arePr L = true) : 1 ≤ L.length ∧ L.length ≤ 12 := by
  unfold arePr at g
  simp only [Bool.and_eq_true] at g
  exact of_decide_eq_true g.1.1.1
theorem good_all {L : List (Str × Int)} (g : arePr L = true) : ∀ e ∈ L, isPiece (.str e.1) = true ∧ 1 ≤ e.2 ∧ e.2 ≤ 99 := fun e m => by
  unfold arePr at g
  simp only [Bool.and_eq_true] at g
  have h := List.all_eq_true.mp g.1.1.2 e m
  rw [Bool.and_eq_true] at h
  exact ⟨h.1, of_decide_eq_true h.2⟩
theorem good_sigs {L : List (Str × Int)} (g : arePr L = true) : (sigsP L).length ≤ 4 := by
  unfold arePr at g
  simp only [Bool.and_eq_true] at g
  exact of_decide_eq_true g.1.2
theorem good_has {L : List (Str × Int)} (g : arePr L = true) : ∀ z ∈ sigsP L, z ∈ L.map (·.1) := fun z m => by
  unfold arePr at g
  simp only [Bool.and_eq_true] at g
  exact mem_look.mpr (List.all_eq_true.mp g.2 z m)
/-- all but b stays -/
def SameB (b : Addr) (H H' : Hp) : Prop := ∀ c o, c ≠ b → H c = some o → H' c = some o
theorem sameB_of {b : Addr} {H H' : Hp} (k : Same H H') : SameB b H H' := fun c o _ e => k c o e
theorem SameB.step {b : Addr} {H H1 H2 : Hp} {o : HO} (k : SameB b H H1) (s : Same H1 H2) : SameB b H (upd H2 b o) := fun c u n e => by
  rw [upd_ne n]
  exact s c u (k c u n e)
theorem new_at {H : Hp} {b p : Addr} {x y o : HO} (ab : H b = some x) (ap : H p = some o) (ne : o ≠ x) : upd H b y p = some o := by
  rw [upd_ne (ne_of ap ab ne)]
  exact ap
end Gd

/-! Gd19: loops over d.items() and over the keys of d; what / and & make of two price lists -/
namespace Gd
open PySem PySem.Spec PyProof.Rows L2 L2.DX
/-- for k, v in d.items(): Pv by the turn, the frame's values and the heap -/
theorem for_itemsG {d : Addr} {o : Obj} {L : List (Str × Int)} {g : TG} {tb : TS} {D : Ends} {σ : L2.St} {H : Hp} (Pv : Nat → L2.St → Hp → Prop) (h0 : Pv 0 σ H) (hd : ∀ i σ H, i ≤ L.length → Pv i σ H → H d = some (.frz o (.dK (pr L))))
    (hs : ∀ i e σ H T, L[i]? = some e → Pv i σ H → H T = none → g (.ref T) σ (upd H T (.tup [.str e.1, .int e.2])) fun σ2 H2 => tb { D with nx := Pv (i + 1), ct := Pv (i + 1), bk := D.nx } σ2 H2) (hend : ∀ σ H, Pv L.length σ H → D.nx σ H) :
    ∃ W : Nat → Nat → L2.St → Hp → Prop, (∃ m, W 0 m σ H) ∧ ∀ i m σ H, W i m σ H →
      ((Iti d o (pr L)).stop i H ∧ D.nx σ H) ∨ ((Iti d o (pr L)).go i H ∧ ∃ N : L2.St → Hp → Prop, (∀ σ' H', N σ' H' → ∃ m', m' < m ∧ W (i + 1) m' σ' H') ∧ ∀ x H', (Iti d o (pr L)).yld i H x H' → g x σ H' fun σ2 H2 => tb { D with nx := N, ct := N, bk := D.nx } σ2 H2) := by
  refine ⟨fun i m σ H => m = L.length - i ∧ i ≤ L.length ∧ Pv i σ H, ⟨L.length - 0, rfl, Nat.zero_le _, h0⟩, ?_⟩
  rintro i m σ H ⟨rfl, hi, p⟩
  have at_d := hd i σ H hi p
  by_cases hlt : i < L.length
  · refine .inr ⟨⟨at_d, by rw [pr_len]; exact hlt⟩, Pv (i + 1), fun σ' H' p' => ⟨L.length - (i + 1), by omega, rfl, hlt, p'⟩, fun x H' y => ?_⟩
    obtain ⟨T, k, v, hk, rfl, hT, rfl⟩ := y
    obtain ⟨e, he, rfl, rfl⟩ := pr_get hk
    exact hs i e σ H T he p hT
  · have e : i = L.length := by omega
    subst e
    exact .inl ⟨⟨at_d, by rw [pr_len]; exact Nat.le_refl _⟩, hend σ H p⟩
/-- for k in d -/
theorem for_keysG {d : Addr} {o : Obj} {L : List (Str × Int)} {g : TG} {tb : TS} {D : Ends} {σ : L2.St} {H : Hp} (Pv : Nat → L2.St → Hp → Prop) (h0 : Pv 0 σ H) (hd : ∀ i σ H, i ≤ L.length → Pv i σ H → H d = some (.frz o (.dK (pr L))))
    (hs : ∀ i e σ H, L[i]? = some e → Pv i σ H → g (.str e.1) σ H fun σ2 H2 => tb { D with nx := Pv (i + 1), ct := Pv (i + 1), bk := D.nx } σ2 H2) (hend : ∀ σ H, Pv L.length σ H → D.nx σ H) :
    ∃ W : Nat → Nat → L2.St → Hp → Prop, (∃ m, W 0 m σ H) ∧ ∀ i m σ H, W i m σ H →
      ((Itk d o (pr L)).stop i H ∧ D.nx σ H) ∨ ((Itk d o (pr L)).go i H ∧ ∃ N : L2.St → Hp → Prop, (∀ σ' H', N σ' H' → ∃ m', m' < m ∧ W (i + 1) m' σ' H') ∧ ∀ x H', (Itk d o (pr L)).yld i H x H' → g x σ H' fun σ2 H2 => tb { D with nx := N, ct := N, bk := D.nx } σ2 H2) := by
  refine ⟨fun i m σ H => m = L.length - i ∧ i ≤ L.length ∧ Pv i σ H, ⟨L.length - 0, rfl, Nat.zero_le _, h0⟩, ?_⟩
  rintro i m σ H ⟨rfl, hi, p⟩
  have at_d := hd i σ H hi p
  by_cases hlt : i < L.length
  · refine .inr ⟨⟨at_d, by rw [pr_len]; exact hlt⟩, Pv (i + 1), fun σ' H' p' => ⟨L.length - (i + 1), by omega, rfl, hlt, p'⟩, fun x H' y => ?_⟩
    obtain ⟨rfl, k, v, hk, rfl⟩ := y
    obtain ⟨e, he, rfl, rfl⟩ := pr_get hk
    exact hs i e σ _ he p
  · have e : i = L.length := by omega
    subst e
    exact .inl ⟨⟨at_d, by rw [pr_len]; exact Nat.le_refl _⟩, hend σ H p⟩
/-- what stays under a lock, but for b -/
theorem sameB_lock {b d : Addr} {H H2 : Hp} {u f : HO} (hd : H d = some u) (sm : SameB b (upd H d f) H2) : SameB b H (upd H2 d u) := fun c o n e => by
  by_cases h : c = d
  · subst h
    rw [hd] at e
    cases e
    exact upd_same
  · rw [upd_ne h]
    exact sm c o n (by rw [upd_ne h]; exact e)
theorem same_of_new {p : Addr} {H H1 H2 : Hp} (hp : H p = none) (s1 : Same H H1) (s2 : SameB p H1 H2) : Same H H2 := fun c o e => s2 c o (fun z => by
  rw [z, hp] at e
  cases e) (s1 c o e)
/-- the prices of one / another -/
def lesser (i j : Int) : Int := if j < i then j else i
def orP (L M : List (Str × Int)) : List (Str × Int) := M.foldl (fun acc e => putP acc e.1 (lesser e.2 ((acc.lookup e.1).getD e.2))) L
def greater (i j : Int) : Int := if j > i then j else i
def andP (L M : List (Str × Int)) : List (Str × Int) := ((L.map (·.1)).filter fun z => (M.lookup z).isSome).map fun z => (z, greater ((L.lookup z).getD 0) ((M.lookup z).getD 0))
theorem orP_snoc (L M : List (Str × Int)) (e : Str × Int) : orP L (M ++ [e]) = putP (orP L M) e.1 (lesser e.2 (((orP L M).lookup e.1).getD e.2)) := by
  unfold orP
  rw [List.foldl_append]
  rfl
theorem orP_nodup : ∀ (M L : List (Str × Int)), (L.map (·.1)).Nodup → ((orP L M).map (·.1)).Nodup
  | [], _, nd => nd
  | e :: r, L, nd => orP_nodup r (putP L e.1 (lesser e.2 ((L.lookup e.1).getD e.2))) (nodup_putP nd)
theorem orP_len : ∀ (M L : List (Str × Int)), (orP L M).length ≤ L.length + M.length
  | [], L => Nat.le_refl _
  | e :: r, L => by
    have h1 := orP_len r (putP L e.1 (lesser e.2 ((L.lookup e.1).getD e.2)))
    have h2 : (putP L e.1 (lesser e.2 ((L.lookup e.1).getD e.2))).length ≤ L.length + 1 := by
      unfold putP
      split
      · rw [List.length_map]
        omega
      · rw [List.length_append]
        exact Nat.le_refl _
    have h3 : (orP L (e :: r)) = orP (putP L e.1 (lesser e.2 ((L.lookup e.1).getD e.2))) r := rfl
    rw [h3, List.length_cons]
    omega
theorem andP_nodup {L M : List (Str × Int)} (nd : (L.map (·.1)).Nodup) : ((andP L M).map (·.1)).Nodup := by
  unfold andP
  rw [List.map_map]
  show (List.map id _).Nodup
  rw [List.map_id]
  exact nd.filter _
end Gd

/-! M6: least prices of texts -/
namespace Gd
open PySem PySem.Spec PyProof.Rows L2
def minL : List Int → Int
  | [] => 0
  | [x] => x
  | x :: y :: r => let m := minL (y :: r); if x ≤ m then x else m
theorem minL_spec : ∀ {l : List Int}, l ≠ [] → minL l ∈ l ∧ ∀ y ∈ l, minL l ≤ y
  | [], h => absurd rfl h
  | [x], _ => ⟨List.mem_singleton.mpr rfl, fun y m => by rw [List.mem_singleton.mp m]; exact Int.le_refl _⟩
  | x :: y :: r, _ => by
    obtain ⟨h1, h2⟩ := minL_spec (l := y :: r) (by simp)
    show (if x ≤ minL (y :: r) then x else minL (y :: r)) ∈ x :: y :: r ∧ ∀ z ∈ x :: y :: r, (if x ≤ minL (y :: r) then x else minL (y :: r)) ≤ z
    split
    · next h =>
      refine ⟨List.mem_cons_self .., fun z m => ?_⟩
      rcases List.mem_cons.mp m with rfl | m
      · exact Int.le_refl _
      · exact Int.le_trans h (h2 z m)
    · next h =>
      refine ⟨List.mem_cons_of_mem _ h1, fun z m => ?_⟩
      rcases List.mem_cons.mp m with rfl | m
      · omega
      · exact h2 z m
theorem minL_is {l : List Int} {m : Int} (h1 : m ∈ l) (h2 : ∀ y ∈ l, m ≤ y) : m = minL l := by
  obtain ⟨h3, h4⟩ := minL_spec (l := l) (List.ne_nil_of_mem h1)
  exact Int.le_antisymm (h2 _ h3) (h4 _ h1)
/-- the first n signs -/
def pre (z : Str) (n : Nat) : Str := cutS z none (some (n : Int))
theorem pre_list (z : Str) (n : Nat) : (pre z n).cps.toList = z.cps.toList.take n := by
  unfold pre
  rw [cutS_list, sIx_pos (Int.natCast_nonneg n), Int.toNat_natCast]
  show (z.cps.toList.drop 0).take (min n z.length - 0) = _
  rw [List.drop_zero, Nat.sub_zero, ← str_len, ← List.take_eq_take_min]
theorem pre_len {z : Str} {n : Nat} (h : n ≤ z.length) : (pre z n).length = n := by
  rw [← str_len, pre_list, List.length_take, str_len]
  omega
theorem ends_le {x y : Str} (h : Txt.endswith x y = true) : y.length ≤ x.length := by
  unfold Txt.endswith at h
  rw [Bool.and_eq_true] at h
  have := of_decide_eq_true h.1
  omega
/-- the pieces with which the first n signs end -/
def lastP (L : List (Str × Int)) (z : Str) (n : Nat) : List (Str × Int) := L.filter fun e => Txt.endswith (pre z n) e.1
def costsP (L : List (Str × Int)) (z : Str) (acc : List Int) (n : Nat) : List Int := (lastP L z n).map fun e => acc.getD (n - e.1.length) 0 + e.2
/-- the least prices of the first signs -/
def leastL (L : List (Str × Int)) (z : Str) : Nat → List Int
  | 0 => [0]
  | n + 1 => leastL L z n ++ [minL (costsP L z (leastL L z n) (n + 1))]
theorem leastL_len (L : List (Str × Int)) (z : Str) : ∀ n, (leastL L z n).length = n + 1
  | 0 => rfl
  | n + 1 => by
    show (leastL L z n ++ [_]).length = _
    rw [List.length_append, leastL_len L z n]
    rfl
def leastP (L : List (Str × Int)) (z : Str) : Int := (leastL L z z.length).getD z.length 0
theorem atI_last {α : Type} {xs : List α} {n : Nat} (h : xs.length = n + 1) : atI xs (-1) = xs[n]? := by
  unfold atI ixN
  rw [if_neg (by omega), if_pos (by omega), h]
  show xs[((-1 : Int) + ((n + 1 : Nat) : Int)).toNat]? = _
  rw [show ((-1 : Int) + ((n + 1 : Nat) : Int)).toNat = n by omega]
end Gd

/-! M7: tuples of texts compared -/
namespace Gd
open PySem PySem.Spec PyProof.Rows L2
theorem dp_strsAll {K : PySem.W.Frag} {H : Hp} : ∀ zs : List Str, DpAll K H (zs.map V.str) (zs.map PyData.str)
  | [] => .nil
  | z :: r => .cons (.str z) (dp_strsAll r)
theorem eqv_strsAll : ∀ xs ys : List Str, PyData.eqvAll (xs.map PyData.str) (ys.map PyData.str) = decide (xs = ys)
  | [], [] => by simp only [List.map_nil, PyData.eqvAll, decide_true]
  | [], _ :: _ => by simp [PyData.eqvAll]
  | _ :: _, [] => by simp [PyData.eqvAll]
  | x :: xs, y :: ys => by
    rw [List.map_cons, List.map_cons, PyData.eqvAll, eqv_strsAll xs ys]
    have e : PyData.eqv (.str x) (.str y) = decide (x = y) := by
      rw [PyData.eqv]
      by_cases h : x = y
      · rw [h, decide_eq_true rfl]
        exact beq_iff_eq.mpr rfl
      · rw [decide_eq_false h]
        exact beq_eq_false_iff_ne.mpr h
    rw [e]
    by_cases h1 : x = y <;> by_cases h2 : xs = ys <;> simp [h1, h2]
theorem eqv_strs (xs ys : List Str) : PyData.eqv (.tuple (xs.map PyData.str)) (.tuple (ys.map PyData.str)) = decide (xs = ys) := by
  rw [PyData.eqv]
  exact eqv_strsAll xs ys
theorem low_strOk : ∀ c : Fin 128, PyData.strOk (sg c.val) = true := by decide +kernel
theorem shaped_strs {zs : List Str} (h : ∀ z ∈ zs, PyData.strOk z = true) : SeqAt.shaped (.tuple (zs.map PyData.str)) = true := by
  have all : PyData.canLayAll0 (zs.map PyData.str) = true ∧ PyData.depthAll (zs.map PyData.str) = 0 := by
    induction zs with
    | nil => simp only [List.map_nil, PyData.canLayAll0, PyData.depthAll, and_self]
    | cons z r ih =>
      obtain ⟨i1, i2⟩ := ih fun y m => h y (List.mem_cons_of_mem _ m)
      simp only [List.map_cons, PyData.canLayAll0, PyData.canLay0, PyData.depthAll, PyData.depth, i1, i2, h z (List.mem_cons_self ..), Bool.and_self, true_and]
      rfl
  unfold SeqAt.shaped
  rw [Bool.and_eq_true]
  refine ⟨by rw [PyData.canLay0]; exact all.1, decide_eq_true ?_⟩
  rw [PyData.depth, all.2]
  decide
/-- the signs of good prices are small letters -/
theorem sigs_low {L : List (Str × Int)} (g : arePr L = true) : ∀ z ∈ sigsP L, ∃ c, low c = true ∧ z = sg c := fun z m => by
  obtain ⟨x, mx, c, mc, rfl⟩ := mem_sgs.mp (mem_ascT.mp m)
  obtain ⟨e, me, rfl⟩ := List.mem_map.mp mx
  exact ⟨c, piece_low (good_all g e me).1 c mc, rfl⟩
theorem sigs_ok {L : List (Str × Int)} (g : arePr L = true) : ∀ z ∈ sigsP L, PyData.strOk z = true := fun z m => by
  obtain ⟨c, hc, rfl⟩ := sigs_low g z m
  have lt : c < 128 := by
    have := of_decide_eq_true hc
    omega
  exact low_strOk ⟨c, lt⟩
theorem ends_sign {z : Str} {n c : Nat} (h : z.cps.toList[n]? = some c) : Txt.endswith (pre z (n + 1)) (sg c) = true := by
  have lt : n < z.length := by
    rw [← str_len]
    exact (List.getElem?_eq_some_iff.mp h).1
  have l1 : (pre z (n + 1)).length = n + 1 := pre_len lt
  have l2 : (sg c).length = 1 := rfl
  have at_n : (pre z (n + 1)).cps.toList[n]? = some c := by
    rw [pre_list, List.getElem?_take, if_pos (Nat.lt_succ_self n)]
    exact h
  obtain ⟨h1, h2⟩ := (PySem.StrLaws.subAt_one (pre z (n + 1)) c n).mpr at_n
  unfold Txt.endswith
  rw [Bool.and_eq_true]
  refine ⟨decide_eq_true (by rw [l1, l2]; omega), ?_⟩
  rw [l1, l2]
  exact h2
theorem last_ne {L : List (Str × Int)} {z : Str} (h : ∀ c ∈ z.cps.toList, sg c ∈ L.map (·.1)) : ∀ n, n < z.length → lastP L z (n + 1) ≠ [] := fun n lt => by
  have lt' : n < z.cps.toList.length := by
    rw [str_len]
    exact lt
  obtain ⟨e, me, ee⟩ := List.mem_map.mp (h _ (List.getElem_mem lt'))
  have : e ∈ lastP L z (n + 1) := List.mem_filter.mpr ⟨me, by rw [ee]; exact ends_sign (List.getElem?_eq_getElem lt')⟩
  exact List.ne_nil_of_mem this
/-- each sign of a piece of good prices is a piece of other prices with these signs -/
theorem sign_in {L M : List (Str × Int)} (g : arePr L = true) (same : sigsP L = sigsP M) {e : Str × Int} (m : e ∈ M) : ∀ c ∈ e.1.cps.toList, sg c ∈ L.map (·.1) := fun c mc => by
  refine good_has g _ ?_
  rw [same]
  exact mem_ascT.mpr (mem_sgs.mpr ⟨e.1, List.mem_map.mpr ⟨e, m, rfl⟩, c, mc, rfl⟩)
/-- the first piece that costs more by L -/
def dearer (L M : List (Str × Int)) : V := match M.find? fun e => decide (e.2 < leastP L e.1) with
  | some e => .str e.1
  | none => .non
theorem find_at {α : Type} {p : α → Bool} : ∀ {l : List α} {i : Nat} {e : α}, l[i]? = some e → p e = true → (∀ x ∈ l.take i, p x = false) → l.find? p = some e
  | [], i, e, h, _, _ => by simp at h
  | x :: r, 0, e, h, pe, _ => by
    have : x = e := by simpa using h
    subst this
    exact List.find?_cons_of_pos pe
  | x :: r, i + 1, e, h, pe, no => by
    have px := no x (by rw [List.take_succ_cons]; exact List.mem_cons_self ..)
    rw [List.find?_cons_of_neg (by rw [px]; exact Bool.false_ne_true)]
    exact find_at (i := i) (by simpa using h) pe fun y m => no y (by rw [List.take_succ_cons]; exact List.mem_cons_of_mem _ m)
theorem erase_perm {α : Type} : ∀ {l : List α} {k : Nat} (h : k < l.length), (l[k] :: l.eraseIdx k).Perm l
  | _ :: _, 0, _ => List.Perm.refl _
  | x :: r, k + 1, h => (List.Perm.swap x (r[k]'(Nat.lt_of_succ_lt_succ h)) _).trans ((erase_perm (l := r) (k := k) (Nat.lt_of_succ_lt_succ h)).cons x)
theorem eqv_listStrs (xs ys : List Str) : PyData.eqv (.list (xs.map PyData.str)) (.list (ys.map PyData.str)) = decide (xs = ys) := by
  rw [PyData.eqv]
  exact eqv_strsAll xs ys
theorem shaped_listStrs {zs : List Str} (h : ∀ z ∈ zs, PyData.strOk z = true) : SeqAt.shaped (.list (zs.map PyData.str)) = true := by
  have q := shaped_strs h
  have e1 : PyData.canLay0 (.list (zs.map PyData.str)) = PyData.canLay0 (.tuple (zs.map PyData.str)) := by simp only [PyData.canLay0]
  have e2 : PyData.depth (.list (zs.map PyData.str)) = PyData.depth (.tuple (zs.map PyData.str)) := by simp only [PyData.depth]
  unfold SeqAt.shaped at q ⊢
  rw [e1, e2]
  exact q
end Gd

/-! M8: price lists over some signs and some longer pieces; what / and & make of them is a book again -/
namespace Gd
open PySem PySem.Spec PyProof.Rows L2
/-- S: some letters; M: some pieces over them -/
structure Menu (S M : List Str) : Prop where
  few : S.length ≤ 4
  sign : ∀ z ∈ S, ∃ c, low c = true ∧ z = sg c
  many : M.length ≤ 8
  piece : ∀ z ∈ M, isPiece (.str z) = true ∧ ∀ c ∈ z.cps.toList, sg c ∈ S
/-- prices of some of them: the sign s is one of them, and with each piece its signs -/
structure Plain (S M : List Str) (s : Str) (L : List (Str × Int)) : Prop where
  nd : (L.map (·.1)).Nodup
  key : ∀ z ∈ L.map (·.1), z ∈ S ++ M
  price : ∀ e ∈ L, 1 ≤ e.2 ∧ e.2 ≤ 99
  first : s ∈ L.map (·.1)
  closed : ∀ z ∈ L.map (·.1), ∀ c ∈ z.cps.toList, sg c ∈ L.map (·.1)
theorem isPiece_sg {c : Nat} (h : low c = true) : isPiece (.str (sg c)) = true := by
  rw [isPiece_str, Bool.and_eq_true]
  exact ⟨isText_low (fun d hd => by
    have : d = c := by simpa using hd
    rw [this]
    exact h) (show (1 : Nat) ≤ 8000 by decide), decide_eq_true ⟨Nat.le_refl _, (show (1 : Nat) ≤ 5 by decide)⟩⟩
section
variable {S M : List Str} {s : Str} {L : List (Str × Int)}
theorem Menu.all (m : Menu S M) {z : Str} (h : z ∈ S ++ M) : isPiece (.str z) = true ∧ ∀ c ∈ z.cps.toList, sg c ∈ S := by
  rcases List.mem_append.mp h with h | h
  · obtain ⟨c, hc, rfl⟩ := m.sign z h
    refine ⟨isPiece_sg hc, fun d hd => ?_⟩
    have : d = c := by simpa using hd
    rw [this]
    exact h
  · exact m.piece z h
theorem Plain.good (m : Menu S M) (p : Plain S M s L) : arePr L = true := by
  have len : L.length ≤ (S ++ M).length := by
    have h := nodup_le p.nd p.key
    rw [List.length_map] at h
    exact h
  have pos : 1 ≤ L.length := by
    have h := List.length_pos_of_mem p.first
    rw [List.length_map] at h
    exact h
  have f := m.few
  have g := m.many
  rw [List.length_append] at len
  have sub : ∀ z ∈ sigsP L, z ∈ S ∧ z ∈ L.map (·.1) := fun z mz => by
    obtain ⟨x, mx, c, mc, rfl⟩ := mem_sgs.mp (mem_ascT.mp mz)
    exact ⟨(m.all (p.key x mx)).2 c mc, p.closed x mx c mc⟩
  unfold arePr
  simp only [Bool.and_eq_true]
  refine ⟨⟨⟨decide_eq_true ⟨pos, by omega⟩, List.all_eq_true.mpr fun e me => ?_⟩, decide_eq_true ?_⟩, List.all_eq_true.mpr fun z mz => mem_look.mp (sub z mz).2⟩
  · rw [Bool.and_eq_true]
    exact ⟨(m.all (p.key e.1 (List.mem_map.mpr ⟨e, me, rfl⟩))).1, decide_eq_true (p.price e me)⟩
  · have h := nodup_le (l := sigsP L) (nodup_ascT _) fun z mz => (sub z mz).1
    exact Nat.le_trans h m.few
end
/-! ### prices by pieces -/
def orO : Option Int → Option Int → Option Int
  | some i, some j => some (lesser j i)
  | some i, none => some i
  | none, j => j
def andO : Option Int → Option Int → Option Int
  | some i, some j => some (greater i j)
  | _, _ => none
theorem lookup_orP : ∀ {M L : List (Str × Int)}, (M.map (·.1)).Nodup → ∀ z : Str, (orP L M).lookup z = orO (L.lookup z) (M.lookup z)
  | [], L, _, z => by
    show L.lookup z = orO (L.lookup z) none
    cases L.lookup z <;> rfl
  | (k, v) :: r, L, nd, z => by
    obtain ⟨h1, h2⟩ := List.nodup_cons.mp nd
    show (orP (putP L k (lesser v ((L.lookup k).getD v))) r).lookup z = _
    rw [lookup_orP h2, lookup_putP, List.lookup_cons]
    by_cases e : z = k
    · rw [← e] at h1 ⊢
      have nr : r.lookup z = none := by
        cases q : r.lookup z with
        | none => rfl
        | some w => exact absurd (mem_look.mpr (by rw [q]; rfl)) h1
      rw [if_pos rfl, nr, show (z == z) = true from beq_iff_eq.mpr rfl]
      cases L.lookup z with
      | none =>
        show some (lesser v v) = some v
        unfold lesser
        rw [if_neg (Int.lt_irrefl _)]
      | some i => rfl
    · rw [if_neg e, show (z == k) = false from beq_eq_false_iff_ne.mpr e]
theorem lookup_andP {L M : List (Str × Int)} (z : Str) : (andP L M).lookup z = andO (L.lookup z) (M.lookup z) := by
  unfold andP
  have gen : ∀ {l : List Str} {f : Str → Int}, (l.map fun y => (y, f y)).lookup z = if z ∈ l then some (f z) else none := by
    intro l f
    induction l with
    | nil => rfl
    | cons y r ih =>
      rw [List.map_cons, List.lookup_cons, ih]
      by_cases e : z = y
      · subst e
        rw [show (z == z) = true from beq_iff_eq.mpr rfl, if_pos (List.mem_cons_self ..)]
      · rw [show (z == y) = false from beq_eq_false_iff_ne.mpr e]
        by_cases m : z ∈ r
        · rw [if_pos m, if_pos (List.mem_cons_of_mem _ m)]
        · rw [if_neg m, if_neg fun h => (List.mem_cons.mp h).elim e m]
  rw [gen]
  cases e1 : L.lookup z with
  | none =>
    exact if_neg fun h => by
      have := mem_look.mp (List.mem_filter.mp h).1
      rw [e1] at this
      cases this
  | some i =>
    cases e2 : M.lookup z with
    | none =>
      exact if_neg fun h => by
        have := (List.mem_filter.mp h).2
        rw [e2] at this
        cases this
    | some j =>
      rw [if_pos (List.mem_filter.mpr ⟨mem_look.mpr (by rw [e1]; rfl), by rw [e2]; rfl⟩)]
      rfl
theorem keys_orP {L M : List (Str × Int)} (nd : (M.map (·.1)).Nodup) {z : Str} : z ∈ (orP L M).map (·.1) ↔ z ∈ L.map (·.1) ∨ z ∈ M.map (·.1) := by
  rw [mem_look, mem_look, mem_look, lookup_orP nd]
  cases L.lookup z <;> cases M.lookup z <;> simp [orO, andO]
theorem keys_andP {L M : List (Str × Int)} {z : Str} : z ∈ (andP L M).map (·.1) ↔ z ∈ L.map (·.1) ∧ z ∈ M.map (·.1) := by
  rw [mem_look, mem_look, mem_look, lookup_andP]
  cases L.lookup z <;> cases M.lookup z <;> simp [orO, andO]
section
variable {S N : List Str} {s : Str} {L M : List (Str × Int)}
theorem price_of {L : List (Str × Int)} (p : ∀ e ∈ L, 1 ≤ e.2 ∧ e.2 ≤ 99) {z : Str} {i : Int} (h : L.lookup z = some i) : 1 ≤ i ∧ i ≤ 99 := p (z, i) (lookup_mem h)
theorem Plain.or (p : Plain S N s L) (q : Plain S N s M) : Plain S N s (orP L M) where
  nd := orP_nodup M L p.nd
  key := fun z mz => ((keys_orP q.nd).mp mz).elim (p.key z) (q.key z)
  price := fun e me => by
    have h := lookup_nodup (orP_nodup M L p.nd) e me
    rw [lookup_orP q.nd] at h
    cases e1 : L.lookup e.1 with
    | none =>
      cases e2 : M.lookup e.1 with
      | none =>
        rw [e1, e2] at h
        cases h
      | some j =>
        rw [e1, e2] at h
        rw [← Option.some.inj h]
        exact price_of q.price e2
    | some i =>
      cases e2 : M.lookup e.1 with
      | none =>
        rw [e1, e2] at h
        rw [← Option.some.inj h]
        exact price_of p.price e1
      | some j =>
        rw [e1, e2] at h
        rw [← Option.some.inj h]
        have h1 := price_of p.price e1
        have h2 := price_of q.price e2
        unfold lesser
        split
        · exact h1
        · exact h2
  first := (keys_orP q.nd).mpr (.inl p.first)
  closed := fun z mz c mc => (keys_orP q.nd).mpr (((keys_orP q.nd).mp mz).imp (fun h => p.closed z h c mc) fun h => q.closed z h c mc)
theorem Plain.and (p : Plain S N s L) (q : Plain S N s M) : Plain S N s (andP L M) where
  nd := andP_nodup p.nd
  key := fun z mz => p.key z (keys_andP.mp mz).1
  price := fun e me => by
    have h := lookup_nodup (andP_nodup (M := M) p.nd) e me
    rw [lookup_andP] at h
    cases e1 : L.lookup e.1 with
    | none =>
      rw [e1] at h
      cases h
    | some i =>
      cases e2 : M.lookup e.1 with
      | none =>
        rw [e1, e2] at h
        cases h
      | some j =>
        rw [e1, e2] at h
        rw [← Option.some.inj h]
        have h1 := price_of p.price e1
        have h2 := price_of q.price e2
        unfold greater
        split
        · exact h2
        · exact h1
  first := keys_andP.mpr ⟨p.first, q.first⟩
  closed := fun z mz c mc => keys_andP.mpr ⟨p.closed z (keys_andP.mp mz).1 c mc, q.closed z (keys_andP.mp mz).2 c mc⟩
theorem Plain.sort (p : Plain S N s L) : Plain S N s (sortP L) := by
  have k : ∀ {z}, z ∈ (sortP L).map (·.1) ↔ z ∈ L.map (·.1) := fun {z} => by
    rw [sortP_keys]
    exact (sortT_perm _).mem_iff
  exact ⟨sortP_nodup p.nd, fun z mz => p.key z (k.mp mz), fun e me => p.price e ((mem_sortP p.nd).mp me), k.mpr p.first, fun z mz c mc => k.mpr (p.closed z (k.mp mz) c mc)⟩
end
/-- two sorted lists with the same prices -/
theorem asc_eq {L M : List (Str × Int)} (n1 : (L.map (·.1)).Nodup) (n2 : (M.map (·.1)).Nodup) (a1 : AscP L) (a2 : AscP M) (h : ∀ z, L.lookup z = M.lookup z) : L = M := by
  have keys : L.map (·.1) = M.map (·.1) := sorted_unique a1 a2 (nodup_perm n1 n2 fun z => by rw [mem_look, mem_look, h])
  have back : ∀ {l : List (Str × Int)}, (l.map (·.1)).Nodup → l = (l.map (·.1)).map fun z => (z, (l.lookup z).getD 0) := fun {l} nd => by
    rw [List.map_map]
    refine Eq.trans (List.map_id l).symm (List.map_congr_left fun e me => ?_)
    show e = (e.1, (l.lookup e.1).getD 0)
    rw [lookup_nodup nd e me]
    rfl
  rw [back n1, back n2, keys]
  exact List.map_congr_left fun z _ => by rw [h]
theorem eqPr_iff {L M : List (Str × Int)} (n1 : (L.map (·.1)).Nodup) (n2 : (M.map (·.1)).Nodup) : eqPr L M = true ↔ ∀ z, L.lookup z = M.lookup z := by
  unfold eqPr
  rw [Bool.and_eq_true, List.all_eq_true, beq_iff_eq]
  constructor
  · rintro ⟨len, all⟩ z
    have sub : ∀ k ∈ L.map (·.1), k ∈ M.map (·.1) := fun k mk => by
      obtain ⟨e, me, rfl⟩ := List.mem_map.mp mk
      exact mem_look.mpr (by rw [beq_iff_eq.mp (all e me)]; rfl)
    cases e1 : L.lookup z with
    | some i => exact (beq_iff_eq.mp (all (z, i) (lookup_mem e1))).symm
    | none =>
      cases e2 : M.lookup z with
      | none => rfl
      | some j =>
        exfalso
        have mz : z ∈ M.map (·.1) := mem_look.mpr (by rw [e2]; rfl)
        have nz : z ∉ L.map (·.1) := fun h => by
          have := mem_look.mp h
          rw [e1] at this
          cases this
        have h := nodup_le (l := z :: L.map (·.1)) (xs := M.map (·.1)) (List.nodup_cons.mpr ⟨nz, n1⟩) fun k mk => (List.mem_cons.mp mk).elim (fun h => h ▸ mz) (sub k)
        rw [List.length_cons, List.length_map, List.length_map] at h
        omega
  · intro h
    refine ⟨?_, fun e me => by rw [← h, lookup_nodup n1 e me]; exact beq_iff_eq.mpr rfl⟩
    have p := (nodup_perm n1 n2 fun z => by rw [mem_look, mem_look, h]).length_eq
    rw [List.length_map, List.length_map] at p
    exact p
theorem vals_strs' {p : Str → Prop} : ∀ {ys : List V}, (∀ y ∈ ys, ∃ z, y = V.str z ∧ p z) → ∃ S : List Str, ys = S.map V.str ∧ ∀ z ∈ S, p z
  | [], _ => ⟨[], rfl, fun _ h => (nomatch h)⟩
  | y :: r, h => by
    obtain ⟨z, rfl, hz⟩ := h y (List.mem_cons_self ..)
    obtain ⟨S, rfl, h2⟩ := vals_strs' (ys := r) fun x m => h x (List.mem_cons_of_mem _ m)
    refine ⟨z :: S, rfl, fun w m => ?_⟩
    rcases List.mem_cons.mp m with rfl | m
    · exact hz
    · exact h2 w m
abbrev ABC : Str := Str.ofString "abcdefghijklmnopqrstuvwxyz"
theorem abc_low : ∀ c ∈ ABC.cps.toList, low c = true := by decide +kernel
theorem abc_nodup : ((ABC.cps.toList.map sg).map V.str).Nodup := by decide +kernel
/-- some letters -/
theorem some_letters {ys rest : List V} (pm : (ys ++ rest).Perm ((ABC.cps.toList.map sg).map V.str)) : ∃ S : List Str, ys = S.map V.str ∧ S.Nodup ∧ ∀ z ∈ S, ∃ c, low c = true ∧ z = sg c := by
  obtain ⟨S, rfl, h⟩ := vals_strs' (p := fun z => ∃ c, low c = true ∧ z = sg c) (ys := ys) fun y m => by
    obtain ⟨z, mz, rfl⟩ := List.mem_map.mp (pm.mem_iff.mp (List.mem_append.mpr (.inl m)))
    obtain ⟨c, mc, rfl⟩ := List.mem_map.mp mz
    exact ⟨_, rfl, c, abc_low c mc, rfl⟩
  have nd := (List.nodup_append.mp (pm.nodup_iff.mpr abc_nodup)).1
  exact ⟨S, rfl, (List.pairwise_map.mp nd).imp fun h e => h (congrArg V.str e), h⟩
theorem sum_one : ∀ {zs : List Str}, (∀ z ∈ zs, z.length = 1) → (zs.map (·.length)).sum = zs.length
  | [], _ => rfl
  | z :: r, h => by
    rw [List.map_cons, List.sum_cons, h z (List.mem_cons_self ..), sum_one fun y m => h y (List.mem_cons_of_mem _ m), List.length_cons]
    omega
theorem join_piece {S zs : List Str} (low_ : ∀ z ∈ S, ∃ c, low c = true ∧ z = sg c) (h : ∀ z ∈ zs, z ∈ S) (l1 : 1 ≤ zs.length) (l2 : zs.length ≤ 5) : isPiece (.str (Txt.join (Str.ofString "") zs)) = true ∧ ∀ c ∈ (Txt.join (Str.ofString "") zs).cps.toList, sg c ∈ S := by
  have one : ∀ z ∈ zs, z.length = 1 := fun z m => by
    obtain ⟨c, _, rfl⟩ := low_ z (h z m)
    rfl
  have len : (Txt.join (Str.ofString "") zs).length = zs.length := by rw [len_join, sum_one one]
  have mem : ∀ c ∈ (Txt.join (Str.ofString "") zs).cps.toList, sg c ∈ S ∧ low c = true := fun c mc => by
    rw [join0] at mc
    obtain ⟨l, ml, mc⟩ := List.mem_flatten.mp mc
    obtain ⟨z, mz, rfl⟩ := List.mem_map.mp ml
    obtain ⟨d, hd, rfl⟩ := low_ z (h z mz)
    obtain rfl : c = d := by simpa using mc
    exact ⟨h _ mz, hd⟩
  refine ⟨?_, fun c mc => (mem c mc).1⟩
  rw [isPiece_str, Bool.and_eq_true]
  exact ⟨isText_low (fun c mc => (mem c mc).2) (by omega), decide_eq_true (by omega)⟩
/-- prices of some letters, the first among them, and of pieces over these -/
theorem plain_of {S M O Y : List Str} {s : Str} {L : List (Str × Int)} (lowS : ∀ z ∈ S, ∃ c, low c = true ∧ z = sg c) (hO : ∀ z ∈ O, z ∈ S) (s0 : s ∈ O) (hY : ∀ z ∈ Y, z ∈ M ∧ z.cps.toList.all (fun c => decide (sg c ∈ O)) = true) (keys : L.map (·.1) = O ++ Y) (good : ∀ e ∈ L, 1 ≤ e.2 ∧ e.2 ≤ 99) : Plain S M s (mergeP [] L) where
  nd := nodup_mergeP List.nodup_nil
  key := fun z mz => by
    rcases (mem_mergeP.mp mz) with h | h
    · cases h
    · rw [keys] at h
      rcases List.mem_append.mp h with h | h
      · exact List.mem_append.mpr (.inl (hO z h))
      · exact List.mem_append.mpr (.inr (hY z h).1)
  price := all_mergeP (p := fun v => 1 ≤ v ∧ v ≤ 99) (fun e m => (nomatch m)) good
  first := mem_mergeP.mpr (.inr (by rw [keys]; exact List.mem_append.mpr (.inl s0)))
  closed := fun z mz c mc => by
    refine mem_mergeP.mpr (.inr ?_)
    rcases (mem_mergeP.mp mz) with h | h
    · cases h
    · rw [keys] at h ⊢
      refine List.mem_append.mpr (.inl ?_)
      rcases List.mem_append.mp h with h | h
      · obtain ⟨d, _, rfl⟩ := lowS z (hO z h)
        obtain rfl : c = d := by simpa using mc
        exact h
      · exact of_decide_eq_true (List.all_eq_true.mp (hY z h).2 c mc)
end Gd

/-! Gd20: rules that name the frozen part K, for the blocks of comprehensions; comprehensions with tests that roll. -/
namespace Gd
open PySem PySem.Spec PyProof.Rows L2
section
variable {X : Cx} {K : PySem.W.Frag}
theorem op_inK (h : X.K = K) : OpR X (compareOp .In) (rIn K false) := by
  subst h
  exact op_in_seq
theorem op_notInK (h : X.K = K) : OpR X (compareOp .NotIn) (rIn K true) := by
  subst h
  exact op_notIn_seq
theorem op_eqDK (h : X.K = K) (hu : X.A.units + 64 < cLine) : OpR X (compareOp .Eq) (rEqD K) := by
  subst h
  exact op_eqD hu
theorem op_neDK (h : X.K = K) (hu : X.A.units + 64 < cLine) : OpR X (compareOp .NotEq) (rNeD K) := by
  subst h
  exact op_neD hu
theorem call_lenK (h : X.K = K) : CallR X (.builtin "len") (fun xs H Q => ∃ x n, xs = [x] ∧ LenV K x H n ∧ Q (.int n) H) := by
  subst h
  exact call_len
theorem ix_listK (h : X.K = K) : IxR X (rIxL K) := by
  subst h
  exact ix_list
end
/-- [x for x in xs if ..], the test may roll: what must stay stays -/
theorem lc_subG {K : PySem.W.Frag} {a : Addr} {xs : List V} {slot : Nat} {tt : TT} {te : TE} {vs : List Nat} {σ : L2.St} {H1 : Hp} {D : Addr} {Qd : Hp → Prop} (must : V → Prop) (hD : H1 D = none) (hS : SqL K H1 a xs) (hn : xs.length ≤ 100000)
    (hw : ∀ x, wipe ((wipe σ vs).set slot (some x)) vs = wipe σ vs)
    (ht : ∀ (x : V) (H : Hp), x ∈ xs → Same H1 H → ∀ Q : Bool → Hp → Prop, (∀ b H', Same H H' → (must x → b = true) → Q b H') → tt ((wipe σ vs).set slot (some x)) H Q)
    (hs : ∀ (x : V) (H : Hp), x ∈ xs → Same H1 H → ∀ Q : VK, (∀ H', Same H H' → Q x H') → te ((wipe σ vs).set slot (some x)) H Q)
    (hd : ∀ (H : Hp) (ys : List V), Same H1 H → H D = some (.lst ys) → ys.Sublist xs → (∀ x ∈ xs, must x → x ∈ ys) → Qd H) :
    ∃ W : Nat → Nat → Hp → Prop, (∃ m, W 0 m (upd H1 D (.lst []))) ∧ ∀ i m H, W i m H →
      ((Itl K a).stop i H ∧ Qd H) ∨ ((Itl K a).go i H ∧ ∃ Nx : Hp → Prop, (∀ H', Nx H' → ∃ m', m' < m ∧ W (i + 1) m' H') ∧ ∀ x H', (Itl K a).yld i H x H' → gName slot x (wipe σ vs) H' fun σ2 H2 => wipe σ2 vs = wipe σ vs ∧ tt σ2 H2 fun b H3 =>
        if b = true then te σ2 H3 fun y H4 => ∃ acc, H4 D = some (.lst acc) ∧ acc.length < sizeLine ∧ Nx (upd H4 D (.lst (acc ++ [y]))) else Nx H3) := by
  refine lc_list (K := K) (a := a) (xs := xs) (fun i H => Same H1 H ∧ ∃ ys, H D = some (.lst ys) ∧ ys.Sublist (xs.take i) ∧ ∀ x ∈ xs.take i, must x → x ∈ ys) ⟨same_new hD, [], upd_same, List.Sublist.refl _, fun x m => by simp at m⟩ (fun i H _ h => h.1.seq hS) ?_ ?_
  · rintro i x H hi ⟨sm, ys, h, sub, mu⟩
    have hx : x ∈ xs := List.mem_of_getElem? hi
    have et : xs.take (i + 1) = xs.take i ++ [x] := by rw [List.take_add_one, hi] <;> rfl
    refine ⟨hw _, ht x H hx sm _ fun b H' sm' hb => ?_⟩
    cases b with
    | true =>
      refine iteT (hs x H' hx (sm.trans sm') _ fun H2 sm2 => ?_)
      refine ⟨_, sm2 _ _ (sm' _ _ h), Nat.lt_of_le_of_lt ?_ (show 100000 < sizeLine by decide), same_over ((sm.trans sm').trans sm2) hD, _, upd_same, ?_, fun y my hy => ?_⟩
      · have h1 := sub.length_le
        rw [List.length_take] at h1
        omega
      · rw [et]
        exact sub.append (List.Sublist.refl _)
      · rw [et] at my
        rcases List.mem_append.mp my with my | my
        · exact List.mem_append.mpr (.inl (mu y my hy))
        · exact List.mem_append.mpr (.inr my)
    | false =>
      refine iteF ⟨sm.trans sm', ys, sm' _ _ h, ?_, fun y my hy => ?_⟩
      · rw [et]
        exact sub.trans (List.sublist_append_left _ _)
      · rw [et] at my
        rcases List.mem_append.mp my with my | my
        · exact mu y my hy
        · obtain rfl : y = x := by simpa using my
          exact absurd (hb hy) Bool.false_ne_true
  · rintro H ⟨sm, ys, h, sub, mu⟩
    rw [List.take_length] at sub mu
    exact hd H ys sm h sub mu
/-- [c for c in z if ..], z a text -/
theorem lc_strG {z : Str} {slot : Nat} {tt : TT} {te : TE} {vs : List Nat} {σ : L2.St} {H1 : Hp} {D : Addr} {Qd : Hp → Prop} (f : Str → Bool) (hD : H1 D = none) (hn : z.length ≤ 100000)
    (hw : ∀ x, wipe ((wipe σ vs).set slot (some x)) vs = wipe σ vs)
    (ht : ∀ (c : Nat) (H : Hp), c ∈ z.cps.toList → Same H1 H → ∀ Q : Bool → Hp → Prop, (∀ H', Same H H' → Q (f (sg c)) H') → tt ((wipe σ vs).set slot (some (.str (sg c)))) H Q)
    (hs : ∀ (c : Nat) (H : Hp), c ∈ z.cps.toList → Same H1 H → ∀ Q : VK, (∀ H', Same H H' → Q (.str (sg c)) H') → te ((wipe σ vs).set slot (some (.str (sg c)))) H Q)
    (hd : ∀ (H : Hp), Same H1 H → H D = some (.lst (((z.cps.toList.map sg).filter f).map V.str)) → Qd H) :
    ∃ W : Nat → Nat → Hp → Prop, (∃ m, W 0 m (upd H1 D (.lst []))) ∧ ∀ i m H, W i m H →
      ((Its z).stop i H ∧ Qd H) ∨ ((Its z).go i H ∧ ∃ Nx : Hp → Prop, (∀ H', Nx H' → ∃ m', m' < m ∧ W (i + 1) m' H') ∧ ∀ x H', (Its z).yld i H x H' → gName slot x (wipe σ vs) H' fun σ2 H2 => wipe σ2 vs = wipe σ vs ∧ tt σ2 H2 fun b H3 =>
        if b = true then te σ2 H3 fun y H4 => ∃ acc, H4 D = some (.lst acc) ∧ acc.length < sizeLine ∧ Nx (upd H4 D (.lst (acc ++ [y]))) else Nx H3) := by
  have size : z.cps.size = z.cps.toList.length := (Array.length_toList).symm
  have zl : z.cps.toList.length = z.length := str_len z
  refine ⟨fun i m H => m = z.cps.toList.length - i ∧ i ≤ z.cps.toList.length ∧ Same H1 H ∧ H D = some (.lst ((((z.cps.toList.take i).map sg).filter f).map V.str)), ⟨_, rfl, Nat.zero_le _, same_new hD, upd_same⟩, ?_⟩
  rintro i m H ⟨rfl, hi, sm, h⟩
  by_cases hlt : i < z.cps.toList.length
  · refine .inr ⟨(by show i < z.cps.size; rw [size]; exact hlt), fun H' => Same H1 H' ∧ H' D = some (.lst ((((z.cps.toList.take (i + 1)).map sg).filter f).map V.str)), fun H' p' => ⟨_, by omega, rfl, hlt, p'⟩, fun x H' y => ?_⟩
    obtain ⟨rfl, c, hc, rfl⟩ := y
    have hc' : z.cps.toList[i]? = some c := by
      rw [Array.getElem?_toList]
      exact hc
    have mc : c ∈ z.cps.toList := List.mem_of_getElem? hc'
    have et : ((z.cps.toList.take (i + 1)).map sg) = ((z.cps.toList.take i).map sg) ++ [sg c] := by
      rw [List.take_add_one, hc', List.map_append]
      rfl
    refine ⟨hw _, ht c _ mc sm _ fun H2 sm2 => ?_⟩
    cases e : f (sg c) with
    | true =>
      refine iteT (hs c H2 mc (sm.trans sm2) _ fun H3 sm3 => ?_)
      refine ⟨_, sm3 _ _ (sm2 _ _ h), Nat.lt_of_le_of_lt ?_ (show 100000 < sizeLine by decide), same_over ((sm.trans sm2).trans sm3) hD, ?_⟩
      · rw [List.length_map]
        have h1 := List.length_filter_le f ((z.cps.toList.take i).map sg)
        rw [List.length_map, List.length_take] at h1
        omega
      · rw [upd_same, et, List.filter_append, List.map_append]
        simp only [List.filter_cons, e, List.filter_nil, if_true, List.map_cons, List.map_nil]
    | false =>
      refine iteF ⟨sm.trans sm2, ?_⟩
      rw [et, List.filter_append]
      simp only [List.filter_cons, e, List.filter_nil, Bool.false_eq_true, if_false, List.append_nil]
      exact sm2 _ _ h
  · have e : i = z.cps.toList.length := by omega
    refine .inl ⟨(by show z.cps.size ≤ i; rw [size]; omega), hd H sm ?_⟩
    rw [e, List.take_length] at h
    exact h
theorem inV_strs {x : Str} : ∀ zs : List Str, inV (.str x) (zs.map V.str) = decide (x ∈ zs) := by
  intro zs
  unfold inV
  rw [List.any_map, Bool.eq_iff_iff, List.any_eq_true, decide_eq_true_eq]
  constructor
  · rintro ⟨y, my, e⟩
    have : y = x := by
      have e' : decide (y = x) = true := e
      exact of_decide_eq_true e'
    exact this ▸ my
  · intro m
    exact ⟨x, m, (decide_eq_true rfl : decide (x = x) = true)⟩
theorem flat_strs (zs : List Str) : (zs.map V.str).all flatV = true := by
  rw [List.all_map]
  exact List.all_eq_true.mpr fun _ _ => rfl
/-- [(z, ..) for z in zs], zs a list of texts -/
theorem lc_pairsG {K : PySem.W.Frag} {a : Addr} {zs : List Str} {slot : Nat} {te : TE} {vs : List Nat} {σ : L2.St} {H1 : Hp} {D : Addr} {Qd : Hp → Prop} (p : Int → Prop) (hD : H1 D = none) (hS : SqL K H1 a (zs.map V.str)) (hn : zs.length ≤ 100000)
    (hw : ∀ x, wipe ((wipe σ vs).set slot (some x)) vs = wipe σ vs)
    (hs : ∀ (z : Str) (H : Hp), z ∈ zs → Same H1 H → ∀ Q : VK, (∀ b v H', Same H H' → H' b = some (.tup [.str z, .int v]) → p v → Q (.ref b) H') → te ((wipe σ vs).set slot (some (.str z))) H Q)
    (hd : ∀ (H : Hp) (L : List (Str × Int)), Same H1 H → PairsAt H D L → L.map (·.1) = zs → (∀ e ∈ L, p e.2) → Qd H) :
    ∃ W : Nat → Nat → Hp → Prop, (∃ m, W 0 m (upd H1 D (.lst []))) ∧ ∀ i m H, W i m H →
      ((Itl K a).stop i H ∧ Qd H) ∨ ((Itl K a).go i H ∧ ∃ Nx : Hp → Prop, (∀ H', Nx H' → ∃ m', m' < m ∧ W (i + 1) m' H') ∧ ∀ x H', (Itl K a).yld i H x H' → gName slot x (wipe σ vs) H' fun σ2 H2 => wipe σ2 vs = wipe σ vs ∧ tYes σ2 H2 fun b H3 =>
        if b = true then te σ2 H3 fun y H4 => ∃ acc, H4 D = some (.lst acc) ∧ acc.length < sizeLine ∧ Nx (upd H4 D (.lst (acc ++ [y]))) else Nx H3) := by
  refine lc_list (K := K) (a := a) (xs := zs.map V.str) (fun i H => Same H1 H ∧ ∃ L, PairsAt H D L ∧ L.map (·.1) = zs.take i ∧ ∀ e ∈ L, p e.2) ⟨same_new hD, [], ⟨[], upd_same, .nil⟩, rfl, fun e m => (nomatch m)⟩ (fun i H _ h => h.1.seq hS) ?_ ?_
  · rintro i x H hi ⟨sm, L, ⟨ps, at_D, prs⟩, keys, good⟩
    rw [List.getElem?_map] at hi
    obtain ⟨z, hz, rfl⟩ := Option.map_eq_some_iff.mp hi
    refine ⟨hw _, ?_⟩
    simp only [tYes, reduceIte]
    refine hs z H (List.mem_of_getElem? hz) sm _ fun b v H2 sm2 at_b pv => ?_
    have at_D2 := sm2 _ _ at_D
    have nb : b ≠ D := ne_of at_b at_D2 (fun w => nomatch w)
    have lp : ps.length = L.length := Paired.length prs
    have lL : L.length ≤ zs.length := by
      have h := congrArg List.length keys
      rw [List.length_map, List.length_take] at h
      omega
    refine ⟨_, at_D2, by rw [List.length_map, sizeLine_eq]; omega, same_over (sm.trans sm2) hD, L ++ [(z, v)], ⟨ps ++ [b], ?_, ?_⟩, ?_, ?_⟩
    · rw [upd_same, List.map_append]
      rfl
    · have keep : ∀ c o, o ≠ HO.lst (ps.map V.ref) → H2 c = some o → (upd H2 D (.lst (ps.map V.ref ++ [V.ref b]))) c = some o := fun c o n e => by
        rw [upd_ne (ne_of e at_D2 n)]
        exact e
      have app : ∀ {α β : Type} {F : α → β → Prop} {as : List α} {bs : List β} {x : α} {y : β}, Paired F as bs → F x y → Paired F (as ++ [x]) (bs ++ [y]) := fun {α β F as bs x y} h f => by
        induction h with
        | nil => exact .cons f .nil
        | cons r _ ih => exact .cons r ih
      exact app (Paired.mapP prs fun c e h => keep c _ (fun w => nomatch w) (sm2 _ _ h)) (keep b _ (fun w => nomatch w) at_b)
    · rw [List.map_append, keys, List.take_add_one, hz]
      rfl
    · intro e me
      rcases List.mem_append.mp me with me | me
      · exact good e me
      · obtain rfl := List.mem_singleton.mp me
        exact pv
  · rintro H ⟨sm, L, pa, keys, good⟩
    rw [List.length_map, List.take_length] at keys
    exact hd H L sm pa keys good
/-- [(z, ..) for z in d if ..], d a locked dict -/
theorem lc_kpairsG {d : Addr} {o : Obj} {L : List (Str × Int)} {slot : Nat} {tt : TT} {te : TE} {vs : List Nat} {σ : L2.St} {H1 : Hp} {D : Addr} {Qd : Hp → Prop} (f : Str → Bool) (val : Str → Int) (hD : H1 D = none) (h0 : H1 d = some (.frz o (.dK (pr L)))) (hn : L.length ≤ 100000)
    (hw : ∀ x, wipe ((wipe σ vs).set slot (some x)) vs = wipe σ vs)
    (ht : ∀ (e : Str × Int) (H : Hp), e ∈ L → Same H1 H → ∀ Q : Bool → Hp → Prop, (∀ H', Same H H' → Q (f e.1) H') → tt ((wipe σ vs).set slot (some (.str e.1))) H Q)
    (hs : ∀ (e : Str × Int) (H : Hp), e ∈ L → f e.1 = true → Same H1 H → ∀ Q : VK, (∀ b H', Same H H' → H' b = some (.tup [.str e.1, .int (val e.1)]) → Q (.ref b) H') → te ((wipe σ vs).set slot (some (.str e.1))) H Q)
    (hd : ∀ (H : Hp), Same H1 H → PairsAt H D (((L.map (·.1)).filter f).map fun z => (z, val z)) → Qd H) :
    ∃ W : Nat → Nat → Hp → Prop, (∃ m, W 0 m (upd H1 D (.lst []))) ∧ ∀ i m H, W i m H →
      ((Itk d o (pr L)).stop i H ∧ Qd H) ∨ ((Itk d o (pr L)).go i H ∧ ∃ Nx : Hp → Prop, (∀ H', Nx H' → ∃ m', m' < m ∧ W (i + 1) m' H') ∧ ∀ x H', (Itk d o (pr L)).yld i H x H' → gName slot x (wipe σ vs) H' fun σ2 H2 => wipe σ2 vs = wipe σ vs ∧ tt σ2 H2 fun b H3 =>
        if b = true then te σ2 H3 fun y H4 => ∃ acc, H4 D = some (.lst acc) ∧ acc.length < sizeLine ∧ Nx (upd H4 D (.lst (acc ++ [y]))) else Nx H3) := by
  refine ⟨fun i m H => m = L.length - i ∧ i ≤ L.length ∧ Same H1 H ∧ PairsAt H D ((((L.take i).map (·.1)).filter f).map fun z => (z, val z)), ⟨L.length - 0, rfl, Nat.zero_le _, same_new hD, [], upd_same, .nil⟩, ?_⟩
  rintro i m H ⟨rfl, hi, sm, ps, at_D, prs⟩
  have hd' := sm _ _ h0
  by_cases hlt : i < L.length
  · refine .inr ⟨⟨hd', by rw [pr_len]; exact hlt⟩, fun H' => Same H1 H' ∧ PairsAt H' D ((((L.take (i + 1)).map (·.1)).filter f).map fun z => (z, val z)), fun H' p' => ⟨L.length - (i + 1), by omega, rfl, hlt, p'⟩, fun x H' y => ?_⟩
    obtain ⟨rfl, k, v, hk, rfl⟩ := y
    obtain ⟨e, he, rfl, rfl⟩ := pr_get hk
    have me := List.mem_of_getElem? he
    have et : ((L.take (i + 1)).map (·.1)) = ((L.take i).map (·.1)) ++ [e.1] := by
      rw [List.take_add_one, he, List.map_append]
      rfl
    refine ⟨hw _, ht e _ me sm _ fun H2 sm2 => ?_⟩
    have up : PairsAt H2 D ((((L.take i).map (·.1)).filter f).map fun z => (z, val z)) := PairsAt.up ⟨ps, at_D, prs⟩ sm2
    cases q : f e.1 with
    | false =>
      refine iteF ⟨sm.trans sm2, ?_⟩
      rw [et, List.filter_append]
      simp only [List.filter_cons, q, List.filter_nil, Bool.false_eq_true, if_false, List.append_nil]
      exact up
    | true =>
      refine iteT (hs e H2 me q (sm.trans sm2) _ fun b H3 sm3 at_b => ?_)
      have at_D3 := sm3 _ _ (sm2 _ _ at_D)
      have prs3 := Paired.mapP prs fun c z h => sm3 _ _ (sm2 _ _ h)
      have lp : ps.length ≤ L.length := by
        have h1 := Paired.length prs
        have h2 := List.length_filter_le f ((L.take i).map (·.1))
        rw [List.length_map] at h1
        rw [List.length_map, List.length_take] at h2
        omega
      refine ⟨_, at_D3, by rw [List.length_map, sizeLine_eq]; omega, same_over ((sm.trans sm2).trans sm3) hD, ps ++ [b], ?_, ?_⟩
      · rw [upd_same, List.map_append]
        rfl
      · have keep : ∀ c u, u ≠ HO.lst (ps.map V.ref) → H3 c = some u → (upd H3 D (.lst (ps.map V.ref ++ [V.ref b]))) c = some u := fun c u n w => by
          rw [upd_ne (ne_of w at_D3 n)]
          exact w
        have app : ∀ {α β : Type} {F : α → β → Prop} {as : List α} {bs : List β} {x : α} {y : β}, Paired F as bs → F x y → Paired F (as ++ [x]) (bs ++ [y]) := fun {α β F as bs x y} h f => by
          induction h with
          | nil => exact .cons f .nil
          | cons r _ ih => exact .cons r ih
        rw [et, List.filter_append, List.map_append]
        simp only [List.filter_cons, q, List.filter_nil, if_true, List.map_cons, List.map_nil]
        exact app (Paired.mapP prs3 fun c z h => keep c _ (fun w => nomatch w) h) (keep b _ (fun w => nomatch w) at_b)
  · have e : i = L.length := by omega
    refine .inl ⟨⟨hd', by rw [pr_len]; omega⟩, hd H sm ?_⟩
    have h : PairsAt H D ((((L.take i).map (·.1)).filter f).map fun z => (z, val z)) := ⟨ps, at_D, prs⟩
    rw [e, List.take_length] at h
    exact h
end Gd

/-! M9: lists of pairs shown; the rules of / and & by pieces; what is nowhere dearer -/
namespace Gd
open PySem PySem.Spec PyProof.Rows L2
def pdP (L : List (Str × Int)) : PyData := .list (L.map fun e => .tuple [.str e.1, .int e.2])
theorem dp_pairs {K : PySem.W.Frag} {H : Hp} {l : Addr} {L : List (Str × Int)} (p : PairsAt H l L) : Dp K H (.ref l) (pdP L) := by
  obtain ⟨ps, a, r⟩ := p
  refine .lst (sq_lst a) ?_
  clear a
  induction r with
  | nil => exact .nil
  | cons h _ ih => exact .cons (.tup (sq_tup h) (.cons (.str _) (.cons (.int _) .nil))) ih
theorem small_shown : ∀ i : Fin 200, (PyData.int ((i.val : Int) - 100)).shown.length ≤ 600 := by decide +kernel
theorem sh_pairs {L : List (Str × Int)} (h : L.length ≤ 100) (small : ∀ e ∈ L, (e.1.length ≤ 5 ∧ ∀ c ∈ e.1.cps.toList, low c = true) ∧ e.2.natAbs ≤ 99) : Sh (pdP L) := by
  have all : PyData.leavesShortAll 600 (L.map fun e => PyData.tuple [.str e.1, .int e.2]) = true ∧ PyData.showableAll (L.map fun e => PyData.tuple [.str e.1, .int e.2]) = true ∧ PyData.hasDictAll (L.map fun e => PyData.tuple [.str e.1, .int e.2]) = false ∧ PyData.weightAll (L.map fun e => PyData.tuple [.str e.1, .int e.2]) ≤ 20 * L.length ∧ PyData.depthAll (L.map fun e => PyData.tuple [.str e.1, .int e.2]) ≤ 1 := by
    clear h
    induction L with
    | nil => simp only [List.map_nil, PyData.leavesShortAll, PyData.showableAll, PyData.hasDictAll, PyData.weightAll, PyData.depthAll, List.length_nil, true_and, Nat.mul_zero, Nat.le_refl, Nat.zero_le, and_self]
    | cons e r ih =>
      obtain ⟨i1, i2, i3, i4, i5⟩ := ih fun f m => small f (List.mem_cons_of_mem _ m)
      obtain ⟨⟨s1, s3⟩, s2⟩ := small e (List.mem_cons_self ..)
      simp only [List.map_cons, PyData.leavesShortAll, PyData.leavesShort, PyData.showableAll, PyData.showable, PyData.hasDictAll, PyData.hasDict, PyData.weightAll, PyData.weight, PyData.depthAll, PyData.depth, i1, i2, i3, Bool.and_self, Bool.or_self, List.length_cons, true_and, Bool.and_true, Bool.true_and]
      have shown : (PyData.int e.2).shown.length ≤ 600 := by
        have h := small_shown ⟨(e.2 + 100).toNat, by omega⟩
        rw [show (((e.2 + 100).toNat : Nat) : Int) - 100 = e.2 by omega] at h
        exact h
      have lg : e.2.natAbs.log2 < 7 := by
        by_cases z : e.2.natAbs = 0
        · rw [z]
          decide
        · exact (Nat.log2_lt z).mpr (by omega)
      have sz : e.1.cps.size = e.1.length := rfl
      refine ⟨?_, decide_eq_true (by omega), ?_, by omega⟩
      · rw [decide_eq_true shown, Bool.and_true, List.all_eq_true]
        intro c mc
        have := of_decide_eq_true (s3 c mc)
        exact decide_eq_true (Nat.lt_of_le_of_lt this.2 (by decide))
      · split <;> omega
  obtain ⟨e1, e2, e3, e4, e5⟩ := all
  unfold pdP
  refine ⟨by simp only [PyData.leavesShort]; exact e1, by simp only [PyData.showable]; exact e2, by simp only [PyData.hasDict]; exact e3, ?_, ?_⟩
  · simp only [PyData.weight]
    omega
  · simp only [PyData.depth]
    omega
theorem leastL_zero (A : List (Str × Int)) (z : Str) : ∀ n, (leastL A z n).getD 0 0 = 0
  | 0 => rfl
  | n + 1 => by
    have h := leastL_zero A z n
    show (leastL A z n ++ [_]).getD 0 0 = 0
    rw [List.getD_eq_getElem?_getD, List.getElem?_append_left (by rw [leastL_len]; omega), ← List.getD_eq_getElem?_getD]
    exact h
theorem pre_all (z : Str) : pre z z.length = z := str_eq_of_lists (by rw [pre_list, List.take_of_length_le (by rw [str_len]; exact Nat.le_refl _)])
theorem ends_self (z : Str) : Txt.endswith z z = true := by
  unfold Txt.endswith
  rw [Bool.and_eq_true]
  refine ⟨decide_eq_true (by omega), ?_⟩
  rw [Nat.sub_self, PySem.StrLaws.subAt_eq, List.drop_zero, List.take_of_length_le (by rw [str_len]; exact Nat.le_refl _)]
  exact beq_iff_eq.mpr rfl
theorem least_le {A : List (Str × Int)} {z : Str} {v : Int} (h : A.lookup z = some v) (l : 1 ≤ z.length) : leastP A z ≤ v := by
  obtain ⟨n, hn⟩ : ∃ n, z.length = n + 1 := ⟨z.length - 1, by omega⟩
  unfold leastP
  rw [hn]
  show (leastL A z n ++ [minL (costsP A z (leastL A z n) (n + 1))]).getD (n + 1) 0 ≤ v
  rw [List.getD_eq_getElem?_getD, List.getElem?_append_right (by rw [leastL_len]; exact Nat.le_refl _), leastL_len, Nat.sub_self]
  show minL (costsP A z (leastL A z n) (n + 1)) ≤ v
  have m : (0 : Int) + v ∈ costsP A z (leastL A z n) (n + 1) := by
    unfold costsP
    refine List.mem_map.mpr ⟨(z, v), List.mem_filter.mpr ⟨lookup_mem h, ?_⟩, ?_⟩
    · rw [← hn, pre_all]
      exact ends_self z
    · show (leastL A z n).getD (n + 1 - z.length) 0 + v = 0 + v
      rw [hn, Nat.sub_self, leastL_zero]
  have := (minL_spec (List.ne_nil_of_mem m)).2 _ m
  omega
theorem nowhere {A M : List (Str × Int)} (h : ∀ e ∈ M, 1 ≤ e.1.length ∧ ∃ v, A.lookup e.1 = some v ∧ v ≤ e.2) : dearer A M = .non := by
  unfold dearer
  rw [List.find?_eq_none.mpr fun e me => ?_]
  obtain ⟨l, v, hv, le⟩ := h e me
  have := least_le hv l
  rw [decide_eq_true_eq]
  omega
theorem mem_sigs {L : List (Str × Int)} {z : Str} : z ∈ sigsP L ↔ ∃ x ∈ L.map (·.1), ∃ c ∈ x.cps.toList, z = sg c := by
  unfold sigsP
  rw [mem_ascT, mem_sgs]
theorem sigs_sort {L : List (Str × Int)} : sigsP (sortP L) = sigsP L := sigsP_eq fun z => by
  rw [sortP_keys]
  exact (sortT_perm _).mem_iff
section
variable {S N : List Str} {s : Str} {L M : List (Str × Int)}
theorem sigs_or (q : (M.map (·.1)).Nodup) (same : sigsP L = sigsP M) : sigsP (orP L M) = sigsP L := by
  refine ascT_eq fun z => ?_
  rw [mem_sgs, mem_sgs]
  constructor
  · rintro ⟨x, mx, r⟩
    rcases (keys_orP q).mp mx with h | h
    · exact ⟨x, h, r⟩
    · have : z ∈ sigsP L := by
        rw [same]
        exact mem_sigs.mpr ⟨x, h, r⟩
      exact mem_sigs.mp this
  · rintro ⟨x, mx, r⟩
    exact ⟨x, (keys_orP q).mpr (.inl mx), r⟩
theorem sigs_and (p : Plain S N s L) (q : Plain S N s M) (same : sigsP L = sigsP M) : sigsP (andP L M) = sigsP L := by
  refine ascT_eq fun z => ?_
  rw [mem_sgs, mem_sgs]
  constructor
  · rintro ⟨x, mx, r⟩
    exact ⟨x, (keys_andP.mp mx).1, r⟩
  · rintro ⟨x, mx, c, mc, rfl⟩
    have h1 := p.closed x mx c mc
    have h2 : sg c ∈ M.map (·.1) := by
      have : sg c ∈ sigsP M := by
        rw [← same]
        exact mem_sigs.mpr ⟨x, mx, c, mc, rfl⟩
      obtain ⟨y, my, d, md, e⟩ := mem_sigs.mp this
      have := q.closed y my d md
      rw [← e] at this
      exact this
    exact ⟨sg c, keys_andP.mpr ⟨h1, h2⟩, c, by simp, rfl⟩
end
theorem eqv_boolsAll : ∀ xs : List Bool, PyData.eqvAll (xs.map PyData.bool) (xs.map PyData.bool) = true
  | [] => by simp only [List.map_nil, PyData.eqvAll]
  | x :: r => by
    rw [List.map_cons, PyData.eqvAll, eqv_boolsAll r, Bool.and_true]
    cases x <;> rfl
theorem shaped_bools (xs : List Bool) : SeqAt.shaped (.list (xs.map PyData.bool)) = true := by
  have all : PyData.canLayAll0 (xs.map PyData.bool) = true ∧ PyData.depthAll (xs.map PyData.bool) = 0 := by
    induction xs with
    | nil => simp only [List.map_nil, PyData.canLayAll0, PyData.depthAll, and_self]
    | cons z r ih =>
      obtain ⟨i1, i2⟩ := ih
      simp only [List.map_cons, PyData.canLayAll0, PyData.canLay0, PyData.depthAll, PyData.depth, i1, i2, Bool.and_self, true_and]
      rfl
  unfold SeqAt.shaped
  rw [Bool.and_eq_true]
  refine ⟨by rw [PyData.canLay0]; exact all.1, decide_eq_true ?_⟩
  rw [PyData.depth, all.2]
  decide
theorem eqv_bools (xs : List Bool) : PyData.eqv (.list (xs.map PyData.bool)) (.list (xs.map PyData.bool)) = true := by
  rw [PyData.eqv]
  exact eqv_boolsAll xs
section
variable {L M : List (Str × Int)}
theorem lesser_le (i j : Int) : lesser i j ≤ i ∧ lesser i j ≤ j := by
  unfold lesser
  split <;> omega
theorem le_greater (i j : Int) : i ≤ greater i j ∧ j ≤ greater i j := by
  unfold greater
  split <;> omega
theorem or_left (n1 : (L.map (·.1)).Nodup) (n2 : (M.map (·.1)).Nodup) (l : ∀ z ∈ L.map (·.1), 1 ≤ z.length) : dearer (sortP (orP L M)) L = .non := nowhere fun e me => by
  refine ⟨l e.1 (List.mem_map.mpr ⟨e, me, rfl⟩), ?_⟩
  rw [lookup_sortP (orP_nodup M L n1), lookup_orP n2, lookup_nodup n1 e me]
  cases M.lookup e.1 with
  | none => exact ⟨e.2, rfl, Int.le_refl _⟩
  | some j => exact ⟨_, rfl, (lesser_le j e.2).2⟩
theorem or_right (n1 : (L.map (·.1)).Nodup) (n2 : (M.map (·.1)).Nodup) (l : ∀ z ∈ M.map (·.1), 1 ≤ z.length) : dearer (sortP (orP L M)) M = .non := nowhere fun e me => by
  refine ⟨l e.1 (List.mem_map.mpr ⟨e, me, rfl⟩), ?_⟩
  rw [lookup_sortP (orP_nodup M L n1), lookup_orP n2, lookup_nodup n2 e me]
  cases L.lookup e.1 with
  | none => exact ⟨e.2, rfl, Int.le_refl _⟩
  | some i => exact ⟨_, rfl, (lesser_le e.2 i).1⟩
theorem and_look (n1 : (L.map (·.1)).Nodup) {e : Str × Int} (me : e ∈ sortP (andP L M)) : ∃ i j, L.lookup e.1 = some i ∧ M.lookup e.1 = some j ∧ e.2 = greater i j := by
  have h := lookup_nodup (andP_nodup (M := M) n1) e ((mem_sortP (andP_nodup n1)).mp me)
  rw [lookup_andP] at h
  cases e1 : L.lookup e.1 with
  | none =>
    rw [e1] at h
    cases h
  | some i =>
    cases e2 : M.lookup e.1 with
    | none =>
      rw [e1, e2] at h
      cases h
    | some j =>
      rw [e1, e2] at h
      exact ⟨i, j, rfl, rfl, (Option.some.inj h).symm⟩
theorem and_left (n1 : (L.map (·.1)).Nodup) (l : ∀ z ∈ L.map (·.1), 1 ≤ z.length) : dearer L (sortP (andP L M)) = .non := nowhere fun e me => by
  obtain ⟨i, j, h1, h2, h3⟩ := and_look n1 me
  exact ⟨l e.1 (mem_look.mpr (by rw [h1]; rfl)), i, h1, by rw [h3]; exact (le_greater i j).1⟩
theorem and_right (n1 : (L.map (·.1)).Nodup) (l : ∀ z ∈ L.map (·.1), 1 ≤ z.length) : dearer M (sortP (andP L M)) = .non := nowhere fun e me => by
  obtain ⟨i, j, h1, h2, h3⟩ := and_look n1 me
  exact ⟨l e.1 (mem_look.mpr (by rw [h1]; rfl)), j, h2, by rw [h3]; exact (le_greater i j).2⟩
end
end Gd

/-! M10: the rules of / and & -/
namespace Gd
open PySem PySem.Spec PyProof.Rows L2
section
variable {S N : List Str} {s : Str} {L M : List (Str × Int)}
theorem lkO (p : Plain S N s L) (q : Plain S N s M) (z : Str) : (sortP (orP L M)).lookup z = orO (L.lookup z) (M.lookup z) := by rw [lookup_sortP (orP_nodup M L p.nd), lookup_orP q.nd]
theorem lkA (p : Plain S N s L) (_ : Plain S N s M) (z : Str) : (sortP (andP L M)).lookup z = andO (L.lookup z) (M.lookup z) := by rw [lookup_sortP (andP_nodup p.nd), lookup_andP]
end
theorem lesser_min (i j : Int) : lesser i j = min i j := by
  unfold lesser
  split <;> omega
theorem greater_max (i j : Int) : greater i j = max i j := by
  unfold greater
  split <;> omega
theorem orO_comm (a b : Option Int) : orO a b = orO b a := by
  cases a <;> cases b <;> simp only [orO, lesser_min] <;> (congr 1; omega)
theorem andO_comm (a b : Option Int) : andO a b = andO b a := by
  cases a <;> cases b <;> simp only [andO, greater_max] <;> (congr 1; omega)
theorem orO_idem (a : Option Int) : orO a a = a := by
  cases a <;> simp only [orO, lesser_min] <;> (congr 1; omega)
theorem andO_idem (a : Option Int) : andO a a = a := by
  cases a <;> simp only [andO, greater_max] <;> (congr 1; omega)
theorem orO_assoc (a b c : Option Int) : orO (orO a b) c = orO a (orO b c) := by
  cases a <;> cases b <;> cases c <;> simp only [orO, lesser_min] <;> (congr 1; omega)
theorem andO_assoc (a b c : Option Int) : andO (andO a b) c = andO a (andO b c) := by
  cases a <;> cases b <;> cases c <;> simp only [andO, greater_max] <;> (congr 1; omega)
theorem abs1 (a b : Option Int) : orO a (andO a b) = a := by
  cases a <;> cases b <;> simp only [orO, andO, lesser_min, greater_max] <;> (congr 1; omega)
theorem abs2 (a b : Option Int) : andO a (orO a b) = a := by
  cases a <;> cases b <;> simp only [orO, andO, lesser_min, greater_max] <;> (congr 1; omega)
theorem dist1 (a b c : Option Int) : andO a (orO b c) = orO (andO a b) (andO a c) := by
  cases a <;> cases b <;> cases c <;> simp only [orO, andO, lesser_min, greater_max] <;> (congr 1; omega)
theorem dist2 (a b c : Option Int) : orO a (andO b c) = andO (orO a b) (orO a c) := by
  cases a <;> cases b <;> cases c <;> simp only [orO, andO, lesser_min, greater_max] <;> (congr 1; omega)
theorem or_and (a b : Option Int) : orO a b = a ↔ andO a b = b := by
  cases a <;> cases b <;> simp only [orO, andO, lesser_min, greater_max, reduceCtorEq, Option.some.injEq] <;> omega
section
variable {S N : List Str} {s : Str} {L M : List (Str × Int)}
theorem same_truth (p : Plain S N s L) (q : Plain S N s M) : eqPr (sortP (orP L M)) L = eqPr (sortP (andP L M)) M := by
  rw [Bool.eq_iff_iff, eqPr_iff (p.or q).sort.nd p.nd, eqPr_iff (p.and q).sort.nd q.nd]
  constructor
  · intro h z
    rw [lkA p q]
    have := h z
    rw [lkO p q] at this
    exact (or_and _ _).mp this
  · intro h z
    rw [lkO p q]
    have := h z
    rw [lkA p q] at this
    exact (or_and _ _).mpr this
end
/-- what stands besides a list that changes -/
theorem BookAt.upB {C : Addr} {H H' : Hp} {b D : Addr} {l : List V} {L : List (Str × Int)} (B : BookAt C H b L) (hD : H D = some (.lst l)) (k : SameB D H H') : BookAt C H' b L := by
  obtain ⟨⟨dx, d, t, al, m, n, h1, h2, h3, h4, h5⟩, r1, r2, r3⟩ := B
  exact ⟨⟨dx, d, t, al, m, n, k _ _ (ne_of h1 hD (fun z => nomatch z)) h1, k _ _ (ne_of h2 hD (fun z => nomatch z)) h2, k _ _ (ne_of h3 hD (fun z => nomatch z)) h3, k _ _ (ne_of h4 hD (fun z => nomatch z)) h4, h5⟩, r1, r2, r3⟩
/-- [.. for x in xs], each item told by what it has to do with x -/
theorem lc_relG {K : PySem.W.Frag} {a : Addr} {xs : List V} {slot : Nat} {te : TE} {vs : List Nat} {σ : L2.St} {H1 : Hp} {D : Addr} {Qd : Hp → Prop} (Rel : V → V → Hp → Prop) (mono : ∀ x y H H', Same H H' → Rel x y H → Rel x y H') (mono2 : ∀ x y H l o, H D = some (.lst l) → Rel x y H → Rel x y (upd H D o)) (hD : H1 D = none) (hS : SqL K H1 a xs) (hn : xs.length ≤ 100000)
    (hw : ∀ x, wipe ((wipe σ vs).set slot (some x)) vs = wipe σ vs)
    (hs : ∀ (x : V) (H : Hp), x ∈ xs → Same H1 H → ∀ Q : VK, (∀ y H', Same H H' → Rel x y H' → Q y H') → te ((wipe σ vs).set slot (some x)) H Q)
    (hd : ∀ (H : Hp) (ys : List V), Same H1 H → H D = some (.lst ys) → Paired (fun x y => Rel x y H) xs ys → Qd H) :
    ∃ W : Nat → Nat → Hp → Prop, (∃ m, W 0 m (upd H1 D (.lst []))) ∧ ∀ i m H, W i m H →
      ((Itl K a).stop i H ∧ Qd H) ∨ ((Itl K a).go i H ∧ ∃ Nx : Hp → Prop, (∀ H', Nx H' → ∃ m', m' < m ∧ W (i + 1) m' H') ∧ ∀ x H', (Itl K a).yld i H x H' → gName slot x (wipe σ vs) H' fun σ2 H2 => wipe σ2 vs = wipe σ vs ∧ tYes σ2 H2 fun b H3 =>
        if b = true then te σ2 H3 fun y H4 => ∃ acc, H4 D = some (.lst acc) ∧ acc.length < sizeLine ∧ Nx (upd H4 D (.lst (acc ++ [y]))) else Nx H3) := by
  refine lc_list (K := K) (a := a) (xs := xs) (fun i H => Same H1 H ∧ ∃ ys, H D = some (.lst ys) ∧ Paired (fun x y => Rel x y H) (xs.take i) ys) ⟨same_new hD, [], upd_same, .nil⟩ (fun i H _ h => h.1.seq hS) ?_ ?_
  · rintro i x H hi ⟨sm, ys, h, prs⟩
    refine ⟨hw _, ?_⟩
    simp only [tYes, reduceIte]
    refine hs x H (List.mem_of_getElem? hi) sm _ fun y H2 sm2 rel => ?_
    have h2 := sm2 _ _ h
    have app : ∀ {α β : Type} {F : α → β → Prop} {as : List α} {bs : List β} {x : α} {y : β}, Paired F as bs → F x y → Paired F (as ++ [x]) (bs ++ [y]) := fun {α β F as bs x y} h f => by
      induction h with
      | nil => exact .cons f .nil
      | cons r _ ih => exact .cons r ih
    have lp : ys.length ≤ xs.length := by
      have h1 := Paired.length prs
      rw [List.length_take] at h1
      omega
    refine ⟨ys, h2, by rw [sizeLine_eq]; omega, same_over (sm.trans sm2) hD, ys ++ [y], upd_same, ?_⟩
    rw [List.take_add_one, hi]
    exact app (Paired.mapP prs fun x y r => mono2 _ _ _ _ _ h2 (mono _ _ _ _ sm2 r)) (mono2 _ _ _ _ _ h2 rel)
  · rintro H ⟨sm, ys, h, prs⟩
    rw [List.take_length] at prs
    exact hd H ys sm h prs
theorem pr_inj : ∀ {L M : List (Str × Int)}, pr L = pr M → L = M
  | [], [], _ => rfl
  | [], _ :: _, h => by cases h
  | _ :: _, [], h => by cases h
  | (k, v) :: r, (k', v') :: r', h => by
    have h' : ((Sum.inr k : Key), V.int v) :: pr r = ((Sum.inr k' : Key), V.int v') :: pr r' := h
    injection h' with h1 h2
    injection h1 with h3 h4
    injection h3 with h5
    injection h4 with h6
    rw [h5, h6, pr_inj h2]
theorem paired3 {α β : Type} {F : α → β → Prop} {a b c : α} {ys : List β} (h : Paired F [a, b, c] ys) : ∃ x y z, ys = [x, y, z] ∧ F a x ∧ F b y ∧ F c z := by
  cases h with
  | cons r1 t1 =>
    cases t1 with
    | cons r2 t2 =>
      cases t2 with
      | cons r3 t3 =>
        cases t3
        exact ⟨_, _, _, rfl, r1, r2, r3⟩
theorem isRef {b : Addr} {v : V} (h : v = V.ref b) : v = V.ref b := h
end Gd

/-! Gd21: z.endswith(y, 0, n); comprehensions over the keys of a locked dict. -/
namespace Gd
open PySem PySem.Spec PySem.Builtin PySem.Builtin.Str PyProof.Rows L2 L2.DX
theorem gives_ends_within (x y : Str) (i j : Int) (t u v w' : Tok) : Gives («str.endswith» ⟨[.str x t, .str y u, .int i v, .int j w'], []⟩) (.val (.bool (fromIndex x.length i + y.length ≤ toIndexW x.length j && subAt x y (toIndexW x.length j - y.length)))) := by
  show Gives (ret (.bool (fromIndex x.length i + y.length ≤ toIndexW x.length j && subAt x y (toIndexW x.length j - y.length)))) _
  exact .of_eq rfl
theorem ends_within (x y : Str) (n : Nat) (h : n ≤ x.length) : (decide (fromIndex x.length 0 + y.length ≤ toIndexW x.length (n : Int)) && subAt x y (toIndexW x.length (n : Int) - y.length)) = Txt.endswith (pre x n) y := by
  have e1 : fromIndex x.length 0 = 0 := rfl
  have e2 : toIndexW x.length (n : Int) = n := by
    unfold toIndexW
    rw [if_neg (by omega)]
    omega
  unfold Txt.endswith
  rw [e1, e2, pre_len h]
  by_cases l : 0 + y.length ≤ n
  · rw [decide_eq_true l]
    congr 1
    rw [PySem.StrLaws.subAt_eq, PySem.StrLaws.subAt_eq, pre_list, List.drop_take, List.take_take]
    congr 2
    omega
  · rw [decide_eq_false l]
    rfl
section
variable {X : Cx}
theorem mt_endswith4 : MtR X "str.endswith" (fun x xs H Q => ∃ (a b : Str) (i j : Int), x = .str a ∧ xs = [.str b, .int i, .int j] ∧ Q (.bl (decide (fromIndex a.length i + b.length ≤ toIndexW a.length j) && subAt a b (toIndexW a.length j - b.length))) H) :=
  mt1II (g := fun a b i j => .bl (decide (fromIndex a.length i + b.length ≤ toIndexW a.length j) && subAt a b (toIndexW a.length j - b.length))) fun a b i j t u z y s _ h =>
    call_gives PySem.F.slot_str_endswith (typeIs_str _ _ _) PySem.F.entry_str_endswith (PySem.F.args_str_endswith_4 _ _ _ _) (gives_ends_within a b i j t u z y) (h _ s.toks rfl)
end
/-- [.. for z in d if ..], d a locked dict -/
theorem lc_keysG {d : Addr} {o : Obj} {L : List (Str × Int)} {slot : Nat} {tt : TT} {te : TE} {vs : List Nat} {σ : L2.St} {H1 : Hp} {D : Addr} {Qd : Hp → Prop} (f : Str → Bool) (g : Str → V) (hD : H1 D = none) (h0 : H1 d = some (.frz o (.dK (pr L)))) (hn : L.length ≤ 100000)
    (hw : ∀ x, wipe ((wipe σ vs).set slot (some x)) vs = wipe σ vs)
    (ht : ∀ (e : Str × Int) (H : Hp), e ∈ L → Same H1 H → ∀ Q : Bool → Hp → Prop, (∀ H', Same H H' → Q (f e.1) H') → tt ((wipe σ vs).set slot (some (.str e.1))) H Q)
    (hs : ∀ (e : Str × Int) (H : Hp), e ∈ L → f e.1 = true → Same H1 H → ∀ Q : VK, (∀ H', Same H H' → Q (g e.1) H') → te ((wipe σ vs).set slot (some (.str e.1))) H Q)
    (hd : ∀ (H : Hp), Same H1 H → H D = some (.lst (((L.map (·.1)).filter f).map g)) → Qd H) :
    ∃ W : Nat → Nat → Hp → Prop, (∃ m, W 0 m (upd H1 D (.lst []))) ∧ ∀ i m H, W i m H →
      ((Itk d o (pr L)).stop i H ∧ Qd H) ∨ ((Itk d o (pr L)).go i H ∧ ∃ Nx : Hp → Prop, (∀ H', Nx H' → ∃ m', m' < m ∧ W (i + 1) m' H') ∧ ∀ x H', (Itk d o (pr L)).yld i H x H' → gName slot x (wipe σ vs) H' fun σ2 H2 => wipe σ2 vs = wipe σ vs ∧ tt σ2 H2 fun b H3 =>
        if b = true then te σ2 H3 fun y H4 => ∃ acc, H4 D = some (.lst acc) ∧ acc.length < sizeLine ∧ Nx (upd H4 D (.lst (acc ++ [y]))) else Nx H3) := by
  refine ⟨fun i m H => m = L.length - i ∧ i ≤ L.length ∧ Same H1 H ∧ H D = some (.lst ((((L.take i).map (·.1)).filter f).map g)), ⟨L.length - 0, rfl, Nat.zero_le _, same_new hD, upd_same⟩, ?_⟩
  rintro i m H ⟨rfl, hi, sm, at_D⟩
  have hd' := sm _ _ h0
  by_cases hlt : i < L.length
  · refine .inr ⟨⟨hd', by rw [pr_len]; exact hlt⟩, fun H' => Same H1 H' ∧ H' D = some (.lst ((((L.take (i + 1)).map (·.1)).filter f).map g)), fun H' p' => ⟨L.length - (i + 1), by omega, rfl, hlt, p'⟩, fun x H' y => ?_⟩
    obtain ⟨rfl, k, v, hk, rfl⟩ := y
    obtain ⟨e, he, rfl, rfl⟩ := pr_get hk
    have me := List.mem_of_getElem? he
    have et : ((L.take (i + 1)).map (·.1)) = ((L.take i).map (·.1)) ++ [e.1] := by
      rw [List.take_add_one, he, List.map_append]
      rfl
    refine ⟨hw _, ht e _ me sm _ fun H2 sm2 => ?_⟩
    have at_D2 := sm2 _ _ at_D
    cases q : f e.1 with
    | false =>
      refine iteF ⟨sm.trans sm2, ?_⟩
      rw [et, List.filter_append]
      simp only [List.filter_cons, q, List.filter_nil, Bool.false_eq_true, if_false, List.append_nil]
      exact at_D2
    | true =>
      refine iteT (hs e H2 me q (sm.trans sm2) _ fun H3 sm3 => ?_)
      have at_D3 := sm3 _ _ at_D2
      refine ⟨_, at_D3, ?_, same_over ((sm.trans sm2).trans sm3) hD, ?_⟩
      · have h2 := List.length_filter_le f ((L.take i).map (·.1))
        rw [List.length_map, List.length_take] at h2
        rw [List.length_map, sizeLine_eq]
        omega
      · rw [upd_same, et, List.filter_append, List.map_append]
        simp only [List.filter_cons, q, List.filter_nil, if_true, List.map_cons, List.map_nil]
  · have e : i = L.length := by omega
    refine .inl ⟨⟨hd', by rw [pr_len]; omega⟩, hd H sm ?_⟩
    rw [e, List.take_length] at at_D
    exact at_D
end Gd

/-! M11: least prices by their last pieces; books nowhere dearer, for all texts -/
namespace Gd
open PySem PySem.Spec PyProof.Rows L2
theorem app_assoc (a b c : Str) : (a ++ b) ++ c = a ++ (b ++ c) := str_eq_of_lists (by rw [app_list, app_list, app_list, app_list, List.append_assoc])
theorem nil_of_len {z : Str} (h : z.length = 0) : z = Str.ofString "" := str_eq_of_lists (by
  have : z.cps.toList = [] := List.length_eq_zero_iff.mp (by rw [str_len]; exact h)
  rw [this]
  rfl)
theorem nil_app (z : Str) : Str.ofString "" ++ z = z := str_eq_of_lists (by rw [app_list]; rfl)
theorem app_nil (z : Str) : z ++ Str.ofString "" = z := str_eq_of_lists (by
  rw [app_list]
  exact List.append_nil _)
theorem pre_app (x y : Str) : pre (x ++ y) x.length = x := str_eq_of_lists (by rw [pre_list, app_list, ← str_len, List.take_left])
theorem pre_pre {z : Str} {m n : Nat} (h : m ≤ n) : pre (pre z n) m = pre z m := str_eq_of_lists (by rw [pre_list, pre_list, pre_list, List.take_take, Nat.min_eq_left h])
theorem ends_iff {z y : Str} : Txt.endswith z y = true ↔ ∃ x, z = x ++ y := by
  unfold Txt.endswith
  rw [Bool.and_eq_true, decide_eq_true_eq, Nat.zero_add]
  constructor
  · rintro ⟨l, h⟩
    refine ⟨pre z (z.length - y.length), str_eq_of_lists ?_⟩
    rw [PySem.StrLaws.subAt_eq] at h
    have e := beq_iff_eq.mp h
    rw [app_list, pre_list, ← e]
    rw [List.take_of_length_le (l := z.cps.toList.drop _) (by rw [List.length_drop, str_len]; omega), List.take_append_drop]
  · rintro ⟨x, rfl⟩
    refine ⟨by rw [app_len]; omega, ?_⟩
    rw [PySem.StrLaws.subAt_eq, app_len, Nat.add_sub_cancel, app_list, ← str_len x, List.drop_left, List.take_of_length_le (by rw [str_len]; exact Nat.le_refl _)]
    exact beq_iff_eq.mpr rfl
/-- the signs from i to j -/
def seg (z : Str) (i j : Nat) : Str := cutS z (some (i : Int)) (some (j : Int))
theorem sIx_n (n d k : Nat) : HT.sIx n d (some (k : Int)) = min k n := HT.sIx_nat n d k
theorem seg_list {z : Str} {i j : Nat} (h : i ≤ j) (hj : j ≤ z.length) : (seg z i j).cps.toList = (z.cps.toList.drop i).take (j - i) := by
  unfold seg
  rw [cutS_list, sIx_n, sIx_n, Nat.min_eq_left (show i ≤ z.length by omega), Nat.min_eq_left hj]
theorem seg_len {z : Str} {i j : Nat} (h : i ≤ j) (hj : j ≤ z.length) : (seg z i j).length = j - i := by
  rw [← str_len, seg_list h hj, List.length_take, List.length_drop, str_len]
  omega
theorem pre_seg {z : Str} {i j : Nat} (h : i ≤ j) (hj : j ≤ z.length) : pre z j = pre z i ++ seg z i j := str_eq_of_lists (by
  rw [app_list, pre_list, pre_list, seg_list h hj, List.take_add.symm.trans (congrArg (fun n => z.cps.toList.take n) (show i + (j - i) = j by omega))])
/-- the signs from i on -/
def suf (z : Str) (i : Nat) : Str := cutS z (some (i : Int)) none
theorem suf_seg (z : Str) (i : Nat) : suf z i = seg z i z.length := str_eq_of_lists (by
  unfold suf seg
  rw [cutS_list, cutS_list, sIx_n, sIx_n, Nat.min_self]
  rfl)
section
variable {L M : List (Str × Int)}
theorem leastL_at (L : List (Str × Int)) (z : Str) {k : Nat} : ∀ {n}, k ≤ n → (leastL L z n).getD k 0 = (leastL L z k).getD k 0
  | 0, h => by
    obtain rfl : k = 0 := by omega
    rfl
  | n + 1, h => by
    by_cases e : k = n + 1
    · rw [e]
    · have h' : k ≤ n := by omega
      show (leastL L z n ++ [_]).getD k 0 = _
      rw [List.getD_eq_getElem?_getD, List.getElem?_append_left (by rw [leastL_len]; omega), ← List.getD_eq_getElem?_getD]
      exact leastL_at L z h'
theorem leastL_pre (L : List (Str × Int)) (z : Str) {m : Nat} : ∀ {n}, n ≤ m → leastL L (pre z m) n = leastL L z n
  | 0, _ => rfl
  | n + 1, h => by
    show leastL L (pre z m) n ++ [minL (costsP L (pre z m) (leastL L (pre z m) n) (n + 1))] = leastL L z n ++ [minL (costsP L z (leastL L z n) (n + 1))]
    have ih : leastL L (pre z m) n = leastL L z n := leastL_pre L z (by omega)
    have el : lastP L (pre z m) (n + 1) = lastP L z (n + 1) := by
      unfold lastP
      rw [pre_pre h]
    unfold costsP
    rw [ih, el]
theorem leastP_pre (L : List (Str × Int)) {z : Str} {n : Nat} (h : n ≤ z.length) : leastP L (pre z n) = (leastL L z n).getD n 0 := by
  unfold leastP
  rw [pre_len h, leastL_pre L z (Nat.le_refl n)]
theorem leastP_nil (L : List (Str × Int)) : leastP L (Str.ofString "") = 0 := rfl
theorem costs_mem {z : Str} {n : Nat} (hz : z.length = n + 1) {v : Int} (hp : ∀ e ∈ L, 1 ≤ e.1.length) : v ∈ costsP L z (leastL L z n) (n + 1) ↔ ∃ x e, e ∈ L ∧ z = x ++ e.1 ∧ v = leastP L x + e.2 := by
  unfold costsP lastP
  rw [List.mem_map]
  have pz : pre z (n + 1) = z := by rw [← hz]; exact pre_all z
  constructor
  · rintro ⟨e, me, rfl⟩
    obtain ⟨m1, m2⟩ := List.mem_filter.mp me
    rw [pz] at m2
    obtain ⟨x, rfl⟩ := ends_iff.mp m2
    refine ⟨x, e, m1, rfl, ?_⟩
    have l1 := hp e m1
    rw [app_len] at hz
    have ex : n + 1 - e.1.length = x.length := by omega
    have := leastP_pre L (z := x ++ e.1) (n := x.length) (by rw [app_len]; omega)
    rw [pre_app] at this
    rw [ex, leastL_at L _ (show x.length ≤ n by omega), ← this]
  · rintro ⟨x, e, m1, rfl, rfl⟩
    refine ⟨e, List.mem_filter.mpr ⟨m1, ?_⟩, ?_⟩
    · rw [pz]
      exact ends_iff.mpr ⟨x, rfl⟩
    · have l1 := hp e m1
      rw [app_len] at hz
      have ex : n + 1 - e.1.length = x.length := by omega
      have := leastP_pre L (z := x ++ e.1) (n := x.length) (by rw [app_len]; omega)
      rw [pre_app] at this
      rw [ex, leastL_at L _ (show x.length ≤ n by omega), ← this]
theorem leastP_succ (L : List (Str × Int)) {z : Str} {n : Nat} (hz : z.length = n + 1) : leastP L z = minL (costsP L z (leastL L z n) (n + 1)) := by
  unfold leastP
  rw [hz]
  show (leastL L z n ++ [minL (costsP L z (leastL L z n) (n + 1))]).getD (n + 1) 0 = _
  rw [List.getD_eq_getElem?_getD, List.getElem?_append_right (by rw [leastL_len]; exact Nat.le_refl _), leastL_len, Nat.sub_self]
  rfl
theorem leastL_snoc (L : List (Str × Int)) {z : Str} {n : Nat} (h : n + 1 ≤ z.length) : leastL L z (n + 1) = leastL L z n ++ [leastP L (pre z (n + 1))] := by
  rw [leastP_pre L h]
  show leastL L z n ++ [minL (costsP L z (leastL L z n) (n + 1))] = leastL L z n ++ [(leastL L z n ++ [minL (costsP L z (leastL L z n) (n + 1))]).getD (n + 1) 0]
  rw [List.getD_eq_getElem?_getD, List.getElem?_append_right (by rw [leastL_len]; exact Nat.le_refl _), leastL_len, Nat.sub_self]
  rfl
/-- each sign of the text is a piece -/
def Cov (L : List (Str × Int)) (z : Str) : Prop := ∀ c ∈ z.cps.toList, sg c ∈ L.map (·.1)
theorem Cov.left {x y : Str} (h : Cov L (x ++ y)) : Cov L x := fun c m => h c (by rw [app_list]; exact List.mem_append.mpr (.inl m))
theorem Cov.right {x y : Str} (h : Cov L (x ++ y)) : Cov L y := fun c m => h c (by rw [app_list]; exact List.mem_append.mpr (.inr m))
theorem Cov.pre {z : Str} (h : Cov L z) (n : Nat) : Cov L (pre z n) := fun c m => h c (by
  rw [pre_list] at m
  exact List.mem_of_mem_take m)
theorem least_step (hp : ∀ e ∈ L, 1 ≤ e.1.length) {x : Str} {e : Str × Int} (m : e ∈ L) : leastP L (x ++ e.1) ≤ leastP L x + e.2 := by
  have l1 := hp e m
  obtain ⟨n, hn⟩ : ∃ n, (x ++ e.1).length = n + 1 := ⟨(x ++ e.1).length - 1, by rw [app_len]; omega⟩
  rw [leastP_succ L hn]
  have mc := (costs_mem hn hp (v := leastP L x + e.2)).mpr ⟨x, e, m, rfl, rfl⟩
  exact (minL_spec (List.ne_nil_of_mem mc)).2 _ mc
theorem least_last (hp : ∀ e ∈ L, 1 ≤ e.1.length) {z : Str} (hz : z.length ≠ 0) (cov : Cov L z) : ∃ x e, e ∈ L ∧ z = x ++ e.1 ∧ leastP L z = leastP L x + e.2 := by
  obtain ⟨n, hn⟩ : ∃ n, z.length = n + 1 := ⟨z.length - 1, by omega⟩
  rw [leastP_succ L hn]
  refine (costs_mem hn hp).mp (minL_spec ?_).1
  have := last_ne (L := L) (z := z) cov n (by omega)
  unfold costsP
  exact fun h => this (List.map_eq_nil_iff.mp h)
theorem least_app (hp : ∀ e ∈ L, 1 ≤ e.1.length) (x : Str) : ∀ n, ∀ y : Str, y.length ≤ n → Cov L y → leastP L (x ++ y) ≤ leastP L x + leastP L y
  | 0, y, h, _ => by
    have : y = Str.ofString "" := nil_of_len (by omega)
    rw [this, app_nil, leastP_nil]
    omega
  | n + 1, y, h, cov => by
    by_cases e0 : y.length = 0
    · have : y = Str.ofString "" := nil_of_len e0
      rw [this, app_nil, leastP_nil]
      omega
    · obtain ⟨x', e, me, rfl, el⟩ := least_last hp e0 cov
      have l1 := hp e me
      rw [app_len] at h
      have ih := least_app hp x n x' (by omega) cov.left
      have st := least_step hp (x := x ++ x') me
      rw [app_assoc] at st
      omega
theorem least_one (hp : ∀ e ∈ L, 1 ≤ e.1.length) {e : Str × Int} (m : e ∈ L) : leastP L e.1 ≤ e.2 := by
  have := least_step hp (x := Str.ofString "") m
  rw [nil_app, leastP_nil] at this
  omega
/-- nowhere dearer by pieces: nowhere dearer by texts -/
theorem least_all (h : ∀ e ∈ M, leastP L e.1 ≤ e.2) (hl : ∀ e ∈ L, 1 ≤ e.1.length) (hm : ∀ e ∈ M, 1 ≤ e.1.length) : ∀ n, ∀ z : Str, z.length ≤ n → Cov L z → Cov M z → leastP L z ≤ leastP M z
  | 0, z, l, _, _ => by
    have : z = Str.ofString "" := nil_of_len (by omega)
    rw [this]
    exact Int.le_refl _
  | n + 1, z, l, c1, c2 => by
    by_cases e0 : z.length = 0
    · have : z = Str.ofString "" := nil_of_len e0
      rw [this]
      exact Int.le_refl _
    · obtain ⟨x, e, me, rfl, el⟩ := least_last hm e0 c2
      have l1 := hm e me
      rw [app_len] at l
      have ih := least_all h hl hm n x (by omega) c1.left c2.left
      have st := least_app hl x e.1.length e.1 (Nat.le_refl _) c1.right
      have := h e me
      omega
theorem least_same (hl : ∀ e ∈ L, 1 ≤ e.1.length) (hm : ∀ e ∈ M, 1 ≤ e.1.length) (h : ∀ e, e ∈ L ↔ e ∈ M) {z : Str} (c : Cov L z) : leastP L z = leastP M z := by
  have c2 : Cov M z := fun k mk => by
    obtain ⟨e, me, ee⟩ := List.mem_map.mp (c k mk)
    exact List.mem_map.mpr ⟨e, (h e).mp me, ee⟩
  exact Int.le_antisymm (least_all (fun e me => least_one hl ((h e).mpr me)) hl hm _ z (Nat.le_refl _) c c2) (least_all (fun e me => least_one hm ((h e).mp me)) hm hl _ z (Nat.le_refl _) c2 c)
theorem dearer_non : dearer L M = .non ↔ ∀ e ∈ M, leastP L e.1 ≤ e.2 := by
  unfold dearer
  constructor
  · intro h e me
    cases q : M.find? fun e => decide (e.2 < leastP L e.1) with
    | some f =>
      rw [q] at h
      cases h
    | none =>
      have := List.find?_eq_none.mp q e me
      rw [decide_eq_true_eq] at this
      omega
  · intro h
    rw [List.find?_eq_none.mpr fun e me => ?_]
    rw [decide_eq_true_eq]
    have := h e me
    omega
/-- the costs of the last pieces that begin from lo on, by the law -/
def costJ (L : List (Str × Int)) (z : Str) (f : Nat → Int) (lo j stop : Nat) : List Int := (List.range j).filterMap fun i => (L.lookup (seg z (lo + i) stop)).map fun v => f (lo + i) + v
theorem costJ_succ (L : List (Str × Int)) (z : Str) (f : Nat → Int) (lo j stop : Nat) : costJ L z f lo (j + 1) stop = costJ L z f lo j stop ++ (match L.lookup (seg z (lo + j) stop) with | some v => [f (lo + j) + v] | none => []) := by
  unfold costJ
  rw [List.range_succ, List.filterMap_append]
  congr 1
  rw [List.filterMap_cons, List.filterMap_nil]
  cases L.lookup (seg z (lo + j) stop) <;> rfl
theorem costJ_len (L : List (Str × Int)) (z : Str) (f : Nat → Int) (lo j stop : Nat) : (costJ L z f lo j stop).length ≤ j := by
  have := List.length_filterMap_le (fun i => (L.lookup (seg z (lo + i) stop)).map fun v => f (lo + i) + v) (List.range j)
  rw [List.length_range] at this
  exact this
theorem costJ_min (nd : (L.map (·.1)).Nodup) (hp : ∀ e ∈ L, 1 ≤ e.1.length ∧ e.1.length ≤ 5) {z : Str} {stop : Nat} (h1 : 1 ≤ stop) (h2 : stop ≤ z.length) {f : Nat → Int} (hf : ∀ s, s < stop → f s = leastP L (pre z s)) (cov : Cov L (pre z stop)) :
    costJ L z f (stop - 5) (stop - (stop - 5)) stop ≠ [] ∧ minL (costJ L z f (stop - 5) (stop - (stop - 5)) stop) = leastP L (pre z stop) := by
  have hl : ∀ e ∈ L, 1 ≤ e.1.length := fun e m => (hp e m).1
  have mem : leastP L (pre z stop) ∈ costJ L z f (stop - 5) (stop - (stop - 5)) stop := by
    obtain ⟨x, e, me, ez, el⟩ := least_last hl (z := pre z stop) (by rw [pre_len h2]; omega) cov
    have le := hp e me
    have lz := congrArg Str.length ez
    rw [pre_len h2, app_len] at lz
    have ex : x = pre z x.length := by
      have h : pre (pre z stop) x.length = pre (x ++ e.1) x.length := congrArg (fun w => pre w x.length) ez
      rw [pre_app, pre_pre (by omega)] at h
      exact h.symm
    have es : seg z x.length stop = e.1 := by
      have h := pre_seg (z := z) (i := x.length) (j := stop) (by omega) h2
      rw [ez, ← ex] at h
      have h' : (x ++ e.1).cps.toList = (x ++ seg z x.length stop).cps.toList := congrArg (fun w : Str => w.cps.toList) h
      rw [app_list, app_list] at h'
      exact (str_eq_of_lists (List.append_cancel_left h')).symm
    unfold costJ
    rw [List.mem_filterMap]
    refine ⟨x.length - (stop - 5), List.mem_range.mpr (by omega), ?_⟩
    rw [show stop - 5 + (x.length - (stop - 5)) = x.length by omega, es, lookup_nodup nd e me, hf _ (by omega), ← ex, el]
    rfl
  refine ⟨List.ne_nil_of_mem mem, (minL_is mem fun y my => ?_).symm⟩
  unfold costJ at my
  obtain ⟨i, mi, hi⟩ := List.mem_filterMap.mp my
  have li := List.mem_range.mp mi
  cases q : L.lookup (seg z (stop - 5 + i) stop) with
  | none =>
    rw [q] at hi
    cases hi
  | some v =>
    rw [q] at hi
    have hy : f (stop - 5 + i) + v = y := Option.some.inj hi
    have st := least_step hl (x := pre z (stop - 5 + i)) (lookup_mem q)
    rw [← pre_seg (by omega) h2, ← hf (stop - 5 + i) (by omega)] at st
    dsimp only at st
    omega
end
end Gd

/-! M12: texts over some signs; books over them; tables of least prices -/
namespace Gd
open PySem PySem.Spec PyProof.Rows L2
/-- one to four letters -/
structure Sg (S : List Str) : Prop where
  few : 1 ≤ S.length ∧ S.length ≤ 4
  sign : ∀ z ∈ S, ∃ c, low c = true ∧ z = sg c
  nd : S.Nodup
/-- a text over these letters -/
def Over (S : List Str) (z : Str) : Prop := ∀ c ∈ z.cps.toList, sg c ∈ S
theorem Over.nil (S : List Str) : Over S (Str.ofString "") := fun c m => (nomatch m)
theorem Over.app {S : List Str} {x y : Str} (h : Over S x) (k : Over S y) : Over S (x ++ y) := fun c m => by
  rw [app_list] at m
  exact (List.mem_append.mp m).elim (h c) (k c)
theorem Over.left {S : List Str} {x y : Str} (h : Over S (x ++ y)) : Over S x := fun c m => h c (by rw [app_list]; exact List.mem_append.mpr (.inl m))
theorem Over.right {S : List Str} {x y : Str} (h : Over S (x ++ y)) : Over S y := fun c m => h c (by rw [app_list]; exact List.mem_append.mpr (.inr m))
theorem Over.pre {S : List Str} {z : Str} (h : Over S z) (n : Nat) : Over S (pre z n) := fun c m => h c (by
  rw [pre_list] at m
  exact List.mem_of_mem_take m)
theorem Over.sgn {S : List Str} {c : Nat} (h : sg c ∈ S) : Over S (sg c) := fun d m => by
  obtain rfl : d = c := by simpa using m
  exact h
section
variable {S : List Str}
theorem Sg.low (s : Sg S) {z : Str} (h : Over S z) : ∀ c ∈ z.cps.toList, low c = true := fun c m => by
  obtain ⟨d, hd, e⟩ := s.sign _ (h c m)
  have : c = d := by simpa [sg] using e
  rw [this]
  exact hd
theorem Sg.over (s : Sg S) {z : Str} (h : z ∈ S) : Over S z := by
  obtain ⟨c, _, rfl⟩ := s.sign z h
  exact Over.sgn h
theorem Sg.len (s : Sg S) {z : Str} (h : z ∈ S) : z.length = 1 := by
  obtain ⟨c, _, rfl⟩ := s.sign z h
  rfl
theorem over_join (s : Sg S) {zs : List Str} (h : ∀ z ∈ zs, z ∈ S) : (Txt.join (Str.ofString "") zs).length = zs.length ∧ Over S (Txt.join (Str.ofString "") zs) := by
  have one : ∀ z ∈ zs, z.length = 1 := fun z m => s.len (h z m)
  refine ⟨by rw [len_join, sum_one one], fun c mc => ?_⟩
  rw [join0] at mc
  obtain ⟨l, ml, mc⟩ := List.mem_flatten.mp mc
  obtain ⟨z, mz, rfl⟩ := List.mem_map.mp ml
  exact s.over (h z mz) c mc
theorem over_piece (s : Sg S) {z : Str} (h : Over S z) (l1 : 1 ≤ z.length) (l2 : z.length ≤ 5) : isPiece (.str z) = true := by
  rw [isPiece_str, Bool.and_eq_true]
  exact ⟨isText_low (s.low h) (by omega), decide_eq_true ⟨l1, l2⟩⟩
end
/-- prices of all these letters and of pieces over them -/
structure Full (S : List Str) (L : List (Str × Int)) : Prop where
  nd : (L.map (·.1)).Nodup
  len : L.length ≤ 12
  has : ∀ z ∈ S, z ∈ L.map (·.1)
  piece : ∀ z ∈ L.map (·.1), (1 ≤ z.length ∧ z.length ≤ 5) ∧ Over S z
  price : ∀ e ∈ L, 1 ≤ e.2 ∧ e.2 ≤ 99
section
variable {S : List Str} {L M : List (Str × Int)}
theorem Full.sig (s : Sg S) (f : Full S L) {z : Str} : z ∈ sigsP L ↔ z ∈ S := by
  rw [mem_sigs]
  constructor
  · rintro ⟨x, mx, c, mc, rfl⟩
    exact (f.piece x mx).2 c mc
  · intro h
    obtain ⟨c, _, rfl⟩ := s.sign z h
    exact ⟨sg c, f.has _ h, c, by simp, rfl⟩
theorem Full.same (s : Sg S) (f : Full S L) (g : Full S M) : sigsP L = sigsP M := sorted_unique (sortT_sorted _) (sortT_sorted _) (nodup_perm (nodup_ascT _) (nodup_ascT _) fun z => (f.sig s).trans (g.sig s).symm)
theorem Full.good (s : Sg S) (f : Full S L) : arePr L = true := by
  have pos : 1 ≤ L.length := by
    obtain ⟨z, mz⟩ := List.exists_mem_of_length_pos (show 0 < S.length from s.few.1)
    have h := List.length_pos_of_mem (f.has z mz)
    rw [List.length_map] at h
    exact h
  unfold arePr
  simp only [Bool.and_eq_true]
  refine ⟨⟨⟨decide_eq_true ⟨pos, f.len⟩, List.all_eq_true.mpr fun e me => ?_⟩, decide_eq_true ?_⟩, List.all_eq_true.mpr fun z mz => mem_look.mp (f.has z ((f.sig s).mp mz))⟩
  · rw [Bool.and_eq_true]
    have h := f.piece e.1 (List.mem_map.mpr ⟨e, me, rfl⟩)
    exact ⟨over_piece s h.2 h.1.1 h.1.2, decide_eq_true (f.price e me)⟩
  · exact Nat.le_trans (nodup_le (l := sigsP L) (nodup_ascT _) fun z mz => (f.sig s).mp mz) s.few.2
theorem Full.pos (f : Full S L) : ∀ e ∈ L, 1 ≤ e.1.length ∧ e.1.length ≤ 5 := fun e m => (f.piece e.1 (List.mem_map.mpr ⟨e, m, rfl⟩)).1
theorem Full.pos1 (f : Full S L) : ∀ e ∈ L, 1 ≤ e.1.length := fun e m => (f.pos e m).1
theorem Full.cov (f : Full S L) {z : Str} (h : Over S z) : Cov L z := fun c m => f.has _ (h c m)
theorem Full.over (f : Full S L) {e : Str × Int} (m : e ∈ L) : Over S e.1 := (f.piece e.1 (List.mem_map.mpr ⟨e, m, rfl⟩)).2
theorem Full.sort (f : Full S L) : Full S (sortP L) := by
  have k : ∀ {z}, z ∈ (sortP L).map (·.1) ↔ z ∈ L.map (·.1) := fun {z} => by
    rw [sortP_keys]
    exact (sortT_perm _).mem_iff
  exact ⟨sortP_nodup f.nd, by rw [sortP_len]; exact f.len, fun z m => k.mpr (f.has z m), fun z m => f.piece z (k.mp m), fun e m => f.price e ((mem_sortP f.nd).mp m)⟩
theorem Full.least (f : Full S L) {z : Str} (h : Over S z) : leastP (sortP L) z = leastP L z := least_same f.sort.pos1 f.pos1 (fun _ => mem_sortP f.nd) (f.sort.cov h)
/-- nowhere dearer: for all texts -/
theorem Full.nowhere (f : Full S L) (g : Full S M) : dearer (sortP L) (sortP M) = .non ↔ ∀ z, Over S z → leastP L z ≤ leastP M z := by
  rw [dearer_non]
  constructor
  · intro h z o
    rw [← f.least o, ← g.least o]
    exact least_all h f.sort.pos1 g.sort.pos1 _ z (Nat.le_refl _) (f.sort.cov o) (g.sort.cov o)
  · intro h e me
    have o := g.sort.over me
    rw [f.least o]
    have h1 := h e.1 o
    have h2 := least_one g.sort.pos1 me
    rw [g.least o] at h2
    omega
theorem Full.dear (f : Full S L) (g : Full S M) : dearer (sortP L) (sortP M) = .non ↔ ∀ e ∈ M, leastP L e.1 ≤ e.2 := by
  rw [dearer_non]
  constructor
  · intro h e me
    rw [← f.least (g.over me)]
    exact h e ((mem_sortP g.nd).mpr me)
  · intro h e me
    rw [f.least (g.sort.over me)]
    exact h e ((mem_sortP g.nd).mp me)
end
/-! ### tables -/
def tab (L : List (Str × Int)) (ks : List Str) : List (Str × Int) := ks.map fun t => (t, leastP L t)
def addK (ks : List Str) (t : Str) : List Str := if t ∈ ks then ks else ks ++ [t]
theorem tab_keys (L : List (Str × Int)) (ks : List Str) : (tab L ks).map (·.1) = ks := by
  unfold tab
  rw [List.map_map]
  exact List.map_id' _
theorem lookup_tab {L : List (Str × Int)} {t : Str} : ∀ {ks : List Str}, t ∈ ks → (tab L ks).lookup t = some (leastP L t)
  | k :: r, h => by
    show ((k, leastP L k) :: tab L r).lookup t = _
    rw [List.lookup_cons]
    by_cases e : t = k
    · subst e
      rw [show (t == t) = true from beq_iff_eq.mpr rfl]
    · rw [show (t == k) = false from beq_eq_false_iff_ne.mpr e]
      exact lookup_tab ((List.mem_cons.mp h).resolve_left e)
theorem putP_tab {L : List (Str × Int)} {ks : List Str} {t : Str} : putP (tab L ks) t (leastP L t) = tab L (addK ks t) := by
  unfold addK
  by_cases h : t ∈ ks
  · rw [if_pos h]
    unfold putP
    have mt : (t, leastP L t) ∈ tab L ks := List.mem_map.mpr ⟨t, h, rfl⟩
    rw [if_pos (List.any_eq_true.mpr ⟨_, mt, decide_eq_true rfl⟩)]
    unfold tab
    rw [List.map_map]
    refine List.map_congr_left fun k _ => ?_
    show (if k = t then (k, leastP L t) else (k, leastP L k)) = _
    by_cases e : k = t
    · rw [if_pos e, e]
    · rw [if_neg e]
  · rw [if_neg h, putP_new (by rw [tab_keys]; exact h)]
    unfold tab
    rw [List.map_append]
    rfl
theorem mem_addK {ks : List Str} {t z : Str} : z ∈ addK ks t ↔ z ∈ ks ∨ z = t := by
  unfold addK
  split
  · next h =>
    exact ⟨.inl, fun h' => h'.elim id fun e => e ▸ h⟩
  · rw [List.mem_append, List.mem_singleton]
theorem len_addK (ks : List Str) (t : Str) : (addK ks t).length ≤ ks.length + 1 := by
  unfold addK
  split
  · omega
  · rw [List.length_append]
    exact Nat.le_refl _
theorem nd_addK {ks : List Str} {t : Str} (h : ks.Nodup) : (addK ks t).Nodup := by
  unfold addK
  split
  · exact h
  · next n => exact List.nodup_append.mpr ⟨h, by simp, fun a m b mb => by
      obtain rfl : b = t := by simpa using mb
      exact fun e => n (e ▸ m)⟩
theorem mem_adds {z : Str} : ∀ {ts ks : List Str}, z ∈ ts.foldl addK ks ↔ z ∈ ks ∨ z ∈ ts
  | [], ks => ⟨.inl, fun h => h.elim id fun h => (nomatch h)⟩
  | t :: r, ks => by
    rw [List.foldl_cons, mem_adds, mem_addK, List.mem_cons, or_assoc]
theorem len_adds : ∀ (ts ks : List Str), (ts.foldl addK ks).length ≤ ks.length + ts.length
  | [], ks => Nat.le_refl _
  | t :: r, ks => by
    have h1 := len_adds r (addK ks t)
    have h2 := len_addK ks t
    rw [List.foldl_cons, List.length_cons]
    omega
theorem nd_adds : ∀ {ts ks : List Str}, ks.Nodup → (ts.foldl addK ks).Nodup
  | [], ks, h => h
  | t :: r, ks, h => nd_adds (ts := r) (nd_addK h)
/-- the texts of n letters -/
def layK (S : List Str) : Nat → List Str
  | 0 => [Str.ofString ""]
  | n + 1 => (layK S n).flatMap fun t => S.map fun s => t ++ s
/-- the texts of at most n letters -/
def allK (S : List Str) : Nat → List Str
  | 0 => [Str.ofString ""]
  | n + 1 => (layK S (n + 1)).foldl addK (allK S n)
section
variable {S : List Str}
theorem lay_mem (s : Sg S) : ∀ {n : Nat} {z : Str}, z ∈ layK S n ↔ z.length = n ∧ Over S z
  | 0, z => by
    constructor
    · intro h
      obtain rfl := List.mem_singleton.mp h
      exact ⟨rfl, Over.nil S⟩
    · rintro ⟨h, _⟩
      rw [nil_of_len h]
      exact List.mem_singleton.mpr rfl
  | n + 1, z => by
    show z ∈ (layK S n).flatMap (fun t => S.map fun s => t ++ s) ↔ _
    rw [List.mem_flatMap]
    constructor
    · rintro ⟨t, mt, mz⟩
      obtain ⟨w, mw, rfl⟩ := List.mem_map.mp mz
      obtain ⟨h1, h2⟩ := (lay_mem s).mp mt
      exact ⟨by rw [app_len, h1, s.len mw], h2.app (s.over mw)⟩
    · rintro ⟨h, o⟩
      have e : z = pre z n ++ seg z n (n + 1) := by
        have := pre_seg (z := z) (i := n) (j := n + 1) (by omega) (by omega)
        rw [← this, ← h]
        exact (pre_all z).symm
      refine ⟨pre z n, (lay_mem s).mpr ⟨pre_len (by omega), o.pre n⟩, List.mem_map.mpr ⟨seg z n (n + 1), ?_, e.symm⟩⟩
      have l1 : (seg z n (n + 1)).length = 1 := by rw [seg_len (by omega) (by omega)]; omega
      have : ∃ c, seg z n (n + 1) = sg c := by
        have l2 := str_len (seg z n (n + 1))
        rw [l1] at l2
        obtain ⟨c, hc⟩ := List.length_eq_one_iff.mp l2
        exact ⟨c, str_eq_of_lists (by rw [hc])⟩
      obtain ⟨c, hc⟩ := this
      rw [e, hc] at o
      rw [hc]
      exact o.right c (by simp)
theorem lay_len (s : Sg S) : ∀ n, (layK S n).length ≤ 4 ^ n
  | 0 => Nat.le_refl _
  | n + 1 => by
    have h := lay_len s n
    have f := s.few.2
    show ((layK S n).flatMap fun t => S.map fun s => t ++ s).length ≤ _
    rw [List.length_flatMap]
    have : ((layK S n).map fun t => (S.map fun s => t ++ s).length).sum = (layK S n).length * S.length := by
      induction layK S n with
      | nil => simp
      | cons t r ih => rw [List.map_cons, List.sum_cons, ih, List.length_map, List.length_cons, Nat.succ_mul]; omega
    rw [this, Nat.pow_succ]
    exact Nat.mul_le_mul h f
theorem all_len (s : Sg S) : ∀ n, 3 * (allK S n).length ≤ 4 ^ (n + 1)
  | 0 => by
    show 3 * 1 ≤ 4
    omega
  | n + 1 => by
    have h := all_len s n
    have l := lay_len s (n + 1)
    have k := len_adds (layK S (n + 1)) (allK S n)
    show 3 * ((layK S (n + 1)).foldl addK (allK S n)).length ≤ _
    rw [Nat.pow_succ 4 (n + 1)]
    omega
theorem all_mem_iff (s : Sg S) : ∀ {n : Nat} {z : Str}, z ∈ allK S n ↔ z.length ≤ n ∧ Over S z
  | 0, z => by
    have := lay_mem s (n := 0) (z := z)
    rw [show allK S 0 = layK S 0 from rfl, this]
    exact ⟨fun h => ⟨by omega, h.2⟩, fun h => ⟨by omega, h.2⟩⟩
  | n + 1, z => by
    show z ∈ (layK S (n + 1)).foldl addK (allK S n) ↔ _
    rw [mem_adds, all_mem_iff s, lay_mem s]
    constructor
    · rintro (h | h)
      · exact ⟨by omega, h.2⟩
      · exact ⟨by omega, h.2⟩
    · intro h
      by_cases e : z.length = n + 1
      · exact .inr ⟨e, h.2⟩
      · exact .inl ⟨by omega, h.2⟩
theorem all_nd (S : List Str) : ∀ n, (allK S n).Nodup
  | 0 => by simp [allK]
  | n + 1 => nd_adds (all_nd S n)
end
end Gd

/-! Gd22: loops over zip(xs, ys) -/
namespace Gd
open PySem PySem.Spec PyProof.Rows L2 L2.DX
theorem sh_bool (b : Bool) : Sh (.bool b) := by
  cases b <;> exact ⟨by decide +kernel, by decide +kernel, by decide +kernel, by decide +kernel, by decide +kernel⟩
theorem ok_low {z : Str} (h : ∀ c ∈ z.cps.toList, low c = true) : PyData.strOk z = true := by
  unfold PyData.strOk
  rw [← Array.all_toList, List.all_eq_true]
  intro c mc
  have := of_decide_eq_true (h c mc)
  exact decide_eq_true (by omega)
theorem over_ok {S : List Str} (s : Sg S) {z : Str} (h : Over S z) : PyData.strOk z = true := by
  unfold PyData.strOk
  rw [← Array.all_toList, List.all_eq_true]
  intro c mc
  have := of_decide_eq_true (s.low h c mc)
  exact decide_eq_true (by omega)
theorem dear_first {L M : List (Str × Int)} {z : Str} (asc : AscP M) (h : dearer L M = .str z) : (∃ v, (z, v) ∈ M ∧ v < leastP L z) ∧ ∀ e ∈ M, e.1.cps.toList < z.cps.toList → ¬ e.2 < leastP L e.1 := by
  unfold dearer at h
  cases q : M.find? fun e => decide (e.2 < leastP L e.1) with
  | none =>
    rw [q] at h
    cases h
  | some f =>
    rw [q] at h
    obtain rfl : f.1 = z := V.str.inj h
    obtain ⟨pf, as, bs, rfl, no⟩ := List.find?_eq_some_iff_append.mp q
    refine ⟨⟨f.2, List.mem_append.mpr (.inr (List.mem_cons_self ..)), of_decide_eq_true pf⟩, fun e me lt => ?_⟩
    rcases List.mem_append.mp me with m | m
    · have := no e m
      intro h'
      rw [decide_eq_true h'] at this
      cases this
    · exfalso
      rcases List.mem_cons.mp m with rfl | m
      · exact List.lt_irrefl _ lt
      · unfold AscP at asc
        rw [List.map_append, List.map_cons] at asc
        have h2 := (List.pairwise_cons.mp (List.pairwise_append.mp asc).2.1).1 e.1 (List.mem_map.mpr ⟨e, m, rfl⟩)
        unfold leT at h2
        rw [decide_eq_true lt] at h2
        cases h2
theorem dearer_cases (L M : List (Str × Int)) : dearer L M = .non ∨ ∃ z, dearer L M = .str z := by
  unfold dearer
  cases M.find? fun e => decide (e.2 < leastP L e.1) with
  | none => exact .inl rfl
  | some f => exact .inr ⟨_, rfl⟩
theorem putP_len (L : List (Str × Int)) (k : Str) (v : Int) : (putP L k v).length ≤ L.length + 1 := by
  unfold putP
  split
  · rw [List.length_map]
    omega
  · rw [List.length_append]
    exact Nat.le_refl _
theorem vals_ints' {p : Int → Prop} : ∀ {ys : List V}, (∀ y ∈ ys, ∃ v, y = V.int v ∧ p v) → ∃ cs : List Int, ys = cs.map V.int ∧ ∀ v ∈ cs, p v
  | [], _ => ⟨[], rfl, fun _ h => (nomatch h)⟩
  | y :: r, h => by
    obtain ⟨v, rfl, hv⟩ := h y (List.mem_cons_self ..)
    obtain ⟨cs, rfl, h2⟩ := vals_ints' (ys := r) fun x m => h x (List.mem_cons_of_mem _ m)
    refine ⟨v :: cs, rfl, fun w m => ?_⟩
    rcases List.mem_cons.mp m with rfl | m
    · exact hv
    · exact h2 w m
theorem Paired.mem_right {α β : Type} {F : α → β → Prop} {as : List α} {bs : List β} (h : Paired F as bs) {y : β} (m : y ∈ bs) : ∃ x, x ∈ as ∧ F x y := by
  induction h with
  | nil => cases m
  | cons r _ ih =>
    rcases List.mem_cons.mp m with rfl | m
    · exact ⟨_, List.mem_cons_self .., r⟩
    · obtain ⟨x, mx, hx⟩ := ih m
      exact ⟨x, List.mem_cons_of_mem _ mx, hx⟩
/-- for x, y in zip(xs, ys), lists of the same length -/
theorem for_zipG {K : PySem.W.Frag} {a b : Addr} {xs ys : List V} {g : TG} {tb : TS} {D : Ends} {σ : L2.St} {H : Hp} (same : xs.length = ys.length) (Pv : Nat → L2.St → Hp → Prop) (h0 : Pv 0 σ H) (hl : ∀ i σ H, i ≤ xs.length → Pv i σ H → SqL K H a xs ∧ SqL K H b ys)
    (hs : ∀ i x y σ H T, xs[i]? = some x → ys[i]? = some y → Pv i σ H → H T = none → g (.ref T) σ (upd H T (.tup [x, y])) fun σ2 H2 => tb { D with nx := Pv (i + 1), ct := Pv (i + 1), bk := D.nx } σ2 H2) (hend : ∀ σ H, Pv xs.length σ H → D.nx σ H) :
    ∃ W : Nat → Nat → L2.St → Hp → Prop, (∃ m, W 0 m σ H) ∧ ∀ i m σ H, W i m σ H →
      ((Itz K a b).stop i H ∧ D.nx σ H) ∨ ((Itz K a b).go i H ∧ ∃ N : L2.St → Hp → Prop, (∀ σ' H', N σ' H' → ∃ m', m' < m ∧ W (i + 1) m' σ' H') ∧ ∀ x H', (Itz K a b).yld i H x H' → g x σ H' fun σ2 H2 => tb { D with nx := N, ct := N, bk := D.nx } σ2 H2) := by
  refine ⟨fun i m σ H => m = xs.length - i ∧ i ≤ xs.length ∧ Pv i σ H, ⟨xs.length - 0, rfl, Nat.zero_le _, h0⟩, ?_⟩
  rintro i m σ H ⟨rfl, hi, p⟩
  obtain ⟨q1, q2⟩ := hl i σ H hi p
  by_cases hlt : i < xs.length
  · have hx : xs[i]? = some xs[i] := List.getElem?_eq_getElem hlt
    have hy : ys[i]? = some ys[i] := List.getElem?_eq_getElem (by omega)
    refine .inr ⟨⟨xs, ys, _, _, q1, q2, hx, hy⟩, Pv (i + 1), fun σ' H' p' => ⟨xs.length - (i + 1), by omega, rfl, hlt, p'⟩, fun v H' yd => ?_⟩
    obtain ⟨T, x, y, rfl, hT, rfl, e1, e2⟩ := yd
    exact hs i x y σ H T (e1 _ q1) (e2 _ q2) p hT
  · have e : i = xs.length := by omega
    subst e
    exact .inl ⟨⟨xs, ys, q1, q2, .inl (Nat.le_refl _)⟩, hend σ H p⟩
end Gd

/-! M13: books without some of their pieces; needless pieces -/
namespace Gd
open PySem PySem.Spec PyProof.Rows L2
/-- the prices without those of these pieces -/
def subP (L : List (Str × Int)) (zs : List Str) : List (Str × Int) := L.filter fun e => !decide (e.1 ∈ zs)
theorem mem_subP {L : List (Str × Int)} {zs : List Str} {e : Str × Int} : e ∈ subP L zs ↔ e ∈ L ∧ e.1 ∉ zs := by
  unfold subP
  rw [List.mem_filter, Bool.not_eq_true', decide_eq_false_iff_not]
theorem subP_sub (L : List (Str × Int)) (zs : List Str) : ((subP L zs).map (·.1)).Sublist (L.map (·.1)) := List.Sublist.map _ List.filter_sublist
theorem subP_nd {L : List (Str × Int)} {zs : List Str} (nd : (L.map (·.1)).Nodup) : ((subP L zs).map (·.1)).Nodup := nd.sublist (subP_sub L zs)
theorem subP_asc {L : List (Str × Int)} {zs : List Str} (a : AscP L) : AscP (subP L zs) := List.Pairwise.sublist (subP_sub L zs) a
theorem subP_len (L : List (Str × Int)) (zs : List Str) : (subP L zs).length ≤ L.length := List.length_filter_le _ _
theorem sortP_id {L : List (Str × Int)} (a : AscP L) (nd : (L.map (·.1)).Nodup) : sortP L = L := asc_eq (sortP_nodup nd) nd (sortP_asc L) a (lookup_sortP nd)
theorem subP_keys (L : List (Str × Int)) (zs : List Str) : (subP L zs).map (·.1) = (L.map (·.1)).filter fun z => !decide (z ∈ zs) := by
  unfold subP
  rw [List.filter_map]
  rfl
theorem subP_vals {L : List (Str × Int)} {zs : List Str} (nd : (L.map (·.1)).Nodup) : ((L.map (·.1)).filter fun z => !decide (z ∈ zs)).map (fun z => (z, (L.lookup z).getD 0)) = subP L zs := by
  rw [← subP_keys, List.map_map]
  refine Eq.trans (List.map_congr_left fun e me => ?_) (List.map_id _)
  show (e.1, (L.lookup e.1).getD 0) = e
  rw [lookup_nodup nd e (mem_subP.mp me).1]
  rfl
/-- without longer pieces it is a book again -/
theorem subP_good {L : List (Str × Int)} {zs : List Str} (g : arePr L = true) (long : ∀ z ∈ zs, 1 < z.length) : arePr (subP L zs) = true := by
  have ga := good_all g
  have gl := good_len g
  have keep : ∀ c, sg c ∈ L.map (·.1) → sg c ∈ (subP L zs).map (·.1) := fun c m => by
    obtain ⟨e, me, ee⟩ := List.mem_map.mp m
    refine List.mem_map.mpr ⟨e, mem_subP.mpr ⟨me, fun h => ?_⟩, ee⟩
    have := long e.1 h
    rw [ee] at this
    exact absurd this (show ¬ 1 < (1 : Nat) by decide)
  have cov : ∀ e ∈ L, ∀ c ∈ e.1.cps.toList, sg c ∈ L.map (·.1) := fun e me c mc => good_has g _ (mem_sigs.mpr ⟨e.1, List.mem_map.mpr ⟨e, me, rfl⟩, c, mc, rfl⟩)
  have sub : ∀ z ∈ sigsP (subP L zs), z ∈ sigsP L ∧ z ∈ (subP L zs).map (·.1) := fun z mz => by
    obtain ⟨x, mx, c, mc, rfl⟩ := mem_sigs.mp mz
    obtain ⟨e, me, rfl⟩ := List.mem_map.mp mx
    have me' := (mem_subP.mp me).1
    exact ⟨mem_sigs.mpr ⟨e.1, List.mem_map.mpr ⟨e, me', rfl⟩, c, mc, rfl⟩, keep c (cov e me' c mc)⟩
  have pos : 1 ≤ (subP L zs).length := by
    match L, gl, ga, cov, keep with
    | e :: r, _, ga, cov, keep =>
      have l1 := (piece_len (ga e (List.mem_cons_self ..)).1).1
      have : ∃ c, c ∈ e.1.cps.toList := by
        cases q : e.1.cps.toList with
        | nil =>
          have := str_len e.1
          rw [q] at this
          simp only [List.length_nil] at this
          omega
        | cons c t => exact ⟨c, List.mem_cons_self ..⟩
      obtain ⟨c, mc⟩ := this
      have := List.length_pos_of_mem (keep c (cov e (List.mem_cons_self ..) c mc))
      rw [List.length_map] at this
      exact this
  unfold arePr
  simp only [Bool.and_eq_true]
  refine ⟨⟨⟨decide_eq_true ⟨pos, Nat.le_trans (subP_len L zs) gl.2⟩, List.all_eq_true.mpr fun e me => ?_⟩, decide_eq_true ?_⟩, List.all_eq_true.mpr fun z mz => mem_look.mp (sub z mz).2⟩
  · rw [Bool.and_eq_true]
    have h := ga e (mem_subP.mp me).1
    exact ⟨h.1, decide_eq_true h.2⟩
  · exact Nat.le_trans (nodup_le (l := sigsP (subP L zs)) (nodup_ascT _) fun z mz => (sub z mz).1) (good_sigs g)
/-- the pieces of several signs that other pieces make as cheaply -/
def isNd (L : List (Str × Int)) (e : Str × Int) : Bool := decide (1 < e.1.length) && decide (leastP (subP L [e.1]) e.1 ≤ e.2)
def ndl (L : List (Str × Int)) : List Str := (L.filter (isNd L)).map (·.1)
theorem mem_ndl {L : List (Str × Int)} {z : Str} : z ∈ ndl L ↔ ∃ v, (z, v) ∈ L ∧ 1 < z.length ∧ leastP (subP L [z]) z ≤ v := by
  unfold ndl
  rw [List.mem_map]
  constructor
  · rintro ⟨e, me, rfl⟩
    obtain ⟨m1, m2⟩ := List.mem_filter.mp me
    unfold isNd at m2
    rw [Bool.and_eq_true, decide_eq_true_eq, decide_eq_true_eq] at m2
    exact ⟨e.2, m1, m2⟩
  · rintro ⟨v, m, h1, h2⟩
    refine ⟨(z, v), List.mem_filter.mpr ⟨m, ?_⟩, rfl⟩
    unfold isNd
    rw [Bool.and_eq_true, decide_eq_true_eq, decide_eq_true_eq]
    exact ⟨h1, h2⟩
theorem ndl_sub (L : List (Str × Int)) : (ndl L).Sublist (L.map (·.1)) := List.Sublist.map _ List.filter_sublist
theorem ndl_asc {L : List (Str × Int)} (a : AscP L) (nd : (L.map (·.1)).Nodup) : ndl L = ascT (ndl L) :=
  sorted_unique (List.Pairwise.sublist (ndl_sub L) a) (sortT_sorted _) (nodup_perm (nd.sublist (ndl_sub L)) (nodup_ascT _) fun z => mem_ascT.symm)
theorem one_asc (z : Str) : [z] = ascT [z] := sorted_unique (List.pairwise_singleton _ _) (sortT_sorted _) (nodup_perm (by simp) (nodup_ascT _) fun y => mem_ascT.symm)
theorem ndl_long {L : List (Str × Int)} : ∀ z ∈ ndl L, 1 < z.length := fun z m => by
  obtain ⟨v, _, h, _⟩ := mem_ndl.mp m
  exact h
theorem cov_sub {L : List (Str × Int)} {zs : List Str} (g : arePr L = true) (long : ∀ z ∈ zs, 1 < z.length) {e : Str × Int} (me : e ∈ L) : Cov (subP L zs) e.1 := fun c mc => by
  have h := good_has g _ (mem_sigs.mpr ⟨e.1, List.mem_map.mpr ⟨e, me, rfl⟩, c, mc, rfl⟩)
  obtain ⟨f, mf, ef⟩ := List.mem_map.mp h
  refine List.mem_map.mpr ⟨f, mem_subP.mpr ⟨mf, fun h => ?_⟩, ef⟩
  have := long f.1 h
  rw [ef] at this
  exact absurd this (show ¬ 1 < (1 : Nat) by decide)
end Gd

/-! Gd23: o op t, o of a class with the operator, t a tuple. -/
namespace Gd
open PySem PySem.Spec PyProof.Rows L2
/-- what the class at C and the tuples say of an operator -/
structure Alone (K : PySem.W.Frag) (C : Addr) (op : Operator) : Prop where
  self : PySem.W.selfFirst K C = true
  back : PySem.W.findIn K (.ref C) (dunderR op.info.2) = some none
  tup : PySem.W.findIn K (.type "tuple") (PySem.dunder op.info.2) = some none
  tupBack : PySem.W.findIn K (.type "tuple") (dunderR op.info.2) = some none
  apart : PySem.W.subIn K (.type "tuple") (.ref C) = some false
section
variable {prog : Program} {w : World} {A : Around} {E : Value → Shared → Prop} {s : Shared} {K : PySem.W.Frag} {o C L f : Addr} {h₀ : Heap} {m : Str → Option Value} {ox : Obj} {od : Option Obj}
theorem bin_tuple {op : Operator} {b : Value} {Q : Value → Shared → Prop} (fr : Fr h₀ L s.heap m) (base : K.In h₀) (inst : PySem.W.InstAt s.heap o ox C od) (ty : PySem.W.Looks (model prog w) s.heap (typeOf b) (.type "tuple")) (al : Alone K C op)
    (own : PySem.W.findIn K (.ref C) (PySem.dunder op.info.2) = some (some (.ref f))) (fn : PySem.W.isFn K (.ref f) = true) (run : wpAny (model prog w) A (call (.ref f) [.ref o, b]) (PySem.W.CmpBack Q) E s) : wpAny (model prog w) A (binaryOp op (.ref o) b) Q E s := by
  have inK := base.keeps fr.keep
  obtain ⟨c, more, hc, mro⟩ := PySem.W.ksp_first al.self
  have left := PySem.W.fills_K (M := model prog w) inK hc mro own
  have right : PySem.W.Looks (model prog w) s.heap (fillsNumberSlot (.type "tuple") op.info.2) false := PySem.W.ksp_fillsT inK al.tup al.tupBack
  have try_ := PySem.W.ksp_try inK inst own fn run
  have ne : (Value.ref C == Value.type "tuple") = false := Bool.eq_false_iff.mpr fun z => nomatch (beq_iff_eq.mp z)
  unfold binaryOp
  refine wpAny_holding (wpAny_bind ?_)
  unfold binaryOp1
  refine wpAny_bind (inst.type.here (wpAny_bind (ty.here (wpAny_bind (left.here ?_)))))
  rw [ne, if_neg Bool.false_ne_true]
  refine wpAny_bind (right.here ?_)
  simp only [Bool.and_false, Bool.false_and, Bool.false_eq_true, if_false]
  refine wpAny_bind (wpAny_pure ?_)
  simp only [Bool.false_eq_true, if_false, if_true]
  refine wpAny_bind (wpAny_mono try_ (fun r s' hr => ?_) fun _ _ z => z)
  obtain ⟨v, rfl, hq⟩ := hr
  exact wpAny_pure (wpAny_pure hq)
section
variable {X : Cx} {C f : Addr} {k : Nat} {ps : List Str} {sp : Sp}
/-- o op t, t a tuple -/
def rBinTup (C : Addr) (sp : Sp) : R2 := fun x y H Q => ∃ a dx fs t zs, x = .ref a ∧ y = .ref t ∧ H a = some (.ins C dx fs) ∧ H t = some (.tup zs) ∧ sp [.ref a, .ref t] H Q E0
theorem op_binTup {op : Operator} (O : Own X.K C (PySem.dunder op.info.2) f) (al : Alone X.K C op) (D : Dk X.prog X.w X.K X.mg X.base k f ps sp) (hr : Room k X.A) : OpR X (binaryOp op) (rBinTup C sp) := by
  intro pins s σ H x y v u Q I rx ry ⟨a, dx, fs, t, zs, ex, ey, ha, ht, h⟩
  subst ex
  subst ey
  cases rx
  cases ry
  obtain ⟨mA, J, _⟩ := ins_get I.hok ha
  obtain ⟨od, J, _⟩ := J.look
  obtain ⟨m, hF⟩ := I.fr
  have ty : PySem.W.Looks (model X.prog X.w) s.heap (typeOf (.ref t)) (.type "tuple") := by
    obtain ⟨its, _, ⟨o, e, cl, _⟩, _⟩ := I.tuple (sq_tup ht)
    have look := PySem.W.Looks.ld (M := model X.prog X.w) (part := none) e
    exact cl ▸ (PySem.W.Looks.ld e).andThen PySem.W.Looks.now
  exact bin_tuple hF I.ok.mod.kin J ty al O.at_ O.fn (wpAny_mono (run_dk (vs := [.ref a, .ref t]) D hr I (.cons rfl (.cons rfl .nil)) h) (fun r s' q => cmpBack_of q) fun _ _ z => z)
end
end
end Gd

/-! M14: lists of pairs in another order -/
namespace Gd
open PySem PySem.Spec PyProof.Rows L2
theorem Paired.swap_perm {α β : Type} {F : α → β → Prop} {as as' : List α} (p : as'.Perm as) : ∀ {bs : List β}, Paired F as bs → ∃ bs', Paired F as' bs' ∧ bs'.Perm bs := by
  induction p with
  | nil => exact fun h => ⟨_, h, List.Perm.refl _⟩
  | cons x _ ih =>
    intro bs h
    cases h with
    | cons r t =>
      obtain ⟨bs', h', p'⟩ := ih t
      exact ⟨_ :: bs', .cons r h', p'.cons _⟩
  | swap x y l =>
    intro bs h
    cases h with
    | cons r t =>
      cases t with
      | cons r2 t2 => exact ⟨_, .cons r2 (.cons r t2), List.Perm.swap _ _ _⟩
  | trans _ _ ih1 ih2 =>
    intro bs h
    obtain ⟨b2, h2, p2⟩ := ih2 h
    obtain ⟨b1, h1, p1⟩ := ih1 h2
    exact ⟨b1, h1, p1.trans p2⟩
theorem vals_refs' : ∀ {ys : List V}, (∀ y ∈ ys, ∃ d, y = V.ref d) → ∃ ds : List Addr, ys = ds.map V.ref
  | [], _ => ⟨[], rfl⟩
  | y :: r, h => by
    obtain ⟨d, rfl⟩ := h y (List.mem_cons_self ..)
    obtain ⟨ds, rfl⟩ := vals_refs' (ys := r) fun x m => h x (List.mem_cons_of_mem _ m)
    exact ⟨d :: ds, rfl⟩
theorem perm_refs {ds es : List Addr} (p : (ds.map V.ref).Perm (es.map V.ref)) : ds.Perm es := by
  have q := p.map (fun v => match v with | V.ref d => d | _ => 0)
  rw [List.map_map, List.map_map] at q
  have e : ∀ l : List Addr, l.map ((fun v => match v with | V.ref d => d | _ => 0) ∘ V.ref) = l := fun l => by
    induction l with
    | nil => rfl
    | cons x r ih => rw [List.map_cons, ih]; rfl
  rw [e, e] at q
  exact q
/-- all of a list of pairs, in some order -/
theorem pairs_some {H H' : Hp} {l r : Addr} {L : List (Str × Int)} {ys rest : List V} {xs : List V} (pa : PairsAt H l L) (at_l : H l = some (.lst xs)) (sm : Same H H') (at_r : H' r = some (.lst ys)) (pm : (ys ++ rest).Perm xs) (all : ys.length = xs.length) : ∃ M, PairsAt H' r M ∧ M.Perm L := by
  obtain ⟨ps, a, prs⟩ := pa
  rw [at_l] at a
  have ex : xs = ps.map V.ref := HO.lst.inj (Option.some.inj a)
  subst ex
  have nil : rest = [] := by
    have h := pm.length_eq
    rw [List.length_append] at h
    exact List.length_eq_zero_iff.mp (by omega)
  subst nil
  rw [List.append_nil] at pm
  obtain ⟨ds, rfl⟩ := vals_refs' (ys := ys) fun y m => by
    obtain ⟨d, _, rfl⟩ := List.mem_map.mp (pm.mem_iff.mp m)
    exact ⟨d, rfl⟩
  obtain ⟨M, h, q⟩ := Paired.swap_perm (perm_refs pm) prs
  exact ⟨M, ⟨ds, at_r, Paired.mapP h fun c e z => sm _ _ z⟩, q⟩
theorem Full.perm {S : List Str} {L M : List (Str × Int)} (f : Full S L) (p : M.Perm L) : Full S M where
  nd := (p.map _).nodup_iff.mpr f.nd
  len := by rw [p.length_eq]; exact f.len
  has := fun z m => (p.map _).mem_iff.mpr (f.has z m)
  piece := fun z m => f.piece z ((p.map _).mem_iff.mp m)
  price := fun e m => f.price e (p.mem_iff.mp m)
end Gd

/-! Gd24: {**d, k: v}. -/
namespace Gd
open PySem PySem.Spec PyProof.Rows L2 L2.DX
section
variable {prog : Program} {w : World} {J : Type} [DecidableEq J] {knd : KeyKind prog w J} {A : Around} {E : Value → Shared → Prop} {s : Shared}
theorem find_list {α : Type} (xs : Array α) (p : α → Bool) : xs.toList.findIdx? p = xs.findIdx? p := by
  cases xs
  simp
theorem put_one {d : Addr} {ps : List (J × Value)} {k : J} {key v : Value} {Q : Unit → Shared → Prop} (isk : knd.is k key = true) (dd : s.heap.DictOf knd d ps) (few : ps.length ≤ sizeLine)
    (q : ∀ h', h'.DictOf knd d (stored ps k v) → Heap.SameBut d s.heap h' → Q () { s with heap := h' }) : wpAny (model prog w) A (dictPut d (knd.hash k) key v) Q E s := by
  obtain ⟨ob, ents, n, at_d, plain_, data_, keys_, prs, nd⟩ := dd
  have l1 : ents.toList.length = ps.length := prs.length
  have l2 : ents.toList.length = ents.size := Array.length_toList
  have small : ents.size ≤ sizeLine := by omega
  have same : (ents.findIdx? fun e => knd.is k e.key) = ps.findIdx? fun p => decide (p.1 = k) := by
    rw [← prs.findIdx k]
    exact (find_list ..).symm
  unfold dictPut
  refine wpAny_bind (wpAny_dictFind_of isk at_d data_ keys_ ?_)
  cases c : ents.findIdx? fun e => knd.is k e.key with
  | none =>
    have out : k ∉ ps.map (·.1) := not_mem_of_findIdx_none (same ▸ c)
    have no : ¬ (ps.any fun p => decide (p.1 = k)) = true := fun z => by
      obtain ⟨p, mp, e⟩ := List.any_eq_true.mp z
      exact out (List.mem_map.mpr ⟨p, mp, of_decide_eq_true e⟩)
    refine wpAny_updateDictKeys (hz := small) at_d data_ (q _ ?_ (Heap.SameBut.update ..))
    refine ⟨_, _, n + 1, Heap.get?_update_self _ at_d (Obj.isFreed_of_dict (Obj.data_mapDictKeys data_ _)), plain_.mapDictKeys _, Obj.data_mapDictKeys data_ _, keys_.push isk _, ?_, ?_⟩
    · unfold stored
      rw [if_neg no, Array.toList_push]
      exact prs.append isk _ v
    · unfold stored
      rw [if_neg no, List.map_append]
      refine List.nodup_append.mpr ⟨nd, by simp, fun a ma b mb e => ?_⟩
      obtain rfl : b = k := by simpa using mb
      exact out (e ▸ ma)
  | some i =>
    have yes : (ps.any fun p => decide (p.1 = k)) = true := any_of_findIdx_some (same ▸ c)
    refine wpAny_updateDict at_d data_ (q _ ?_ (Heap.SameBut.update ..))
    refine ⟨_, _, n, Heap.get?_update_self _ at_d (Obj.isFreed_of_dict (Obj.data_mapDict data_ _)), plain_.mapDict _, Obj.data_mapDict data_ _, keys_.modify _ _, ?_, ?_⟩
    · unfold stored
      rw [if_pos yes, Array.toList_modify]
      exact prs.modify nd ((find_list ..).trans c) v
    · unfold stored
      rw [if_pos yes, keys_map_store]
      exact nd
theorem merge_more {d o : Addr} {ps more : List (J × Value)} {Q : Unit → Shared → Prop} (noRef : ∀ k v, knd.is k v = true → ∀ a, v ≠ .ref a) (ne : d ≠ o) (ns : (o == sysModules) = false) (dd : s.heap.DictOf knd d ps) (od : s.heap.DictOf knd o more) (few : ps.length + more.length ≤ sizeLine)
    (q : ∀ h', h'.DictOf knd d (merged ps more) → h'.DictOf knd o more → Heap.SameBut d s.heap h' → Q () { s with heap := h' }) : wpAny (model prog w) A (mergeMapping d (.ref o) false) Q E s := by
  obtain ⟨ob, ents, n, at_o, plain_, data_, keys_, prs, nd⟩ := id od
  obtain ⟨ob', ents', n', at_d, _, data', _⟩ := id dd
  have l1 : ents.toList.length = more.length := prs.length
  have l2 : ents.toList.length = ents.size := Array.length_toList
  unfold mergeMapping
  refine wpAny_bind (wpAny_isInstance od.typeIs isSubtype_dict_dict ?_)
  simp only [if_true]
  refine wpAny_bind (wpAny_specialOf od.typeIs PySem.F.slot_dict_iter.lookup ?_)
  refine wpAny_bind (wpAny_pure ?_)
  rw [show (some (Value.builtin "dict.__iter__") == some (Value.builtin "dict.__iter__")) = true from beq_self_eq_true _]
  show wpAny _ _ (if (o == sysModules) = true then _ else _) _ _ _
  rw [ns, if_neg Bool.false_ne_true]
  refine wpAny_bind (wpAny_dictEntries at_d data' ?_)
  cases emp : ents'.isEmpty with
  | true =>
    rw [if_pos rfl]
    refine wpAny_bind (wpAny_dictEntries at_o data_ ?_)
    refine wpAny_bind ?_
    rw [← Array.forIn_toList]
    refine wpAny_forIn_list _ (fun rest _ s' => s' = s ∧ ∀ e ∈ rest, e ∈ ents) _ ?_ ?_ _ _ ⟨rfl, fun e m => Array.mem_toList_iff.mp m⟩
    · rintro e rest u s' ⟨es, sub⟩
      obtain rfl : s = s' := es.symm
      obtain ⟨k, isk, _⟩ := keys_ e (sub e (List.mem_cons_self ..))
      have next := (⟨rfl, fun f m => sub f (List.mem_cons_of_mem _ m)⟩ : s = s ∧ ∀ f ∈ rest, f ∈ ents)
      cases hk : e.key <;> first | exact absurd hk (noRef k e.key isk _) | exact wpAny_pure next
    rintro u s' ⟨es, _⟩
    obtain rfl : s = s' := es.symm
    refine wpAny_bind (wpAny_dictEntries at_o data_ ?_)
    refine wpAny_bind (wpAny_dictEpoch at_o data_ ?_)
    refine wpAny_bind ?_
    refine wpAny_forIn_list _ (fun rest _ s' => ∃ h' i, s' = { s with heap := h' } ∧ rest = (List.range ents.size).drop i ∧ h'.DictOf knd d (merged ps (more.take i)) ∧ h'.get? o = some ob ∧ Heap.SameBut d s.heap h') _ ?_ ?_ _ _ ⟨s.heap, 0, rfl, rfl, by rw [List.take_zero]; exact dd, at_o, Heap.SameBut.refl _ _⟩
    · rintro x rest u s' ⟨h', i, rfl, er, di, oi, si⟩
      have lt : i < (List.range ents.size).length := by
        refine Nat.lt_of_not_le fun le => ?_
        rw [List.drop_of_length_le le] at er
        cases er
      have er2 := List.drop_eq_getElem_cons lt
      rw [← er, List.getElem_range] at er2
      obtain ⟨rfl, rfl⟩ := List.cons.inj er2
      rw [List.length_range] at lt
      refine wpAny_bind (wpAny_dictEntries oi data_ ?_)
      rw [Array.getElem?_eq_getElem lt]
      have mlt : x < more.length := by omega
      have mx : more[x]? = some more[x] := List.getElem?_eq_getElem mlt
      have ex : ents.toList[x]? = some ents[x] := by rw [Array.getElem?_toList, Array.getElem?_eq_getElem lt]
      obtain ⟨k1, k2⟩ := prs.get? (k := more[x].1) (v := more[x].2) ex mx
      obtain ⟨k', k3, k4⟩ := keys_ ents[x] (Array.getElem_mem lt)
      obtain rfl : k' = more[x].1 := knd.inj _ _ _ k3 k1
      have small : (merged ps (more.take x)).length ≤ sizeLine := by
        have h1 := merged_length_le ps (more.take x)
        rw [List.length_take] at h1
        omega
      show wpAny _ _ (holding [ents[x].key, ents[x].val] (dictPut d ents[x].hash ents[x].key ents[x].val) >>= _) _ _ _
      rw [k4, k2]
      refine wpAny_bind (wpAny_holding (put_one k1 di small fun h2 d2 s2 => ?_))
      have o2 : h2.get? o = some ob := (s2.2 o (Ne.symm ne)).trans oi
      refine wpAny_bind (wpAny_dictEpoch o2 data_ ?_)
      rw [if_neg (by simp)]
      refine wpAny_pure ⟨h2, x + 1, rfl, rfl, ?_, o2, si.trans s2⟩
      rw [merged_take_succ ps more x more[x] mx]
      exact d2
    · rintro u s' ⟨h', i, rfl, er, di, oi, si⟩
      have le : more.length ≤ i := by
        refine Nat.le_of_not_lt fun lt => ?_
        have := List.drop_eq_getElem_cons (l := List.range ents.size) (i := i) (by rw [List.length_range]; omega)
        rw [← er] at this
        cases this
      rw [List.take_of_length_le le] at di
      refine wpAny_pure (q h' di ⟨ob, ents, n, oi, plain_, data_, keys_, prs, nd⟩ si)
  | false =>
    rw [if_neg Bool.false_ne_true]
    refine wpAny_bind (wpAny_dictEntries at_o data_ ?_)
    refine wpAny_bind (wpAny_dictEpoch at_o data_ ?_)
    refine wpAny_bind ?_
    refine wpAny_forIn_list _ (fun rest _ s' => ∃ h' i, s' = { s with heap := h' } ∧ rest = (List.range ents.size).drop i ∧ h'.DictOf knd d (merged ps (more.take i)) ∧ h'.get? o = some ob ∧ Heap.SameBut d s.heap h') _ ?_ ?_ _ _ ⟨s.heap, 0, rfl, rfl, by rw [List.take_zero]; exact dd, at_o, Heap.SameBut.refl _ _⟩
    · rintro x rest u s' ⟨h', i, rfl, er, di, oi, si⟩
      have lt : i < (List.range ents.size).length := by
        refine Nat.lt_of_not_le fun le => ?_
        rw [List.drop_of_length_le le] at er
        cases er
      have er2 := List.drop_eq_getElem_cons lt
      rw [← er, List.getElem_range] at er2
      obtain ⟨rfl, rfl⟩ := List.cons.inj er2
      rw [List.length_range] at lt
      refine wpAny_bind (wpAny_dictEntries oi data_ ?_)
      rw [Array.getElem?_eq_getElem lt]
      have mlt : x < more.length := by omega
      have mx : more[x]? = some more[x] := List.getElem?_eq_getElem mlt
      have ex : ents.toList[x]? = some ents[x] := by rw [Array.getElem?_toList, Array.getElem?_eq_getElem lt]
      obtain ⟨k1, k2⟩ := prs.get? (k := more[x].1) (v := more[x].2) ex mx
      obtain ⟨k', k3, k4⟩ := keys_ ents[x] (Array.getElem_mem lt)
      obtain rfl : k' = more[x].1 := knd.inj _ _ _ k3 k1
      have small : (merged ps (more.take x)).length ≤ sizeLine := by
        have h1 := merged_length_le ps (more.take x)
        rw [List.length_take] at h1
        omega
      show wpAny _ _ (holding [ents[x].key, ents[x].val] (dictPut d ents[x].hash ents[x].key ents[x].val) >>= _) _ _ _
      rw [k4, k2]
      refine wpAny_bind (wpAny_holding (put_one k1 di small fun h2 d2 s2 => ?_))
      have o2 : h2.get? o = some ob := (s2.2 o (Ne.symm ne)).trans oi
      refine wpAny_bind (wpAny_dictEpoch o2 data_ ?_)
      rw [if_neg (by simp)]
      refine wpAny_pure ⟨h2, x + 1, rfl, rfl, ?_, o2, si.trans s2⟩
      rw [merged_take_succ ps more x more[x] mx]
      exact d2
    · rintro u s' ⟨h', i, rfl, er, di, oi, si⟩
      have le : more.length ≤ i := by
        refine Nat.le_of_not_lt fun lt => ?_
        have := List.drop_eq_getElem_cons (l := List.range ents.size) (i := i) (by rw [List.length_range]; omega)
        rw [← er] at this
        cases this
      rw [List.take_of_length_le le] at di
      refine wpAny_pure (q h' di ⟨ob, ents, n, oi, plain_, data_, keys_, prs, nd⟩ si)
end
end Gd

/-! Gd25: {**d, k: v}. -/
namespace Gd
open PySem PySem.Spec PyProof.Rows L2 L2.DX
/-- {**d, k: v}, d from texts to integers -/
def tDStar (td tk tv : TE) : TE := fun σ H Q => ∀ p, H p = none → td σ (upd H p (.dK [])) fun x H1 => ∃ a L, x = .ref a ∧ Rd H1 a (.dK (pr L)) ∧ a ≠ p ∧ L.length ≤ 1000 ∧ H1 p = some (.dK []) ∧
  ∀ q, (upd H1 p (.dK (pr L))) q = none → tk σ (upd (upd H1 p (.dK (pr L))) q (.dK [])) fun y H3 => tv σ H3 fun z H4 => ∃ k v, y = .str k ∧ z = .int v ∧ H4 p = some (.dK (pr L)) ∧ H4 q = some (.dK []) ∧ Q (.ref p) (upd (upd H4 q (.dK (pr [(k, v)]))) p (.dK (pr (putP L k v))))
theorem no_refs {P : Program} {w : World} : ∀ (k : Key) (v : Value), (mixKind P w).is k v = true → ∀ (a : Addr), v ≠ .ref a := by
  intro k v h a e
  subst e
  cases k <;> cases h
section
variable {X : Cx} {ed ek ev : Expr} {pos : Pos} {td tk tv : TE}
theorem pe_dstar (hd : PE X ed td) (hk : PE X ek tk) (hv : PE X ev tv) : PE X (.Dict [none, some ek] [ed, ev] pos) (tDStar td tk tv) := by
  refine ⟨fun pins s σ H Q I h => ?_⟩
  rw [arm_eval_Dict]
  refine wpAny_bind (wpAny_standAt ?_)
  show wpAny _ _ (dictDisplay [(none, do let x ← eval ed X.env; standAt pos; pure x), (some (eval ek X.env), do let x ← eval ev X.env; standAt pos; pure x)]) _ _ _
  unfold dictDisplay
  simp only [List.forIn_cons, List.forIn_nil, pure_bind, bind_assoc, List.isEmpty_nil, if_true]
  have fresh := I.hok.fresh (Nat.le_refl s.heap.objs.size)
  have I1 := I.laid (a := s.heap.objs.size) (o := .dK []) (h' := s.heap.push { cls := .type "dict", data := .dict #[] }) (t' := s.toks) (fun _ _ z => Heap.get?_push_of_some _ z) (Nat.le_refl _) (dk_empty s.heap I.big)
  refine wpAny_bind (wpAny_alloc ?_)
  refine wpAny_bind (wpAny_holding (wpAny_bind (thn (hd.run pins _ σ _ _ I1 (h _ fresh)) fun u s2 hx => wpAny_bind (wpAny_standAt (wpAny_pure ?_)))))
  obtain ⟨x, H2, I2, rx, a, L, rfl, ha, ne, few, hp, h⟩ := hx
  obtain rfl : u = Value.ref a := rx
  obtain ⟨z, lo, vs, rel, dd⟩ := dk_rd I2.hok ha
  obtain ⟨z0, lo0, vs0, rel0, dd0⟩ := dk_of I2.hok hp
  cases rel0
  have lv : vs.length = L.length := by rw [← rel.length, pr_len]
  refine wpAny_bind (wpAny_onRaise (wpAny_tryCatch (wpAny_onRaise (wpAny_holding (merge_more (knd := mixKind X.prog X.w) ?nr (Ne.symm ne) lo dd0 dd ?fw fun h3 d3 o3 sb3 => ?_)))))
  case nr => exact no_refs
  case fw => rw [List.length_nil, lv, sizeLine_eq]; omega
  have nd : (vs.map (·.1)).Nodup := by
    obtain ⟨_, _, _, _, _, _, _, _, nd⟩ := dd
    exact nd
  rw [merged_nil_of_nodup vs nd] at d3
  have he3 : ∃ q, h3.get? s.heap.objs.size = some q := let ⟨q, _, _, hq, _⟩ := d3; ⟨q, hq⟩
  have I3 := d_write (t' := s2.toks) I2 (by rw [hp]; exact True.intro) sb3 he3 (dk_new (H' := upd H2 s.heap.objs.size (.dK (pr L))) z lo0 rel d3)
  clear d3 o3 sb3 he3 dd0 dd I2 I1 hp
  simp only [List.nil_append, List.length_cons, List.length_nil, Nat.zero_add, show ((1 == 17) = true) = False from by decide, if_false, pure_bind, List.isEmpty_cons, Bool.false_eq_true]
  generalize s.heap.objs.size = p at *
  generalize hs3 : ({ heap := h3, gens := s2.gens, drawn := s2.drawn, toks := s2.toks, os := s2.os } : Shared) = s3 at I3 ⊢
  have fresh3 := I3.hok.fresh (Nat.le_refl s3.heap.objs.size)
  have I4 := I3.laid (a := s3.heap.objs.size) (o := .dK []) (h' := s3.heap.push { cls := .type "dict", data := .dict #[] }) (t' := s3.toks) (fun _ _ z => Heap.get?_push_of_some _ z) (Nat.le_refl _) (dk_empty s3.heap I3.big)
  refine wpAny_bind (wpAny_bind (wpAny_holding (wpAny_subDict (knd := mixKind X.prog X.w) (show 1 ≤ 15 by decide) (evalPairs_cons (thn (hk.run pins _ σ _ _ I4 (h _ fresh3)) fun kv s4 hy => ?_)))))
  obtain ⟨y, H4, I5, ry, h⟩ := hy
  refine wpAny_bind (thn (hv.run pins _ σ _ _ I5 h) fun vv s5 hz => wpAny_bind (wpAny_standAt (wpAny_pure (evalPairs_nil ?_))))
  obtain ⟨zz, H5, I6, rz, k, v, rfl, rfl, hp5, hq5, h⟩ := hz
  obtain ⟨tk', rfl⟩ := ry
  obtain ⟨tv', rfl⟩ := rz
  have npq : p ≠ s3.heap.objs.size := fun e => by
    rw [← e, upd_same] at fresh3
    cases fresh3
  generalize s3.heap.objs.size = q at hq5 h npq ⊢
  obtain ⟨zq, loq, vq, relq, dq0⟩ := dk_of I6.hok hq5
  cases relq
  have relk : KV (pr [(k, v)]) [((Sum.inr k : Key), Value.int v tv')] := .cons ⟨rfl, tv', rfl⟩ .nil
  refine ⟨[(Sum.inr k, Value.int v tv')], ⟨kV_is ⟨tk', rfl⟩, rfl, True.intro⟩, dq0, fun h' dq sbq => ?_⟩
  have dq : h'.DictOf (mixKind X.prog X.w) q [((Sum.inr k : Key), Value.int v tv')] := dq
  have heq : ∃ o, h'.get? q = some o := let ⟨o, _, _, z, _⟩ := dq; ⟨o, z⟩
  have I7 := d_write (t' := s5.toks + 1) I6 (by rw [hq5]; exact True.intro) sbq heq (dk_new (H' := upd H5 q (.dK (pr [(k, v)]))) (show 1 ≤ sizeLine by decide) loq relk dq)
  have hp7 : (upd H5 q (.dK (pr [(k, v)]))) p = some (.dK (pr L)) := by
    rw [upd_ne npq]
    exact hp5
  obtain ⟨z7, lo7, v7, rel7, d7⟩ := dk_of I7.hok hp7
  have lv7 : v7.length = L.length := by rw [← rel7.length, pr_len]
  refine wpAny_bind (wpAny_onRaise (wpAny_holding (merge_more (knd := mixKind X.prog X.w) no_refs npq loq d7 dq (by rw [lv7, sizeLine_eq]; show L.length + 1 ≤ _; omega) fun h8 d8 o8 sb8 => ?_)))
  have he8 : ∃ o, h8.get? p = some o := let ⟨o, _, _, z, _⟩ := d8; ⟨o, z⟩
  have rel8 := relk.merge rel7
  rw [mergeK_pr] at rel8
  have l8 := putP_len L k v
  have I8 := d_write (t' := s5.toks + 1) I7 (by rw [hp7]; exact True.intro) sb8 he8 (dk_new (H' := upd (upd H5 q (.dK (pr [(k, v)]))) p (.dK (pr (putP L k v)))) (by rw [pr_len, sizeLine_eq]; omega) lo7 rel8 d8)
  refine wpAny_pure ?_
  exact wpAny_pure ⟨.ref p, _, I8, rfl, h⟩
end
end Gd

/-! M15: all cuts of a text; their prices; lists of tuples -/
namespace Gd
open PySem PySem.Spec PyProof.Rows L2
/-- the cuts of the first signs that end with a piece that begins at lo + i -/
def oneW (L : List (Str × Int)) (z : Str) (T : List (List (List Str))) (stop s : Nat) : List (List Str) := if (L.lookup (seg z s stop)).isSome = true then (T.getD s []).map fun w => w ++ [seg z s stop] else []
def hereW (L : List (Str × Int)) (z : Str) (T : List (List (List Str))) (lo j stop : Nat) : List (List Str) := (List.range j).flatMap fun i => oneW L z T stop (lo + i)
def cutsT (L : List (Str × Int)) (z : Str) : Nat → List (List (List Str))
  | 0 => [[[]]]
  | n + 1 => cutsT L z n ++ [hereW L z (cutsT L z n) (n + 1 - 5) (n + 1 - (n + 1 - 5)) (n + 1)]
def costW (L : List (Str × Int)) (w : List Str) : Int := (w.map fun p => (L.lookup p).getD 0).sum
section
variable {L : List (Str × Int)} {z : Str}
theorem cutsT_len (L : List (Str × Int)) (z : Str) : ∀ n, (cutsT L z n).length = n + 1
  | 0 => rfl
  | n + 1 => by
    show (cutsT L z n ++ [_]).length = _
    rw [List.length_append, cutsT_len L z n]
    rfl
theorem cutsT_at (L : List (Str × Int)) (z : Str) {k : Nat} : ∀ {n}, k ≤ n → (cutsT L z n).getD k [] = (cutsT L z k).getD k []
  | 0, h => by
    obtain rfl : k = 0 := by omega
    rfl
  | n + 1, h => by
    by_cases e : k = n + 1
    · rw [e]
    · have h' : k ≤ n := by omega
      show (cutsT L z n ++ [_]).getD k [] = _
      rw [List.getD_eq_getElem?_getD, List.getElem?_append_left (by rw [cutsT_len]; omega), ← List.getD_eq_getElem?_getD]
      exact cutsT_at L z h'
theorem cutsT_top (L : List (Str × Int)) (z : Str) (n : Nat) : (cutsT L z (n + 1)).getD (n + 1) [] = hereW L z (cutsT L z n) (n + 1 - 5) (n + 1 - (n + 1 - 5)) (n + 1) := by
  show (cutsT L z n ++ [hereW L z (cutsT L z n) (n + 1 - 5) (n + 1 - (n + 1 - 5)) (n + 1)]).getD (n + 1) [] = _
  rw [List.getD_eq_getElem?_getD, List.getElem?_append_right (by rw [cutsT_len]; exact Nat.le_refl _), cutsT_len, Nat.sub_self]
  rfl
theorem hereW_succ (L : List (Str × Int)) (z : Str) (T : List (List (List Str))) (lo j stop : Nat) : hereW L z T lo (j + 1) stop = hereW L z T lo j stop ++ oneW L z T stop (lo + j) := by
  unfold hereW
  rw [List.range_succ, List.flatMap_append]
  simp only [List.flatMap_cons, List.flatMap_nil, List.append_nil]
theorem mem_here {T : List (List (List Str))} {lo j stop : Nat} {w : List Str} : w ∈ hereW L z T lo j stop ↔ ∃ i, i < j ∧ (L.lookup (seg z (lo + i) stop)).isSome = true ∧ ∃ w' ∈ T.getD (lo + i) [], w = w' ++ [seg z (lo + i) stop] := by
  unfold hereW oneW
  rw [List.mem_flatMap]
  constructor
  · rintro ⟨i, mi, mw⟩
    by_cases h : (L.lookup (seg z (lo + i) stop)).isSome = true
    · rw [if_pos h] at mw
      obtain ⟨w', mw', e⟩ := List.mem_map.mp mw
      exact ⟨i, List.mem_range.mp mi, h, w', mw', e.symm⟩
    · rw [if_neg h] at mw
      cases mw
  · rintro ⟨i, hi, h, w', mw', e⟩
    refine ⟨i, List.mem_range.mpr hi, ?_⟩
    rw [if_pos h]
    exact List.mem_map.mpr ⟨w', mw', e.symm⟩
theorem costW_snoc (L : List (Str × Int)) (w : List Str) (p : Str) : costW L (w ++ [p]) = costW L w + (L.lookup p).getD 0 := by
  unfold costW
  rw [List.map_append, List.sum_append]
  simp
theorem ways_few (L : List (Str × Int)) (z : Str) : ∀ n, ∀ k ≤ n, ((cutsT L z n).getD k []).length ≤ 6 ^ k
  | 0, k, h => by
    obtain rfl : k = 0 := by omega
    exact Nat.le_refl _
  | n + 1, k, h => by
    by_cases e : k = n + 1
    · subst e
      rw [cutsT_top]
      have part : ∀ j, j ≤ 5 → n + 1 - 5 + j ≤ n + 1 → (hereW L z (cutsT L z n) (n + 1 - 5) j (n + 1)).length ≤ j * 6 ^ n := by
        intro j
        induction j with
        | zero => exact fun _ _ => Nat.zero_le _
        | succ j ih =>
          intro h5 hl
          rw [hereW_succ, List.length_append]
          have h1 := ih (by omega) (by omega)
          have h2 : (oneW L z (cutsT L z n) (n + 1) (n + 1 - 5 + j)).length ≤ 6 ^ n := by
            unfold oneW
            split
            · rw [List.length_map]
              exact Nat.le_trans (ways_few L z n _ (by omega)) (Nat.pow_le_pow_right (by decide) (by omega))
            · exact Nat.zero_le _
          rw [Nat.succ_mul]
          omega
      have h3 := part (n + 1 - (n + 1 - 5)) (by omega) (by omega)
      have h4 : (n + 1 - (n + 1 - 5)) * 6 ^ n ≤ 6 * 6 ^ n := Nat.mul_le_mul_right _ (by omega)
      rw [Nat.pow_succ]
      omega
    · rw [cutsT_at L z (show k ≤ n + 1 by omega), ← cutsT_at L z (show k ≤ n by omega)]
      exact ways_few L z n k (by omega)
theorem ways_short (L : List (Str × Int)) (z : Str) : ∀ n, ∀ k ≤ n, ∀ w ∈ (cutsT L z n).getD k [], w.length ≤ k
  | 0, k, h, w, m => by
    obtain rfl : k = 0 := by omega
    obtain rfl : w = [] := List.mem_singleton.mp m
    exact Nat.le_refl _
  | n + 1, k, h, w, m => by
    by_cases e : k = n + 1
    · subst e
      rw [cutsT_top] at m
      obtain ⟨i, hi, _, w', mw', rfl⟩ := mem_here.mp m
      have := ways_short L z n _ (by omega) w' mw'
      rw [List.length_append]
      show w'.length + 1 ≤ _
      omega
    · rw [cutsT_at L z (show k ≤ n + 1 by omega), ← cutsT_at L z (show k ≤ n by omega)] at m
      exact ways_short L z n k (by omega) w m
theorem ways_right (nd : (L.map (·.1)).Nodup) (hp : ∀ e ∈ L, 1 ≤ e.1.length ∧ e.1.length ≤ 5) : ∀ n, ∀ k ≤ n, n ≤ z.length → Cov L (pre z n) →
    (∀ w ∈ (cutsT L z n).getD k [], leastP L (pre z k) ≤ costW L w ∧ ∀ p ∈ w, (L.lookup p).isSome = true) ∧ ∃ w ∈ (cutsT L z n).getD k [], costW L w = leastP L (pre z k)
  | 0, k, h, _, _ => by
    obtain rfl : k = 0 := by omega
    have e : pre z 0 = Str.ofString "" := nil_of_len (pre_len (Nat.zero_le _))
    rw [e, leastP_nil]
    refine ⟨fun w m => ?_, [], List.mem_singleton.mpr rfl, rfl⟩
    obtain rfl : w = [] := List.mem_singleton.mp m
    exact ⟨Int.le_refl _, fun p m => (nomatch m)⟩
  | n + 1, k, h, hz, cov => by
    have covn : Cov L (pre z n) := fun c m => cov c (by
      rw [pre_list] at m ⊢
      rw [← Nat.min_eq_left (Nat.le_succ n), ← List.take_take] at m
      exact List.mem_of_mem_take m)
    by_cases e : k = n + 1
    · subst e
      rw [cutsT_top]
      have ih := fun s hs => ways_right nd hp n s hs (by omega) covn
      have hl : ∀ e ∈ L, 1 ≤ e.1.length := fun e m => (hp e m).1
      constructor
      · intro w mw
        obtain ⟨i, hi, has, w', mw', rfl⟩ := mem_here.mp mw
        obtain ⟨v, hv⟩ := Option.isSome_iff_exists.mp has
        obtain ⟨h1, h2⟩ := (ih (n + 1 - 5 + i) (by omega)).1 w' mw'
        have st := least_step hl (x := pre z (n + 1 - 5 + i)) (lookup_mem hv)
        rw [← pre_seg (by omega) hz] at st
        refine ⟨?_, fun p mp => ?_⟩
        · rw [costW_snoc, hv]
          show leastP L (pre z (n + 1)) ≤ costW L w' + v
          dsimp only at st
          omega
        · rcases List.mem_append.mp mp with mp | mp
          · exact h2 p mp
          · rw [List.mem_singleton.mp mp]
            exact has
      · obtain ⟨x, e, me, ez, el⟩ := least_last hl (z := pre z (n + 1)) (by rw [pre_len hz]; omega) cov
        have le := hp e me
        have lz := congrArg Str.length ez
        rw [pre_len hz, app_len] at lz
        have ex : x = pre z x.length := by
          have h : pre (pre z (n + 1)) x.length = pre (x ++ e.1) x.length := congrArg (fun w => pre w x.length) ez
          rw [pre_app, pre_pre (by omega)] at h
          exact h.symm
        have es : seg z x.length (n + 1) = e.1 := by
          have h := pre_seg (z := z) (i := x.length) (j := n + 1) (by omega) hz
          rw [ez, ← ex] at h
          have h' : (x ++ e.1).cps.toList = (x ++ seg z x.length (n + 1)).cps.toList := congrArg (fun w : Str => w.cps.toList) h
          rw [app_list, app_list] at h'
          exact (str_eq_of_lists (List.append_cancel_left h')).symm
        obtain ⟨w', mw', hw'⟩ := (ih x.length (by omega)).2
        have has := lookup_nodup nd e me
        have at_x : n + 1 - 5 + (x.length - (n + 1 - 5)) = x.length := by omega
        refine ⟨w' ++ [e.1], mem_here.mpr ⟨x.length - (n + 1 - 5), by omega, ?_, w', ?_, ?_⟩, ?_⟩
        · rw [at_x, es, has]
          rfl
        · rw [at_x]
          exact mw'
        · rw [at_x, es]
        · rw [costW_snoc, has, hw', ← ex, el]
          rfl
    · have hk : k ≤ n := by omega
      rw [cutsT_at L z (show k ≤ n + 1 by omega), ← cutsT_at L z hk]
      exact ways_right nd hp n k hk (by omega) covn
end
/-- a list of tuples of texts -/
def WaysAt (H : Hp) (p : Addr) (W : List (List Str)) : Prop := ∃ ts : List Addr, H p = some (.lst (ts.map V.ref)) ∧ Paired (fun t w => H t = some (.tup (w.map V.str))) ts W
theorem WaysAt.up {H H' : Hp} {p : Addr} {W : List (List Str)} (h : WaysAt H p W) (sm : Same H H') : WaysAt H' p W := by
  obtain ⟨ts, a, prs⟩ := h
  exact ⟨ts, sm _ _ a, Paired.mapP prs fun t w z => sm _ _ z⟩
theorem WaysAt.len {H : Hp} {p : Addr} {W : List (List Str)} (h : WaysAt H p W) : ∃ xs, H p = some (.lst xs) ∧ xs.length = W.length := by
  obtain ⟨ts, a, prs⟩ := h
  exact ⟨_, a, by rw [List.length_map]; exact Paired.length prs⟩
/-- another list has changed -/
theorem WaysAt.upB {H H' : Hp} {p q : Addr} {xs : List V} {W : List (List Str)} (h : WaysAt H p W) (ne : p ≠ q) (at_q : H q = some (.lst xs)) (sm : SameB q H H') : WaysAt H' p W := by
  obtain ⟨ts, a, prs⟩ := h
  refine ⟨ts, sm _ _ ne a, Paired.mapP prs fun t w z => sm _ _ (fun e => ?_) z⟩
  rw [e, at_q] at z
  cases z
/-- a list of lists of tuples of texts; itself none of these lists -/
def FoundAt (H : Hp) (p : Addr) (T : List (List (List Str))) : Prop := ∃ ps : List Addr, H p = some (.lst (ps.map V.ref)) ∧ p ∉ ps ∧ Paired (fun q W => WaysAt H q W) ps T
end Gd

/-! Gd26: lists of what is made of some items; tuples joined in a comprehension. -/
namespace Gd
open PySem PySem.Spec PyProof.Rows L2
theorem op_catAK {X : Cx} {K : PySem.W.Frag} (h : X.K = K) : OpR X (binaryOp .Add) (rCatA K) := by
  subst h
  exact op_catA
theorem cr_sumK {X : Cx} {K : PySem.W.Frag} (hc : X.calm = true) (h : X.K = K) : CallR X (.builtin "sum") (rSum K) := by
  subst h
  exact cr_sum hc
theorem Paired.snoc {α β : Type} {F : α → β → Prop} {as : List α} {bs : List β} {x : α} {y : β} (h : Paired F as bs) (f : F x y) : Paired F (as ++ [x]) (bs ++ [y]) := by
  induction h with
  | nil => exact .cons f .nil
  | cons r _ ih => exact .cons r ih
theorem Paired.joined {α β : Type} {F : α → β → Prop} {as as' : List α} {bs bs' : List β} (h : Paired F as bs) (k : Paired F as' bs') : Paired F (as ++ as') (bs ++ bs') := by
  induction h with
  | nil => exact k
  | cons r _ ih => exact .cons r ih
theorem Paired.at {α β : Type} {F : α → β → Prop} {as : List α} {bs : List β} (h : Paired F as bs) : ∀ {i : Nat}, i < bs.length → ∃ a b, as[i]? = some a ∧ bs[i]? = some b ∧ F a b := by
  induction h with
  | nil => exact fun lt => absurd lt (Nat.not_lt_zero _)
  | @cons a b as bs r t ih =>
    intro i lt
    cases i with
    | zero => exact ⟨a, b, rfl, rfl, r⟩
    | succ i => exact ih (i := i) (by rw [List.length_cons] at lt; omega)
theorem Paired.mem_left {α β : Type} {F : α → β → Prop} {as : List α} {bs : List β} (h : Paired F as bs) {x : α} (m : x ∈ as) : ∃ y, y ∈ bs ∧ F x y := by
  induction h with
  | nil => cases m
  | cons r _ ih =>
    rcases List.mem_cons.mp m with rfl | m
    · exact ⟨_, List.mem_cons_self .., r⟩
    · obtain ⟨y, my, hy⟩ := ih m
      exact ⟨y, List.mem_cons_of_mem _ my, hy⟩
theorem Paired.map_mem {α β : Type} {F G : α → β → Prop} {as : List α} {bs : List β} (h : Paired F as bs) : (∀ a b, a ∈ as → F a b → G a b) → Paired G as bs := by
  induction h with
  | nil => exact fun _ => .nil
  | cons r _ ih => exact fun f => .cons (f _ _ (List.mem_cons_self ..) r) (ih fun a b m => f a b (List.mem_cons_of_mem _ m))
theorem strs_inj : ∀ {xs ys : List Str}, xs.map V.str = ys.map V.str → xs = ys
  | [], [], _ => rfl
  | [], _ :: _, h => by cases h
  | _ :: _, [], h => by cases h
  | x :: xs, y :: ys, h => by
    rw [List.map_cons, List.map_cons] at h
    obtain ⟨h1, h2⟩ := List.cons.inj h
    rw [V.str.inj h1, strs_inj h2]
/-- the tuples with a piece more -/
theorem ways_more {H1 H : Hp} {piece : Str} {ts : List Addr} {W : List (List Str)} (prs : Paired (fun t w => H1 t = some (.tup (w.map V.str))) ts W) : ∀ {ys : List V}, Paired (fun x y => ∃ t t' w, x = V.ref t ∧ y = V.ref t' ∧ H1 t = some (.tup (w.map V.str)) ∧ H t' = some (.tup ((w ++ [piece]).map V.str))) (ts.map V.ref) ys → ∃ ts' : List Addr, ys = ts'.map V.ref ∧ Paired (fun t w => H t = some (.tup (w.map V.str))) ts' (W.map fun w => w ++ [piece]) := by
  induction prs with
  | nil =>
    intro ys h
    cases h
    exact ⟨[], rfl, .nil⟩
  | @cons t w ts W r _ ih =>
    intro ys h
    cases h with
    | cons q k =>
      obtain ⟨ts', rfl, p⟩ := ih k
      obtain ⟨t1, t', w1, e1, rfl, h1, h2⟩ := q
      obtain rfl : t = t1 := V.ref.inj e1
      rw [r] at h1
      obtain rfl : w = w1 := strs_inj (HO.tup.inj (Option.some.inj h1))
      exact ⟨t' :: ts', rfl, .cons h2 p⟩
/-- [.. for x in xs if b], the test the same for all -/
theorem lc_relF {K : PySem.W.Frag} {a : Addr} {xs : List V} {slot : Nat} {tt : TT} {te : TE} {vs : List Nat} {σ : L2.St} {H1 : Hp} {D : Addr} {Qd : Hp → Prop} (b : Bool) (Rel : V → V → Hp → Prop) (mono : ∀ x y H H', Same H H' → Rel x y H → Rel x y H') (mono2 : ∀ x y H l o, H D = some (.lst l) → Rel x y H → Rel x y (upd H D o)) (hD : H1 D = none) (hS : SqL K H1 a xs) (hn : xs.length ≤ 100000)
    (hw : ∀ x, wipe ((wipe σ vs).set slot (some x)) vs = wipe σ vs)
    (ht : ∀ (x : V) (H : Hp), x ∈ xs → Same H1 H → ∀ Q : Bool → Hp → Prop, (∀ H', Same H H' → Q b H') → tt ((wipe σ vs).set slot (some x)) H Q)
    (hs : ∀ (x : V) (H : Hp), x ∈ xs → b = true → Same H1 H → ∀ Q : VK, (∀ y H', Same H H' → Rel x y H' → Q y H') → te ((wipe σ vs).set slot (some x)) H Q)
    (hd : ∀ (H : Hp) (ys : List V), Same H1 H → H D = some (.lst ys) → Paired (fun x y => Rel x y H) (if b = true then xs else []) ys → Qd H) :
    ∃ W : Nat → Nat → Hp → Prop, (∃ m, W 0 m (upd H1 D (.lst []))) ∧ ∀ i m H, W i m H →
      ((Itl K a).stop i H ∧ Qd H) ∨ ((Itl K a).go i H ∧ ∃ Nx : Hp → Prop, (∀ H', Nx H' → ∃ m', m' < m ∧ W (i + 1) m' H') ∧ ∀ x H', (Itl K a).yld i H x H' → gName slot x (wipe σ vs) H' fun σ2 H2 => wipe σ2 vs = wipe σ vs ∧ tt σ2 H2 fun b H3 =>
        if b = true then te σ2 H3 fun y H4 => ∃ acc, H4 D = some (.lst acc) ∧ acc.length < sizeLine ∧ Nx (upd H4 D (.lst (acc ++ [y]))) else Nx H3) := by
  refine lc_list (K := K) (a := a) (xs := xs) (fun i H => Same H1 H ∧ ∃ ys, H D = some (.lst ys) ∧ Paired (fun x y => Rel x y H) (if b = true then xs.take i else []) ys) ⟨same_new hD, [], upd_same, by rw [List.take_zero]; split <;> exact .nil⟩ (fun i H _ h => h.1.seq hS) ?_ ?_
  · rintro i x H hi ⟨sm, ys, h, prs⟩
    have mx := List.mem_of_getElem? hi
    have et : xs.take (i + 1) = xs.take i ++ [x] := by rw [List.take_add_one, hi] <;> rfl
    refine ⟨hw _, ht x H mx sm _ fun H1' s1 => ?_⟩
    cases b with
    | false =>
      refine iteF ⟨sm.trans s1, ys, s1 _ _ h, ?_⟩
      rw [if_neg Bool.false_ne_true] at prs ⊢
      cases prs
      exact .nil
    | true =>
      rw [if_pos rfl] at prs
      refine iteT (hs x H1' mx rfl (sm.trans s1) _ fun y H2 s2 r => ?_)
      have h2 := s2 _ _ (s1 _ _ h)
      refine ⟨ys, h2, ?_, same_over ((sm.trans s1).trans s2) hD, _, upd_same, ?_⟩
      · have l1 := Paired.length prs
        rw [List.length_take] at l1
        rw [sizeLine_eq]
        omega
      · rw [if_pos rfl, et]
        exact Paired.snoc (Paired.mapP prs fun u v q => mono2 _ _ _ _ _ h2 (mono _ _ _ _ (s1.trans s2) q)) (mono2 _ _ _ _ _ h2 r)
  · rintro H ⟨sm, ys, h, prs⟩
    rw [List.take_length] at prs
    exact hd H ys sm h prs
end Gd

/-! M16: a piece at another price; lists of pairs compared -/
namespace Gd
open PySem PySem.Spec PyProof.Rows L2
theorem eqv_pairsAll : ∀ L : List (Str × Int), PyData.eqvAll (L.map fun e => PyData.tuple [.str e.1, .int e.2]) (L.map fun e => PyData.tuple [.str e.1, .int e.2]) = true
  | [] => by simp only [List.map_nil, PyData.eqvAll]
  | e :: r => by
    rw [List.map_cons, PyData.eqvAll, eqv_pairsAll r, Bool.and_true]
    simp [PyData.eqv, PyData.eqvAll]
theorem eqv_pdP (L : List (Str × Int)) : PyData.eqv (pdP L) (pdP L) = true := by
  unfold pdP
  rw [PyData.eqv]
  exact eqv_pairsAll L
theorem shaped_pdP {L : List (Str × Int)} (h : ∀ e ∈ L, PyData.strOk e.1 = true) : SeqAt.shaped (pdP L) = true := by
  have all : PyData.canLayAll0 (L.map fun e => PyData.tuple [.str e.1, .int e.2]) = true ∧ PyData.depthAll (L.map fun e => PyData.tuple [.str e.1, .int e.2]) ≤ 1 := by
    induction L with
    | nil => simp only [List.map_nil, PyData.canLayAll0, PyData.depthAll, true_and, Nat.zero_le]
    | cons e r ih =>
      obtain ⟨i1, i2⟩ := ih fun y m => h y (List.mem_cons_of_mem _ m)
      simp only [List.map_cons, PyData.canLayAll0, PyData.canLay0, PyData.depthAll, PyData.depth, i1, h e (List.mem_cons_self ..), Bool.and_self, true_and]
      omega
  unfold SeqAt.shaped pdP
  rw [Bool.and_eq_true]
  refine ⟨by rw [PyData.canLay0]; exact all.1, decide_eq_true ?_⟩
  rw [PyData.depth]
  have := all.2
  omega
/-- two truths and a text or None -/
theorem sh_none (a b : Bool) : Sh (.list [.bool a, .bool b, .none]) := by
  cases a <;> cases b <;> exact ⟨by decide +kernel, by decide +kernel, by decide +kernel, by decide +kernel, by decide +kernel⟩
theorem sh_word (a b : Bool) {z : Str} (h : z.length ≤ 5) (l : ∀ c ∈ z.cps.toList, low c = true) : Sh (.list [.bool a, .bool b, .str z]) := by
  have sz : z.cps.size = z.length := rfl
  have w1 : ∀ b : Bool, (PyData.bool b).weight ≤ 20 := fun b => by cases b <;> decide +kernel
  have d1 : ∀ b : Bool, (PyData.bool b).depth ≤ 1 := fun b => by cases b <;> decide +kernel
  have wa := w1 a
  have wb := w1 b
  have da := d1 a
  have db := d1 b
  refine ⟨?_, ?_, ?_, ?_, ?_⟩
  · simp only [PyData.leavesShort, PyData.leavesShortAll, (sh_bool a).short, (sh_bool b).short, Bool.true_and, Bool.and_true, List.all_eq_true]
    intro c mc
    have := of_decide_eq_true (l c mc)
    exact decide_eq_true (Nat.lt_of_le_of_lt this.2 (by decide))
  · simp only [PyData.showable, PyData.showableAll, (sh_bool a).can, (sh_bool b).can, Bool.true_and, Bool.and_true]
  · simp only [PyData.hasDict, PyData.hasDictAll, (sh_bool a).plain, (sh_bool b).plain, Bool.or_self]
  · simp only [PyData.weight, PyData.weightAll] at wa wb ⊢
    omega
  · simp only [PyData.depth, PyData.depthAll] at da db ⊢
    omega
section
variable {S : List Str} {L : List (Str × Int)}
theorem Full.sub (f : Full S L) (s : Sg S) {zs : List Str} (long : ∀ z ∈ zs, 1 < z.length) : Full S (subP L zs) where
  nd := subP_nd f.nd
  len := Nat.le_trans (subP_len L zs) f.len
  has := fun z m => by
    obtain ⟨e, me, rfl⟩ := List.mem_map.mp (f.has z m)
    refine List.mem_map.mpr ⟨e, mem_subP.mpr ⟨me, fun h => ?_⟩, rfl⟩
    have := long e.1 h
    rw [s.len m] at this
    exact absurd this (by decide)
  piece := fun z m => f.piece z ((subP_sub L zs).mem m)
  price := fun e m => f.price e (mem_subP.mp m).1
theorem Full.put (f : Full S L) (l : L.length ≤ 11) {z : Str} (hz : (1 ≤ z.length ∧ z.length ≤ 5) ∧ Over S z) {v : Int} (hv : 1 ≤ v ∧ v ≤ 99) : Full S (putP L z v) where
  nd := nodup_putP f.nd
  len := by
    have := putP_len L z v
    omega
  has := fun y m => mem_putP.mpr (.inr (f.has y m))
  piece := fun y m => (mem_putP.mp m).elim (fun h => h ▸ hz) (f.piece y)
  price := all_putP (p := fun v => 1 ≤ v ∧ v ≤ 99) f.price hv
theorem mem_put_new {z : Str} {v : Int} (h : z ∉ L.map (·.1)) {e : Str × Int} : e ∈ putP L z v ↔ e ∈ L ∨ e = (z, v) := by
  rw [putP_new h, List.mem_append, List.mem_singleton]
theorem Full.nonneg (f : Full S L) : ∀ n, ∀ z : Str, z.length ≤ n → Over S z → 0 ≤ leastP L z
  | 0, z, h, _ => by
    have : z = Str.ofString "" := nil_of_len (by omega)
    rw [this, leastP_nil]
    exact Int.le_refl _
  | n + 1, z, h, o => by
    by_cases e0 : z.length = 0
    · have : z = Str.ofString "" := nil_of_len e0
      rw [this, leastP_nil]
      exact Int.le_refl _
    · obtain ⟨x, e, me, rfl, el⟩ := least_last f.pos1 e0 (f.cov o)
      have l1 := f.pos1 e me
      rw [app_len] at h
      have := f.nonneg n x (by omega) o.left
      have := f.price e me
      omega
theorem Full.one (f : Full S L) {z : Str} (h : z.length ≠ 0) (o : Over S z) : 1 ≤ leastP L z := by
  obtain ⟨x, e, me, rfl, el⟩ := least_last f.pos1 h (f.cov o)
  have := f.nonneg _ x (Nat.le_refl _) o.left
  have := f.price e me
  omega
theorem Full.most (f : Full S L) {u : Int} (u0 : 0 ≤ u) (hu : ∀ e ∈ L, e.2 ≤ u) : ∀ n : Nat, ∀ z : Str, z.length = n → Over S z → leastP L z ≤ u * n
  | 0, z, h, _ => by
    have : z = Str.ofString "" := nil_of_len h
    rw [this, leastP_nil]
    omega
  | n + 1, z, h, o => by
    have e : z = pre z n ++ seg z n (n + 1) := by
      have := pre_seg (z := z) (i := n) (j := n + 1) (by omega) (by omega)
      rw [← this, ← h]
      exact (pre_all z).symm
    have l1 : (seg z n (n + 1)).length = 1 := by rw [seg_len (by omega) (by omega)]; omega
    have : ∃ c, seg z n (n + 1) = sg c := by
      have l2 := str_len (seg z n (n + 1))
      rw [l1] at l2
      obtain ⟨c, hc⟩ := List.length_eq_one_iff.mp l2
      exact ⟨c, str_eq_of_lists (by rw [hc])⟩
    obtain ⟨c, hc⟩ := this
    have oc : sg c ∈ S := by
      rw [e, hc] at o
      exact o.right c (by simp)
    obtain ⟨p, mp, ep⟩ := List.mem_map.mp (f.has _ oc)
    have st := least_step f.pos1 (x := pre z n) mp
    rw [ep, ← hc, ← e] at st
    have ih := f.most u0 hu n (pre z n) (pre_len (by omega)) (o.pre n)
    have := hu p mp
    have ex : u * ((n + 1 : Nat) : Int) = u * (n : Int) + u := by
      rw [show ((n + 1 : Nat) : Int) = (n : Int) + 1 by omega, Int.mul_add, Int.mul_one]
    omega
/-- a book, and the same with a new piece -/
theorem put_dear (s : Sg S) (f : Full S L) (l : L.length ≤ 11) {z : Str} (hz : (1 ≤ z.length ∧ z.length ≤ 5) ∧ Over S z) (new : z ∉ L.map (·.1)) {v : Int} (hv : 1 ≤ v ∧ v ≤ 99) :
    dearer (sortP (putP L z v)) (sortP L) = .non ∧ (dearer (sortP L) (sortP (putP L z v)) = .non ↔ leastP L z ≤ v) ∧ (¬ leastP L z ≤ v → dearer (sortP L) (sortP (putP L z v)) = .str z) := by
  have g := f.put l hz hv
  have mem := fun e => mem_put_new (v := v) new (e := e)
  have main : dearer (sortP L) (sortP (putP L z v)) = .non ↔ leastP L z ≤ v := by
    rw [f.dear g]
    constructor
    · intro h
      exact h (z, v) ((mem _).mpr (.inr rfl))
    · intro h e me
      rcases (mem e).mp me with m | rfl
      · exact least_one f.pos1 m
      · exact h
  refine ⟨(g.dear f).mpr fun e me => least_one g.pos1 ((mem e).mpr (.inl me)), main, fun no => ?_⟩
  rcases dearer_cases (sortP L) (sortP (putP L z v)) with h | ⟨y, h⟩
  · exact absurd (main.mp h) no
  · obtain ⟨⟨v', m', lt⟩, _⟩ := dear_first (sortP_asc _) h
    have mp := (mem_sortP g.nd).mp m'
    rcases (mem _).mp mp with m | e
    · have h1 := least_one f.pos1 m
      rw [f.least (f.over m)] at lt
      dsimp only at h1 lt
      omega
    · rw [h, (Prod.mk.inj e).1]
theorem put_needless (s : Sg S) (f : Full S L) (l : L.length ≤ 11) {z : Str} (hz : (2 ≤ z.length ∧ z.length ≤ 5) ∧ Over S z) (new : z ∉ L.map (·.1)) {v : Int} (hv : 1 ≤ v ∧ v ≤ 99) : z ∈ ndl (sortP (putP L z v)) ↔ leastP L z ≤ v := by
  have g := f.put l ⟨⟨by omega, hz.1.2⟩, hz.2⟩ hv
  have mem := fun e => mem_put_new (v := v) new (e := e)
  have same : leastP (subP (sortP (putP L z v)) [z]) z = leastP L z := by
    have long : ∀ y ∈ [z], 1 < y.length := fun y m => by
      rw [List.mem_singleton.mp m]
      omega
    refine least_same (g.sort.sub s long).pos1 f.pos1 (fun e => ?_) ((g.sort.sub s long).cov hz.2)
    rw [mem_subP, mem_sortP g.nd, mem, List.mem_singleton]
    constructor
    · rintro ⟨m | rfl, n⟩
      · exact m
      · exact absurd rfl n
    · intro m
      exact ⟨.inl m, fun e' => new (e' ▸ List.mem_map.mpr ⟨e, m, rfl⟩)⟩
  rw [mem_ndl]
  constructor
  · rintro ⟨v', m, _, h⟩
    have mp := (mem_sortP g.nd).mp m
    rcases (mem _).mp mp with m | e
    · exact absurd (List.mem_map.mpr ⟨_, m, rfl⟩) new
    · rw [same, (Prod.mk.inj e).2] at h
      exact h
  · intro h
    exact ⟨v, (mem_sortP g.nd).mpr ((mem _).mpr (.inr rfl)), by omega, by rw [same]; exact h⟩
end
end Gd

/-! Gd27: over the items of a tuple inside a comprehension -/
namespace Gd
open PySem PySem.Spec PyProof.Rows L2
theorem pi_tupK {X : Cx} {K : PySem.W.Frag} {tg l : Expr} {tl : TE} (h : X.K = K) (hl : PE X l tl) : PI X tg l (iTup K tl) := by
  subst h
  exact pi_tup hl

theorem ways_costs {H1 : Hp} {M : List (Str × Int)} {ts : List Addr} {W : List (List Str)} (prs : Paired (fun t w => H1 t = some (.tup (w.map V.str))) ts W) : ∀ {ys : List V}, Paired (fun x y => ∃ t w, x = V.ref t ∧ y = V.int (costW M w) ∧ H1 t = some (.tup (w.map V.str))) (ts.map V.ref) ys → ys = (W.map (costW M)).map V.int := by
  induction prs with
  | nil =>
    intro ys h
    cases h
    rfl
  | @cons t w ts W r _ ih =>
    intro ys h
    cases h with
    | cons q k =>
      obtain ⟨t1, w1, e1, rfl, h1⟩ := q
      obtain rfl : t = t1 := V.ref.inj e1
      rw [r] at h1
      obtain rfl : w = w1 := strs_inj (HO.tup.inj (Option.some.inj h1))
      rw [ih k]
      rfl
/-- the least of the prices of all cuts -/
theorem least_costs {M : List (Str × Int)} {z : Str} (nd : (M.map (·.1)).Nodup) (hp : ∀ e ∈ M, 1 ≤ e.1.length ∧ e.1.length ≤ 5) (cov : Cov M z) : 0 < (((cutsT M z z.length).getD z.length []).map (costW M)).length ∧ ∀ m, m ∈ ((cutsT M z z.length).getD z.length []).map (costW M) → (∀ y, y ∈ ((cutsT M z z.length).getD z.length []).map (costW M) → m ≤ y) → m = leastP M z := by
  obtain ⟨h1, w, mw, ew⟩ := ways_right (L := M) (z := z) nd hp z.length z.length (Nat.le_refl _) (Nat.le_refl _) (by rw [pre_all]; exact cov)
  rw [pre_all] at h1 ew
  have mem := List.mem_map.mpr ⟨w, mw, ew⟩
  refine ⟨List.length_pos_of_mem mem, fun m mm le => ?_⟩
  have a := le _ mem
  obtain ⟨w2, mw2, rfl⟩ := List.mem_map.mp mm
  have b := (h1 w2 mw2).1
  omega
theorem if_same {p : Prop} {inst : Decidable p} {A B : Prop} (h : p) (b : B) : if @decide p inst = false then A else B := by
  rw [if_neg (fun e => of_decide_eq_false e h)]
  exact b
end Gd

/-! M17: a single sign at another price -/
namespace Gd
open PySem PySem.Spec PyProof.Rows L2
section
variable {S : List Str} {L : List (Str × Int)}
theorem Full.sign (s : Sg S) (f : Full S L) {z : Str} (h : z ∈ S) {u : Int} (hu : L.lookup z = some u) : leastP L z = u := by
  have lz := s.len h
  obtain ⟨x, e, me, ez, el⟩ := least_last f.pos1 (by omega) (f.cov (s.over h))
  have le := f.pos1 e me
  have lx : x.length = 0 := by
    rw [ez, app_len] at lz
    omega
  have : x = Str.ofString "" := nil_of_len lx
  subst this
  rw [nil_app] at ez
  rw [leastP_nil, Int.zero_add] at el
  have := lookup_nodup f.nd e me
  rw [← ez, hu] at this
  rw [el]
  exact (Option.some.inj this).symm
theorem sign_dear (s : Sg S) (f : Full S L) (l : L.length ≤ 11) {z : Str} (h : z ∈ S) {u v : Int} (hu : L.lookup z = some u) (hv : 1 ≤ v ∧ v ≤ 99) :
    Full S (putP L z v) ∧ (dearer (sortP (putP L z v)) (sortP L) = .non ↔ v ≤ u) ∧ (dearer (sortP L) (sortP (putP L z v)) = .non ↔ u ≤ v) := by
  have lz := s.len h
  have g : Full S (putP L z v) := f.put l ⟨by omega, s.over h⟩ hv
  have lk : (putP L z v).lookup z = some v := by rw [lookup_putP, if_pos rfl]
  have other : ∀ {y : Str}, y ≠ z → (putP L z v).lookup y = L.lookup y := fun ne => by rw [lookup_putP, if_neg ne]
  refine ⟨g, ?_, ?_⟩
  · rw [g.dear f]
    constructor
    · intro k
      have := k (z, u) (lookup_mem hu)
      dsimp only at this
      rw [g.sign s h lk] at this
      exact this
    · intro k e me
      by_cases e1 : e.1 = z
      · rw [e1, g.sign s h lk]
        have := lookup_nodup f.nd e me
        rw [e1, hu] at this
        rw [← Option.some.inj this]
        exact k
      · have := lookup_nodup f.nd e me
        rw [← other e1] at this
        exact least_one g.pos1 (lookup_mem this : (e.1, e.2) ∈ _)
  · rw [f.dear g]
    constructor
    · intro k
      have := k (z, v) (lookup_mem lk)
      dsimp only at this
      rw [f.sign s h hu] at this
      exact this
    · intro k e me
      by_cases e1 : e.1 = z
      · rw [e1, f.sign s h hu]
        have := lookup_nodup g.nd e me
        rw [e1, lk] at this
        rw [← Option.some.inj this]
        exact k
      · have := lookup_nodup g.nd e me
        rw [other e1] at this
        exact least_one f.pos1 (lookup_mem this : (e.1, e.2) ∈ _)
end
end Gd

/-! M18: a book without a piece that it needs -/
namespace Gd
open PySem PySem.Spec PyProof.Rows L2
section
variable {S : List Str} {L : List (Str × Int)}
/-- without a piece that is not needless, the piece is dearer -/
theorem tight_dear (s : Sg S) (f : Full S L) (asc : sortP L = L) {e : Str × Int} (me : e ∈ L) (long : 1 < e.1.length) (no : ndl L = []) : ¬ leastP (subP L [e.1]) e.1 ≤ e.2 ∧ Full S (subP L [e.1]) ∧ dearer (sortP (subP L [e.1])) L = .str e.1 := by
  have g : Full S (subP L [e.1]) := f.sub s fun y m => by
    rw [List.mem_singleton.mp m]
    exact long
  have not : ¬ leastP (subP L [e.1]) e.1 ≤ e.2 := fun h => by
    have : e.1 ∈ ndl L := mem_ndl.mpr ⟨e.2, me, long, h⟩
    rw [no] at this
    cases this
  refine ⟨not, g, ?_⟩
  have fd := g.dear f
  rw [asc] at fd
  rcases dearer_cases (sortP (subP L [e.1])) L with h | ⟨y, h⟩
  · exact absurd (fd.mp h e me) not
  · obtain ⟨⟨v, mv, lt⟩, _⟩ := dear_first (by rw [← asc]; exact sortP_asc _) h
    by_cases ey : y = e.1
    · rw [h, ey]
    · have m2 : (y, v) ∈ subP L [e.1] := mem_subP.mpr ⟨mv, fun h => ey (List.mem_singleton.mp h)⟩
      have := least_one g.sort.pos1 ((mem_sortP g.nd).mpr m2)
      dsimp only at this
      omega
end
end Gd

/-! M19: lists of integers compared -/
namespace Gd
open PySem PySem.Spec PyProof.Rows L2
theorem dp_intsAll {K : PySem.W.Frag} {H : Hp} : ∀ ns : List Int, DpAll K H (ns.map V.int) (ns.map PyData.int)
  | [] => .nil
  | n :: r => .cons (.int n) (dp_intsAll r)
theorem eqv_ints : ∀ ns : List Int, PyData.eqvAll (ns.map PyData.int) (ns.map PyData.int) = true
  | [] => by simp only [List.map_nil, PyData.eqvAll]
  | n :: r => by
    rw [List.map_cons, PyData.eqvAll, eqv_ints r, Bool.and_true]
    simp [PyData.eqv]
theorem eqv_listInts (ns : List Int) : PyData.eqv (.list (ns.map PyData.int)) (.list (ns.map PyData.int)) = true := by
  rw [PyData.eqv]
  exact eqv_ints ns
theorem shaped_listInts (ns : List Int) : SeqAt.shaped (.list (ns.map PyData.int)) = true := by
  have all : PyData.canLayAll0 (ns.map PyData.int) = true ∧ PyData.depthAll (ns.map PyData.int) ≤ 0 := by
    induction ns with
    | nil => simp only [List.map_nil, PyData.canLayAll0, PyData.depthAll, true_and, Nat.le_refl]
    | cons n r ih =>
      obtain ⟨i1, i2⟩ := ih
      simp only [List.map_cons, PyData.canLayAll0, PyData.canLay0, PyData.depthAll, PyData.depth, i1, Bool.and_self, true_and]
      omega
  unfold SeqAt.shaped
  rw [Bool.and_eq_true]
  refine ⟨by rw [PyData.canLay0]; exact all.1, decide_eq_true ?_⟩
  rw [PyData.depth]
  have := all.2
  omega
end Gd

/-! M20: the least book; choices of pieces -/
namespace Gd
open PySem PySem.Spec PyProof.Rows L2
section
variable {S : List Str} {L M : List (Str × Int)}
/-- fewer pieces make nothing cheaper -/
theorem least_fewer (f : Full S L) (g : Full S M) (sub : ∀ e ∈ M, e ∈ L) {z : Str} (o : Over S z) : leastP L z ≤ leastP M z :=
  least_all (fun e me => least_one f.pos1 (sub e me)) f.pos1 g.pos1 _ z (Nat.le_refl _) (f.cov o) (g.cov o)
/-- short texts, by pieces that are short enough -/
theorem least_short (f : Full S L) (g : Full S M) (n : Nat) (h : ∀ e ∈ M, e.1.length < n → leastP L e.1 ≤ e.2) : ∀ k, ∀ x : Str, x.length ≤ k → k < n → Over S x → leastP L x ≤ leastP M x
  | 0, x, lx, _, _ => by
    have : x = Str.ofString "" := nil_of_len (by omega)
    rw [this, leastP_nil, leastP_nil]
    exact Int.le_refl _
  | k + 1, x, lx, kn, o => by
    by_cases e0 : x.length = 0
    · have : x = Str.ofString "" := nil_of_len e0
      rw [this, leastP_nil, leastP_nil]
      exact Int.le_refl _
    · obtain ⟨y, e, me, rfl, el⟩ := least_last g.pos1 e0 (g.cov o)
      have l1 := g.pos1 e me
      rw [app_len] at lx
      have ih := least_short f g n h k y (by omega) (by omega) o.left
      have he := h e me (by omega)
      have ap := least_app f.pos1 y e.1.length e.1 (Nat.le_refl _) (f.cov o.right)
      rw [el]
      omega
theorem Full.bare (s : Sg S) (f : Full S L) : Full S (subP L (ndl L)) := f.sub s fun z m => by
  obtain ⟨_, _, h, _⟩ := mem_ndl.mp m
  exact h
/-- without its needless pieces a book makes each of its pieces as cheaply -/
theorem bare_cheap (s : Sg S) (f : Full S L) : ∀ n, ∀ e ∈ L, e.1.length ≤ n → leastP (subP L (ndl L)) e.1 ≤ e.2
  | 0, e, me, h => by
    have := f.pos1 e me
    omega
  | n + 1, e, me, h => by
    have g := f.bare s
    by_cases no : e.1 ∈ ndl L
    · obtain ⟨v, mv, long, le⟩ := mem_ndl.mp no
      have ev : v = e.2 := by
        have a := lookup_nodup f.nd (e.1, v) mv
        have b := lookup_nodup f.nd e me
        rw [b] at a
        exact (Option.some.inj a).symm
      rw [ev] at le
      have w : Full S (subP L [e.1]) := f.sub s fun y m => by
        rw [List.mem_singleton.mp m]
        exact long
      have oe := f.over me
      obtain ⟨y, e', me', ez, el⟩ := least_last w.pos1 (z := e.1) (by omega) (w.cov oe)
      obtain ⟨mL, ne⟩ := mem_subP.mp me'
      have l1 := w.pos1 e' me'
      have len : e.1.length = y.length + e'.1.length := by
        have := congrArg Str.length ez
        rwa [app_len] at this
      have y0 : y.length ≠ 0 := fun h0 => by
        have : y = Str.ofString "" := nil_of_len h0
        rw [this, nil_app] at ez
        exact ne (List.mem_singleton.mpr ez.symm)
      have oy : Over S y := by
        rw [ez] at oe
        exact oe.left
      have short := least_short g w e.1.length (fun d md ld => bare_cheap s f n d (mem_subP.mp md).1 (by omega)) y.length y (Nat.le_refl _) (by omega) oy
      have last := bare_cheap s f n e' mL (by omega)
      have ap := least_app g.pos1 y e'.1.length e'.1 (Nat.le_refl _) (g.cov (by
        rw [ez] at oe
        exact oe.right))
      rw [← ez] at ap
      omega
    · exact least_one g.pos1 (mem_subP.mpr ⟨me, no⟩)
/-- M: some of the pieces of L, all signs among them -/
structure Some_ (S : List Str) (L M : List (Str × Int)) : Prop where
  full : Full S M
  sub : ∀ e ∈ M, e ∈ L
/-- as cheap exactly if all pieces of the least book are there -/
theorem some_dear (s : Sg S) (f : Full S L) (m : Some_ S L M) : dearer (sortP M) (sortP L) = .non ↔ ∀ e ∈ subP L (ndl L), e ∈ M := by
  rw [m.full.dear f]
  constructor
  · intro h e me
    obtain ⟨mL, no⟩ := mem_subP.mp me
    refine Classical.byContradiction fun out => no ?_
    have outM : ∀ v, (e.1, v) ∉ M := fun v mv => out (by
      have a := lookup_nodup f.nd (e.1, v) (m.sub _ mv)
      have b := lookup_nodup f.nd e mL
      rw [b] at a
      have : v = e.2 := (Option.some.inj a).symm
      rw [this] at mv
      exact mv)
    have long : 1 < e.1.length := by
      have l1 := f.pos1 e mL
      refine Classical.byContradiction fun sh => ?_
      have le : e.1.length = 1 := by omega
      have oe := f.over mL
      have l2 := str_len e.1
      rw [le] at l2
      obtain ⟨c, hc⟩ := List.length_eq_one_iff.mp l2
      have es : e.1 = sg c := str_eq_of_lists (by rw [hc])
      have ms : sg c ∈ S := oe c (by rw [hc]; exact List.mem_singleton.mpr rfl)
      obtain ⟨p, mp, ep⟩ := List.mem_map.mp (m.full.has _ ms)
      exact outM p.2 (by rw [es, ← ep]; exact mp)
    have w : Full S (subP L [e.1]) := f.sub s fun y my => by
      rw [List.mem_singleton.mp my]
      exact long
    have few := least_fewer w m.full (fun d md => mem_subP.mpr ⟨m.sub d md, fun h => outM d.2 (by
      rw [← List.mem_singleton.mp h]
      exact md)⟩) (f.over mL)
    have := h e mL
    exact mem_ndl.mpr ⟨e.2, mL, long, by omega⟩
  · intro h e me
    have few := least_fewer m.full (f.bare s) h (f.over me)
    have := bare_cheap s f _ e me (Nat.le_refl _)
    omega
theorem some_back (f : Full S L) (m : Some_ S L M) : dearer (sortP L) (sortP M) = .non := by
  rw [f.dear m.full]
  intro e me
  exact least_one f.pos1 (m.sub e me)
/-- then the least books are the same -/
theorem some_bare (s : Sg S) (f : Full S L) (m : Some_ S L M) (h : ∀ e ∈ subP L (ndl L), e ∈ M) (e : Str × Int) : e ∈ subP M (ndl M) ↔ e ∈ subP L (ndl L) := by
  have same : ∀ d ∈ M, (d.1 ∈ ndl M ↔ d.1 ∈ ndl L) := fun d md => by
    have mL := m.sub d md
    constructor
    · intro no
      obtain ⟨v, mv, long, le⟩ := mem_ndl.mp no
      have ll : ∀ y ∈ [d.1], 1 < y.length := fun y my => by
        rw [List.mem_singleton.mp my]
        exact long
      have few := least_fewer (f.sub s ll) (m.full.sub s ll) (fun c mc => mem_subP.mpr ⟨m.sub c (mem_subP.mp mc).1, (mem_subP.mp mc).2⟩) (f.over mL)
      exact mem_ndl.mpr ⟨v, m.sub _ mv, long, by omega⟩
    · intro no
      obtain ⟨v, mv, long, le⟩ := mem_ndl.mp no
      have ll : ∀ y ∈ [d.1], 1 < y.length := fun y my => by
        rw [List.mem_singleton.mp my]
        exact long
      have few := least_fewer (m.full.sub s ll) (f.bare s) (fun c mc => mem_subP.mpr ⟨h c mc, fun hc => (mem_subP.mp mc).2 (by
        rw [List.mem_singleton.mp hc]
        exact no)⟩) (f.over mL)
      have cheap := bare_cheap s f _ d mL (Nat.le_refl _)
      exact mem_ndl.mpr ⟨d.2, md, long, by omega⟩
  rw [mem_subP, mem_subP]
  constructor
  · rintro ⟨md, no⟩
    exact ⟨m.sub e md, fun h => no ((same e md).mpr h)⟩
  · rintro ⟨mL, no⟩
    have md := h e (mem_subP.mpr ⟨mL, no⟩)
    exact ⟨md, fun k => no ((same e md).mp k)⟩
/-- the least book is its own least book -/
theorem bare_bare (s : Sg S) (f : Full S L) : ndl (subP L (ndl L)) = [] := by
  have m : Some_ S L (subP L (ndl L)) := ⟨f.bare s, fun e me => (mem_subP.mp me).1⟩
  refine List.eq_nil_iff_forall_not_mem.mpr fun z mz => ?_
  obtain ⟨v, mv, _⟩ := mem_ndl.mp mz
  have := (some_bare s f m (fun e me => me) (z, v)).mpr mv
  exact (mem_subP.mp this).2 mz
end
end Gd

/-! Bv1: values told by data: what stands still, what is owned; expressions -/
namespace Bv
open PySem PySem.Spec PyProof.Rows L2 Gd
/-! ### the heap: a part that stands still -/
/-- what may be locked -/
def Lk : HO → Prop
  | .lst _ => True
  | .dK _ => True
  | .dT _ => True
  | _ => False
/-- F stands in H -/
def Sub (F H : Hp) : Prop := ∀ a o, F a = some o → H a = some o ∨ (Lk o ∧ ∃ ob, H a = some (.frz ob o))
theorem Sub.refl (H : Hp) : Sub H H := fun _ _ h => .inl h
theorem Sub.same {F F' H : Hp} (h : Sub F' H) (s : Same F F') : Sub F H := fun a o e => h a o (s a o e)
theorem Sub.rd {F H : Hp} (h : Sub F H) {a : Addr} {o : HO} (r : Rd F a o) : Rd H a o := by
  rcases r with e | ⟨ob, e⟩
  · rcases h _ _ e with e | ⟨_, ob, e⟩
    · exact .inl e
    · exact .inr ⟨ob, e⟩
  · rcases h _ _ e with e | ⟨k, _⟩
    · exact .inr ⟨ob, e⟩
    · exact k.elim
theorem Sub.at_ {F H : Hp} (h : Sub F H) {a : Addr} {o : HO} (e : F a = some o) (n : ¬ Lk o) : H a = some o := (h a o e).elim id fun k => absurd k.1 n
theorem Sub.seq {K : PySem.W.Frag} {F H : Hp} (h : Sub F H) {a : Addr} {xs : List V} (s : SqL K F a xs) : SqL K H a xs := s.elim (fun r => .inl (h.rd r)) .inr
theorem Sub.lst {K : PySem.W.Frag} {F H : Hp} (h : Sub F H) {a : Addr} {xs : List V} (s : Rd F a (.lst xs)) : SqL K H a xs := .inl (h.rd s)
theorem Sub.seqT {K : PySem.W.Frag} {F H : Hp} (h : Sub F H) {a : Addr} {xs : List V} (s : SqT K F a xs) : SqT K H a xs := s.elim (fun r => .inl (h.rd r)) .inr
theorem Sub.there {F H : Hp} (h : Sub F H) {a : Addr} (e : H a = none) : F a = none := by
  cases q : F a with
  | none => rfl
  | some o =>
    rcases h a o q with k | ⟨_, _, k⟩
    · rw [e] at k; cases k
    · rw [e] at k; cases k
/-- from one moment to a later one -/
structure Ext (F H F' H' : Hp) : Prop where
  ff : Same F F'
  hh : ∀ b o, H b = some o → (∀ ps, o ≠ .tbl ps) → H' b = some o
  no : ∀ b, H' b = none → H b = none
  fh : Sub F' H'
  new : ∀ a o, F' a = some o → F a = none → H a = none
theorem Ext.refl {F H : Hp} (h : Sub F H) : Ext F H F H := ⟨Same.refl _, fun _ _ e _ => e, fun _ e => e, h, fun a o e n => by rw [e] at n; cases n⟩
theorem Ext.trans {F H F1 H1 F2 H2 : Hp} (a : Ext F H F1 H1) (b : Ext F1 H1 F2 H2) : Ext F H F2 H2 where
  ff := a.ff.trans b.ff
  hh := fun c o e n => b.hh c o (a.hh c o e n) n
  no := fun c e => a.no c (b.no c e)
  fh := b.fh
  new := fun c o e n => by
    cases q : F1 c with
    | none => exact a.no c (b.new c o e q)
    | some u => exact a.new c u q n
/-- the heap has grown -/
theorem Ext.grow {F H H' : Hp} (h : Sub F H) (s : Same H H') : Ext F H F H' where
  ff := Same.refl _
  hh := fun b o e _ => s b o e
  no := fun b e => by
    cases q : H b with
    | none => rfl
    | some o => rw [s b o q] at e; cases e
  fh := fun a o e => (h a o e).imp (s _ _) (fun ⟨k, ob, q⟩ => ⟨k, ob, s _ _ q⟩)
  new := fun a o e n => by rw [e] at n; cases n
/-- .. a new thing stands still from now on -/
theorem Ext.put {F H H' : Hp} (h : Sub F H) (s : Same H H') {p : Addr} {o : HO} (hp : H p = none) (at_p : H' p = some o) : Ext F H (upd F p o) H' := by
  have fp : F p = none := h.there hp
  have g := Ext.grow h s
  refine ⟨same_new fp, g.hh, g.no, fun a u e => ?_, fun a u e n => ?_⟩
  · by_cases q : a = p
    · subst q
      rw [upd_same] at e
      cases e
      exact .inl at_p
    · rw [upd_ne q] at e
      exact g.fh a u e
  · by_cases q : a = p
    · subst q
      exact hp
    · rw [upd_ne q, n] at e
      cases e
theorem Ext.new_ {F H : Hp} (h : Sub F H) {p : Addr} {o : HO} (hp : H p = none) : Ext F H (upd F p o) (upd H p o) := Ext.put h (same_new hp) hp upd_same

/-! ### values by data -/
structure Rep (α : Type) where
  rep : Hp → V → α → Prop
  up : ∀ {F F' : Hp} {v : V} {x : α}, Same F F' → rep F v x → rep F' v x
def Rep.flat {α : Type} (r : Rep α) : Prop := ∀ (F F' : Hp) (v : V) (x : α), r.rep F v x → r.rep F' v x
def rI : Rep Int := ⟨fun _ v x => v = .int x, fun _ h => h⟩
def rB : Rep Bool := ⟨fun _ v x => v = .bl x, fun _ h => h⟩
/-- a text of a known size, of signs that exist -/
def okS (x : Str) : Prop := x.length ≤ sizeLine ∧ PyData.strOk x = true
def rS : Rep Str := ⟨fun _ v x => v = .str x ∧ okS x, fun _ h => h⟩
def rN : Rep Unit := ⟨fun _ v _ => v = .non, fun _ h => h⟩
theorem flat_I : rI.flat := fun _ _ _ _ h => h
theorem flat_B : rB.flat := fun _ _ _ _ h => h
theorem flat_S : rS.flat := fun _ _ _ _ h => h
theorem flat_N : rN.flat := fun _ _ _ _ h => h
theorem Rep.ups {α : Type} (r : Rep α) {F F' : Hp} (s : Same F F') : ∀ {vs : List V} {xs : List α}, Paired (r.rep F) vs xs → Paired (r.rep F') vs xs
  | _, _, .nil => .nil
  | _, _, .cons h t => .cons (r.up s h) (Rep.ups r s t)
def rL (K : PySem.W.Frag) {α : Type} (r : Rep α) : Rep (List α) := ⟨fun F v xs => ∃ a vs, v = .ref a ∧ Rd F a (.lst vs) ∧ Paired (r.rep F) vs xs, fun s ⟨a, vs, e, q, p⟩ => ⟨a, vs, e, q.elim (fun h => .inl (s _ _ h)) fun ⟨o, h⟩ => .inr ⟨o, s _ _ h⟩, r.ups s p⟩⟩
section
variable (K : PySem.W.Frag)
/-- a list of the text, too -/
def rLK {α : Type} (r : Rep α) : Rep (List α) := ⟨fun F v xs => ∃ a vs, v = .ref a ∧ SqL K F a vs ∧ Paired (r.rep F) vs xs, fun s ⟨a, vs, e, q, p⟩ => ⟨a, vs, e, q.elim (fun q => .inl (q.elim (fun h => .inl (s _ _ h)) fun ⟨o, h⟩ => .inr ⟨o, s _ _ h⟩)) .inr, r.ups s p⟩⟩
def rT {α : Type} (r : Rep α) : Rep (List α) := ⟨fun F v xs => ∃ a vs, v = .ref a ∧ SqT K F a vs ∧ Paired (r.rep F) vs xs, fun s ⟨a, vs, e, q, p⟩ => ⟨a, vs, e, q.elim (fun q => .inl (q.elim (fun h => .inl (s _ _ h)) fun ⟨o, h⟩ => .inr ⟨o, s _ _ h⟩)) .inr, r.ups s p⟩⟩
def rP {α β : Type} (r : Rep α) (q : Rep β) : Rep (α × β) := ⟨fun F v x => ∃ a v1 v2, v = .ref a ∧ SqT K F a [v1, v2] ∧ r.rep F v1 x.1 ∧ q.rep F v2 x.2, fun s ⟨a, v1, v2, e, h, p1, p2⟩ => ⟨a, v1, v2, e, h.elim (fun q => .inl (q.elim (fun h => .inl (s _ _ h)) fun ⟨o, h⟩ => .inr ⟨o, s _ _ h⟩)) .inr, r.up s p1, q.up s p2⟩⟩
def rP3 {α β γ : Type} (r : Rep α) (q : Rep β) (t : Rep γ) : Rep (α × β × γ) := ⟨fun F v x => ∃ a v1 v2 v3, v = .ref a ∧ SqT K F a [v1, v2, v3] ∧ r.rep F v1 x.1 ∧ q.rep F v2 x.2.1 ∧ t.rep F v3 x.2.2, fun s ⟨a, v1, v2, v3, e, h, p1, p2, p3⟩ => ⟨a, v1, v2, v3, e, h.elim (fun q => .inl (q.elim (fun h => .inl (s _ _ h)) fun ⟨o, h⟩ => .inr ⟨o, s _ _ h⟩)) .inr, r.up s p1, q.up s p2, t.up s p3⟩⟩
end
/-- the pairs of a dict, by data -/
abbrev PD {α : Type} (r : Rep α) (F : Hp) (kvs : List (Key × V)) (L : List (Str × α)) : Prop := Paired (fun (p : Key × V) (e : Str × α) => (p.1 = Sum.inr e.1 ∧ okS e.1) ∧ r.rep F p.2 e.2) kvs L
/-- a dict whose keys are texts -/
def rD {β : Type} (r : Rep β) : Rep (List (Str × β)) := ⟨fun F v L => ∃ a kvs, v = .ref a ∧ Rd F a (.dK kvs) ∧ (L.map (·.1)).Nodup ∧ PD r F kvs L, fun s ⟨a, kvs, e, h, nd, p⟩ => ⟨a, kvs, e, h.elim (fun h => .inl (s _ _ h)) fun ⟨o, h⟩ => .inr ⟨o, s _ _ h⟩, nd, Paired.mapP p fun x y h => ⟨h.1, r.up s h.2⟩⟩⟩

/-! ### slots -/
/-- an attribute's value -/
structure SF : Type 1 where
  {α : Type}
  r : Rep α
  x : α
/-- attributes, by data -/
inductive FD (F : Hp) : List (Str × V) → List (Str × SF) → Prop
  | nil : FD F [] []
  | cons {k : Str} {v : V} {f : SF} {gs : List (Str × V)} {fs : List (Str × SF)} : f.r.rep F v f.x → FD F gs fs → FD F ((k, v) :: gs) ((k, f) :: fs)
theorem FD.up {F F' : Hp} (s : Same F F') : ∀ {gs : List (Str × V)} {fs : List (Str × SF)}, FD F gs fs → FD F' gs fs
  | _, _, .nil => .nil
  | _, _, .cons (f := f) h t => .cons (f.r.up s h) (FD.up s t)
inductive SA : Type 1
  | no
  | oi (C b : Addr) (fs : List (Str × SF))
  | im {α : Type} (r : Rep α) (x : α)
  | ol {α : Type} (r : Rep α) (xs : List α)
  | od {β : Type} (r : Rep β) (L : List (Str × β))
def SA.own : SA → Bool
  | .ol _ _ => true
  | .od _ _ => true
  | .oi _ _ _ => true
  | _ => false
def SA.holds (F H : Hp) : SA → Option V → Prop
  | .no, _ => True
  | .im r x, s => ∃ v, s = some v ∧ r.rep F v x
  | .oi C b fs, s => ∃ dx gs, s = some (.ref b) ∧ H b = some (.ins C dx gs) ∧ FD F gs fs
  | .ol r xs, s => ∃ a vs, s = some (.ref a) ∧ H a = some (.lst vs) ∧ Paired (r.rep F) vs xs
  | .od r L, s => ∃ a kvs, s = some (.ref a) ∧ H a = some (.dK kvs) ∧ (L.map (·.1)).Nodup ∧ PD r F kvs L
/-- what holds goes on holding where the owned thing is kept -/
theorem holds_keep {F H F' H' : Hp} (sm : Same F F') : ∀ {A : SA} {s : Option V}, (∀ a o, A.own = true → s = some (.ref a) → H a = some o → (∀ ps, o ≠ .tbl ps) → H' a = some o) → A.holds F H s → A.holds F' H' s
  | .no, _, _, _ => True.intro
  | .im r _, _, _, ⟨v, e1, h⟩ => ⟨v, e1, r.up sm h⟩
  | .ol r _, _, k, ⟨a, vs, e1, h, p⟩ => ⟨a, vs, e1, k a _ rfl e1 h (fun _ z => by cases z), r.ups sm p⟩
  | .od r _, _, k, ⟨a, kvs, e1, h, nd, p⟩ => ⟨a, kvs, e1, k a _ rfl e1 h (fun _ z => by cases z), nd, Paired.mapP p fun x y h => ⟨h.1, r.up sm h.2⟩⟩
  | .oi C b _, _, k, ⟨dx, gs, e1, h, p⟩ => ⟨dx, gs, e1, k b _ rfl e1 h (fun _ z => by cases z), FD.up sm p⟩
theorem SA.holds.up {F H F' H' : Hp} (e : Ext F H F' H') {A : SA} {s : Option V} (h : A.holds F H s) : A.holds F' H' s := holds_keep e.ff (fun a o _ _ q n => e.hh a o q n) h
/-- the state at a place of a def: F0, H0 at its entry -/
structure Stt (F0 H0 : Hp) (Γ : List SA) (σ : L2.St) (F H : Hp) : Prop where
  ext : Ext F0 H0 F H
  len : σ.length = Γ.length
  at_ : ∀ (i : Nat) (A : SA), Γ[i]? = some A → ∃ s, σ[i]? = some s ∧ A.holds F H s
  own : ∀ (i : Nat) (A : SA) (a : Addr), Γ[i]? = some A → A.own = true → σ[i]? = some (some (.ref a)) → F a = none ∧ H0 a = none
  inj : ∀ (i j : Nat) (A B : SA) (a : Addr), Γ[i]? = some A → Γ[j]? = some B → A.own = true → B.own = true → σ[i]? = some (some (.ref a)) → σ[j]? = some (some (.ref a)) → i = j
variable {F0 H0 F H F' H' : Hp} {Γ Γ' : List SA} {σ : L2.St}
theorem Stt.sub (S : Stt F0 H0 Γ σ F H) : Sub F H := S.ext.fh
theorem SA.held {A : SA} (h : A.own = true) {s : Option V} (q : A.holds F H s) : ∃ a o, s = some (.ref a) ∧ H a = some o ∧ ∀ ps, o ≠ .tbl ps := by
  cases A with
  | no => cases h
  | im r x => cases h
  | ol r xs =>
    obtain ⟨a, vs, e, h, _⟩ := q
    exact ⟨a, _, e, h, fun _ z => by cases z⟩
  | od r L =>
    obtain ⟨a, vs, e, h, _⟩ := q
    exact ⟨a, _, e, h, fun _ z => by cases z⟩
  | oi C b fs =>
    obtain ⟨dx, gs, e, h, _⟩ := q
    exact ⟨b, _, e, h, fun _ z => by cases z⟩
theorem Stt.up (S : Stt F0 H0 Γ σ F H) (e : Ext F H F' H') : Stt F0 H0 Γ σ F' H' where
  ext := S.ext.trans e
  len := S.len
  at_ := fun i A h => by
    obtain ⟨s, h1, h2⟩ := S.at_ i A h
    exact ⟨s, h1, h2.up e⟩
  own := fun i A a h o q => by
    obtain ⟨n1, n2⟩ := S.own i A a h o q
    refine ⟨?_, n2⟩
    cases w : F' a with
    | none => rfl
    | some u =>
      obtain ⟨s, h1, h2⟩ := S.at_ i A h
      obtain ⟨b, ob, e1, e2, _⟩ := SA.held o h2
      rw [q] at h1
      cases h1
      cases e1
      have z := e.new a u w n1
      rw [z] at e2
      cases e2
  inj := S.inj
/-- forgetting -/
def Le (Γ Γ' : List SA) : Prop := Γ.length = Γ'.length ∧ ∀ (i : Nat) (B : SA), Γ'[i]? = some B → B = .no ∨ Γ[i]? = some B
theorem Le.refl (Γ : List SA) : Le Γ Γ := ⟨rfl, fun _ _ h => .inr h⟩
theorem Le.cons {A B : SA} (h : B = .no ∨ A = B) (t : Le Γ Γ') : Le (A :: Γ) (B :: Γ') := ⟨by rw [List.length_cons, List.length_cons, t.1], fun i C e => by
  cases i with
  | zero =>
    have : B = C := Option.some.inj e
    subst this
    rcases h with h | h
    · exact .inl h
    · exact .inr (by rw [h]; rfl)
  | succ i => exact t.2 i C e⟩
theorem Le.no {A : SA} (t : Le Γ Γ') : Le (A :: Γ) (.no :: Γ') := t.cons (.inl rfl)
theorem Le.eq {A : SA} (t : Le Γ Γ') : Le (A :: Γ) (A :: Γ') := t.cons (.inr rfl)
theorem Le.nil : Le [] [] := Le.refl _
theorem Stt.weak (S : Stt F0 H0 Γ σ F H) (l : Le Γ Γ') : Stt F0 H0 Γ' σ F H where
  ext := S.ext
  len := S.len.trans l.1
  at_ := fun i A h => by
    rcases l.2 i A h with e | e
    · subst e
      have : i < Γ'.length := by
        rcases Nat.lt_or_ge i Γ'.length with k | k
        · exact k
        · rw [List.getElem?_eq_none k] at h
          cases h
      have lt : i < σ.length := by rw [S.len, l.1]; exact this
      exact ⟨σ[i], List.getElem?_eq_getElem lt, True.intro⟩
    · exact S.at_ i A e
  own := fun i A a h o q => by
    rcases l.2 i A h with e | e
    · subst e
      cases o
    · exact S.own i A a e o q
  inj := fun i j A B a h1 h2 o1 o2 q1 q2 => by
    rcases l.2 i A h1 with e1 | e1
    · subst e1
      cases o1
    · rcases l.2 j B h2 with e2 | e2
      · subst e2
        cases o2
      · exact S.inj i j A B a e1 e2 o1 o2 q1 q2
/-- a value by itself: nobody else owns it -/
def Fresh (A : SA) (v : V) (F H : Hp) : Prop := A.own = true → ∀ a, v = .ref a → F a = none ∧ H a = none
/-- a slot is stored -/
theorem Stt.set (S : Stt F0 H0 Γ σ F H) {i : Nat} {A : SA} {v : V} (h : A.holds F H (some v))
    (fr : A.own = true → ∀ a, v = .ref a → F a = none ∧ H0 a = none ∧ ∀ (j : Nat) (B : SA), j ≠ i → Γ[j]? = some B → B.own = true → σ[j]? ≠ some (some (.ref a))) : Stt F0 H0 (Γ.set i A) (σ.set i (some v)) F H where
  ext := S.ext
  len := by rw [List.length_set, List.length_set, S.len]
  at_ := fun j B hb => by
    by_cases e : i = j
    · subst e
      have lt : i < Γ.length := by
        rcases Nat.lt_or_ge i Γ.length with k | k
        · exact k
        · rw [List.getElem?_eq_none (by rw [List.length_set]; exact k)] at hb
          cases hb
      rw [List.getElem?_set_self lt] at hb
      cases hb
      exact ⟨_, List.getElem?_set_self (by rw [S.len]; exact lt), h⟩
    · rw [List.getElem?_set_ne e] at hb
      rw [List.getElem?_set_ne e]
      exact S.at_ j B hb
  own := fun j B a hb o q => by
    by_cases e : i = j
    · subst e
      have lt : i < Γ.length := by
        rcases Nat.lt_or_ge i Γ.length with k | k
        · exact k
        · rw [List.getElem?_eq_none (by rw [List.length_set]; exact k)] at hb
          cases hb
      rw [List.getElem?_set_self lt] at hb
      cases hb
      rw [List.getElem?_set_self (by rw [S.len]; exact lt)] at q
      have : v = .ref a := Option.some.inj (Option.some.inj q)
      exact ⟨(fr o a this).1, (fr o a this).2.1⟩
    · rw [List.getElem?_set_ne e] at hb q
      exact S.own j B a hb o q
  inj := fun j k B C a h1 h2 o1 o2 q1 q2 => by
    have ltn : ∀ {D : SA}, (Γ.set i A)[i]? = some D → i < Γ.length := fun {D} hb => by
      rcases Nat.lt_or_ge i Γ.length with k | k
      · exact k
      · rw [List.getElem?_eq_none (by rw [List.length_set]; exact k)] at hb
        cases hb
    by_cases e1 : i = j
    · by_cases e2 : i = k
      · omega
      · subst e1
        have lt := ltn h1
        rw [List.getElem?_set_self lt] at h1
        cases h1
        rw [List.getElem?_set_self (by rw [S.len]; exact lt)] at q1
        have : v = .ref a := Option.some.inj (Option.some.inj q1)
        rw [List.getElem?_set_ne e2] at h2 q2
        exact absurd q2 ((fr o1 a this).2.2 k C (fun z => e2 z.symm) h2 o2)
    · by_cases e2 : i = k
      · subst e2
        have lt := ltn h2
        rw [List.getElem?_set_self lt] at h2
        cases h2
        rw [List.getElem?_set_self (by rw [S.len]; exact lt)] at q2
        have : v = .ref a := Option.some.inj (Option.some.inj q2)
        rw [List.getElem?_set_ne e1] at h1 q1
        exact absurd q1 ((fr o2 a this).2.2 j B (fun z => e1 z.symm) h1 o1)
      · rw [List.getElem?_set_ne e1] at h1 q1
        rw [List.getElem?_set_ne e2] at h2 q2
        exact S.inj j k B C a h1 h2 o1 o2 q1 q2
/-- a value that has come later than all -/
theorem Stt.fresh (S : Stt F0 H0 Γ σ F H) {A : SA} {v : V} (fr : Fresh A v F' H) (e : Ext F H F' H') {i : Nat} : A.own = true → ∀ a, v = .ref a → F' a = none ∧ H0 a = none ∧ ∀ (j : Nat) (B : SA), j ≠ i → Γ[j]? = some B → B.own = true → σ[j]? ≠ some (some (.ref a)) := fun o a ev => by
  obtain ⟨n1, n2⟩ := fr o a ev
  refine ⟨n1, S.ext.no _ n2, fun j B _ hb ob q => ?_⟩
  obtain ⟨s, h1, h2⟩ := S.at_ j B hb
  obtain ⟨b, u, e1, e2, _⟩ := SA.held ob h2
  rw [q] at h1
  cases h1
  cases e1
  rw [n2] at e2
  cases e2
/-- an owned thing stands still from now on -/
theorem Stt.settle {i : Nat} {A : SA} {a : Addr} {o : HO} {α : Type} {r : Rep α} {x : α} (S : Stt F0 H0 Γ σ F H) (hi : Γ[i]? = some A) (ho : A.own = true) (hs : σ[i]? = some (some (.ref a))) (ha : H a = some o) (hr : r.rep (upd F a o) (.ref a) x) :
    Same F (upd F a o) ∧ Stt F0 H0 (Γ.set i (.im r x)) σ (upd F a o) H := by
  obtain ⟨n1, n2⟩ := S.own i A a hi ho hs
  have sm : Same F (upd F a o) := same_new n1
  have ltG : i < Γ.length := by
    rcases Nat.lt_or_ge i Γ.length with k | k
    · exact k
    · rw [List.getElem?_eq_none k] at hi
      cases hi
  refine ⟨sm, ⟨S.ext.ff.trans sm, S.ext.hh, S.ext.no, fun b u e => ?_, fun b u e n => ?_⟩, by rw [List.length_set]; exact S.len, fun j B hb => ?_, fun j B b hb o' qb => ?_, fun j k' B C b h1' h2' o1 o2 q1 q2 => ?_⟩
  · by_cases z : b = a
    · subst z
      rw [upd_same] at e
      cases e
      exact .inl ha
    · rw [upd_ne z] at e
      exact S.sub b u e
  · by_cases z : b = a
    · subst z
      exact n2
    · rw [upd_ne z] at e
      exact S.ext.new b u e n
  · by_cases z : i = j
    · subst z
      rw [List.getElem?_set_self ltG] at hb
      cases hb
      exact ⟨_, hs, .ref a, rfl, hr⟩
    · rw [List.getElem?_set_ne z] at hb
      obtain ⟨s, g1, g2⟩ := S.at_ j B hb
      exact ⟨s, g1, holds_keep sm (fun _ _ _ _ h _ => h) g2⟩
  · by_cases z : i = j
    · subst z
      rw [List.getElem?_set_self ltG] at hb
      cases hb
      cases o'
    · rw [List.getElem?_set_ne z] at hb
      obtain ⟨g1, g2⟩ := S.own j B b hb o' qb
      refine ⟨?_, g2⟩
      have : b ≠ a := fun w => by
        subst w
        exact z (S.inj i j _ B b hi hb ho o' hs qb)
      rw [upd_ne this]
      exact g1
  · have fix : ∀ {j : Nat} {B : SA}, (Γ.set i (.im r x))[j]? = some B → B.own = true → Γ[j]? = some B := fun {j B} hb o => by
      by_cases z : i = j
      · subst z
        rw [List.getElem?_set_self ltG] at hb
        cases hb
        cases o
      · rw [List.getElem?_set_ne z] at hb
        exact hb
    exact S.inj j k' B C b (fix h1' o1) (fix h2' o2) o1 o2 q1 q2
theorem Stt.settleL {i : Nat} {α : Type} {r : Rep α} {xs : List α} (K : PySem.W.Frag) (S : Stt F0 H0 Γ σ F H) (hi : Γ[i]? = some (.ol r xs)) : ∃ F1, Same F F1 ∧ Stt F0 H0 (Γ.set i (.im (rL K r) xs)) σ F1 H := by
  obtain ⟨s, h1, a, vs, rfl, ha, pr⟩ := S.at_ i _ hi
  obtain ⟨n1, n2⟩ := S.own i _ a hi rfl h1
  exact ⟨_, S.settle hi rfl h1 ha ⟨a, vs, rfl, .inl upd_same, r.ups (same_new n1) pr⟩⟩
theorem Stt.settleD {i : Nat} {α : Type} {r : Rep α} {L : List (Str × α)} (S : Stt F0 H0 Γ σ F H) (hi : Γ[i]? = some (.od r L)) : ∃ F1, Same F F1 ∧ Stt F0 H0 (Γ.set i (.im (rD r) L)) σ F1 H := by
  obtain ⟨s, h1, a, vs, rfl, ha, nd, pr⟩ := S.at_ i _ hi
  obtain ⟨n1, n2⟩ := S.own i _ a hi rfl h1
  exact ⟨_, S.settle hi rfl h1 ha ⟨a, vs, rfl, .inl upd_same, nd, Paired.mapP pr fun x y h => ⟨h.1, r.up (same_new n1) h.2⟩⟩⟩
end Bv

/-! Bv2: what an expression tells, by data -/
namespace Bv
open PySem PySem.Spec PyProof.Rows L2 Gd
/-- which exceptions are wanted, by what stands still -/
abbrev Tk := Hp → Value → Option Addr → Prop
def XLk (X : Cx) (F0 H0 : Hp) (ε : Tk) : Prop := Takes X (fun cls d _ H => ∃ F, ε F cls d ∧ Ext F0 H0 F H)
section
variable (X : Cx)
@[irreducible] def RunE (e : Expr) : TE := fun σ H Q => ∀ (pins : List (Addr × Obj)) (s : Shared), Inv X pins σ H s → wpAny (model X.prog X.w) X.A (eval e X.env) (EP X pins σ Q) X.xe s
@[irreducible] def RunT (e : Expr) : TT := fun σ H Q => ∀ (pins : List (Addr × Obj)) (s : Shared), Inv X pins σ H s → wpAny (model X.prog X.w) X.A (isTrue e X.env (eval e X.env)) (TP X pins σ Q) X.xe s
@[irreducible] def RunA (es : List Expr) : TA := fun σ H Q => ∀ (pos : Pos) (pins : List (Addr × Obj)) (s : Shared), Inv X pins σ H s → wpAny (model X.prog X.w) X.A (spliced (backTo pos (starEach es X.env))) (AP X pins σ Q) X.xe s
theorem RunE.run {e : Expr} {σ : L2.St} {H : Hp} {Q : VK} (h : RunE X e σ H Q) (pins : List (Addr × Obj)) (s : Shared) (I : Inv X pins σ H s) : wpAny (model X.prog X.w) X.A (eval e X.env) (EP X pins σ Q) X.xe s := by
  unfold RunE at h
  exact h pins s I
theorem RunA.run {es : List Expr} {σ : L2.St} {H : Hp} {Q : List V → Hp → Prop} (h : RunA X es σ H Q) (pos : Pos) (pins : List (Addr × Obj)) (s : Shared) (I : Inv X pins σ H s) : wpAny (model X.prog X.w) X.A (spliced (backTo pos (starEach es X.env))) (AP X pins σ Q) X.xe s := by
  unfold RunA at h
  exact h pos pins s I
theorem run_pe {e : Expr} : PE X e (RunE X e) := ⟨fun pins s _ _ _ I h => by unfold RunE at h; exact h pins s I⟩
theorem run_pt {e : Expr} : PT X e (RunT X e) := ⟨fun pins s _ _ _ I h => by unfold RunT at h; exact h pins s I⟩
theorem run_pa {es : List Expr} : PA X es (RunA X es) := ⟨fun pos pins s _ _ _ I h => by unfold RunA at h; exact h pos pins s I⟩
end
variable {X : Cx} {ε : Tk} {F0 H0 F H F' H' : Hp} {Γ Γ' : List SA} {σ : L2.St} {e a b c : Expr} {es : List Expr} {pos : Pos} {α β γ : Type}
theorem use_e {t : TE} (h : PE X e t) {Q : VK} (q : t σ H Q) : RunE X e σ H Q := by unfold RunE; exact fun pins s I => h.run pins s σ H Q I q
theorem use_t {t : TT} (h : PT X e t) {Q : Bool → Hp → Prop} (q : t σ H Q) : RunT X e σ H Q := by unfold RunT; exact fun pins s I => h.run pins s σ H Q I q
theorem use_a {t : TA} (h : PA X es t) {Q : List V → Hp → Prop} (q : t σ H Q) : RunA X es σ H Q := by unfold RunA; exact fun pos pins s I => h.run pos pins s σ H Q I q
/-- e tells a thing of the kind mk, as m says -/
def XV (X : Cx) (ε : Tk) (Γ : List SA) (e : Expr) {α : Type} (mk : α → SA) (m : (α → Prop) → Prop) : Prop :=
  ∀ (F0 H0 : Hp), XLk X F0 H0 ε → ∀ (σ : L2.St) (F H : Hp) (P : α → Prop) (Q : VK), Stt F0 H0 Γ σ F H → m P → (∀ x v F' H', P x → Ext F H F' H' → (mk x).holds F' H' (some v) → Fresh (mk x) v F' H → Q v H') → RunE X e σ H Q
abbrev XE (X : Cx) (ε : Tk) (Γ : List SA) (e : Expr) {α : Type} (r : Rep α) (m : (α → Prop) → Prop) : Prop := XV X ε Γ e (SA.im r) m
theorem xe_use {r : Rep α} {m : (α → Prop) → Prop} (h : XE X ε Γ e r m) (xl : XLk X F0 H0 ε) {P : α → Prop} {Q : VK} (S : Stt F0 H0 Γ σ F H) (p : m P) (q : ∀ x v F' H', P x → Ext F H F' H' → r.rep F' v x → Q v H') : RunE X e σ H Q :=
  h F0 H0 xl σ F H P Q S p fun x v F' H' px ex ⟨w, ew, hw⟩ _ => by
    cases ew
    exact q x v F' H' px ex hw
theorem xe_of {r : Rep α} {m : (α → Prop) → Prop} (h : ∀ (F0 H0 : Hp), XLk X F0 H0 ε → ∀ (σ : L2.St) (F H : Hp) (P : α → Prop) (Q : VK), Stt F0 H0 Γ σ F H → m P → (∀ x v F' H', P x → Ext F H F' H' → r.rep F' v x → Q v H') → RunE X e σ H Q) : XE X ε Γ e r m :=
  fun F0 H0 xl σ F H P Q S p q => h F0 H0 xl σ F H P Q S p fun x v F' H' px ex hr => q x v F' H' px ex ⟨v, rfl, hr⟩ (fun z => by cases z)
/-- a test -/
def XT (X : Cx) (ε : Tk) (Γ : List SA) (e : Expr) (m : (Bool → Prop) → Prop) : Prop :=
  ∀ (F0 H0 : Hp), XLk X F0 H0 ε → ∀ (σ : L2.St) (F H : Hp) (P : Bool → Prop) (Q : Bool → Hp → Prop), Stt F0 H0 Γ σ F H → m P → (∀ x F' H', P x → Ext F H F' H' → Q x H') → RunT X e σ H Q
/-- arguments -/
structure Rps (A : Type) where
  rep : Hp → List V → A → Prop
  up : ∀ {F F' : Hp} {vs : List V} {x : A}, Same F F' → rep F vs x → rep F' vs x
def rNil : Rps Unit := ⟨fun _ vs _ => vs = [], fun _ h => h⟩
def rCons {A : Type} (r : Rep α) (R : Rps A) : Rps (α × A) := ⟨fun F vs x => ∃ v ws, vs = v :: ws ∧ r.rep F v x.1 ∧ R.rep F ws x.2, fun s ⟨v, ws, e, h1, h2⟩ => ⟨v, ws, e, r.up s h1, R.up s h2⟩⟩
def XA (X : Cx) (ε : Tk) (Γ : List SA) (es : List Expr) {A : Type} (R : Rps A) (m : (A → Prop) → Prop) : Prop :=
  ∀ (F0 H0 : Hp), XLk X F0 H0 ε → ∀ (σ : L2.St) (F H : Hp) (P : A → Prop) (Q : List V → Hp → Prop), Stt F0 H0 Γ σ F H → m P → (∀ x vs F' H', P x → Ext F H F' H' → R.rep F' vs x → Q vs H') → RunA X es σ H Q
theorem xa_nil : XA X ε Γ [] rNil (fun P => P ()) := fun F0 H0 xl σ F H P Q S p q => use_a pa_nil (q () [] F H p (Ext.refl S.sub) rfl)
theorem xa_cons {A : Type} {r : Rep α} {R : Rps A} {m : (α → Prop) → Prop} {n : (A → Prop) → Prop} (h : XE X ε Γ e r m) (t : XA X ε Γ es R n) (hs : starEach (e :: es) X.env = (false, eval e X.env) :: starEach es X.env := by rfl) :
    XA X ε Γ (e :: es) (rCons r R) (fun P => m fun x => n fun y => P (x, y)) := fun F0 H0 xl σ F H P Q S p q =>
  use_a (pa_cons (run_pe X) (run_pa X) hs) (xe_use h xl S p fun x v F1 H1 p1 e1 r1 => t F0 H0 xl σ F1 H1 _ _ (S.up e1) p1 fun y vs F2 H2 p2 e2 r2 => q (x, y) (v :: vs) F2 H2 p2 (e1.trans e2) ⟨v, vs, rfl, r.up e2.ff r1, r2⟩)

/-! ### names, constants -/
theorem xe_var {i : Nat} {x : Str} {r : Rep α} {y : α} (h : Γ[i]? = some (.im r y)) (hN : X.N[i]? = some x) (hv : Vis X.env.scope x) (hd : (x == ("__debug__" : Str)) = false := by decide) (hcd : (x == ("__classdict__" : Str)) = false := by decide) : XE X ε Γ (.Name x pos) r (fun P => P y) :=
  xe_of fun F0 H0 xl σ F H P Q S p q => use_e (pe_var hN hv hd hcd) (by
    obtain ⟨s, h1, v, rfl, h2⟩ := S.at_ i _ h
    exact ⟨v, h1, q y v F H p (Ext.refl S.sub) h2⟩)
theorem xe_const {v : V} {r : Rep α} {y : α} (he : PE X e (tC v)) (hr : ∀ F, r.rep F v y) : XE X ε Γ e r (fun P => P y) :=
  xe_of fun F0 H0 xl σ F H P Q S p q => use_e he (q y v F H p (Ext.refl S.sub) (hr F))
theorem xe_int {i j pos} : XE X ε Γ (.Constant (.int i) j pos) rI (fun P => P i) := xe_const pe_int fun _ => rfl
theorem xe_bl {b j pos} : XE X ε Γ (.Constant (.bool b) j pos) rB (fun P => P b) := xe_const pe_bl fun _ => rfl
theorem xe_non {j pos} : XE X ε Γ (.Constant .none j pos) rN (fun P => P ()) := xe_const pe_non fun _ => rfl
theorem xe_str {x : Str} {j pos} (h : (decide (x.length ≤ sizeLine) && PyData.strOk x) = true) : XE X ε Γ (.Constant (.str x) j pos) rS (fun P => P x) := xe_const pe_str fun _ => ⟨rfl, of_decide_eq_true (Bool.and_eq_true_iff.mp h).1, (Bool.and_eq_true_iff.mp h).2⟩
end Bv

/-! Bv3: operators, tests, calls of what is built in -/
namespace Bv
open PySem PySem.Spec PyProof.Rows L2 Gd
variable {X : Cx} {ε : Tk} {F0 H0 F H F' H' : Hp} {Γ Γ' : List SA} {σ : L2.St} {e a b c : Expr} {es : List Expr} {pos : Pos} {α β γ δ : Type} {K : PySem.W.Frag}
/-- what is wanted of a thing of the kind mk -/
abbrev Wish (F H : Hp) (mk : γ → SA) (P : γ → Prop) (Q : VK) : Prop := ∀ z u F' H', P z → Ext F H F' H' → (mk z).holds F' H' (some u) → Fresh (mk z) u F' H → Q u H'
/-- two values, by the rule r: a thing of the kind mk, as n says -/
def Sem2 (ra : Rep α) (rb : Rep β) (mk : γ → SA) (r : R2) (n : α → β → (γ → Prop) → Prop) : Prop :=
  ∀ (x : α) (y : β) (v w : V) (F H : Hp) (P : γ → Prop) (Q : VK), Sub F H → ra.rep F v x → rb.rep F w y → n x y P → Wish F H mk P Q → r v w H Q
def Sem1 (ra : Rep α) (mk : γ → SA) (r : V → Hp → VK → Prop) (n : α → (γ → Prop) → Prop) : Prop :=
  ∀ (x : α) (v : V) (F H : Hp) (P : γ → Prop) (Q : VK), Sub F H → ra.rep F v x → n x P → Wish F H mk P Q → r v H Q
def SemC {A : Type} (R : Rps A) (mk : γ → SA) (r : List V → Hp → VK → Prop) (n : A → (γ → Prop) → Prop) : Prop :=
  ∀ (x : A) (vs : List V) (F H : Hp) (P : γ → Prop) (Q : VK), Sub F H → R.rep F vs x → n x P → Wish F H mk P Q → r vs H Q
theorem wish_im {r : Rep γ} {P : γ → Prop} {Q : VK} {z : γ} {u : V} (W : Wish F H (SA.im r) P Q) (p : P z) (s : Sub F H) (h : r.rep F u z) : Q u H := W z u F H p (Ext.refl s) ⟨u, rfl, h⟩ (fun z => by cases z)
theorem wish_ext {r : Rep γ} {P : γ → Prop} {Q : VK} {z : γ} {u : V} (W : Wish F H (SA.im r) P Q) (p : P z) (e : Ext F H F' H') (h : r.rep F' u z) : Q u H' := W z u F' H' p e ⟨u, rfl, h⟩ (fun z => by cases z)
/-- a new list -/
theorem wish_ol {r : Rep γ} {P : List γ → Prop} {Q : VK} {zs : List γ} {vs : List V} (W : Wish F H (SA.ol r) P Q) (p : P zs) (s : Sub F H) (h : Paired (r.rep F) vs zs) : ∀ l, H l = none → Q (.ref l) (upd H l (.lst vs)) := fun l hl =>
  W zs (.ref l) F _ p (Ext.grow s (same_new hl)) ⟨l, vs, rfl, upd_same, h⟩ fun _ a ea => by
    cases ea
    exact ⟨s.there hl, hl⟩
section
variable {mk : γ → SA} {ra : Rep α} {rb : Rep β} {ma : (α → Prop) → Prop} {mb : (β → Prop) → Prop}
theorem xe_op {op : Operator} {r : R2} {n : α → β → (γ → Prop) → Prop} (ho : OpR X (binaryOp op) r) (sm : Sem2 ra rb mk r n) (ha : XE X ε Γ a ra ma) (hb : XE X ε Γ b rb mb) :
    XV X ε Γ (.BinOp a op b pos) mk (fun P => ma fun x => mb fun y => n x y P) := fun F0 H0 xl σ F H P Q S p q =>
  use_e (pe_op ho (run_pe X) (run_pe X)) (xe_use ha xl S p fun x v F1 H1 p1 e1 r1 => xe_use hb xl (S.up e1) p1 fun y w F2 H2 p2 e2 r2 => sm x y v w F2 H2 P Q e2.fh (ra.up e2.ff r1) r2 p2 fun z u F' H' pz ez hz fz =>
    q z u F' H' pz ((e1.trans e2).trans ez) hz fun o c ec => ⟨(fz o c ec).1, (e1.trans e2).no _ (fz o c ec).2⟩)
theorem xe_cmp {op : CmpOp} {r : R2} {n : α → β → (γ → Prop) → Prop} (ho : OpR X (compareOp op) r) (sm : Sem2 ra rb mk r n) (ha : XE X ε Γ a ra ma) (hb : XE X ε Γ b rb mb) (hm : behindInMarks op b = false) :
    XV X ε Γ (.Compare a [op] [b] pos) mk (fun P => ma fun x => mb fun y => n x y P) := fun F0 H0 xl σ F H P Q S p q =>
  use_e (pe_cmpR ho (run_pe X) (run_pe X) hm) (xe_use ha xl S p fun x v F1 H1 p1 e1 r1 => xe_use hb xl (S.up e1) p1 fun y w F2 H2 p2 e2 r2 => sm x y v w F2 H2 P Q e2.fh (ra.up e2.ff r1) r2 p2 fun z u F' H' pz ez hz fz =>
    q z u F' H' pz ((e1.trans e2).trans ez) hz fun o c ec => ⟨(fz o c ec).1, (e1.trans e2).no _ (fz o c ec).2⟩)
theorem xt_cmp {op : CmpOp} {r : R2} {n : α → β → (Bool → Prop) → Prop} (ho : OpR X (compareOp op) r) (sm : Sem2 ra rb (SA.im rB) r n) (ha : XE X ε Γ a ra ma) (hb : XE X ε Γ b rb mb) (hm : behindInMarks op b = false) :
    XT X ε Γ (.Compare a [op] [b] pos) (fun P => ma fun x => mb fun y => n x y P) := fun F0 H0 xl σ F H P Q S p q =>
  use_t (pt_cmpR ho (run_pe X) (run_pe X) hm) (xe_use ha xl S p fun x v F1 H1 p1 e1 r1 => xe_use hb xl (S.up e1) p1 fun y w F2 H2 p2 e2 r2 => sm x y v w F2 H2 P _ e2.fh (ra.up e2.ff r1) r2 p2 fun z u F' H' pz ez hz fz => by
    obtain ⟨u', eu, hu⟩ := hz
    cases eu
    exact ⟨z, hu, q z F' H' pz ((e1.trans e2).trans ez)⟩)
theorem xe_un {op : UnaryOp} {r : V → Hp → VK → Prop} {n : α → (γ → Prop) → Prop} (ho : UnR X (unaryOp op) r) (sm : Sem1 ra mk r n) (ha : XE X ε Γ a ra ma) : XV X ε Γ (.UnaryOp op a pos) mk (fun P => ma fun x => n x P) := fun F0 H0 xl σ F H P Q S p q =>
  use_e (pe_un ho (run_pe X)) (xe_use ha xl S p fun x v F1 H1 p1 e1 r1 => sm x v F1 H1 P Q e1.fh r1 p1 fun z u F' H' pz ez hz fz => q z u F' H' pz (e1.trans ez) hz fun o c ec => ⟨(fz o c ec).1, e1.no _ (fz o c ec).2⟩)
theorem xe_ix {r : R2} {n : α → β → (γ → Prop) → Prop} (hr : IxR X r) (sm : Sem2 ra rb mk r n) (ha : XE X ε Γ a ra ma) (hb : XE X ε Γ b rb mb) (hs : PlainIx b) :
    XV X ε Γ (.Subscript a b pos) mk (fun P => ma fun x => mb fun y => n x y P) := fun F0 H0 xl σ F H P Q S p q =>
  use_e (pe_ix hr (run_pe X) (run_pe X) hs) (xe_use ha xl S p fun x v F1 H1 p1 e1 r1 => xe_use hb xl (S.up e1) p1 fun y w F2 H2 p2 e2 r2 => sm x y v w F2 H2 P Q e2.fh (ra.up e2.ff r1) r2 p2 fun z u F' H' pz ez hz fz =>
    q z u F' H' pz ((e1.trans e2).trans ez) hz fun o c ec => ⟨(fz o c ec).1, (e1.trans e2).no _ (fz o c ec).2⟩)
variable {A : Type} {R : Rps A} {m : (A → Prop) → Prop} {n : A → (γ → Prop) → Prop} {r : List V → Hp → VK → Prop} {x : Str} {p : Pos}
theorem xe_callB {id : String} (hc : CallR X (.builtin id) r) (sm : SemC R mk r n) (hg : Gl X x) (hm : X.mg x = none) (hv : bootBuiltins x = some (.builtin id)) (ha : XA X ε Γ (e :: es) R m) (hn : x ≠ "__name__" := by decide) (hdb : (x == ("__debug__" : Str)) = false := by decide)
    (he : starEach (e :: es) X.env = (false, eval e X.env) :: starEach es X.env := by rfl) (hpl : (backTo pos (starEach es X.env)).any (·.1) = false := by rfl) : XV X ε Γ (.Call (.Name x p) (e :: es) [] pos) mk (fun P => m fun x => n x P) := fun F0 H0 xl σ F H P Q S pp q =>
  use_e (pe_callB hc hg hm hv (run_pa X) hn hdb he hpl) (ha F0 H0 xl σ F H _ _ S pp fun x vs F1 H1 p1 e1 r1 => sm x vs F1 H1 P Q e1.fh r1 p1 fun z u F' H' pz ez hz fz => q z u F' H' pz (e1.trans ez) hz fun o c ec => ⟨(fz o c ec).1, e1.no _ (fz o c ec).2⟩)
theorem xe_callTy {T : String} (hc : CallR X (.type T) r) (sm : SemC R mk r n) (hg : Gl X x) (hm : X.mg x = none) (hv : bootBuiltins x = some (.type T)) (ha : XA X ε Γ (e :: es) R m) (hn : x ≠ "__name__" := by decide) (hdb : (x == ("__debug__" : Str)) = false := by decide)
    (he : starEach (e :: es) X.env = (false, eval e X.env) :: starEach es X.env := by rfl) (hpl : (backTo pos (starEach es X.env)).any (·.1) = false := by rfl) : XV X ε Γ (.Call (.Name x p) (e :: es) [] pos) mk (fun P => m fun x => n x P) := fun F0 H0 xl σ F H P Q S pp q =>
  use_e (pe_callTy hc hg hm hv (run_pa X) hn hdb he hpl) (ha F0 H0 xl σ F H _ _ S pp fun x vs F1 H1 p1 e1 r1 => sm x vs F1 H1 P Q e1.fh r1 p1 fun z u F' H' pz ez hz fz => q z u F' H' pz (e1.trans ez) hz fun o c ec => ⟨(fz o c ec).1, e1.no _ (fz o c ec).2⟩)
/-- a method of what is built in -/
def SemM {A : Type} (K : PySem.W.Frag) (T : String) (ro : Rep α) (R : Rps A) (mk : γ → SA) (r : V → List V → Hp → VK → Prop) (n : α → A → (γ → Prop) → Prop) : Prop :=
  (∀ (y : α) (v : V) (F H : Hp), Sub F H → ro.rep F v y → tyV K T v H) ∧ ∀ (y : α) (x : A) (v : V) (vs : List V) (F H : Hp) (P : γ → Prop) (Q : VK), Sub F H → ro.rep F v y → R.rep F vs x → n y x P → Wish F H mk P Q → r v vs H Q
theorem xe_bm {T id : String} {o : Expr} {name : Str} {apos cpos : Pos} {ro : Rep α} {r : V → List V → Hp → VK → Prop} {mo : (α → Prop) → Prop} {n : α → A → (γ → Prop) → Prop} (pa : PlainAttrs T) (slot : Slot T name id) (hty : typeOf (.builtin id) = pure (.type "method_descriptor")) (hm : MtR X id r) (hK : X.K = K)
    (sm : SemM K T ro R mk r n) (ho : XE X ε Γ o ro mo) (ha : XA X ε Γ (e :: es) R m) (hbase : attributeBase o name X.env (eval o X.env) = eval o X.env := by rfl)
    (hfew : ((backTo cpos (starEach (e :: es) X.env)).all (fun x => !x.1) && (backToKw cpos (keywordEach [] X.env)).all (fun x => x.1.isSome)
      && decide ((e :: es).length + ([] : List Keyword).length + (if ([] : List Keyword).isEmpty then 0 else 1) < 30)) = true := by rfl)
    (hline : (apos.endLine == cpos.line) = true := by rfl) (hs : starEach (e :: es) X.env = (false, eval e X.env) :: starEach es X.env := by rfl) (hplain : (backTo cpos (starEach es X.env)).any (·.1) = false := by rfl) :
    XV X ε Γ (.Call (.Attribute o name apos) (e :: es) [] cpos) mk (fun P => mo fun y => m fun x => n y x P) := fun F0 H0 xl σ F H P Q S pp q =>
  use_e (pe_bm pa slot hty hm (run_pe X) (run_pa X) hbase hfew hline hs hplain) (xe_use ho xl S pp fun y v F1 H1 p1 e1 r1 => ⟨by rw [hK]; exact sm.1 y v F1 H1 e1.fh r1, ha F0 H0 xl σ F1 H1 _ _ (S.up e1) p1 fun x vs F2 H2 p2 e2 r2 =>
    sm.2 y x v vs F2 H2 P Q e2.fh (ro.up e2.ff r1) r2 p2 fun z u F' H' pz ez hz fz => q z u F' H' pz ((e1.trans e2).trans ez) hz fun o c ec => ⟨(fz o c ec).1, (e1.trans e2).no _ (fz o c ec).2⟩⟩)
theorem xe_bm0 {T id : String} {o : Expr} {name : Str} {apos cpos : Pos} {ro : Rep α} {r : V → List V → Hp → VK → Prop} {mo : (α → Prop) → Prop} {n : α → Unit → (γ → Prop) → Prop} (pa : PlainAttrs T) (slot : Slot T name id) (hty : typeOf (.builtin id) = pure (.type "method_descriptor")) (hm : MtR X id r) (hK : X.K = K)
    (sm : SemM K T ro rNil mk r n) (ho : XE X ε Γ o ro mo) (hbase : attributeBase o name X.env (eval o X.env) = eval o X.env := by rfl) (hline : (apos.endLine == cpos.line) = true := by rfl) :
    XV X ε Γ (.Call (.Attribute o name apos) [] [] cpos) mk (fun P => mo fun y => n y () P) := fun F0 H0 xl σ F H P Q S pp q =>
  use_e (pe_bm0 pa slot hty hm (run_pe X) hbase hline) (xe_use ho xl S pp fun y v F1 H1 p1 e1 r1 => ⟨by rw [hK]; exact sm.1 y v F1 H1 e1.fh r1,
    sm.2 y () v [] F1 H1 P Q e1.fh r1 rfl p1 fun z u F' H' pz ez hz fz => q z u F' H' pz (e1.trans ez) hz fun o c ec => ⟨(fz o c ec).1, e1.no _ (fz o c ec).2⟩⟩)
end
/-- a new list that nobody changes -/
theorem xv_e {r : Rep α} {m : (List α → Prop) → Prop} (K : PySem.W.Frag) (h : XV X ε Γ e (SA.ol r) m) : XE X ε Γ e (rL K r) m := xe_of fun F0 H0 xl σ F H P Q S p q =>
  h F0 H0 xl σ F H P Q S p fun x v F' H' px ex hx fr => by
    obtain ⟨a, vs, ea, ha, pr⟩ := hx
    cases ea
    obtain ⟨n1, n2⟩ := fr rfl a rfl
    have sm : Same F' (upd F' a (.lst vs)) := same_new n1
    refine q x (.ref a) (upd F' a (.lst vs)) H' px ⟨ex.ff.trans sm, ex.hh, ex.no, fun b o e => ?_, fun b o e n => ?_⟩ ⟨a, vs, rfl, .inl upd_same, r.ups sm pr⟩
    · by_cases z : b = a
      · subst z
        rw [upd_same] at e
        cases e
        exact .inl ha
      · rw [upd_ne z] at e
        exact ex.fh b o e
    · by_cases z : b = a
      · subst z
        exact n2
      · rw [upd_ne z] at e
        exact ex.new b o e n
/-! ### tests -/
theorem xt_val {m : (Bool → Prop) → Prop} (h : XE X ε Γ e rB m) (he : ∀ whole, isTrue e X.env whole = (do let v ← whole; standAt e.pos; holding [v] (truthy v)) := by intro _; rfl) : XT X ε Γ e m := fun F0 H0 xl σ F H P Q S p q =>
  use_t (pt_val (run_pe X) he) (xe_use h xl S p fun x v F1 H1 p1 e1 r1 => ⟨x, r1, q x F1 H1 p1 e1⟩)
theorem xt_not {m : (Bool → Prop) → Prop} (h : XT X ε Γ a m) : XT X ε Γ (.UnaryOp .Not a pos) (fun P => m fun c => P (!c)) := fun F0 H0 xl σ F H P Q S p q =>
  use_t (pt_not (run_pt X)) (h F0 H0 xl σ F H _ _ S p fun x F1 H1 p1 e1 => q (!x) F1 H1 p1 e1)
def RunW (X : Cx) (e : Expr) : TT := fun σ H Q => ∀ (whole : Sem Value) (pins : List (Addr × Obj)) (s : Shared), Inv X pins σ H s → wpAny (model X.prog X.w) X.A (isTrue e X.env whole) (TP X pins σ Q) X.xe s
theorem run_pw {e : Expr} : PW X e (RunW X e) := ⟨fun w pins s _ _ _ I h => h w pins s I⟩
theorem use_w {t : TT} (h : PW X e t) {Q : Bool → Hp → Prop} (q : t σ H Q) : RunW X e σ H Q := fun w pins s I => h.run w pins s σ H Q I q
/-- a chain of and, or -/
def XW (X : Cx) (ε : Tk) (Γ : List SA) (e : Expr) (m : (Bool → Prop) → Prop) : Prop :=
  ∀ (F0 H0 : Hp), XLk X F0 H0 ε → ∀ (σ : L2.St) (F H : Hp) (P : Bool → Prop) (Q : Bool → Hp → Prop), Stt F0 H0 Γ σ F H → m P → (∀ x F' H', P x → Ext F H F' H' → Q x H') → RunW X e σ H Q
section
variable {m n : (Bool → Prop) → Prop} {rest : List Expr}
theorem xw_t (h : XW X ε Γ e m) : XT X ε Γ e m := fun F0 H0 xl σ F H P Q S p q => use_t (PW.pt (run_pw (X := X))) (h F0 H0 xl σ F H P Q S p q)
theorem xw_and1 (h : XT X ε Γ a m) : XW X ε Γ (.BoolOp .And [a] pos) m := fun F0 H0 xl σ F H P Q S p q => use_w (pw_and1 (run_pt X)) (h F0 H0 xl σ F H P Q S p q)
theorem xw_or1 (h : XT X ε Γ a m) : XW X ε Γ (.BoolOp .Or [a] pos) m := fun F0 H0 xl σ F H P Q S p q => use_w (pw_or1 (run_pt X)) (h F0 H0 xl σ F H P Q S p q)
theorem xw_and (h : XT X ε Γ a m) (t : XW X ε Γ (.BoolOp .And (b :: rest) pos) n) : XW X ε Γ (.BoolOp .And (a :: b :: rest) pos) (fun P => m fun c => if c = true then n P else P false) := fun F0 H0 xl σ F H P Q S p q =>
  use_w (pw_and (run_pt X) run_pw) (h F0 H0 xl σ F H _ _ S p fun x F1 H1 p1 e1 => by
    cases x with
    | true => exact t F0 H0 xl σ F1 H1 P Q (S.up e1) p1 fun y F2 H2 p2 e2 => q y F2 H2 p2 (e1.trans e2)
    | false => exact q false F1 H1 p1 e1)
theorem xw_or (h : XT X ε Γ a m) (t : XW X ε Γ (.BoolOp .Or (b :: rest) pos) n) : XW X ε Γ (.BoolOp .Or (a :: b :: rest) pos) (fun P => m fun c => if c = true then P true else n P) := fun F0 H0 xl σ F H P Q S p q =>
  use_w (pw_or (run_pt X) run_pw) (h F0 H0 xl σ F H _ _ S p fun x F1 H1 p1 e1 => by
    cases x with
    | true => exact q true F1 H1 p1 e1
    | false => exact t F0 H0 xl σ F1 H1 P Q (S.up e1) p1 fun y F2 H2 p2 e2 => q y F2 H2 p2 (e1.trans e2))
/-- .. where nothing can go wrong -/
theorem xw_andP {x y : Bool} (h : XT X ε Γ a (fun P => P x)) (t : XW X ε Γ (.BoolOp .And (b :: rest) pos) (fun P => P y)) : XW X ε Γ (.BoolOp .And (a :: b :: rest) pos) (fun P => P (x && y)) := fun F0 H0 xl σ F H P Q S p q =>
  xw_and (pos := pos) h t F0 H0 xl σ F H P Q S (by cases x <;> exact p) q
theorem xw_orP {x y : Bool} (h : XT X ε Γ a (fun P => P x)) (t : XW X ε Γ (.BoolOp .Or (b :: rest) pos) (fun P => P y)) : XW X ε Γ (.BoolOp .Or (a :: b :: rest) pos) (fun P => P (x || y)) := fun F0 H0 xl σ F H P Q S p q =>
  xw_or (pos := pos) h t F0 H0 xl σ F H P Q S (by cases x <;> exact p) q
/-- as values -/
theorem xe_one {op} {r : Rep α} {m : (α → Prop) → Prop} (h : XE X ε Γ a r m) : XE X ε Γ (.BoolOp op [a] pos) r m := xe_of fun F0 H0 xl σ F H P Q S p q => use_e (pe_one (run_pe X)) (xe_use h xl S p q)
theorem xe_and (h : XE X ε Γ a rB m) (t : XE X ε Γ (.BoolOp .And (b :: rest) pos) rB n) : XE X ε Γ (.BoolOp .And (a :: b :: rest) pos) rB (fun P => m fun c => if c = true then n P else P false) := xe_of fun F0 H0 xl σ F H P Q S p q =>
  use_e (pe_and (run_pe X) (run_pe X)) (xe_use h xl S p fun x v F1 H1 p1 e1 r1 => ⟨x, r1, by
    cases x with
    | true => exact xe_use t xl (S.up e1) p1 fun y w F2 H2 p2 e2 r2 => q y w F2 H2 p2 (e1.trans e2) r2
    | false => exact q false _ F1 H1 p1 e1 rfl⟩)
theorem xe_or (h : XE X ε Γ a rB m) (t : XE X ε Γ (.BoolOp .Or (b :: rest) pos) rB n) : XE X ε Γ (.BoolOp .Or (a :: b :: rest) pos) rB (fun P => m fun c => if c = true then P true else n P) := xe_of fun F0 H0 xl σ F H P Q S p q =>
  use_e (pe_or (run_pe X) (run_pe X)) (xe_use h xl S p fun x v F1 H1 p1 e1 r1 => ⟨x, r1, by
    cases x with
    | true => exact q true _ F1 H1 p1 e1 rfl
    | false => exact xe_use t xl (S.up e1) p1 fun y w F2 H2 p2 e2 r2 => q y w F2 H2 p2 (e1.trans e2) r2⟩)
theorem xe_andP {x y : Bool} (h : XE X ε Γ a rB (fun P => P x)) (t : XE X ε Γ (.BoolOp .And (b :: rest) pos) rB (fun P => P y)) : XE X ε Γ (.BoolOp .And (a :: b :: rest) pos) rB (fun P => P (x && y)) := fun F0 H0 xl σ F H P Q S p q =>
  xe_and (pos := pos) h t F0 H0 xl σ F H P Q S (by cases x <;> exact p) q
theorem xe_orP {x y : Bool} (h : XE X ε Γ a rB (fun P => P x)) (t : XE X ε Γ (.BoolOp .Or (b :: rest) pos) rB (fun P => P y)) : XE X ε Γ (.BoolOp .Or (a :: b :: rest) pos) rB (fun P => P (x || y)) := fun F0 H0 xl σ F H P Q S p q =>
  xe_or (pos := pos) h t F0 H0 xl σ F H P Q S (by cases x <;> exact p) q
theorem xe_not (h : XE X ε Γ a rB m) : XE X ε Γ (.UnaryOp .Not a pos) rB (fun P => m fun c => P (!c)) := xe_of fun F0 H0 xl σ F H P Q S p q =>
  use_e (pe_not (run_pe X)) (xe_use h xl S p fun x v F1 H1 p1 e1 r1 => ⟨x, r1, q (!x) _ F1 H1 p1 e1 rfl⟩)
/-- a if t else b -/
theorem xe_if {mk : γ → SA} {u w : (γ → Prop) → Prop} (h : XT X ε Γ c m) (ha : XV X ε Γ a mk u) (hb : XV X ε Γ b mk w) : XV X ε Γ (.IfExp c a b pos) mk (fun P => m fun k => if k = true then u P else w P) := fun F0 H0 xl σ F H P Q S p q =>
  use_e (pe_ifExp (run_pt X) (run_pe X) (run_pe X)) (h F0 H0 xl σ F H _ _ S p fun x F1 H1 p1 e1 => by
    cases x with
    | true => exact ha F0 H0 xl σ F1 H1 P Q (S.up e1) p1 fun y w F2 H2 p2 e2 r2 f2 => q y w F2 H2 p2 (e1.trans e2) r2 fun o c ec => ⟨(f2 o c ec).1, e1.no _ (f2 o c ec).2⟩
    | false => exact hb F0 H0 xl σ F1 H1 P Q (S.up e1) p1 fun y w F2 H2 p2 e2 r2 f2 => q y w F2 H2 p2 (e1.trans e2) r2 fun o c ec => ⟨(f2 o c ec).1, e1.no _ (f2 o c ec).2⟩)
theorem xe_ifP {mk : γ → SA} {k : Bool} {x y : γ} (h : XT X ε Γ c (fun P => P k)) (ha : XV X ε Γ a mk (fun P => P x)) (hb : XV X ε Γ b mk (fun P => P y)) : XV X ε Γ (.IfExp c a b pos) mk (fun P => P (if k = true then x else y)) := fun F0 H0 xl σ F H P Q S p q =>
  xe_if (pos := pos) h ha hb F0 H0 xl σ F H P Q S (by cases k <;> exact p) q
end
end Bv

/-! Bv4: blocks of statements -/
namespace Bv
open PySem PySem.Spec PyProof.Rows L2 Gd
variable {X : Cx} {ε : Tk} {F0 H0 F H F' H' : Hp} {Γ Γ' : List SA} {σ : L2.St} {e a b c : Expr} {es : List Expr} {pos : Pos} {α β γ δ O : Type} {K : PySem.W.Frag} {ss rest : List Stmt} {st : Stmt}
@[irreducible] def RunB (X : Cx) (ss : List Stmt) : TS := fun D σ H => ∀ (pins : List (Addr × Obj)) (s : Shared), Inv X pins σ H s → wpAny (model X.prog X.w) X.A (execs ss X.env) (SP X pins D) X.xe s
def RunS (X : Cx) (st : Stmt) : TS := fun D σ H => ∀ (pins : List (Addr × Obj)) (s : Shared), Inv X pins σ H s → wpAny (model X.prog X.w) X.A (exec st X.env) (SP X pins D) X.xe s
theorem RunB.run {D : Ends} (h : RunB X ss D σ H) (pins : List (Addr × Obj)) (s : Shared) (I : Inv X pins σ H s) : wpAny (model X.prog X.w) X.A (execs ss X.env) (SP X pins D) X.xe s := by
  unfold RunB at h
  exact h pins s I
theorem run_pss : PSs X ss (RunB X ss) := ⟨fun pins s _ _ _ I h => RunB.run h pins s I⟩
theorem run_ps : PS X st (RunS X st) := ⟨fun pins s _ _ _ I h => h pins s I⟩
theorem use_b {t : TS} (h : PSs X ss t) {D : Ends} (q : t D σ H) : RunB X ss D σ H := by unfold RunB; exact fun pins s I => h.run pins s σ H D I q
theorem use_s {t : TS} (h : PS X st t) {D : Ends} (q : t D σ H) : RunS X st D σ H := fun pins s I => h.run pins s σ H D I q
/-- how a block may end, told by an outcome -/
structure Ed (O : Type) where
  nx : List SA → O → Prop
  rt : Hp → V → O → Prop
  bk : List SA → O → Prop
  ct : List SA → O → Prop
/-- what stands still goes on standing -/
structure Go (F H F' H' : Hp) : Prop where
  ff : Same F F'
  hb : ∀ b o, F b = some o → (∀ ps, o ≠ .tbl ps) → ∀ u, H b = some u → H' b = some u
theorem Go.refl (F H : Hp) : Go F H F H := ⟨Same.refl _, fun _ _ _ _ _ h => h⟩
theorem Go.trans {F H F1 H1 F2 H2 : Hp} (a : Go F H F1 H1) (b : Go F1 H1 F2 H2) : Go F H F2 H2 := ⟨a.ff.trans b.ff, fun c o e n u h => b.hb c o (a.ff c o e) n u (a.hb c o e n u h)⟩
theorem Ext.go {F H F' H' : Hp} (s : Sub F H) (e : Ext F H F' H') : Go F H F' H' := ⟨e.ff, fun b o q n u h => by
  refine e.hh b u h fun ps z => ?_
  subst z
  rcases s b o q with k | ⟨_, ob, k⟩
  · rw [h] at k
    cases k
    exact n ps rfl
  · rw [h] at k
    cases k⟩
/-- the ends of the machine's block are served by the outcomes under P -/
structure Lnk (F0 H0 G GH : Hp) (ed : Ed O) (P : O → Prop) (D : Ends) : Prop where
  nx : ∀ o Γ σ F H, P o → ed.nx Γ o → Stt F0 H0 Γ σ F H → Go G GH F H → D.nx σ H
  rt : ∀ o v F H, P o → ed.rt F v o → Ext F0 H0 F H → Go G GH F H → D.rt v H
  bk : ∀ o Γ σ F H, P o → ed.bk Γ o → Stt F0 H0 Γ σ F H → Go G GH F H → D.bk σ H
  ct : ∀ o Γ σ F H, P o → ed.ct Γ o → Stt F0 H0 Γ σ F H → Go G GH F H → D.ct σ H
theorem Lnk.mono {ed : Ed O} {P : O → Prop} {D : Ends} {G G' GH GH' : Hp} (L : Lnk F0 H0 G GH ed P D) (s : Go G GH G' GH') : Lnk F0 H0 G' GH' ed P D :=
  ⟨fun o Γ σ F H p q S k => L.nx o Γ σ F H p q S (s.trans k), fun o v F H p q e k => L.rt o v F H p q e (s.trans k), fun o Γ σ F H p q S k => L.bk o Γ σ F H p q S (s.trans k), fun o Γ σ F H p q S k => L.ct o Γ σ F H p q S (s.trans k)⟩
def XB (X : Cx) (ε : Tk) (Γ : List SA) (ss : List Stmt) (ed : Ed O) (m : (O → Prop) → Prop) : Prop :=
  ∀ (F0 H0 : Hp), XLk X F0 H0 ε → ∀ (σ : L2.St) (F H : Hp) (P : O → Prop) (D : Ends), Stt F0 H0 Γ σ F H → m P → Lnk F0 H0 F H ed P D → RunB X ss D σ H
variable {ed : Ed O} {m n : (O → Prop) → Prop}
theorem XB.cast {m' : (O → Prop) → Prop} (h : XB X ε Γ ss ed m) (w : ∀ P, m' P → m P) : XB X ε Γ ss ed m' := fun F0 H0 xl σ F H P D S p L => h F0 H0 xl σ F H P D S (w P p) L
theorem XB.weak (h : XB X ε Γ' ss ed m) (l : Le Γ Γ') : XB X ε Γ ss ed m := fun F0 H0 xl σ F H P D S p L => h F0 H0 xl σ F H P D (S.weak l) p L
theorem xb_nil {o : O} (h : ed.nx Γ o) : XB X ε Γ [] ed (fun P => P o) := fun F0 H0 xl σ F H P D S p L => use_b pss_nil (L.nx o Γ σ F H p h S (Go.refl _ _))
/-- a statement, then the rest -/
theorem seq_b {D : Ends} {k : L2.St → Hp → Prop} (h : RunS X st { D with nx := k } σ H) (t : ∀ σ' H', k σ' H' → RunB X rest D σ' H') : RunB X (st :: rest) D σ H :=
  use_b (pss_cons run_ps run_pss) (fun pins s I => thn (h pins s I) fun f s' q => by
    cases f with
    | next =>
      obtain ⟨σ', H', I', q⟩ := q
      exact ⟨σ', H', I', t σ' H' q⟩
    | brk => exact q
    | cont => exact q
    | ret u => exact q)
theorem xb_pass (h : XB X ε Γ rest ed m) : XB X ε Γ (.Pass pos :: rest) ed m := fun F0 H0 xl σ F H P D S p L => seq_b (k := fun σ' H' => σ' = σ ∧ H' = H) (use_s ps_pass ⟨rfl, rfl⟩) fun σ' H' e => by
  obtain ⟨rfl, rfl⟩ := e
  exact h F0 H0 xl _ F _ P D S p L
theorem xb_doc {x j pos pos'} (h : XB X ε Γ rest ed m) : XB X ε Γ (.Expr (.Constant (.str x) j pos) pos' :: rest) ed m := fun F0 H0 xl σ F H P D S p L => seq_b (k := fun σ' H' => σ' = σ ∧ H' = H) (use_s ps_doc ⟨rfl, rfl⟩) fun σ' H' e => by
  obtain ⟨rfl, rfl⟩ := e
  exact h F0 H0 xl _ F _ P D S p L
theorem one_b {D : Ends} (h : RunS X st D σ H) (t : ∀ σ' H', D.nx σ' H' → False) : RunB X (st :: rest) D σ H :=
  seq_b (k := D.nx) h fun σ' H' q => (t σ' H' q).elim
theorem xb_ret {r : Rep α} {mm : (α → Prop) → Prop} {g : α → O} (h : XE X ε Γ e r mm) (l : ∀ x F v, r.rep F v x → ed.rt F v (g x)) : XB X ε Γ (.Return (some e) pos :: rest) ed (fun P => mm fun x => P (g x)) := fun F0 H0 xl σ F H P D S p L =>
  seq_b (k := fun _ _ => False) (use_s (ps_ret (run_pe X)) (show RunE X e σ H _ from xe_use h xl S p fun x v F' H' px ex hr => L.rt (g x) v F' H' px (l x F' v hr) (S.ext.trans ex) (ex.go S.sub))) fun _ _ q => q.elim
theorem xb_retN {o : O} (l : ∀ F, ed.rt F .non o) : XB X ε Γ (.Return none pos :: rest) ed (fun P => P o) := fun F0 H0 xl σ F H P D S p L =>
  seq_b (k := fun _ _ => False) (use_s ps_retN (show D.rt .non H from L.rt o .non F H p (l F) S.ext (Go.refl _ _))) fun _ _ q => q.elim
theorem xb_break {o : O} (l : ed.bk Γ o) : XB X ε Γ (.Break pos :: rest) ed (fun P => P o) := fun F0 H0 xl σ F H P D S p L =>
  seq_b (k := fun _ _ => False) (use_s ps_break (show D.bk σ H from L.bk o Γ σ F H p l S (Go.refl _ _))) fun _ _ q => q.elim
theorem xb_continue {o : O} (l : ed.ct Γ o) : XB X ε Γ (.Continue pos :: rest) ed (fun P => P o) := fun F0 H0 xl σ F H P D S p L =>
  seq_b (k := fun _ _ => False) (use_s ps_continue (show D.ct σ H from L.ct o Γ σ F H p l S (Go.refl _ _))) fun _ _ q => q.elim
/-- an expression whose value is dropped -/
theorem xb_expr {mk : α → SA} {mm : (α → Prop) → Prop} {k : α → (O → Prop) → Prop} (h : XV X ε Γ e mk mm) (t : ∀ x, XB X ε Γ rest ed (k x)) (hs : swapsWith e none pos.line X.env = pure false := by intros; rfl) : XB X ε Γ (.Expr e pos :: rest) ed (fun P => mm fun x => k x P) := fun F0 H0 xl σ F H P D S p L =>
  seq_b (k := fun σ' H' => ∃ x F', k x P ∧ σ' = σ ∧ Stt F0 H0 Γ σ F' H' ∧ Go F H F' H') (use_s (ps_expr (run_pe X) hs) (show RunE X e σ H _ from h F0 H0 xl σ F H _ _ S p fun x v F' H' px ex _ _ => ⟨x, F', px, rfl, S.up ex, ex.go S.sub⟩)) fun σ' H' q => by
    obtain ⟨x, F', px, rfl, S', sm⟩ := q
    exact t x F0 H0 xl _ F' H' P D S' px (L.mono sm)
/-- x = e -/
theorem xb_set {i : Nat} {y : Str} {pos' : Pos} {mk : α → SA} {mm : (α → Prop) → Prop} {k : α → (O → Prop) → Prop} (hN : X.N.Nodup) (hi : X.N[i]? = some y) (hx : Loc X.env.scope y) (h : XV X ε Γ e mk mm) (t : ∀ x, XB X ε (Γ.set i (mk x)) rest ed (k x))
    (hs : swapsWith e (some (.Name y pos')) pos.line X.env = pure false := by intros; rfl) (hf : X.fn y = true ∨ X.env.scope.names.lookup y = some .local := by exact .inl rfl) : XB X ε Γ (.Assign [.Name y pos'] e pos :: rest) ed (fun P => mm fun x => k x P) := fun F0 H0 xl σ F H P D S p L =>
  seq_b (k := fun σ' H' => ∃ x F', k x P ∧ Stt F0 H0 (Γ.set i (mk x)) σ' F' H' ∧ Go F H F' H') (use_s (ps_set hN hi hx (run_pe X) hs hf) (show RunE X e σ H _ from h F0 H0 xl σ F H _ _ S p fun x v F' H' px ex hh fr => ⟨x, F', px, (S.up ex).set hh (S.fresh fr ex), ex.go S.sub⟩)) fun σ' H' q => by
    obtain ⟨x, F', px, S', sm⟩ := q
    exact t x F0 H0 xl _ F' H' P D S' px (L.mono sm)
/-- x = [..] where the list is made within the frame's own store -/
theorem xb_set2 {i : Nat} {y : Str} {pos' : Pos} {te : TE} {mk : α → SA} {mm : (α → Prop) → Prop} {k : α → (O → Prop) → Prop} (hp : PS X st (tAsg te (gName i))) (h : ∀ (F0 H0 : Hp), XLk X F0 H0 ε → ∀ (σ : L2.St) (F H : Hp) (P : α → Prop) (Q : VK), Stt F0 H0 Γ σ F H → mm P → (∀ x v F' H', P x → Ext F H F' H' → (mk x).holds F' H' (some v) → Fresh (mk x) v F' H → Q v H') → te σ H Q)
    (t : ∀ x, XB X ε (Γ.set i (mk x)) rest ed (k x)) : XB X ε Γ (st :: rest) ed (fun P => mm fun x => k x P) := fun F0 H0 xl σ F H P D S p L =>
  seq_b (k := fun σ' H' => ∃ x F', k x P ∧ Stt F0 H0 (Γ.set i (mk x)) σ' F' H' ∧ Go F H F' H') (use_s hp (h F0 H0 xl σ F H _ _ S p fun x v F' H' px ex hh fr => ⟨x, F', px, (S.up ex).set hh (S.fresh fr ex), ex.go S.sub⟩)) fun σ' H' q => by
    obtain ⟨x, F', px, S', sm⟩ := q
    exact t x F0 H0 xl _ F' H' P D S' px (L.mono sm)
/-- an owned list changes no more -/
theorem xb_freeze {i : Nat} {r : Rep α} {xs : List α} (K : PySem.W.Frag) (hi : Γ[i]? = some (.ol r xs)) (t : XB X ε (Γ.set i (.im (rL K r) xs)) rest ed m) : XB X ε Γ rest ed m := fun F0 H0 xl σ F H P D S p L => by
  obtain ⟨F1, sm, S1⟩ := S.settleL K hi
  exact t F0 H0 xl σ F1 H P D S1 p (L.mono ⟨sm, fun _ _ _ _ _ h => h⟩)
theorem xb_freezeD {i : Nat} {r : Rep α} {L0 : List (Str × α)} (hi : Γ[i]? = some (.od r L0)) (t : XB X ε (Γ.set i (.im (rD r) L0)) rest ed m) : XB X ε Γ rest ed m := fun F0 H0 xl σ F H P D S p L => by
  obtain ⟨F1, sm, S1⟩ := S.settleD hi
  exact t F0 H0 xl σ F1 H P D S1 p (L.mono ⟨sm, fun _ _ _ _ _ h => h⟩)
/-! ### if -/
theorem xb_ifT {mt : (Bool → Prop) → Prop} {sa sb : List Stmt} (ht : XT X ε Γ c mt) (ha : XB X ε Γ sa ed m) (hb : XB X ε Γ sb ed n) : XB X ε Γ [.If c sa sb pos] ed (fun P => mt fun k => if k = true then m P else n P) := fun F0 H0 xl σ F H P D S p L =>
  use_b (pss_one (ps_if (run_pt X) run_pss run_pss)) (show RunT X c σ H _ from ht F0 H0 xl σ F H _ _ S p fun x F1 H1 p1 e1 => by
    cases x with
    | true => exact ha F0 H0 xl σ F1 H1 P D (S.up e1) p1 (L.mono (e1.go S.sub))
    | false => exact hb F0 H0 xl σ F1 H1 P D (S.up e1) p1 (L.mono (e1.go S.sub)))
/-- a block that never comes to its end -/
def Ed.cut (ed : Ed O) : Ed O := { ed with nx := fun _ _ => False }
theorem Lnk.cut {P : O → Prop} {G GH : Hp} {D D' : Ends} (L : Lnk F0 H0 G GH ed P D) (h1 : D'.rt = D.rt) (h2 : D'.bk = D.bk) (h3 : D'.ct = D.ct) : Lnk F0 H0 G GH ed.cut P D' where
  nx := fun _ _ _ _ _ _ z _ _ => z.elim
  rt := fun o v F H p q e g => by rw [h1]; exact L.rt o v F H p q e g
  bk := fun o Γ σ F H p q e sm => by rw [h2]; exact L.bk o Γ σ F H p q e sm
  ct := fun o Γ σ F H p q e sm => by rw [h3]; exact L.ct o Γ σ F H p q e sm
theorem xb_ifR {mt : (Bool → Prop) → Prop} {sa : List Stmt} (ht : XT X ε Γ c mt) (ha : XB X ε Γ sa ed.cut m) (hr : XB X ε Γ rest ed n) : XB X ε Γ (.If c sa [] pos :: rest) ed (fun P => mt fun k => if k = true then m P else n P) := fun F0 H0 xl σ F H P D S p L =>
  seq_b (k := fun σ' H' => ∃ F', Stt F0 H0 Γ σ' F' H' ∧ n P ∧ Go F H F' H') (use_s (ps_if (run_pt X) run_pss run_pss) (show RunT X c σ H _ from ht F0 H0 xl σ F H _ _ S p fun x F1 H1 p1 e1 => by
    cases x with
    | true => exact ha F0 H0 xl σ F1 H1 P _ (S.up e1) p1 ((L.mono (e1.go S.sub)).cut rfl rfl rfl)
    | false => exact use_b pss_nil ⟨F1, S.up e1, p1, e1.go S.sub⟩)) fun σ' H' q => by
      obtain ⟨F', S', p', sm⟩ := q
      exact hr F0 H0 xl _ F' H' P D S' p' (L.mono sm)
/-- the ways join: the state there is Γj s -/
def Ed.join {S : Type} (ed : Ed O) (Γj : S → List SA) : Ed (S ⊕ O) where
  nx := fun Γ o => ∃ s, Le Γ (Γj s) ∧ o = .inl s
  rt := fun F v o => ∃ o', ed.rt F v o' ∧ o = .inr o'
  bk := fun Γ o => ∃ o', ed.bk Γ o' ∧ o = .inr o'
  ct := fun Γ o => ∃ o', ed.ct Γ o' ∧ o = .inr o'
theorem Lnk.join {S : Type} {Γj : S → List SA} {P : O → Prop} {k : S → (O → Prop) → Prop} {G GH : Hp} {D D' : Ends} (L : Lnk F0 H0 G GH ed P D) (h0 : D'.nx = fun σ' H' => ∃ s F', Stt F0 H0 (Γj s) σ' F' H' ∧ k s P ∧ Go G GH F' H') (h1 : D'.rt = D.rt) (h2 : D'.bk = D.bk) (h3 : D'.ct = D.ct) : Lnk F0 H0 G GH (ed.join Γj) (Sum.elim (fun s => k s P) P) D' where
  nx := fun o Γ σ F H p ⟨s, l, e⟩ S sm => by
    subst e
    rw [h0]
    exact ⟨s, F, S.weak l, p, sm⟩
  rt := fun o v F H p ⟨o', q, e⟩ x g => by subst e; rw [h1]; exact L.rt o' v F H p q x g
  bk := fun o Γ σ F H p ⟨o', q, e⟩ x sm => by subst e; rw [h2]; exact L.bk o' Γ σ F H p q x sm
  ct := fun o Γ σ F H p ⟨o', q, e⟩ x sm => by subst e; rw [h3]; exact L.ct o' Γ σ F H p q x sm
theorem xb_ifJ {S : Type} (Γj : S → List SA) {mt : (Bool → Prop) → Prop} {sa sb : List Stmt} {m n : (S ⊕ O → Prop) → Prop} {k : S → (O → Prop) → Prop} (ht : XT X ε Γ c mt) (ha : XB X ε Γ sa (ed.join Γj) m) (hb : XB X ε Γ sb (ed.join Γj) n) (hr : ∀ s, XB X ε (Γj s) rest ed (k s)) :
    XB X ε Γ (.If c sa sb pos :: rest) ed (fun P => mt fun b => if b = true then m (Sum.elim (fun s => k s P) P) else n (Sum.elim (fun s => k s P) P)) := fun F0 H0 xl σ F H P D S p L =>
  seq_b (k := fun σ' H' => ∃ s F', Stt F0 H0 (Γj s) σ' F' H' ∧ k s P ∧ Go F H F' H') (use_s (ps_if (run_pt X) run_pss run_pss) (show RunT X c σ H _ from ht F0 H0 xl σ F H _ _ S p fun x F1 H1 p1 e1 => by
    cases x with
    | true => exact ha F0 H0 xl σ F1 H1 _ _ (S.up e1) p1 ((Lnk.join (k := k) L (D' := { D with nx := _ }) rfl rfl rfl rfl).mono (e1.go S.sub))
    | false => exact hb F0 H0 xl σ F1 H1 _ _ (S.up e1) p1 ((Lnk.join (k := k) L (D' := { D with nx := _ }) rfl rfl rfl rfl).mono (e1.go S.sub)))) fun σ' H' q => by
      obtain ⟨s, F', S', p', sm⟩ := q
      exact hr s F0 H0 xl _ F' H' P D S' p' (L.mono sm)
end Bv

/-! Bv5: for and while -/
namespace Bv
open PySem PySem.Spec PyProof.Rows L2 Gd
variable {X : Cx} {ε : Tk} {F0 H0 F H F' H' : Hp} {Γ Γ' : List SA} {σ : L2.St} {e a b c : Expr} {es : List Expr} {pos : Pos} {α β γ δ O S : Type} {K : PySem.W.Frag} {ss rest body : List Stmt} {st : Stmt} {ed : Ed O}
/-- what a turn of a loop comes to -/
inductive Stp (S O : Type) | nx (s : S) | bk (s : S) | rt (o : O)
def forL (f : α → S → (Stp S O → Prop) → Prop) : List α → S → (S ⊕ O → Prop) → Prop
  | [], s, P => P (.inl s)
  | x :: xs, s, P => f x s fun
    | .nx s' => forL f xs s' P
    | .bk s' => P (.inl s')
    | .rt o => P (.inr o)
def Ed.loop (ed : Ed O) (Γl : S → List SA) : Ed (Stp S O) where
  nx := fun Γ o => ∃ s, Le Γ (Γl s) ∧ o = .nx s
  rt := fun F v o => ∃ o', ed.rt F v o' ∧ o = .rt o'
  bk := fun Γ o => ∃ s, Le Γ (Γl s) ∧ o = .bk s
  ct := fun Γ o => ∃ s, Le Γ (Γl s) ∧ o = .nx s
/-- the iterator J tells these items -/
def Runs (r : Rep α) (J : It) (F1 H1 : Hp) (xs : List α) : Prop := ∀ F2 H2, Go F1 H1 F2 H2 → Sub F2 H2 → ∀ i, (∀ x, xs[i]? = some x → J.go i H2 ∧ ∀ v H3, J.yld i H2 v H3 → ∃ F3, Ext F2 H2 F3 H3 ∧ r.rep F3 v x) ∧ (xs.length ≤ i → J.stop i H2)
def XI (X : Cx) (ε : Tk) (Γ : List SA) (tg iter : Expr) {α : Type} (r : Rep α) (m : (List α → Prop) → Prop) : Prop :=
  ∃ wi, PI X tg iter wi ∧ ∀ (F0 H0 : Hp), XLk X F0 H0 ε → ∀ (σ : L2.St) (F H : Hp) (P : List α → Prop) (R : It → Hp → Prop), Stt F0 H0 Γ σ F H → m P → (∀ xs F' H' J, P xs → Ext F H F' H' → xs.length ≤ sizeLine → Runs r J F' H' xs → R J H') → wi σ H R
/-- a target -/
theorem wipe_at {vs : List Nat} {σ : L2.St} : ∀ {j : Nat}, (wipe σ vs)[j]? = if j ∈ vs then (σ[j]?).map (fun _ => none) else σ[j]? := by
  induction vs with
  | nil => intro j; rw [if_neg (by simp)]; rfl
  | cons v vs ih =>
    intro j
    show ((wipe σ vs).set v none)[j]? = _
    by_cases e : v = j
    · subst e
      rw [List.getElem?_set_self', if_pos List.mem_cons_self, ih]
      split
      · cases σ[v]? <;> rfl
      · cases σ[v]? <;> rfl
    · rw [List.getElem?_set_ne e, ih]
      have : j ∈ v :: vs ↔ j ∈ vs := by
        rw [List.mem_cons]
        exact ⟨fun h => h.resolve_left (fun z => e z.symm), .inr⟩
      by_cases q : j ∈ vs
      · rw [if_pos q, if_pos (this.mpr q)]
      · rw [if_neg q, if_neg (fun z => q (this.mp z))]
theorem wipe_ext {vs : List Nat} {σ σ' : L2.St} (h : ∀ j, j ∉ vs → σ'[j]? = σ[j]?) (l : σ'.length = σ.length) : wipe σ' vs = wipe σ vs := by
  apply List.ext_getElem?
  intro j
  rw [wipe_at, wipe_at]
  by_cases q : j ∈ vs
  · rw [if_pos q, if_pos q]
    by_cases lt : j < σ.length
    · rw [List.getElem?_eq_getElem lt, List.getElem?_eq_getElem (by omega)]
      rfl
    · rw [List.getElem?_eq_none (by omega), List.getElem?_eq_none (by omega)]
  · rw [if_neg q, if_neg q, h j q]
theorem wipe_wipe {vs : List Nat} {σ : L2.St} : wipe (wipe σ vs) vs = wipe σ vs := wipe_ext (fun j h => by rw [wipe_at, if_neg h]) (wipe_length _ _)
/-- only the slots sl may differ -/
def Agree (sl : List Nat) (σ σ' : L2.St) : Prop := σ'.length = σ.length ∧ ∀ j, j ∉ sl → σ'[j]? = σ[j]?
theorem Agree.trans {sl sl' : List Nat} {σ σ1 σ2 : L2.St} (a : Agree sl σ σ1) (b : Agree sl' σ1 σ2) : Agree (sl ++ sl') σ σ2 :=
  ⟨b.1.trans a.1, fun j h => (b.2 j fun z => h (List.mem_append_right _ z)).trans (a.2 j fun z => h (List.mem_append_left _ z))⟩
def RunG (X : Cx) (tg : Expr) : TG := fun v σ H Q => ∀ (pins : List (Addr × Obj)) (s : Shared) (u : Value), Inv X pins σ H s → RelV v u →
    wpAny (model X.prog X.w) X.A (assign tg X.env u) (fun _ s' => ∃ σ' H', Inv X pins σ' H' s' ∧ Q σ' H') X.xe s
theorem run_pg {X : Cx} {tg : Expr} : PG X tg (RunG X tg) := ⟨fun pins s _ _ _ u _ I r h => h pins s u I r⟩
theorem use_g {X : Cx} {tg : Expr} {g : TG} (h : PG X tg g) {v : V} {σ : L2.St} {H : Hp} {Q : L2.St → Hp → Prop} (q : g v σ H Q) : RunG X tg v σ H Q := fun pins s u I r => h.run pins s σ H v u Q I r q
structure XG (X : Cx) (tg : Expr) (r : Rep α) (sl : List Nat) (bind : α → List SA → List SA) : Prop where
  run : ∀ (v : V) (x : α) (F0 H0 : Hp) (Γ : List SA) (σ : L2.St) (F H : Hp) (Q : L2.St → Hp → Prop), Stt F0 H0 Γ σ F H → r.rep F v x → (∀ σ', Stt F0 H0 (bind x Γ) σ' F H → Agree sl σ σ' → Q σ' H) → RunG X tg v σ H Q
theorem xg_name {i : Nat} {x : Str} {r : Rep α} (hN : X.N.Nodup) (hi : X.N[i]? = some x) (hx : Loc X.env.scope x) (hf : X.fn x = true ∨ X.env.scope.names.lookup x = some .local := by first | exact .inl rfl | exact .inr rfl) : XG X (.Name x pos) r [i] (fun y Γ => Γ.set i (.im r y)) :=
  ⟨fun v y F0 H0 Γ σ F H Q S hr q => use_g (pg_name hN hi hx hf) (q _ (S.set ⟨v, rfl, hr⟩ (fun z => by cases z)) ⟨List.length_set .., fun j h => List.getElem?_set_ne fun z => h (List.mem_singleton.mpr z.symm)⟩)⟩
theorem xg_pair {a b : Expr} {k : Nat} {r : Rep α} {q : Rep β} {f : α → List SA → List SA} {g : β → List SA → List SA} (hK : X.K = K) (hc : X.calm = true) {s1 s2 : List Nat} (h1 : XG X a r s1 f) (h2 : XG X b q s2 g)
    (hs : (assignEach [a, b] X.env).map (·.2) = [assign a X.env, assign b X.env] := by rfl) (hs' : (assignEach [b] X.env).map (·.2) = [assign b X.env] := by rfl) (hn : (assignEach [a, b] X.env).length = 2 := by rfl) (hst : (assignEach [a, b] X.env).findIdx? (·.1) = none := by rfl) :
    XG X (.Tuple [a, b] k pos) (rP K r q) (s1 ++ s2) (fun y Γ => g y.2 (f y.1 Γ)) := by
  refine ⟨fun v y F0 H0 Γ σ F H Q S hr k => use_g (pg_tup hc (pgs_cons run_pg (pgs_cons run_pg pgs_nil (by rw [hs']; rfl)) (by rw [hs, hs'])) hn hst) ?_⟩
  obtain ⟨a, v1, v2, rfl, hq, r1, r2⟩ := hr
  refine ⟨a, [v1, v2], rfl, by rw [hK]; exact S.sub.seqT hq, rfl, v1, [v2], rfl, h1.run v1 y.1 F0 H0 Γ σ F H _ S r1 fun σ1 S1 a1 => ⟨v2, [], rfl, h2.run v2 y.2 F0 H0 _ σ1 F H _ S1 r2 fun σ2 S2 a2 => ⟨rfl, k σ2 S2 (a1.trans a2)⟩⟩⟩
theorem xg_triple {a b c : Expr} {k : Nat} {r : Rep α} {q : Rep β} {t : Rep γ} {f : α → List SA → List SA} {g : β → List SA → List SA} {h : γ → List SA → List SA} (hK : X.K = K) (hc : X.calm = true) {s1 s2 s3 : List Nat} (h1 : XG X a r s1 f) (h2 : XG X b q s2 g) (h3 : XG X c t s3 h)
    (hs : (assignEach [a, b, c] X.env).map (·.2) = [assign a X.env, assign b X.env, assign c X.env] := by rfl) (hs' : (assignEach [b, c] X.env).map (·.2) = [assign b X.env, assign c X.env] := by rfl) (hs'' : (assignEach [c] X.env).map (·.2) = [assign c X.env] := by rfl)
    (hn : (assignEach [a, b, c] X.env).length = 3 := by rfl) (hst : (assignEach [a, b, c] X.env).findIdx? (·.1) = none := by rfl) :
    XG X (.Tuple [a, b, c] k pos) (rP3 K r q t) (s1 ++ s2 ++ s3) (fun y Γ => h y.2.2 (g y.2.1 (f y.1 Γ))) := by
  refine ⟨fun v y F0 H0 Γ σ F H Q S hr k => use_g (pg_tup hc (pgs_cons run_pg (pgs_cons run_pg (pgs_cons run_pg pgs_nil (by rw [hs'']; rfl)) (by rw [hs', hs''])) (by rw [hs, hs'])) hn hst) ?_⟩
  obtain ⟨a, v1, v2, v3, rfl, hq, r1, r2, r3⟩ := hr
  refine ⟨a, [v1, v2, v3], rfl, by rw [hK]; exact S.sub.seqT hq, rfl, v1, _, rfl, h1.run v1 y.1 F0 H0 Γ σ F H _ S r1 fun σ1 S1 a1 => ⟨v2, _, rfl, h2.run v2 y.2.1 F0 H0 _ σ1 F H _ S1 r2 fun σ2 S2 a2 => ⟨v3, _, rfl, h3.run v3 y.2.2 F0 H0 _ σ2 F H _ S2 r3 fun σ3 S3 a3 => ⟨rfl, k σ3 S3 ((a1.trans a2).trans a3)⟩⟩⟩⟩
/-- the loop's own bookkeeping -/
theorem forW {r : Rep α} {J : It} {F1 H1 : Hp} {xs : List α} {Γl : S → List SA} {s0 : S} {f : α → S → (Stp S O → Prop) → Prop} {k : S → Prop} {P : O → Prop} {D : Ends} {sl : List Nat} {bind : α → List SA → List SA} {g : TG} (xl : XLk X F0 H0 ε) (hr : Runs r J F1 H1 xs) (S1 : Stt F0 H0 (Γl s0) σ F1 H1) (p : forL f xs s0 (Sum.elim k P))
    (hrt : ∀ o v F H, P o → ed.rt F v o → Ext F0 H0 F H → Go F1 H1 F H → D.rt v H) (hk : ∀ s σ' F' H', k s → Stt F0 H0 (Γl s) σ' F' H' → Go F1 H1 F' H' → D.nx σ' H')
    (hg : ∀ (v : V) (x : α) (F0 H0 : Hp) (Γ : List SA) (σ : L2.St) (F H : Hp) (Q : L2.St → Hp → Prop), Stt F0 H0 Γ σ F H → r.rep F v x → (∀ σ', Stt F0 H0 (bind x Γ) σ' F H → Agree sl σ σ' → Q σ' H) → g v σ H Q)
    (hb : ∀ x s, XB X ε (bind x (Γl s)) body (ed.loop Γl) (f x s)) :
    ∃ W : Nat → Nat → L2.St → Hp → Prop, (∃ m, W 0 m σ H1) ∧ ∀ i m σ H, W i m σ H →
      (J.stop i H ∧ D.nx σ H) ∨ (J.go i H ∧ ∃ N : L2.St → Hp → Prop, (∀ σ' H', N σ' H' → ∃ m', m' < m ∧ W (i + 1) m' σ' H') ∧ ∀ x H', J.yld i H x H' → g x σ H' fun σ2 H2 => RunB X body { D with nx := N, ct := N, bk := D.nx } σ2 H2) := by
  refine ⟨fun i m σ H => m = xs.length - i ∧ i ≤ xs.length ∧ ∃ s F, Stt F0 H0 (Γl s) σ F H ∧ Go F1 H1 F H ∧ forL f (xs.drop i) s (Sum.elim k P), ⟨xs.length, by omega, Nat.zero_le _, s0, F1, S1, Go.refl _ _, p⟩, ?_⟩
  rintro i m σ H ⟨rfl, hi, s, F, St, go, q⟩
  by_cases lt : i < xs.length
  · obtain ⟨hgo, hy⟩ := (hr F H go St.sub i).1 xs[i] (List.getElem?_eq_getElem lt)
    rw [List.drop_eq_getElem_cons lt] at q
    have q : f xs[i] s _ := q
    refine .inr ⟨hgo, fun σ' H' => ∃ s' F', Stt F0 H0 (Γl s') σ' F' H' ∧ Go F1 H1 F' H' ∧ forL f (xs.drop (i + 1)) s' (Sum.elim k P), fun σ' H' ⟨s', F', a1, a2, a3⟩ => ⟨xs.length - (i + 1), by omega, rfl, lt, s', F', a1, a2, a3⟩, fun v H3 y => ?_⟩
    obtain ⟨F3, e3, r3⟩ := hy v H3 y
    refine hg v xs[i] F0 H0 (Γl s) σ F3 H3 _ (St.up e3) r3 fun σ4 S4 _ => ?_
    have go3 : Go F1 H1 F3 H3 := go.trans (e3.go St.sub)
    refine hb xs[i] s F0 H0 xl σ4 F3 H3 _ _ S4 q ⟨fun o Γ' σ' F' H' po nx S' g' => ?_, fun o v F' H' po rt ex g' => ?_, fun o Γ' σ' F' H' po bk S' g' => ?_, fun o Γ' σ' F' H' po ct S' g' => ?_⟩
    · obtain ⟨s', le, rfl⟩ := nx
      exact ⟨s', F', S'.weak le, go3.trans g', po⟩
    · obtain ⟨o', h', rfl⟩ := rt
      exact hrt o' v F' H' po h' ex (go3.trans g')
    · obtain ⟨s', le, rfl⟩ := bk
      exact hk s' σ' F' H' po (S'.weak le) (go3.trans g')
    · obtain ⟨s', le, rfl⟩ := ct
      exact ⟨s', F', S'.weak le, go3.trans g', po⟩
  · have : xs.drop i = [] := List.drop_eq_nil_of_le (by omega)
    rw [this] at q
    exact .inl ⟨(hr F H go St.sub i).2 (by omega), hk s σ F H q St go⟩
theorem xb_for (Γl : S → List SA) (s0 : S) {tg iter : Expr} {r : Rep α} {m : (List α → Prop) → Prop} {f : α → S → (Stp S O → Prop) → Prop} {k : S → (O → Prop) → Prop} {sl : List Nat} {bind : α → List SA → List SA} (hp : PassesOwn (model X.prog X.w) X.A X.env X.xe) (hc : X.calm = true) (l : Le Γ (Γl s0)) (hi : XI X ε Γ tg iter r m) (hg : XG X tg r sl bind)
    (hb : ∀ x s, XB X ε (bind x (Γl s)) body (ed.loop Γl) (f x s)) (hr : ∀ s, XB X ε (Γl s) rest ed (k s)) (hs : ∀ x, foldedSetIterable iter X.env x = pure x := by intro _; rfl) :
    XB X ε Γ (.For tg iter body [] pos :: rest) ed (fun P => m fun xs => forL f xs s0 (Sum.elim (fun s => k s P) P)) := fun F0 H0 xl σ F H P D S p L => by
  obtain ⟨wi, pi, wh⟩ := hi
  refine seq_b (k := fun σ' H' => ∃ s F', Stt F0 H0 (Γl s) σ' F' H' ∧ Go F H F' H' ∧ k s P) (use_s (ps_for hp hc pi run_pg run_pss hs) ?_) fun σ' H' q => ?_
  · refine wh F0 H0 xl σ F H _ _ S p fun xs F1 H1 J p1 e1 _ rn => ?_
    exact forW xl rn ((S.up e1).weak l) p1 (fun o v F H p q e g => L.rt o v F H p q e ((e1.go S.sub).trans g)) (fun s σ' F' H' ks S' g' => ⟨s, F', S', (e1.go S.sub).trans g', ks⟩) hg.run hb
  · obtain ⟨s, F', S', g', ks⟩ := q
    exact hr s F0 H0 xl σ' F' H' P D S' ks (L.mono g')
/-- a loop that always comes to its end -/
def forN (f : α → S → (S → Prop) → Prop) : List α → S → (S → Prop) → Prop
  | [], s, P => P s
  | x :: xs, s, P => f x s fun s' => forN f xs s' P
theorem forL_N {f : α → S → (S → Prop) → Prop} {k : S → Prop} {P : O → Prop} : ∀ {xs : List α} {s : S}, forL (fun x s P => f x s fun s' => P (.nx s')) xs s (Sum.elim k P) = forN f xs s k
  | [], s => rfl
  | x :: xs, s => congrArg (f x s) (funext fun s' => forL_N (xs := xs) (s := s'))
/-- .. as a block -/
def Ed.step (Γl : S → List SA) : Ed S where
  nx := fun Γ o => ∃ s, Le Γ (Γl s) ∧ o = s
  rt := fun _ _ _ => False
  bk := fun _ _ => False
  ct := fun Γ o => ∃ s, Le Γ (Γl s) ∧ o = s
theorem XB.step {Γl : S → List SA} {m : (S → Prop) → Prop} (h : XB X ε Γ ss (Ed.step Γl) m) : XB X ε Γ ss (ed.loop Γl) (fun P => m fun s => P (.nx s)) := fun F0 H0 xl σ F H P D St p L =>
  h F0 H0 xl σ F H _ D St p ⟨fun o Γ' σ' F' H' po ⟨s, le, e⟩ S' g' => by
    subst e
    exact L.nx (.nx o) Γ' σ' F' H' po ⟨o, le, rfl⟩ S' g', fun _ _ _ _ _ z _ _ => z.elim, fun _ _ _ _ _ _ z => z.elim, fun o Γ' σ' F' H' po ⟨s, le, e⟩ S' g' => by
    subst e
    exact L.ct (.nx o) Γ' σ' F' H' po ⟨o, le, rfl⟩ S' g'⟩
theorem xb_forN (Γl : S → List SA) (s0 : S) {tg iter : Expr} {r : Rep α} {m : (List α → Prop) → Prop} {f : α → S → (S → Prop) → Prop} {k : S → (O → Prop) → Prop} {sl : List Nat} {bind : α → List SA → List SA} (hp : PassesOwn (model X.prog X.w) X.A X.env X.xe) (hc : X.calm = true) (l : Le Γ (Γl s0)) (hi : XI X ε Γ tg iter r m) (hg : XG X tg r sl bind)
    (hb : ∀ x s, XB X ε (bind x (Γl s)) body (Ed.step Γl) (f x s)) (hr : ∀ s, XB X ε (Γl s) rest ed (k s)) (hs : ∀ x, foldedSetIterable iter X.env x = pure x := by intro _; rfl) :
    XB X ε Γ (.For tg iter body [] pos :: rest) ed (fun P => m fun xs => forN f xs s0 (fun s => k s P)) :=
  (xb_for (k := k) Γl s0 hp hc l hi hg (fun x s => (hb x s).step) hr hs).cast fun P h => by
    have e : (fun xs => forL (fun x s P => f x s fun s' => P (.nx s')) xs s0 (Sum.elim (fun s => k s P) P)) = fun xs => forN f xs s0 fun s => k s P := funext fun xs => forL_N
    show m _
    rw [e]
    exact h
/-! ### while -/
def whileN (c : S → (Bool → Prop) → Prop) (f : S → (Stp S O → Prop) → Prop) : Nat → S → (S ⊕ O → Prop) → Prop
  | 0, _, _ => False
  | n + 1, s, P => c s fun b => if b = true then f s fun
      | .nx s' => whileN c f n s' P
      | .bk s' => P (.inl s')
      | .rt o => P (.inr o)
    else P (.inl s)
theorem xb_while (Γl : S → List SA) (s0 : S) {t : Expr} {c : S → (Bool → Prop) → Prop} {f : S → (Stp S O → Prop) → Prop} {k : S → (O → Prop) → Prop} (hp : PassesOwn (model X.prog X.w) X.A X.env X.xe) (l : Le Γ (Γl s0)) (hc : ∀ s, XT X ε (Γl s) t (c s)) (hb : ∀ s, XB X ε (Γl s) body (ed.loop Γl) (f s)) (hr : ∀ s, XB X ε (Γl s) rest ed (k s)) :
    XB X ε Γ (.While t body [] pos :: rest) ed (fun P => ∃ n, whileN c f n s0 (Sum.elim (fun s => k s P) P)) := fun F0 H0 xl σ F H P D St p L => by
  obtain ⟨n0, p⟩ := p
  refine seq_b (k := fun σ' H' => ∃ s F', Stt F0 H0 (Γl s) σ' F' H' ∧ Go F H F' H' ∧ k s P) (use_s (ps_while hp (run_pt X) run_pss) ?_) fun σ' H' q => ?_
  · refine ⟨fun m σ' H' => ∃ s F', Stt F0 H0 (Γl s) σ' F' H' ∧ Go F H F' H' ∧ whileN c f m s (Sum.elim (fun s => k s P) P), ⟨n0, s0, F, St.weak l, Go.refl _ _, p⟩, ?_⟩
    rintro m σ1 H1 ⟨s, F1, S1, g1, q⟩
    cases m with
    | zero => exact q.elim
    | succ m =>
      refine hc s F0 H0 xl σ1 F1 H1 _ _ S1 q fun b F2 H2 pb e2 => ?_
      have g2 := g1.trans (e2.go S1.sub)
      cases b with
      | false => exact ⟨s, F2, S1.up e2, g2, pb⟩
      | true =>
        refine ⟨fun σ' H' => ∃ s' F', Stt F0 H0 (Γl s') σ' F' H' ∧ Go F H F' H' ∧ whileN c f m s' (Sum.elim (fun s => k s P) P), fun σ' H' ⟨s', F', a1, a2, a3⟩ => ⟨m, Nat.lt_succ_self m, s', F', a1, a2, a3⟩, ?_⟩
        refine hb s F0 H0 xl σ1 F2 H2 _ _ (S1.up e2) pb ⟨fun o Γ' σ' F' H' po nx S' g' => ?_, fun o v F' H' po rt ex g' => ?_, fun o Γ' σ' F' H' po bk S' g' => ?_, fun o Γ' σ' F' H' po ct S' g' => ?_⟩
        · obtain ⟨s', le, rfl⟩ := nx
          exact ⟨s', F', S'.weak le, g2.trans g', po⟩
        · obtain ⟨o', h', rfl⟩ := rt
          exact L.rt o' v F' H' po h' ex (g2.trans g')
        · obtain ⟨s', le, rfl⟩ := bk
          exact ⟨s', F', S'.weak le, g2.trans g', po⟩
        · obtain ⟨s', le, rfl⟩ := ct
          exact ⟨s', F', S'.weak le, g2.trans g', po⟩
  · obtain ⟨s, F', S', g', ks⟩ := q
    exact hr s F0 H0 xl σ' F' H' P D S' ks (L.mono g')
end Bv

/-! Bv6: what is walked; comprehensions -/
namespace Bv
open PySem PySem.Spec PyProof.Rows L2 Gd
variable {X : Cx} {ε : Tk} {F0 H0 F H F' H' : Hp} {Γ Γ' Γw : List SA} {σ : L2.St} {e a b c tg iter : Expr} {es : List Expr} {pos p : Pos} {α β γ δ O S : Type} {K : PySem.W.Frag} {r : Rep α} {m : (List α → Prop) → Prop}
theorem Paired.at_ {α β : Type} {R : α → β → Prop} : ∀ {vs : List α} {xs : List β}, Paired R vs xs → ∀ {i : Nat} {x : β}, xs[i]? = some x → ∃ v, vs[i]? = some v ∧ R v x
  | _, _, .nil, i, x, h => by simp at h
  | _, _, .cons q t, 0, x, h => by
    cases h
    exact ⟨_, rfl, q⟩
  | _, _, .cons q t, i + 1, x, h => Paired.at_ t h
theorem Paired.len {α β : Type} {R : α → β → Prop} : ∀ {vs : List α} {xs : List β}, Paired R vs xs → vs.length = xs.length
  | _, _, .nil => rfl
  | _, _, .cons q t => congrArg (· + 1) (Paired.len t)
theorem seq_inj {K : PySem.W.Frag} {H : Hp} {a : Addr} {xs : List V} (h : SqL K H a xs) {vs : List V} : True := trivial
theorem runs_list {J : It} {F1 H1 : Hp} {a : Addr} {vs : List V} {xs : List α} (h : SqL K F1 a vs) (p : Paired (r.rep F1) vs xs) : Runs r (Itl K a) F1 H1 xs := fun F2 H2 g s i => by
  have h2 : SqL K H2 a vs := s.seq (h.elim (fun q => .inl (q.elim (fun h => .inl (g.ff _ _ h)) fun ⟨o, h⟩ => .inr ⟨o, g.ff _ _ h⟩)) .inr)
  refine ⟨fun x hx => ?_, fun le => ⟨vs, h2, by rw [Paired.len p]; exact le⟩⟩
  obtain ⟨v, hv, hr⟩ := Paired.at_ p hx
  refine ⟨⟨vs, v, h2, hv⟩, fun w H3 ⟨e, q⟩ => ?_⟩
  subst e
  have := q vs h2
  rw [hv] at this
  cases this
  exact ⟨F2, Ext.refl s, r.up g.ff hr⟩
theorem runs_tup {J : It} {F1 H1 : Hp} {a : Addr} {vs : List V} {xs : List α} (h : SqT K F1 a vs) (p : Paired (r.rep F1) vs xs) : Runs r (Itt K a) F1 H1 xs := fun F2 H2 g s i => by
  have h2 : SqT K H2 a vs := s.seqT (h.elim (fun q => .inl (q.elim (fun h => .inl (g.ff _ _ h)) fun ⟨o, h⟩ => .inr ⟨o, g.ff _ _ h⟩)) .inr)
  refine ⟨fun x hx => ?_, fun le => ⟨vs, h2, by rw [Paired.len p]; exact le⟩⟩
  obtain ⟨v, hv, hr⟩ := Paired.at_ p hx
  refine ⟨⟨vs, v, h2, hv⟩, fun w H3 ⟨e, q⟩ => ?_⟩
  subst e
  have := q vs h2
  rw [hv] at this
  cases this
  exact ⟨F2, Ext.refl s, r.up g.ff hr⟩
theorem inv_e {Q : VK} (h : RunE X e σ H fun v H' => (∃ pins s, Inv X pins σ H' s) → Q v H') : RunE X e σ H Q := by unfold RunE; exact fun pins s I => thn (h.run X pins s I) fun u s' ⟨v, H', I', r, q⟩ => ⟨v, H', I', r, q ⟨pins, s', I'⟩⟩
theorem inv_a {Q : List V → Hp → Prop} (h : RunA X es σ H fun v H' => (∃ pins s, Inv X pins σ H' s) → Q v H') : RunA X es σ H Q := by unfold RunA; exact fun pos pins s I => thn (h.run X pos pins s I) fun u s' ⟨v, H', I', r, q⟩ => ⟨v, H', I', r, q ⟨pins, s', I'⟩⟩
theorem xi_list (hK : X.K = K) (h : XE X ε Γ e (rL K r) m) : XI X ε Γ tg e r m := ⟨_, pi_list (run_pe X), fun F0 H0 xl σ F H P R S p q => by
  refine inv_e (xe_use h xl S p fun xs v F1 H1 p1 e1 ⟨a, vs, ev, hs, pr⟩ ⟨pins, s, I⟩ => ⟨a, ev, ⟨vs, e1.fh.lst hs⟩, ?_⟩)
  have le := (I.list (e1.fh.lst hs)).choose_spec.2.2
  rw [hK]
  exact q xs F1 H1 _ p1 e1 (Paired.len pr ▸ le) (runs_list (J := Itl K a) (.inl hs) pr)⟩
theorem xi_tup (hK : X.K = K) (h : XE X ε Γ e (rT K r) m) : XI X ε Γ tg e r m := ⟨_, pi_tup (run_pe X), fun F0 H0 xl σ F H P R S p q => by
  refine inv_e (xe_use h xl S p fun xs v F1 H1 p1 e1 ⟨a, vs, ev, hs, pr⟩ ⟨pins, s, I⟩ => ⟨a, ev, ⟨vs, by rw [hK]; exact e1.fh.seqT hs⟩, ?_⟩)
  have le := (I.tuple (hK ▸ e1.fh.seqT hs)).choose_spec.2.2
  rw [hK]
  exact q xs F1 H1 _ p1 e1 (Paired.len pr ▸ le) (runs_tup (J := Itt K a) hs pr)⟩
/-- lo, lo + 1, .. -/
def rangeZ (lo hi : Int) : List Int := (List.range (hi - lo).toNat).map fun i => lo + (i : Nat)
theorem range_at {n i : Nat} {lo x : Int} (h : ((List.range n).map fun i => lo + (i : Nat))[i]? = some x) : i < n ∧ x = lo + (i : Nat) := by
  rw [List.getElem?_map] at h
  by_cases lt : i < n
  · rw [List.getElem?_range lt] at h
    cases h
    exact ⟨lt, rfl⟩
  · rw [List.getElem?_eq_none (by rw [List.length_range]; omega)] at h
    cases h
theorem runs_range {F1 H1 : Hp} {lo : Int} {n : Nat} : Runs rI (Itr lo n) F1 H1 ((List.range n).map fun i => lo + (i : Nat)) := fun F2 H2 g s i =>
  ⟨fun x hx => by
    obtain ⟨lt, rfl⟩ := range_at hx
    exact ⟨lt, fun v H3 ⟨e, ev⟩ => by
      subst e
      exact ⟨F2, Ext.refl s, ev⟩⟩, fun le => by rw [List.length_map, List.length_range] at le; exact le⟩
def small62 (i : Int) : Prop := -(2 ^ 62) ≤ i ∧ i < 2 ^ 62
/-- a range that can be walked -/
def rangeOk (i j : Int) : Prop := (small62 i ∧ small62 j) ∧ j - i ≤ 16777216
theorem rangeOk.le {i j : Int} (h : rangeOk i j) : (rangeZ i j).length ≤ sizeLine := by
  unfold rangeZ
  rw [List.length_map, List.length_range, sizeLine_eq]
  have := h.2
  omega
theorem xi_range1 {mm : (Int → Prop) → Prop} (hg : Gl X "range") (hm : X.mg "range" = none) (h : XE X ε Γ a rI mm) (hs : starEach [a] X.env = [(false, eval a X.env)] := by rfl) (hs' : starEach [a] X.env = (false, eval a X.env) :: starEach [] X.env := by rfl) :
    XI X ε Γ tg (.Call (.Name "range" p) [a] [] pos) rI (fun P => mm fun j => rangeOk 0 j ∧ P (rangeZ 0 j)) :=
  ⟨_, pi_range1 hg hm (run_pa X) hs, fun F0 H0 xl σ F H P R S pp q => xa_cons h xa_nil hs' F0 H0 xl σ F H (fun x => rangeOk 0 x.1 ∧ P (rangeZ 0 x.1)) _ S pp fun x vs F1 H1 p1 e1 r1 => by
    obtain ⟨v, ws, rfl, rfl, rfl⟩ := r1
    refine ⟨x.1, rfl, p1.1.1.2.1, p1.1.1.2.2, q _ F1 H1 _ p1.2 e1 p1.1.le ?_⟩
    unfold rangeZ
    rw [Int.sub_zero]
    exact runs_range⟩
theorem xi_range2 {mm nn : (Int → Prop) → Prop} (hg : Gl X "range") (hm : X.mg "range" = none) (h : XE X ε Γ a rI mm) (h2 : XE X ε Γ b rI nn) (hs : starEach [a, b] X.env = [(false, eval a X.env), (false, eval b X.env)] := by rfl) (hs2 : starEach [b] X.env = [(false, eval b X.env)] := by rfl)
    (hs' : starEach [a, b] X.env = (false, eval a X.env) :: starEach [b] X.env := by rfl) (hs'' : starEach [b] X.env = (false, eval b X.env) :: starEach [] X.env := by rfl) :
    XI X ε Γ tg (.Call (.Name "range" p) [a, b] [] pos) rI (fun P => mm fun i => nn fun j => rangeOk i j ∧ P (rangeZ i j)) :=
  ⟨_, pi_range2 hg hm (run_pa X) hs hs2, fun F0 H0 xl σ F H P R S pp q => xa_cons h (xa_cons h2 xa_nil hs'') hs' F0 H0 xl σ F H (fun x => rangeOk x.1 x.2.1 ∧ P (rangeZ x.1 x.2.1)) _ S pp fun x vs F1 H1 p1 e1 r1 => by
    obtain ⟨v, ws, rfl, rfl, w, us, rfl, rfl, rfl⟩ := r1
    exact ⟨x.1, x.2.1, rfl, ⟨p1.1.1.1.1, p1.1.1.1.2, p1.1.1.2.1, p1.1.1.2.2⟩, q _ F1 H1 _ p1.2 e1 p1.1.le runs_range⟩⟩
/-- i, i - 1, .. down to j + 1 -/
def downZ (i j : Int) : List Int := (List.range (i - j).toNat).map fun k => i - (k : Nat)
theorem xi_down {mm nn : (Int → Prop) → Prop} (hg : Gl X "range") (hm : X.mg "range" = none) (h : XE X ε Γ a rI mm) (h2 : XE X ε Γ b rI nn) (h3 : XE X ε Γ c rI (fun P => P (-1)))
    (hs : starEach [a, b, c] X.env = (false, eval a X.env) :: starEach [b, c] X.env := by rfl) (hpl : (backTo pos (starEach [b, c] X.env)).any (·.1) = false := by rfl)
    (hs' : starEach [b, c] X.env = (false, eval b X.env) :: starEach [c] X.env := by rfl) (hs'' : starEach [c] X.env = (false, eval c X.env) :: starEach [] X.env := by rfl) :
    XI X ε Γ tg (.Call (.Name "range" p) [a, b, c] [] pos) rI (fun P => mm fun i => nn fun j => rangeOk j i ∧ P (downZ i j)) :=
  ⟨_, pi_range3 hg hm (run_pa X) hs hpl, fun F0 H0 xl σ F H P R S pp q => xa_cons h (xa_cons h2 (xa_cons h3 xa_nil hs'') hs') hs F0 H0 xl σ F H (fun x => rangeOk x.2.1 x.1 ∧ P (downZ x.1 x.2.1) ∧ x.2.2.1 = -1) _ S (by
      have e : (fun x => nn fun y => (fun P => P (-1)) fun z => (fun x : Int × Int × Int × Unit => rangeOk x.2.1 x.1 ∧ P (downZ x.1 x.2.1) ∧ x.2.2.1 = -1) (x, y, z, ())) = fun i => nn fun j => rangeOk j i ∧ P (downZ i j) := by
        funext i
        congr 1
        funext j
        exact propext ⟨fun h => ⟨h.1, h.2.1⟩, fun h => ⟨h.1, h.2, rfl⟩⟩
      have pp : mm fun i => nn fun j => rangeOk j i ∧ P (downZ i j) := pp
      rw [← e] at pp
      exact pp) fun x vs F1 H1 p1 e1 r1 => by
    obtain ⟨v, ws, rfl, rfl, w, us, rfl, rfl, u, ts, rfl, rfl, rfl⟩ := r1
    obtain ⟨⟨⟨⟨b1, b2⟩, a1, a2⟩, le⟩, p1, e3⟩ := p1
    rw [e3]
    refine ⟨x.1, x.2.1, -1, _, rfl, RgC.neg a1 a2 b1 b2, q _ F1 H1 _ p1 e1 (by unfold downZ; rw [List.length_map, List.length_range, sizeLine_eq]; omega) fun F2 H2 g s i => ⟨fun y hy => ?_, fun le => by
      unfold downZ at le
      rw [List.length_map, List.length_range] at le
      exact le⟩⟩
    unfold downZ at hy
    have hy : ((List.range (x.1 - x.2.1).toNat).map fun k => x.1 - (k : Nat))[i]? = some y := hy
    rw [List.getElem?_map] at hy
    by_cases lt : i < (x.1 - x.2.1).toNat
    · rw [List.getElem?_range lt] at hy
      cases hy
      refine ⟨lt, fun v H3 ⟨e, ev⟩ => ?_⟩
      subst e
      refine ⟨F2, Ext.refl s, ?_⟩
      show v = _
      rw [ev, show x.1 + (i : Int) * -1 = x.1 - (i : Nat) by omega]
    · rw [List.getElem?_eq_none (by rw [List.length_range]; omega)] at hy
      cases hy⟩
/-- the signs of a text -/
def signs (z : Str) : List Str := z.cps.toList.map sg
theorem strOk_sg {z : Str} (h : PyData.strOk z = true) {c : Nat} (hc : c ∈ z.cps.toList) : okS (sg c) := by
  have : ∀ d ∈ z.cps.toList, d < 0x110000 := by
    intro d hd
    have := Array.all_eq_true_iff_forall_mem.mp h d (Array.mem_toList_iff.mp hd)
    exact of_decide_eq_true this
  refine ⟨by show 1 ≤ sizeLine; decide, ?_⟩
  show (#[c] : Array Nat).all (· < 0x110000) = true
  have h1 := this c hc
  simp [h1]
theorem xi_str {mm : (Str → Prop) → Prop} (h : XE X ε Γ e rS mm) : XI X ε Γ tg e rS (fun P => mm fun z => P (signs z)) := ⟨_, pi_str (run_pe X), fun F0 H0 xl σ F H P R S p q => by
  refine xe_use h xl S p fun z v F1 H1 p1 e1 ⟨ev, ok⟩ => ⟨z, ev, q _ F1 H1 _ p1 e1 (by unfold signs; rw [List.length_map]; exact ok.1) fun F2 H2 g s i => ⟨fun x hx => ?_, fun le => ?_⟩⟩
  · unfold signs at hx
    rw [List.getElem?_map, Array.getElem?_toList] at hx
    cases hc : z.cps[i]? with
    | none => rw [hc] at hx; cases hx
    | some c =>
      rw [hc] at hx
      cases hx
      have lt : i < z.cps.size := by
        rcases Nat.lt_or_ge i z.cps.size with k | k
        · exact k
        · rw [Array.getElem?_eq_none k] at hc; cases hc
      refine ⟨lt, fun v H3 ⟨e, c', hc', ev⟩ => ?_⟩
      subst e
      rw [hc] at hc'
      cases hc'
      exact ⟨F2, Ext.refl s, ev, strOk_sg ok.2 (Array.mem_toList_iff.mpr (Array.mem_of_getElem? hc))⟩
  · unfold signs at le
    rw [List.length_map, Array.length_toList] at le
    exact le⟩
/-- for i, x in enumerate(xs) -/
def enumZ (xs : List α) : List (Int × α) := xs.zipIdx.map fun q => ((q.2 : Int), q.1)
theorem enumZ_at {xs : List α} {i : Nat} {x : Int × α} (h : (enumZ xs)[i]? = some x) : x.1 = i ∧ xs[i]? = some x.2 := by
  unfold enumZ at h
  rw [List.getElem?_map, List.getElem?_zipIdx] at h
  cases hx : xs[i]? with
  | none => rw [hx] at h; cases h
  | some y =>
    rw [hx] at h
    cases h
    exact ⟨by show ((0 + i : Nat) : Int) = i; rw [Nat.zero_add], rfl⟩
theorem enumZ_len {xs : List α} : (enumZ xs).length = xs.length := by
  unfold enumZ
  rw [List.length_map, List.length_zipIdx]
theorem xi_enum {tpos : Pos} {elts : List Expr} {kk : Nat} (hK : X.K = K) (hg : Gl X "enumerate") (hm : X.mg "enumerate" = none) (h : XE X ε Γ e (rL K r) m) (hs : starEach [e] X.env = [(false, eval e X.env)] := by rfl) (hs' : starEach [e] X.env = (false, eval e X.env) :: starEach [] X.env := by rfl) :
    XI X ε Γ (.Tuple elts kk tpos) (.Call (.Name "enumerate" p) [e] [] pos) (rP K rI r) (fun P => m fun xs => P (enumZ xs)) :=
  ⟨_, pi_enum hg hm (run_pa X) hs, fun F0 H0 xl σ F H P R S pp q => inv_a (xa_cons h xa_nil hs' F0 H0 xl σ F H (fun x => P (enumZ x.1)) _ S pp fun x vs F1 H1 p1 e1 r1 ⟨pins, s, I⟩ => by
    obtain ⟨v, ws, rfl, ⟨a, us, rfl, hq, pr⟩, rfl⟩ := r1
    refine ⟨a, us, rfl, e1.fh.lst hq, ?_⟩
    have le := (I.list (e1.fh.lst hq)).choose_spec.2.2
    rw [hK]
    refine q _ F1 H1 _ p1 e1 (by rw [enumZ_len, ← Paired.len pr]; exact le) fun F2 H2 g s i => ?_
    have h2 : SqL K H2 a us := s.lst (hq.elim (fun h => .inl (g.ff _ _ h)) fun ⟨o, h⟩ => .inr ⟨o, g.ff _ _ h⟩)
    refine ⟨fun y hy => ?_, fun le => ⟨us, h2, by rw [Paired.len pr]; rw [enumZ_len] at le; exact le⟩⟩
    obtain ⟨ei, hx⟩ := enumZ_at hy
    obtain ⟨v, hv, hr⟩ := Paired.at_ pr hx
    refine ⟨⟨us, v, h2, hv⟩, fun w H3 ⟨T, x', ew, nT, eH, qx⟩ => ?_⟩
    subst ew
    subst eH
    have := qx us h2
    rw [hv] at this
    cases this
    refine ⟨upd F2 T (.tup [.int (i : Nat), v]), Ext.new_ s nT, T, _, _, rfl, .inl (.inl upd_same), ei ▸ rfl, r.up (g.ff.trans (same_new (s.there nT))) hr⟩)⟩
theorem xi_zip {q : Rep β} {mb : (List β → Prop) → Prop} {tpos : Pos} {elts : List Expr} {kk : Nat} (hK : X.K = K) (hg : Gl X "zip") (hm : X.mg "zip" = none) (h : XE X ε Γ a (rL K r) m) (h2 : XE X ε Γ b (rL K q) mb)
    (hs : starEach [a, b] X.env = (false, eval a X.env) :: starEach [b] X.env := by rfl) (hpl : (backTo pos (starEach [b] X.env)).any (·.1) = false := by rfl) (hs'' : starEach [b] X.env = (false, eval b X.env) :: starEach [] X.env := by rfl) :
    XI X ε Γ (.Tuple elts kk tpos) (.Call (.Name "zip" p) [a, b] [] pos) (rP K r q) (fun P => m fun xs => mb fun ys => P (xs.zip ys)) :=
  ⟨_, pi_zip hg hm (run_pa X) hs hpl, fun F0 H0 xl σ F H P R S pp k => inv_a (xa_cons h (xa_cons h2 xa_nil hs'') hs F0 H0 xl σ F H (fun x => P (x.1.zip x.2.1)) _ S pp fun x vs F1 H1 p1 e1 r1 ⟨pins, s, I⟩ => by
    obtain ⟨v, ws, rfl, ⟨a1, us, rfl, hq, pr⟩, w, ts, rfl, ⟨a2, zs, rfl, hq2, pr2⟩, rfl⟩ := r1
    refine ⟨a1, a2, us, zs, rfl, e1.fh.lst hq, e1.fh.lst hq2, ?_⟩
    have le := (I.list (e1.fh.lst hq)).choose_spec.2.2
    rw [hK]
    refine k _ F1 H1 _ p1 e1 (by rw [List.length_zip, ← Paired.len pr]; omega) fun F2 H2 g s i => ?_
    have h2 : SqL K H2 a1 us := s.lst (hq.elim (fun h => .inl (g.ff _ _ h)) fun ⟨o, h⟩ => .inr ⟨o, g.ff _ _ h⟩)
    have h3 : SqL K H2 a2 zs := s.lst (hq2.elim (fun h => .inl (g.ff _ _ h)) fun ⟨o, h⟩ => .inr ⟨o, g.ff _ _ h⟩)
    refine ⟨fun y hy => ?_, fun le => ⟨us, zs, h2, h3, ?_⟩⟩
    · rw [List.getElem?_zip_eq_some] at hy
      obtain ⟨v, hv, hr⟩ := Paired.at_ pr hy.1
      obtain ⟨w, hw, hr2⟩ := Paired.at_ pr2 hy.2
      refine ⟨⟨us, zs, v, w, h2, h3, hv, hw⟩, fun u H3 ⟨T, x', y', ew, nT, eH, qx, qy⟩ => ?_⟩
      subst ew
      subst eH
      have z1 := qx us h2
      have z2 := qy zs h3
      rw [hv] at z1
      rw [hw] at z2
      cases z1
      cases z2
      exact ⟨upd F2 T (.tup [v, w]), Ext.new_ s nT, T, _, _, rfl, .inl (.inl upd_same), r.up (g.ff.trans (same_new (s.there nT))) hr, q.up (g.ff.trans (same_new (s.there nT))) hr2⟩
    · rw [List.length_zip] at le
      rw [Paired.len pr, Paired.len pr2]
      omega)⟩

/-! ### comprehensions -/
theorem Stt.wipe (S : Stt F0 H0 Γ σ F H) {vs : List Nat} (h : ∀ v ∈ vs, ∀ A, Γ[v]? = some A → A = .no) : Stt F0 H0 Γ (wipe σ vs) F H where
  ext := S.ext
  len := (wipe_length σ vs).trans S.len
  at_ := fun i A q => by
    obtain ⟨s, h1, h2⟩ := S.at_ i A q
    rw [wipe_at]
    by_cases z : i ∈ vs
    · rw [if_pos z, h1, h i z A q]
      exact ⟨none, rfl, True.intro⟩
    · rw [if_neg z]
      exact ⟨s, h1, h2⟩
  own := fun i A a q o e => by
    rw [wipe_at] at e
    by_cases z : i ∈ vs
    · rw [h i z A q] at o
      cases o
    · rw [if_neg z] at e
      exact S.own i A a q o e
  inj := fun i j A B a q1 q2 o1 o2 e1 e2 => by
    rw [wipe_at] at e1 e2
    by_cases z : i ∈ vs
    · rw [h i z A q1] at o1
      cases o1
    · by_cases y : j ∈ vs
      · rw [h j y B q2] at o2
        cases o2
      · rw [if_neg z] at e1
        rw [if_neg y] at e2
        exact S.inj i j A B a q1 q2 o1 o2 e1 e2
/-- a thing apart from all is changed -/
theorem Stt.side (S : Stt F0 H0 Γ σ F H) {D : Addr} {o : HO} (h0 : H0 D = none) (hf : F D = none) (ap : ∀ (j : Nat) (B : SA), Γ[j]? = some B → B.own = true → σ[j]? ≠ some (some (.ref D))) : Stt F0 H0 Γ σ F (upd H D o) where
  ext := ⟨S.ext.ff, fun b u e n => by
    have : b ≠ D := fun z => by subst z; rw [h0] at e; cases e
    rw [upd_ne this]
    exact S.ext.hh b u e n, fun b e => by
    by_cases z : b = D
    · subst z; exact h0
    · rw [upd_ne z] at e; exact S.ext.no b e, fun b u e => by
    have : b ≠ D := fun z => by subst z; rw [hf] at e; cases e
    rw [upd_ne this]
    exact S.ext.fh b u e, S.ext.new⟩
  len := S.len
  at_ := fun i A q => by
    obtain ⟨s, h1, h2⟩ := S.at_ i A q
    refine ⟨s, h1, ?_⟩
    exact holds_keep (Same.refl _) (fun a' u o e h _ => by
      have : a' ≠ D := fun z => by subst z; exact ap i _ q o (by rw [h1, e])
      rw [upd_ne this]
      exact h) h2
  own := S.own
  inj := S.inj
theorem Ext.side {F1 H1 : Hp} (e : Ext F H F1 H1) {D : Addr} {o : HO} (h0 : H D = none) (hf : F1 D = none) : Ext F H F1 (upd H1 D o) where
  ff := e.ff
  hh := fun b u q n => by
    have : b ≠ D := fun z => by subst z; rw [h0] at q; cases q
    rw [upd_ne this]
    exact e.hh b u q n
  no := fun b q => by
    by_cases z : b = D
    · subst z; exact h0
    · rw [upd_ne z] at q; exact e.no b q
  fh := fun b u q => by
    have : b ≠ D := fun z => by subst z; rw [hf] at q; cases q
    rw [upd_ne this]
    exact e.fh b u q
  new := e.new
def lcM (t : α → (Bool → Prop) → Prop) (f : α → (β → Prop) → Prop) : List α → (List β → Prop) → Prop
  | [], P => P []
  | x :: xs, P => t x fun b => if b = true then f x fun y => lcM t f xs fun ys => P (y :: ys) else lcM t f xs P
theorem lcM_P {t : α → Bool} {f : α → β} : ∀ {xs : List α} {P : List β → Prop}, lcM (fun x P => P (t x)) (fun x P => P (f x)) xs P = P ((xs.filter t).map f)
  | [], P => rfl
  | x :: xs, P => by
    show (if t x = true then lcM _ _ xs (fun ys => P (f x :: ys)) else lcM _ _ xs P) = _
    cases h : t x with
    | true => rw [if_pos rfl, lcM_P, List.filter_cons_of_pos h]; rfl
    | false => rw [if_neg (by decide), lcM_P, List.filter_cons_of_neg (by rw [h]; decide)]
/-- where nothing is asked of the items -/
def mapW (f : α → (β → Prop) → Prop) : List α → (List β → Prop) → Prop
  | [], P => P []
  | x :: xs, P => f x fun y => mapW f xs fun ys => P (y :: ys)
theorem lcM_all {f : α → (β → Prop) → Prop} : ∀ {xs : List α} {P : List β → Prop}, lcM (fun _ P => P true) f xs P = mapW f xs P
  | [], P => rfl
  | x :: xs, P => by
    show (if true = true then f x (fun y => lcM (fun _ P => P true) f xs fun ys => P (y :: ys)) else lcM (fun _ P => P true) f xs P) = f x fun y => mapW f xs fun ys => P (y :: ys)
    rw [if_pos rfl]
    congr 1
    funext y
    exact lcM_all
theorem mapW_P {f : α → β} : ∀ {xs : List α} {P : List β → Prop}, mapW (fun x P => P (f x)) xs P = P (xs.map f)
  | [], P => rfl
  | x :: xs, P => by
    show mapW _ xs (fun ys => P (f x :: ys)) = _
    rw [mapW_P]
    rfl
def Tk0 : Tk := fun _ _ _ => False
theorem xlk0 {X : Cx} {F0 H0 : Hp} : XLk X F0 H0 Tk0 := fun _ _ ⟨_, _, _, _, _, _, _, _, _, _, _, _, _, _, _, _, w⟩ => by
  obtain ⟨_, z, _⟩ := w
  exact z.elim
abbrev blkX (X : Cx) (scope : Scope) (s : Shared) (H : Hp) (C : Addr) (cl : List (Str × Addr)) (fp : List Addr) : Cx := X.blk s H scope (compEnvC scope cl C X.env) fp
def RunTs (X : Cx) (ifs : List Expr) : TT := fun σ H Q => ∀ (pins : List (Addr × Obj)) (s : Shared), Inv X pins σ H s →
    wpAny (model X.prog X.w) X.A (forIn ifs true fun c r => if r = true then do let ok ← isTrue c X.env (eval c X.env); pure (ForInStep.yield ok) else pure (ForInStep.yield r)) (TP X pins σ Q) X.xe s
theorem run_pts {ifs : List Expr} : PTs X ifs (RunTs X ifs) := ⟨fun pins s _ _ _ I h => h pins s I⟩
/-- the tests of a comprehension -/
def XTs (X : Cx) (Γ : List SA) (ifs : List Expr) (m : (Bool → Prop) → Prop) : Prop :=
  ∀ (F0 H0 : Hp) (σ : L2.St) (F H : Hp) (P : Bool → Prop) (Q : Bool → Hp → Prop), Stt F0 H0 Γ σ F H → m P → (∀ x F' H', P x → Ext F H F' H' → Q x H') → RunTs X ifs σ H Q
theorem xts_nil : XTs X Γ [] (fun P => P true) := fun F0 H0 σ F H P Q S p q => fun pins s I => pts_nil.run pins s σ H Q I (q true F H p (Ext.refl S.sub))
theorem xts_one {mm : (Bool → Prop) → Prop} (h : XT X Tk0 Γ c mm) : XTs X Γ [c] mm := fun F0 H0 σ F H P Q S p q => fun pins s I => (pts_one (run_pt X)).run pins s σ H Q I (h F0 H0 xlk0 σ F H P Q S p q)
theorem pr_app {α β : Type} {R : α → β → Prop} : ∀ {vs : List α} {xs : List β} {v : α} {x : β}, Paired R vs xs → R v x → Paired R (vs ++ [v]) (xs ++ [x])
  | _, _, _, _, .nil, h => .cons h .nil
  | _, _, _, _, .cons q t, h => .cons q (pr_app t h)
/-- a comprehension's own bookkeeping -/
theorem lcW {Y : Cx → Prop} {elt : Expr} {ifs : List Expr} {vs : List Nat} {rb : Rep β} {sl : List Nat} {bind : α → List SA → List SA} {t : α → (Bool → Prop) → Prop} {f : α → (β → Prop) → Prop} {J : It} {F1 H1 : Hp} {xs : List α} {P : List β → Prop} {Qf : VK} {g : TG} {tt : TT} {te : TE}
    (S1 : Stt F0 H0 Γw (wipe σ vs) F1 H1) (lx : xs.length ≤ sizeLine) (rn : Runs r J F1 H1 xs) (p1 : lcM t f xs P) (hsl : ∀ i ∈ sl, i ∈ vs)
    (hg : ∀ (v : V) (x : α) (F0 H0 : Hp) (Γ : List SA) (σ : L2.St) (F H : Hp) (Q : L2.St → Hp → Prop), Stt F0 H0 Γ σ F H → r.rep F v x → (∀ σ', Stt F0 H0 (bind x Γ) σ' F H → Agree sl σ σ' → Q σ' H) → g v σ H Q)
    (ht : ∀ (x : α) (F0 H0 : Hp) (σ : L2.St) (F H : Hp) (P : Bool → Prop) (Q : Bool → Hp → Prop), Stt F0 H0 (bind x Γw) σ F H → t x P → (∀ x F' H', P x → Ext F H F' H' → Q x H') → tt σ H Q)
    (he : ∀ (x : α) (F0 H0 : Hp) (σ : L2.St) (F H : Hp) (P : β → Prop) (Q : VK), Stt F0 H0 (bind x Γw) σ F H → f x P → (∀ y v F' H', P y → Ext F H F' H' → rb.rep F' v y → Q v H') → te σ H Q)
    {D : Addr} (hD : H1 D = none) (fin : ∀ ys zs F' H', P ys → Ext F1 H1 F' H' → Go F1 H1 F' H' → F' D = none → H' D = some (.lst zs) → Paired (rb.rep F') zs ys → Qf (.ref D) H') :
    ∃ W : Nat → Nat → Hp → Prop, (∃ m, W 0 m (upd H1 D (.lst []))) ∧ ∀ i m H, W i m H →
      (J.stop i H ∧ Qf (.ref D) H) ∨ (J.go i H ∧ ∃ Nx : Hp → Prop, (∀ H', Nx H' → ∃ m', m' < m ∧ W (i + 1) m' H') ∧ ∀ x H', J.yld i H x H' → g x (wipe σ vs) H' fun σ2 H2 => wipe σ2 vs = wipe σ vs ∧ tt σ2 H2 fun b H3 =>
        if b = true then te σ2 H3 fun y H4 => ∃ acc, H4 D = some (.lst acc) ∧ acc.length < sizeLine ∧ Nx (upd H4 D (.lst (acc ++ [y]))) else Nx H3) := by
  have ap : ∀ (j : Nat) (B : SA), Γw[j]? = some B → B.own = true → (wipe σ vs)[j]? ≠ some (some (.ref D)) := fun j B hb o z => by
    obtain ⟨s, h1, h2⟩ := S1.at_ j B hb
    obtain ⟨b, u, e2, e3, _⟩ := SA.held o h2
    rw [z] at h1
    cases h1
    cases e2
    rw [hD] at e3
    cases e3
  have h0D : H0 D = none := S1.ext.no _ hD
  have f1D : F1 D = none := S1.sub.there hD
  refine ⟨fun i m H' => m = xs.length - i ∧ i ≤ xs.length ∧ ∃ F' ys zs, Stt F0 H0 Γw (wipe σ vs) F' H' ∧ Ext F1 H1 F' H' ∧ F' D = none ∧ H' D = some (.lst zs) ∧ zs.length ≤ i ∧ Paired (rb.rep F') zs ys ∧ lcM t f (xs.drop i) (fun rest => P (ys ++ rest)), ⟨xs.length, by omega, Nat.zero_le _, F1, [], [], S1.side h0D f1D ap, (Ext.refl S1.sub).side hD f1D, f1D, upd_same, Nat.le_refl _, .nil, p1⟩, ?_⟩
  rintro i m' H' ⟨rfl, hi, F', ys, zs, S', e', fD, hD', lz, pr, q'⟩
  have go' : Go F1 H1 F' H' := e'.go S1.sub
  have stay : ∀ {F3 H3 : Hp}, Ext F' H' F3 H3 → F3 D = none ∧ H3 D = some (.lst zs) := fun {F3 H3} e3 => by
    refine ⟨?_, e3.hh _ _ hD' (fun _ z => by cases z)⟩
    cases z : F3 D with
    | none => rfl
    | some u =>
      have := e3.new D u z fD
      rw [this] at hD'
      cases hD'
  by_cases lt : i < xs.length
  · obtain ⟨hgo, hy⟩ := (rn F' H' go' S'.sub i).1 xs[i] (List.getElem?_eq_getElem lt)
    rw [List.drop_eq_getElem_cons lt] at q'
    have q' : t xs[i] _ := q'
    refine .inr ⟨hgo, fun H'' => ∃ F'' ys' zs', Stt F0 H0 Γw (wipe σ vs) F'' H'' ∧ Ext F1 H1 F'' H'' ∧ F'' D = none ∧ H'' D = some (.lst zs') ∧ zs'.length ≤ i + 1 ∧ Paired (rb.rep F'') zs' ys' ∧ lcM t f (xs.drop (i + 1)) (fun rest => P (ys' ++ rest)), fun H'' w => ⟨xs.length - (i + 1), by omega, rfl, lt, w⟩, fun v H3 y => ?_⟩
    obtain ⟨F3, e3, r3⟩ := hy v H3 y
    refine hg v xs[i] F0 H0 Γw _ F3 H3 _ (S'.up e3) r3 fun σ4 S4 ag => ⟨?_, ?_⟩
    · exact (wipe_ext (fun j hj => (ag.2 j fun z => hj (hsl j z))) ag.1).trans wipe_wipe
    · refine ht xs[i] F0 H0 σ4 F3 H3 _ _ S4 q' fun b F4 H4 pb e4 => ?_
      have S4' : Stt F0 H0 Γw (wipe σ vs) F4 H4 := (S'.up e3).up e4
      have e34 := e3.trans e4
      cases b with
      | false =>
        rw [if_neg (by decide)]
        rw [if_neg (by decide)] at pb
        obtain ⟨n1, n2⟩ := stay e34
        exact ⟨F4, ys, zs, S4', e'.trans e34, n1, n2, Nat.le_succ_of_le lz, rb.ups e34.ff pr, pb⟩
      | true =>
        rw [if_pos rfl]
        rw [if_pos rfl] at pb
        refine he xs[i] F0 H0 σ4 F4 H4 _ _ (S4.up e4) pb fun y w F5 H5 py e5 r5 => ?_
        have e35 := e34.trans e5
        obtain ⟨n1, n2⟩ := stay e35
        refine ⟨zs, n2, ?_, F5, ys ++ [y], zs ++ [w], (S4'.up e5).side h0D n1 ap, (e'.trans e35).side hD n1, n1, upd_same, by rw [List.length_append]; exact Nat.add_le_add_right lz 1, pr_app (rb.ups e35.ff pr) r5, ?_⟩
        · exact Nat.lt_of_le_of_lt lz (Nat.lt_of_lt_of_le lt lx)
        · have : (fun rest => P (ys ++ [y] ++ rest)) = fun rest => P (ys ++ y :: rest) := funext fun rest => by rw [List.append_assoc]; rfl
          rw [this]
          exact py
  · have : xs.drop i = [] := List.drop_eq_nil_of_le (by omega)
    rw [this] at q'
    have q' : P (ys ++ []) := q'
    rw [List.append_nil] at q'
    exact .inl ⟨(rn F' H' go' S'.sub i).2 (by omega), fin ys zs F' H' q' e' go' fD hD' pr⟩
theorem xe_lc {elt : Expr} {ifs : List Expr} {scope : Scope} {own : List (Str × Nat)} {rb : Rep β} {sl : List Nat} {bind : α → List SA → List SA} {t : α → (Bool → Prop) → Prop} {f : α → (β → Prop) → Prop} (hc : X.calm = true) (hN : X.N.Nodup) (hi : XI X ε Γ tg iter r m) (ok : BlkOk X.N X.env.scope scope own)
    (hl : Le Γ Γw) (hw : ∀ v ∈ own.map (·.2), ∀ A, Γw[v]? = some A → A = .no) (hsl : ∀ i ∈ sl, i ∈ own.map (·.2))
    (hg : ∀ s H C cl fp, XG (blkX X scope s H C cl fp) tg r sl bind)
    (ht : ∀ x s H C cl fp, XTs (blkX X scope s H C cl fp) (bind x Γw) ifs (t x)) (he : ∀ x s H C cl fp, XE (blkX X scope s H C cl fp) Tk0 (bind x Γw) elt rb (f x)) (hs : ∀ x, foldedSetIterable iter X.env x = pure x := by intro _; rfl) :
    XV X ε Γ (.ListComp elt [⟨tg, iter, ifs, 0⟩] scope pos) (SA.ol rb) (fun P => m fun xs => lcM t f xs P) := fun F0 H0 xl σ F H P Q S p q => by
  obtain ⟨wi, pi, wh⟩ := hi
  refine use_e (pe_lc (g := fun v σ H Q => ∀ s H' C cl fp, RunG (blkX X scope s H' C cl fp) tg v σ H Q) (tt := fun σ H Q => ∀ s H' C cl fp, RunTs (blkX X scope s H' C cl fp) ifs σ H Q) (te := fun σ H Q => ∀ s H' C cl fp, RunE (blkX X scope s H' C cl fp) elt σ H Q) hc hN pi ok
    (fun s H C cl fp => ⟨fun pins s1 σ H v u Q I rv h => h s _ C cl fp pins s1 u I rv⟩) (fun s H C cl fp => ⟨fun pins s1 σ H Q I h => by first | exact h s _ C cl fp pins s1 I | exact RunE.run _ (h s _ C cl fp) pins s1 I⟩) (fun s H C cl fp => ⟨fun pins s1 σ H Q I h => by first | exact h s _ C cl fp pins s1 I | exact RunE.run _ (h s _ C cl fp) pins s1 I⟩) hs) ?_
  refine wh F0 H0 xl σ F H _ _ S p fun xs F1 H1 J p1 e1 lx rn D hD => ?_
  exact lcW (Y := fun _ => True) (elt := elt) (ifs := ifs) (((S.up e1).weak hl).wipe hw) lx rn p1 hsl (fun v x F0 H0 Γ σ F H Q S h k s Hx C cl fp => (hg s Hx C cl fp).run v x F0 H0 Γ σ F H Q S h k) (fun x F0 H0 σ F H P Q S p k s Hx C cl fp => ht x s Hx C cl fp F0 H0 σ F H P Q S p k)
    (fun x F0 H0 σ F H P Q S p k s Hx C cl fp => xe_use (he x s Hx C cl fp) xlk0 S p k) hD fun ys zs F' H' py e' g' fD hD' pr => q ys (.ref D) F' H' py (e1.trans e') ⟨D, zs, rfl, hD', pr⟩ fun _ a ea => by
      cases ea
      exact ⟨fD, e1.no _ hD⟩
end Bv

/-! Bv7: what the operators and calls come to, by data -/
namespace Bv
open PySem PySem.Spec PyProof.Rows L2 L2.DX Gd
variable {X : Cx} {ε : Tk} {F0 H0 F H F' H' : Hp} {Γ Γ' Γw : List SA} {σ : L2.St} {e a b c tg iter : Expr} {es : List Expr} {pos p : Pos} {α β γ δ O S : Type} {K : PySem.W.Frag} {r : Rep α} {q : Rep β}
theorem ints_of : ∀ {vs : List V} {xs : List Int}, Paired (rI.rep F) vs xs → vs = xs.map V.int
  | _, _, .nil => rfl
  | _, _, .cons (h : _ = _) t => by rw [h, ints_of t]; rfl
theorem bools_of : ∀ {vs : List V} {xs : List Bool}, Paired (rB.rep F) vs xs → vs = xs.map V.bl
  | _, _, .nil => rfl
  | _, _, .cons (h : _ = _) t => by rw [h, bools_of t]; rfl
theorem strs_of : ∀ {vs : List V} {xs : List Str}, Paired (rS.rep F) vs xs → vs = xs.map V.str ∧ ∀ x ∈ xs, okS x
  | _, _, .nil => ⟨rfl, fun _ h => (nomatch h)⟩
  | _, _, .cons (h : _ ∧ _) t => by
    obtain ⟨e, o⟩ := strs_of t
    rw [h.1, e]
    exact ⟨rfl, fun x m => (List.mem_cons.mp m).elim (fun z => z ▸ h.2) (o x)⟩
theorem of_ints : ∀ {xs : List Int}, Paired (rI.rep F) (xs.map V.int) xs
  | [] => .nil
  | _ :: _ => .cons rfl of_ints
theorem of_bools : ∀ {xs : List Bool}, Paired (rB.rep F) (xs.map V.bl) xs
  | [] => .nil
  | _ :: _ => .cons rfl of_bools
theorem of_strs : ∀ {xs : List Str}, (∀ x ∈ xs, okS x) → Paired (rS.rep F) (xs.map V.str) xs
  | [], _ => .nil
  | _ :: _, h => .cons ⟨rfl, h _ List.mem_cons_self⟩ (of_strs fun x m => h x (List.mem_cons_of_mem _ m))
/-! ### whole numbers -/
theorem s_I0 {g : Int → Int → Int} : Sem2 Bv.rI Bv.rI (SA.im Bv.rI) (rI0 fun i j => .int (g i j)) (fun x y P => P (g x y)) := fun x y v w F H P Q s hx hy p W => ⟨x, y, hx, hy, wish_im W p s rfl⟩
theorem s_IB {g : Int → Int → Bool} : Sem2 Bv.rI Bv.rI (SA.im rB) (rI0 fun i j => .bl (g i j)) (fun x y P => P (g x y)) := fun x y v w F H P Q s hx hy p W => ⟨x, y, hx, hy, wish_im W p s rfl⟩
theorem s_IC {C : Int → Int → Prop} {g : Int → Int → Int} : Sem2 Bv.rI Bv.rI (SA.im Bv.rI) (L2.rI C fun i j => .int (g i j)) (fun x y P => C x y ∧ P (g x y)) := fun x y v w F H P Q s hx hy p W => ⟨x, y, hx, hy, p.1, wish_im W p.2 s rfl⟩
theorem s_U {g : Int → Int} : Sem1 Bv.rI (SA.im Bv.rI) (rU fun i => .int (g i)) (fun x P => P (g x)) := fun x v F H P Q s hx p W => ⟨x, hx, wish_im W p s rfl⟩
/-! ### == of single things -/
theorem scal_i {x y : Int} : scal (.int x) (.int y) = true := rfl
theorem s_eqI : Sem2 Bv.rI Bv.rI (SA.im rB) rEq (fun x y P => P (decide (x = y))) := fun x y v w F H P Q s hx hy p W => by
  cases hx
  cases hy
  exact ⟨rfl, wish_im W p s (by show V.bl _ = _; congr 1; exact decide_eq_decide.mpr ⟨fun h => V.int.inj h, fun h => by rw [h]⟩)⟩
theorem s_neI : Sem2 Bv.rI Bv.rI (SA.im rB) rNe (fun x y P => P (!decide (x = y))) := fun x y v w F H P Q s hx hy p W => by
  cases hx
  cases hy
  exact ⟨rfl, wish_im W p s (by show V.bl _ = _; congr 2; exact decide_eq_decide.mpr ⟨fun h => V.int.inj h, fun h => by rw [h]⟩)⟩
theorem s_eqS : Sem2 rS rS (SA.im rB) rEq (fun x y P => P (decide (x = y))) := fun x y v w F H P Q s hx hy p W => by
  obtain ⟨rfl, _⟩ := hx
  obtain ⟨rfl, _⟩ := hy
  exact ⟨rfl, wish_im W p s (by show V.bl _ = _; congr 1; exact decide_eq_decide.mpr ⟨fun h => V.str.inj h, fun h => by rw [h]⟩)⟩
theorem s_neS : Sem2 rS rS (SA.im rB) rNe (fun x y P => P (!decide (x = y))) := fun x y v w F H P Q s hx hy p W => by
  obtain ⟨rfl, _⟩ := hx
  obtain ⟨rfl, _⟩ := hy
  exact ⟨rfl, wish_im W p s (by show V.bl _ = _; congr 2; exact decide_eq_decide.mpr ⟨fun h => V.str.inj h, fun h => by rw [h]⟩)⟩
theorem s_eqB : Sem2 rB rB (SA.im rB) rEq (fun x y P => P (decide (x = y))) := fun x y v w F H P Q s hx hy p W => by
  cases hx
  cases hy
  exact ⟨rfl, wish_im W p s (by show V.bl _ = _; congr 1; exact decide_eq_decide.mpr ⟨fun h => V.bl.inj h, fun h => by rw [h]⟩)⟩
theorem s_neB : Sem2 rB rB (SA.im rB) rNe (fun x y P => P (!decide (x = y))) := fun x y v w F H P Q s hx hy p W => by
  cases hx
  cases hy
  exact ⟨rfl, wish_im W p s (by show V.bl _ = _; congr 2; exact decide_eq_decide.mpr ⟨fun h => V.bl.inj h, fun h => by rw [h]⟩)⟩
/-! ### texts -/
theorem ok_app {x y : Str} (hx : okS x) (hy : okS y) (h : x.length + y.length ≤ sizeLine) : okS (x ++ y) := by
  refine ⟨by rw [app_len]; exact h, ?_⟩
  show (x.cps ++ y.cps).all _ = true
  rw [Array.all_append, Bool.and_eq_true]
  exact ⟨hx.2, hy.2⟩
theorem ok_mem {x z : Str} (hz : okS z) (l : x.length ≤ z.length) (h : ∀ c ∈ x.cps.toList, c ∈ z.cps.toList) : okS x := by
  refine ⟨Nat.le_trans l hz.1, ?_⟩
  show x.cps.all (· < 0x110000) = true
  refine Array.all_eq_true_iff_forall_mem.mpr fun c hc => ?_
  exact Array.all_eq_true_iff_forall_mem.mp hz.2 c (Array.mem_toList_iff.mp (h c (Array.mem_toList_iff.mpr hc)))
theorem s_catS : Sem2 rS rS (SA.im rS) (fun x y H Q => ∃ i j, x = .str i ∧ y = .str j ∧ i.length + j.length ≤ sizeLine ∧ Q (.str (i ++ j)) H) (fun x y P => x.length + y.length ≤ 16777216 ∧ P (x ++ y)) := fun x y v w F H P Q s hx hy p W => by
  have le : x.length + y.length ≤ sizeLine := p.1
  exact ⟨x, y, hx.1, hy.1, le, wish_im W p.2 s ⟨rfl, ok_app hx.2 hy.2 le⟩⟩
theorem mem_mul {x : Str} {n : Int} {c : Nat} (h : c ∈ (Txt.mul x n).cps.toList) : c ∈ x.cps.toList := by
  unfold Txt.mul at h
  split at h
  · exact (nomatch h)
  · split at h
    · exact h
    · have h : c ∈ (List.foldl (· ++ ·) #[] (List.replicate n.toNat x.cps)).toList := h
      rw [fold_app] at h
      rw [List.map_replicate] at h
      have h : c ∈ (List.replicate n.toNat x.cps.toList).flatten := h
      obtain ⟨l, hl, hc⟩ := List.mem_flatten.mp h
      rw [List.eq_of_mem_replicate hl] at hc
      exact hc
theorem s_mulS : Sem2 rS Bv.rI (SA.im rS) (fun x y H Q => ∃ a n, x = .str a ∧ y = .int n ∧ MulOk a n ∧ Q (.str (Txt.mul a n)) H) (fun x n P => (MulOk x n ∧ (Txt.mul x n).length ≤ 16777216) ∧ P (Txt.mul x n)) := fun x y v w F H P Q s hx hy p W => by
  refine ⟨x, y, hx.1, hy, p.1.1, wish_im W p.2 s ⟨rfl, p.1.2, ?_⟩⟩
  show (Txt.mul x y).cps.all (· < 0x110000) = true
  refine Array.all_eq_true_iff_forall_mem.mpr fun c hc => ?_
  exact Array.all_eq_true_iff_forall_mem.mp hx.2.2 c (Array.mem_toList_iff.mp (mem_mul (Array.mem_toList_iff.mpr hc)))
theorem s_ltS : Sem2 rS rS (SA.im rB) (fun x y H Q => ∃ i j, x = .str i ∧ y = .str j ∧ Q (.bl (decide (i.cps.toList < j.cps.toList))) H) (fun x y P => P (decide (x.cps.toList < y.cps.toList))) := fun x y v w F H P Q s hx hy p W => ⟨x, y, hx.1, hy.1, wish_im W p s rfl⟩
/-! ### lists -/
theorem inV_ints {x : Int} : ∀ xs : List Int, inV (.int x) (xs.map V.int) = decide (x ∈ xs) := by
  intro xs
  induction xs with
  | nil => rfl
  | cons y ys ih =>
    show (eqV (.int y) (.int x) || inV (.int x) (ys.map V.int)) = _
    rw [ih]
    have : eqV (.int y) (.int x) = decide (x = y) := by
      show (y == x) = _
      by_cases h : x = y
      · rw [h, decide_eq_true rfl]; exact beq_self_eq_true y
      · rw [decide_eq_false h]; exact beq_eq_false_iff_ne.mpr fun z => h z.symm
    rw [this]
    by_cases h : x = y
    · rw [decide_eq_true h, decide_eq_true (List.mem_cons.mpr (.inl h))]; rfl
    · rw [decide_eq_false h]
      show decide _ = _
      exact decide_eq_decide.mpr ⟨fun m => List.mem_cons_of_mem _ m, fun m => (List.mem_cons.mp m).resolve_left h⟩
theorem flat_ints (xs : List Int) : (xs.map V.int).all flatV = true := by
  rw [List.all_map]
  exact List.all_eq_true.mpr fun _ _ => rfl
/-- x in xs -/
theorem s_inIL : Sem2 Bv.rI (rL K Bv.rI) (SA.im rB) (rIn K false) (fun x y P => P (decide (x ∈ y))) := fun x y v w F H P Q s hx ⟨a, vs, e, hq, pr⟩ p W => by
  have := ints_of pr
  subst this
  exact ⟨a, _, e, .inl (s.lst hq), by rw [show v = V.int x from hx]; rfl, flat_ints y, wish_im W p s (by rw [show v = V.int x from hx, if_neg (by decide), inV_ints]; rfl)⟩
theorem s_inIT : Sem2 Bv.rI (rT K Bv.rI) (SA.im rB) (rIn K false) (fun x y P => P (decide (x ∈ y))) := fun x y v w F H P Q s hx ⟨a, vs, e, hq, pr⟩ p W => by
  have := ints_of pr
  subst this
  exact ⟨a, _, e, .inr (s.seqT hq), by rw [show v = V.int x from hx]; rfl, flat_ints y, wish_im W p s (by rw [show v = V.int x from hx, if_neg (by decide), inV_ints]; rfl)⟩
theorem s_ninIL : Sem2 Bv.rI (rL K Bv.rI) (SA.im rB) (rIn K true) (fun x y P => P (!decide (x ∈ y))) := fun x y v w F H P Q s hx ⟨a, vs, e, hq, pr⟩ p W => by
  have := ints_of pr
  subst this
  exact ⟨a, _, e, .inl (s.lst hq), by rw [show v = V.int x from hx]; rfl, flat_ints y, wish_im W p s (by rw [show v = V.int x from hx, if_pos (by decide), inV_ints]; rfl)⟩
theorem s_inSL : Sem2 rS (rL K rS) (SA.im rB) (rIn K false) (fun x y P => P (decide (x ∈ y))) := fun x y v w F H P Q s hx ⟨a, vs, e, hq, pr⟩ p W => by
  have := (strs_of pr).1
  subst this
  exact ⟨a, _, e, .inl (s.lst hq), by rw [show v = V.str x from hx.1]; rfl, flat_strs y, wish_im W p s (by rw [show v = V.str x from hx.1, if_neg (by decide), inV_strs]; rfl)⟩
theorem s_inST : Sem2 rS (rT K rS) (SA.im rB) (rIn K false) (fun x y P => P (decide (x ∈ y))) := fun x y v w F H P Q s hx ⟨a, vs, e, hq, pr⟩ p W => by
  have := (strs_of pr).1
  subst this
  exact ⟨a, _, e, .inr (s.seqT hq), by rw [show v = V.str x from hx.1]; rfl, flat_strs y, wish_im W p s (by rw [show v = V.str x from hx.1, if_neg (by decide), inV_strs]; rfl)⟩
theorem s_ninSL : Sem2 rS (rL K rS) (SA.im rB) (rIn K true) (fun x y P => P (!decide (x ∈ y))) := fun x y v w F H P Q s hx ⟨a, vs, e, hq, pr⟩ p W => by
  have := (strs_of pr).1
  subst this
  exact ⟨a, _, e, .inl (s.lst hq), by rw [show v = V.str x from hx.1]; rfl, flat_strs y, wish_im W p s (by rw [show v = V.str x from hx.1, if_pos (by decide), inV_strs]; rfl)⟩
theorem s_ninST : Sem2 rS (rT K rS) (SA.im rB) (rIn K true) (fun x y P => P (!decide (x ∈ y))) := fun x y v w F H P Q s hx ⟨a, vs, e, hq, pr⟩ p W => by
  have := (strs_of pr).1
  subst this
  exact ⟨a, _, e, .inr (s.seqT hq), by rw [show v = V.str x from hx.1]; rfl, flat_strs y, wish_im W p s (by rw [show v = V.str x from hx.1, if_pos (by decide), inV_strs]; rfl)⟩
/-- xs[i] -/
def atZ (xs : List α) (i : Int) (P : α → Prop) : Prop := ∃ x, atI xs i = some x ∧ P x
theorem at_pr {R : V → α → Prop} {vs : List V} {xs : List α} (pr : Paired R vs xs) {i : Int} {x : α} (h : atI xs i = some x) : ∃ v, atI vs i = some v ∧ R v x := by
  unfold atI at h ⊢
  rw [Paired.len pr]
  cases hj : ixN xs.length i with
  | none => rw [hj] at h; cases h
  | some j =>
    rw [hj] at h
    exact Paired.at_ pr h
theorem s_ixL : Sem2 (rL K r) Bv.rI (SA.im r) (rIxL K) (fun xs i P => atZ xs i P) := fun x y v w F H P Q s ⟨a, vs, e, hq, pr⟩ hy ⟨z, hz, p⟩ W => by
  obtain ⟨u, hu, hr⟩ := at_pr pr hz
  exact ⟨a, vs, y, u, e, hy, s.lst hq, hu, wish_im W p s hr⟩
theorem s_ixT : Sem2 (rT K r) Bv.rI (SA.im r) (rIxT K) (fun xs i P => atZ xs i P) := fun x y v w F H P Q s ⟨a, vs, e, hq, pr⟩ hy ⟨z, hz, p⟩ W => by
  obtain ⟨u, hu, hr⟩ := at_pr pr hz
  exact ⟨a, vs, y, u, e, hy, s.seqT hq, hu, wish_im W p s hr⟩
theorem atI_mem {xs : List α} {i : Int} {x : α} (h : atI xs i = some x) : x ∈ xs := by
  unfold atI at h
  cases hj : ixN xs.length i with
  | none => rw [hj] at h; cases h
  | some j => rw [hj] at h; exact List.mem_of_getElem? h
theorem s_ixS : Sem2 rS Bv.rI (SA.im rS) rIxS (fun x i P => atZ (signs x) i P) := fun x y v w F H P Q s hx hy ⟨z, hz, p⟩ W => by
  unfold signs at hz
  obtain ⟨c, hc, rfl⟩ : ∃ c, atI x.cps.toList y = some c ∧ sg c = z := by
    unfold atI at hz ⊢
    rw [List.length_map] at hz
    cases hj : ixN x.cps.toList.length y with
    | none => rw [hj] at hz; cases hz
    | some j =>
      rw [hj] at hz
      have hz : (x.cps.toList.map sg)[j]? = some z := hz
      rw [List.getElem?_map] at hz
      cases h : x.cps.toList[j]? with
      | none => rw [h] at hz; cases hz
      | some c => rw [h] at hz; exact ⟨c, h, Option.some.inj hz⟩
  exact ⟨x, y, c, hx.1, hy, hx.2.1, hc, wish_im W p s ⟨rfl, strOk_sg hx.2.2 (atI_mem hc)⟩⟩
/-! ### calls -/
theorem s_lenL : SemC (rCons (rL K r) rNil) (SA.im Bv.rI) (fun xs H Q => ∃ x n, xs = [x] ∧ LenV K x H n ∧ Q (.int n) H) (fun x P => P (x.1.length : Int)) := fun x vs F H P Q s ⟨v, ws, e, ⟨a, us, ev, hq, pr⟩, en⟩ p W => by
  subst e ev en
  exact ⟨_, _, rfl, .inl ⟨_, s.lst hq, Paired.len pr ▸ rfl⟩, wish_im W p s rfl⟩
theorem s_lenT : SemC (rCons (rT K r) rNil) (SA.im Bv.rI) (fun xs H Q => ∃ x n, xs = [x] ∧ LenV K x H n ∧ Q (.int n) H) (fun x P => P (x.1.length : Int)) := fun x vs F H P Q s ⟨v, ws, e, ⟨a, us, ev, hq, pr⟩, en⟩ p W => by
  subst e ev en
  exact ⟨_, _, rfl, .inr ⟨_, s.seqT hq, Paired.len pr ▸ rfl⟩, wish_im W p s rfl⟩
theorem s_lenP : SemC (rCons (rP K r q) rNil) (SA.im Bv.rI) (fun xs H Q => ∃ x n, xs = [x] ∧ LenV K x H n ∧ Q (.int n) H) (fun x P => P 2) := fun x vs F H P Q s ⟨v, ws, e, ⟨a, v1, v2, ev, hq, _⟩, en⟩ p W => by
  subst e ev en
  exact ⟨_, 2, rfl, .inr ⟨_, s.seqT hq, rfl⟩, wish_im W p s rfl⟩
theorem s_lenS : SemC (rCons rS rNil) (SA.im Bv.rI) (fun xs H Q => ∃ z, xs = [.str z] ∧ z.length ≤ sizeLine ∧ Q (.int z.length) H) (fun x P => P (x.1.length : Int)) := fun x vs F H P Q s ⟨v, ws, e, ⟨ev, ok⟩, en⟩ p W => by
  subst e ev en
  exact ⟨_, rfl, ok.1, wish_im W p s rfl⟩
def absZ (i : Int) : Int := if i < 0 then -i else i
def maxZ (i j : Int) : Int := if j > i then j else i
def minZ (i j : Int) : Int := if j < i then j else i
theorem s_abs : SemC (rCons Bv.rI rNil) (SA.im Bv.rI) (fun xs H Q => ∃ i, xs = [.int i] ∧ Q (.int (if i < 0 then -i else i)) H) (fun x P => P (absZ x.1)) := fun x vs F H P Q s ⟨v, ws, e, ev, en⟩ p W => by
  cases ev
  cases en
  exact ⟨_, e, wish_im W p s rfl⟩
theorem s_max2 : SemC (rCons Bv.rI (rCons Bv.rI rNil)) (SA.im Bv.rI) (fun xs H Q => ∃ i j, xs = [.int i, .int j] ∧ Q (.int (if j > i then j else i)) H) (fun x P => P (maxZ x.1 x.2.1)) := fun x vs F H P Q s ⟨v, ws, e, ev, u, us, e2, eu, en⟩ p W => by
  cases ev
  cases eu
  cases en
  subst e2
  exact ⟨_, _, e, wish_im W p s rfl⟩
theorem s_min2 : SemC (rCons Bv.rI (rCons Bv.rI rNil)) (SA.im Bv.rI) (fun xs H Q => ∃ i j, xs = [.int i, .int j] ∧ Q (.int (if j < i then j else i)) H) (fun x P => P (minZ x.1 x.2.1)) := fun x vs F H P Q s ⟨v, ws, e, ev, u, us, e2, eu, en⟩ p W => by
  cases ev
  cases eu
  cases en
  subst e2
  exact ⟨_, _, e, wish_im W p s rfl⟩
theorem s_intI : SemC (rCons Bv.rI rNil) (SA.im Bv.rI) (fun xs H Q => ∃ i, xs = [.int i] ∧ Q (.int i) H) (fun x P => P x.1) := fun x vs F H P Q s ⟨v, ws, e, ev, en⟩ p W => by
  cases ev
  cases en
  exact ⟨_, e, wish_im W p s rfl⟩
def b2z (b : Bool) : Int := if b then 1 else 0
theorem s_intB : SemC (rCons rB rNil) (SA.im Bv.rI) (fun xs H Q => ∃ k, xs = [.bl k] ∧ Q (.int (if k then 1 else 0)) H) (fun x P => P (b2z x.1)) := fun x vs F H P Q s ⟨v, ws, e, ev, en⟩ p W => by
  cases ev
  cases en
  exact ⟨_, e, wish_im W p s rfl⟩
theorem s_sum : SemC (rCons (rL K Bv.rI) rNil) (SA.im Bv.rI) (rSum K) (fun x P => P x.1.sum) := fun x vs F H P Q s ⟨v, ws, e, ⟨a, us, ev, hq, pr⟩, en⟩ p W => by
  have := ints_of pr
  subst this
  cases en
  subst ev
  exact ⟨a, x.1, e, s.lst hq, wish_im W p s rfl⟩
/-- max(xs), min(xs) -/
def maxP (xs : List Int) (P : Int → Prop) : Prop := xs ≠ [] ∧ ∀ m, m ∈ xs → (∀ y ∈ xs, y ≤ m) → P m
def minP (xs : List Int) (P : Int → Prop) : Prop := xs ≠ [] ∧ ∀ m, m ∈ xs → (∀ y ∈ xs, m ≤ y) → P m
theorem s_maxL : SemC (rCons (rL K Bv.rI) rNil) (SA.im Bv.rI) (rMax K) (fun x P => maxP x.1 P) := fun x vs F H P Q s ⟨v, ws, e, ⟨a, us, ev, hq, pr⟩, en⟩ p W => by
  have := ints_of pr
  subst this
  cases en
  subst ev
  exact ⟨a, x.1, e, s.lst hq, List.length_pos_iff.mpr p.1, fun m hm h => wish_im W (p.2 m hm h) s rfl⟩
theorem s_minL : SemC (rCons (rL K Bv.rI) rNil) (SA.im Bv.rI) (rMin K) (fun x P => minP x.1 P) := fun x vs F H P Q s ⟨v, ws, e, ⟨a, us, ev, hq, pr⟩, en⟩ p W => by
  have := ints_of pr
  subst this
  cases en
  subst ev
  exact ⟨a, x.1, e, s.lst hq, List.length_pos_iff.mpr p.1, fun m hm h => wish_im W (p.2 m hm h) s rfl⟩
theorem s_all : SemC (rCons (rL K rB) rNil) (SA.im rB) (rAll K) (fun x P => P (x.1.all id)) := fun x vs F H P Q s ⟨v, ws, e, ⟨a, us, ev, hq, pr⟩, en⟩ p W => by
  have := bools_of pr
  subst this
  cases en
  subst ev
  exact ⟨a, x.1, e, s.lst hq, wish_im W p s rfl⟩
theorem s_any : SemC (rCons (rL K rB) rNil) (SA.im rB) (rAny K) (fun x P => P (x.1.any id)) := fun x vs F H P Q s ⟨v, ws, e, ⟨a, us, ev, hq, pr⟩, en⟩ p W => by
  have := bools_of pr
  subst this
  cases en
  subst ev
  exact ⟨a, x.1, e, s.lst hq, wish_im W p s rfl⟩
/-- sorted texts, sorted numbers: fewer than 64 -/
theorem s_sortedS : SemC (rCons (rL K rS) rNil) (SA.ol rS) (rSortedS K) (fun x P => x.1.length < 64 ∧ P (sortT x.1)) := fun x vs F H P Q s ⟨v, ws, e, ⟨a, us, ev, hq, pr⟩, en⟩ p W => by
  obtain ⟨eu, ok⟩ := strs_of pr
  subst eu
  cases en
  subst ev
  refine ⟨a, x.1, e, s.lst hq, p.1, fun ys l pm so hl => ?_⟩
  rw [sortT_eq_of so pm]
  exact wish_ol W p.2 s (of_strs fun y my => ok y ((sortT_perm _).mem_iff.mp my)) l hl
theorem s_listL : SemC (rCons (rL K r) rNil) (SA.ol r) (fun xs H Q => ∃ p ys, xs = [.ref p] ∧ (SqL K H p ys ∨ SqT K H p ys) ∧ ∀ l, H l = none → Q (.ref l) (upd H l (.lst ys))) (fun x P => P x.1) := fun x vs F H P Q s ⟨v, ws, e, ⟨a, us, ev, hq, pr⟩, en⟩ p W => by
  cases en
  subst ev
  exact ⟨a, us, e, .inl (s.lst hq), wish_ol W p s pr⟩
theorem s_listT : SemC (rCons (rT K r) rNil) (SA.ol r) (fun xs H Q => ∃ p ys, xs = [.ref p] ∧ (SqL K H p ys ∨ SqT K H p ys) ∧ ∀ l, H l = none → Q (.ref l) (upd H l (.lst ys))) (fun x P => P x.1) := fun x vs F H P Q s ⟨v, ws, e, ⟨a, us, ev, hq, pr⟩, en⟩ p W => by
  cases en
  subst ev
  exact ⟨a, us, e, .inr (s.seqT hq), wish_ol W p s pr⟩
theorem s_listS : SemC (rCons rS rNil) (SA.ol rS) rListStr (fun x P => P (signs x.1)) := fun x vs F H P Q s ⟨v, ws, e, ⟨ev, ok⟩, en⟩ p W => by
  cases en
  subst ev
  refine ⟨x.1, e, ok.1, fun l H' hl sm at_l => ?_⟩
  exact W _ (.ref l) F H' p (Ext.grow s sm) ⟨l, _, rfl, at_l, of_strs fun z mz => by
    obtain ⟨c, hc, rfl⟩ := List.mem_map.mp mz
    exact strOk_sg ok.2 hc⟩ fun _ a ea => by
    cases ea
    exact ⟨s.there hl, hl⟩
theorem wish_put {r : Rep γ} {P : γ → Prop} {Q : VK} {z : γ} (W : Wish F H (SA.im r) P Q) (p : P z) (s : Sub F H) {o : HO} (h : ∀ l, r.rep (upd F l o) (.ref l) z) : ∀ l, H l = none → Q (.ref l) (upd H l o) := fun l hl => wish_ext W p (Ext.new_ s hl) (h l)
theorem s_tupL : SemC (rCons (rL K r) rNil) (SA.im (rT K r)) (fun xs H Q => ∃ p ys, xs = [.ref p] ∧ ((SqL K H p ys ∧ ∀ l, H l = none → Q (.ref l) (upd H l (.tup ys))) ∨ (SqT K H p ys ∧ Q (.ref p) H))) (fun x P => P x.1) := fun x vs F H P Q s ⟨v, ws, e, ⟨a, us, ev, hq, pr⟩, en⟩ p W => by
  cases en
  subst ev
  exact ⟨a, us, e, .inl ⟨s.lst hq, fun l hl => wish_ext W p (Ext.new_ s hl) ⟨l, us, rfl, .inl (.inl upd_same), r.ups (same_new (s.there hl)) pr⟩⟩⟩
theorem s_tupT : SemC (rCons (rT K r) rNil) (SA.im (rT K r)) (fun xs H Q => ∃ p ys, xs = [.ref p] ∧ ((SqL K H p ys ∧ ∀ l, H l = none → Q (.ref l) (upd H l (.tup ys))) ∨ (SqT K H p ys ∧ Q (.ref p) H))) (fun x P => P x.1) := fun x vs F H P Q s ⟨v, ws, e, ⟨a, us, ev, hq, pr⟩, en⟩ p W => by
  cases en
  subst ev
  exact ⟨a, us, e, .inr ⟨s.seqT hq, wish_im W p s ⟨a, us, rfl, hq, pr⟩⟩⟩
/-! ### displays -/
def XAs (X : Cx) (ε : Tk) (Γ : List SA) (es : List Expr) {α : Type} (r : Rep α) (m : (List α → Prop) → Prop) : Prop :=
  ∀ (F0 H0 : Hp), XLk X F0 H0 ε → ∀ (σ : L2.St) (F H : Hp) (P : List α → Prop) (Q : List V → Hp → Prop), Stt F0 H0 Γ σ F H → m P → (∀ xs vs F' H', P xs → Ext F H F' H' → Paired (r.rep F') vs xs → vs.length = es.length → Q vs H') → RunA X es σ H Q
theorem xas_nil : XAs X ε Γ [] r (fun P => P []) := fun F0 H0 xl σ F H P Q S p q => use_a pa_nil (q [] [] F H p (Ext.refl S.sub) .nil rfl)
theorem xas_cons {m : (α → Prop) → Prop} {n : (List α → Prop) → Prop} (h : XE X ε Γ e r m) (t : XAs X ε Γ es r n) (hs : starEach (e :: es) X.env = (false, eval e X.env) :: starEach es X.env := by rfl) :
    XAs X ε Γ (e :: es) r (fun P => m fun x => n fun xs => P (x :: xs)) := fun F0 H0 xl σ F H P Q S p q =>
  use_a (pa_cons (run_pe X) (run_pa X) hs) (xe_use h xl S p fun x v F1 H1 p1 e1 r1 => t F0 H0 xl σ F1 H1 _ _ (S.up e1) p1 fun y vs F2 H2 p2 e2 r2 l2 => q (x :: y) (v :: vs) F2 H2 p2 (e1.trans e2) (.cons (r.up e2.ff r1) r2) (congrArg (· + 1) l2))
theorem xe_lst {m : (List α → Prop) → Prop} (h : XAs X ε Γ es r m) (hz : decide (es.length ≤ sizeLine) = true) : XV X ε Γ (.List es pos) (SA.ol r) m := fun F0 H0 xl σ F H P Q S p q =>
  use_e (pe_lst (run_pa X)) (h F0 H0 xl σ F H P _ S p fun xs vs F1 H1 p1 e1 pr l => ⟨by rw [l]; exact of_decide_eq_true hz, fun D hD => q xs (.ref D) F1 _ p1 (e1.trans (Ext.grow e1.fh (same_new hD))) ⟨D, vs, rfl, upd_same, pr⟩ fun _ a ea => by
    cases ea
    exact ⟨e1.fh.there hD, e1.no _ hD⟩⟩)
theorem xe_tup {x1} {m : (List α → Prop) → Prop} (h : XAs X ε Γ es r m) (hz : decide (es.length ≤ sizeLine) = true) : XE X ε Γ (.Tuple es x1 pos) (rT K r) m := xe_of fun F0 H0 xl σ F H P Q S p q =>
  use_e (pe_tup (run_pa X)) (h F0 H0 xl σ F H P _ S p fun xs vs F1 H1 p1 e1 pr l => ⟨by rw [l]; exact of_decide_eq_true hz, fun D hD => q xs (.ref D) _ _ p1 (e1.trans (Ext.new_ e1.fh hD)) ⟨D, vs, rfl, .inl (.inl upd_same), r.ups (same_new (e1.fh.there hD)) pr⟩⟩)
theorem xe_pair {x1} {m : (α → Prop) → Prop} {n : (β → Prop) → Prop} (h : XE X ε Γ a r m) (t : XE X ε Γ b q n) (hs : starEach [a, b] X.env = (false, eval a X.env) :: starEach [b] X.env := by rfl) (hs' : starEach [b] X.env = (false, eval b X.env) :: starEach [] X.env := by rfl) :
    XE X ε Γ (.Tuple [a, b] x1 pos) (rP K r q) (fun P => m fun x => n fun y => P (x, y)) := xe_of fun F0 H0 xl σ F H P Q S p k =>
  use_e (pe_tup (run_pa X)) (xa_cons h (xa_cons t xa_nil hs') hs F0 H0 xl σ F H (fun x => P (x.1, x.2.1)) _ S p fun x vs F1 H1 p1 e1 r1 => by
    obtain ⟨v, ws, rfl, h1, w, us, rfl, h2, rfl⟩ := r1
    exact ⟨by show 2 ≤ sizeLine; decide, fun D hD => k _ (.ref D) _ _ p1 (e1.trans (Ext.new_ e1.fh hD)) ⟨D, v, w, rfl, .inl (.inl upd_same), r.up (same_new (e1.fh.there hD)) h1, q.up (same_new (e1.fh.there hD)) h2⟩⟩)
theorem xe_triple {x1} {t : Rep γ} {m : (α → Prop) → Prop} {n : (β → Prop) → Prop} {l : (γ → Prop) → Prop} (h : XE X ε Γ a r m) (h2 : XE X ε Γ b q n) (h3 : XE X ε Γ c t l) (hs : starEach [a, b, c] X.env = (false, eval a X.env) :: starEach [b, c] X.env := by rfl) (hs' : starEach [b, c] X.env = (false, eval b X.env) :: starEach [c] X.env := by rfl)
    (hs'' : starEach [c] X.env = (false, eval c X.env) :: starEach [] X.env := by rfl) : XE X ε Γ (.Tuple [a, b, c] x1 pos) (rP3 K r q t) (fun P => m fun x => n fun y => l fun z => P (x, y, z)) := xe_of fun F0 H0 xl σ F H P Q S p k =>
  use_e (pe_tup (run_pa X)) (xa_cons h (xa_cons h2 (xa_cons h3 xa_nil hs'') hs') hs F0 H0 xl σ F H (fun x => P (x.1, x.2.1, x.2.2.1)) _ S p fun x vs F1 H1 p1 e1 r1 => by
    obtain ⟨v, ws, rfl, h1, w, us, rfl, h2, u, ts, rfl, h3, rfl⟩ := r1
    exact ⟨by show 3 ≤ sizeLine; decide, fun D hD => k _ (.ref D) _ _ p1 (e1.trans (Ext.new_ e1.fh hD)) ⟨D, v, w, u, rfl, .inl (.inl upd_same), r.up (same_new (e1.fh.there hD)) h1, q.up (same_new (e1.fh.there hD)) h2, t.up (same_new (e1.fh.there hD)) h3⟩⟩)
/-- pair[0], pair[1] -/
theorem s_fst : Sem2 (rP K r q) Bv.rI (SA.im r) (rIxT K) (fun x i P => i = 0 ∧ P x.1) := fun x y v w F H P Q s ⟨a, v1, v2, e, hq, h1, h2⟩ hy ⟨e0, p⟩ W => ⟨a, [v1, v2], 0, v1, e, by rw [show w = V.int y from hy, e0], s.seqT hq, rfl, wish_im W p s h1⟩
theorem s_snd : Sem2 (rP K r q) Bv.rI (SA.im q) (rIxT K) (fun x i P => i = 1 ∧ P x.2) := fun x y v w F H P Q s ⟨a, v1, v2, e, hq, h1, h2⟩ hy ⟨e0, p⟩ W => ⟨a, [v1, v2], 1, v2, e, by rw [show w = V.int y from hy, e0], s.seqT hq, rfl, wish_im W p s h2⟩
/-! ### slices -/
def cutL (xs : List α) (lo hi : Option Int) : List α := (xs.drop (HT.sIx xs.length 0 lo)).take (HT.sIx xs.length xs.length hi - HT.sIx xs.length 0 lo)
theorem cut_pr {R : V → α → Prop} {vs : List V} {xs : List α} (pr : Paired R vs xs) (lo hi : Option Int) : Paired R (cutV vs lo hi) (cutL xs lo hi) := by
  unfold cutV cutL
  rw [Paired.len pr]
  generalize HT.sIx xs.length 0 lo = n
  generalize HT.sIx xs.length xs.length hi - n = m
  have d : ∀ {vs : List V} {xs : List α} (n : Nat), Paired R vs xs → Paired R (vs.drop n) (xs.drop n) := by
    intro vs xs n pr
    induction pr generalizing n with
    | nil => cases n <;> exact .nil
    | cons h t ih => cases n with
      | zero => exact .cons h t
      | succ n => exact ih n
  have k : ∀ {vs : List V} {xs : List α} (n : Nat), Paired R vs xs → Paired R (vs.take n) (xs.take n) := by
    intro vs xs n pr
    induction pr generalizing n with
    | nil => cases n <;> exact .nil
    | cons h t ih => cases n with
      | zero => exact .nil
      | succ n => exact .cons h (ih n)
  exact k m (d n pr)
/-- a part of a slice -/
def XO (X : Cx) (ε : Tk) (Γ : List SA) (e : Option Expr) (m : (Option Int → Prop) → Prop) : Prop :=
  ∃ t, PO X e t ∧ ∀ (F0 H0 : Hp), XLk X F0 H0 ε → ∀ (σ : L2.St) (F H : Hp) (P : Option Int → Prop) (Q : Option Int → Hp → Prop), Stt F0 H0 Γ σ F H → m P → (∀ o F' H', P o → Ext F H F' H' → Q o H') → t σ H Q
theorem xo_none : XO X ε Γ none (fun P => P none) := ⟨_, po_none, fun F0 H0 xl σ F H P Q S p q => q none F H p (Ext.refl S.sub)⟩
theorem xo_some {m : (Int → Prop) → Prop} (h : XE X ε Γ e Bv.rI m) : XO X ε Γ (some e) (fun P => m fun i => P (some i)) := ⟨_, po_some (run_pe X), fun F0 H0 xl σ F H P Q S p q => xe_use h xl S p fun x v F1 H1 p1 e1 r1 => ⟨x, r1, q (some x) F1 H1 p1 e1⟩⟩
theorem xe_cutL {lo hi : Option Expr} {p2 : Pos} {m : (List α → Prop) → Prop} {n l : (Option Int → Prop) → Prop} (hK : X.K = K) (h : XE X ε Γ e (rL K r) m) (hl : XO X ε Γ lo n) (hh : XO X ε Γ hi l) : XV X ε Γ (.Subscript e (.Slice lo hi none p2) pos) (SA.ol r) (fun P => m fun x => n fun i => l fun j => P (cutL x i j)) := fun F0 H0 xl σ F H P Q S p q => by
  obtain ⟨tl, pl, wl⟩ := hl
  obtain ⟨th, ph, wh⟩ := hh
  refine use_e (pe_slice sl_list (run_pe X) pl ph) (xe_use h xl S p fun x v F1 H1 p1 e1 r1 => wl F0 H0 xl σ F1 H1 _ _ (S.up e1) p1 fun i F2 H2 p2 e2 => wh F0 H0 xl σ F2 H2 _ _ ((S.up e1).up e2) p2 fun j F3 H3 p3 e3 => ?_)
  obtain ⟨a, vs, ev, hq, pr⟩ := (rL K r).up (e2.trans e3).ff r1
  have e13 := (e1.trans e2).trans e3
  refine ⟨a, vs, ev, e3.fh.lst hq, fun D hD => q _ (.ref D) F3 _ p3 (e13.trans (Ext.grow e3.fh (same_new hD))) ⟨D, _, rfl, upd_same, cut_pr pr i j⟩ fun _ a ea => ?_⟩
  cases ea
  exact ⟨e3.fh.there hD, e13.no _ hD⟩
theorem ok_cut {z : Str} (h : okS z) (lo hi : Option Int) : okS (cutS z lo hi) := ok_mem h (cutS_le z lo hi) fun c hc => cutS_mem hc
theorem xe_cutS {lo hi : Option Expr} {p2 : Pos} {m : (Str → Prop) → Prop} {n l : (Option Int → Prop) → Prop} (h : XE X ε Γ e rS m) (hl : XO X ε Γ lo n) (hh : XO X ε Γ hi l) : XE X ε Γ (.Subscript e (.Slice lo hi none p2) pos) rS (fun P => m fun x => n fun i => l fun j => P (cutS x i j)) := xe_of fun F0 H0 xl σ F H P Q S p q => by
  obtain ⟨tl, pl, wl⟩ := hl
  obtain ⟨th, ph, wh⟩ := hh
  refine use_e (pe_slice sl_str (run_pe X) pl ph) (xe_use h xl S p fun x v F1 H1 p1 e1 r1 => wl F0 H0 xl σ F1 H1 _ _ (S.up e1) p1 fun i F2 H2 p2 e2 => wh F0 H0 xl σ F2 H2 _ _ ((S.up e1).up e2) p2 fun j F3 H3 p3 e3 => ?_)
  exact ⟨x, r1.1, r1.2.1, q _ _ F3 H3 p3 ((e1.trans e2).trans e3) ⟨rfl, ok_cut r1.2 i j⟩⟩
/-! ### methods of texts -/
theorem ty_S : ∀ (y : Str) (v : V) (F H : Hp), Sub F H → rS.rep F v y → tyV K "str" v H := fun y v F H s h => by rw [h.1]; rfl
theorem s_starts : SemM K "str" rS (rCons rS rNil) (SA.im rB) (fun x xs H Q => ∃ a b, x = .str a ∧ xs = [.str b] ∧ Q (.bl (Txt.startswith a b)) H) (fun y x P => P (Txt.startswith y x.1)) := ⟨ty_S, fun y x v vs F H P Q s hy ⟨w, ws, e, hw, en⟩ p W => by
  cases en
  exact ⟨y, x.1, hy.1, by rw [e, hw.1], wish_im W p s rfl⟩⟩
theorem s_ends : SemM K "str" rS (rCons rS rNil) (SA.im rB) (fun x xs H Q => ∃ a b, x = .str a ∧ xs = [.str b] ∧ Q (.bl (Txt.endswith a b)) H) (fun y x P => P (Txt.endswith y x.1)) := ⟨ty_S, fun y x v vs F H P Q s hy ⟨w, ws, e, hw, en⟩ p W => by
  cases en
  exact ⟨y, x.1, hy.1, by rw [e, hw.1], wish_im W p s rfl⟩⟩
theorem s_starts3 : SemM K "str" rS (rCons rS (rCons Bv.rI rNil)) (SA.im rB) (fun x xs H Q => ∃ (a b : Str) (i : Int), x = .str a ∧ xs = [.str b, .int i] ∧ Q (.bl (Txt.startswith3 a b i)) H) (fun y x P => P (Txt.startswith3 y x.1 x.2.1)) := ⟨ty_S, fun y x v vs F H P Q s hy ⟨w, ws, e, hw, u, us, e2, eu, en⟩ p W => by
  cases en
  cases eu
  exact ⟨y, x.1, x.2.1, hy.1, by rw [e, e2, hw.1], wish_im W p s rfl⟩⟩
theorem s_ends4 : SemM K "str" rS (rCons rS (rCons Bv.rI (rCons Bv.rI rNil))) (SA.im rB) (fun x xs H Q => ∃ (a b : Str) (i j : Int), x = .str a ∧ xs = [.str b, .int i, .int j] ∧ Q (.bl (decide (fromIndex a.length i + b.length ≤ toIndexW a.length j) && Builtin.Str.subAt a b (toIndexW a.length j - b.length))) H)
    (fun y x P => P (decide (fromIndex y.length x.2.1 + x.1.length ≤ toIndexW y.length x.2.2.1) && Builtin.Str.subAt y x.1 (toIndexW y.length x.2.2.1 - x.1.length))) := ⟨ty_S, fun y x v vs F H P Q s hy ⟨w, ws, e, hw, u, us, e2, eu, t, ts, e3, et, en⟩ p W => by
  cases en
  cases eu
  cases et
  exact ⟨y, x.1, x.2.1, x.2.2.1, hy.1, by rw [e, e2, e3, hw.1], wish_im W p s rfl⟩⟩
theorem mem_join0 {ys : List Str} {c : Nat} (h : c ∈ (Txt.join (Str.ofString "") ys).cps.toList) : ∃ y ∈ ys, c ∈ y.cps.toList := by
  rw [join0] at h
  obtain ⟨l, hl, hc⟩ := List.mem_flatten.mp h
  obtain ⟨y, hy, rfl⟩ := List.mem_map.mp hl
  exact ⟨y, hy, hc⟩
theorem ok_join0 {ys : List Str} (ok : ∀ y ∈ ys, okS y) (h : (ys.map (·.length)).sum ≤ 16777216) : okS (Txt.join (Str.ofString "") ys) := by
  refine ⟨by rw [len_join]; exact h, ?_⟩
  show (Txt.join (Str.ofString "") ys).cps.all (· < 0x110000) = true
  refine Array.all_eq_true_iff_forall_mem.mpr fun c hc => ?_
  obtain ⟨y, my, hc⟩ := mem_join0 (Array.mem_toList_iff.mpr hc)
  exact Array.all_eq_true_iff_forall_mem.mp (ok y my).2 c (Array.mem_toList_iff.mp hc)
end Bv

/-! Bv8: more statements; defs and their calls -/
namespace Bv
open PySem PySem.Spec PyProof.Rows L2 L2.DX Gd
variable {X : Cx} {ε : Tk} {F0 H0 F H F' H' : Hp} {Γ Γ' Γw : List SA} {σ : L2.St} {e a b c tg iter o : Expr} {es : List Expr} {pos p : Pos} {α β γ δ O S : Type} {K : PySem.W.Frag} {r : Rep α} {q : Rep β} {rest ss : List Stmt} {ed : Ed O}
theorem s_join : SemM K "str" rS (rCons (rL K rS) rNil) (SA.im rS) (fun x xs H Q => ∃ a p, ∃ ys : List Str, x = .str a ∧ xs = [.ref p] ∧ (SqL K H p (ys.map V.str) ∨ SqT K H p (ys.map V.str)) ∧ (ys.map (·.length)).sum + ys.length * a.length ≤ 16777216 ∧ Q (.str (Txt.join a ys)) H)
    (fun y x P => (y = Str.ofString "" ∧ (x.1.map (·.length)).sum ≤ 16777216) ∧ P (Txt.join (Str.ofString "") x.1)) := ⟨ty_S, fun y x v vs F H P Q s hy ⟨w, ws, e, ⟨a, us, ea, hq, pr⟩, en⟩ p W => by
  obtain ⟨eu, ok⟩ := strs_of pr
  subst eu
  cases en
  obtain ⟨⟨e0, le⟩, p⟩ := p
  subst e0
  exact ⟨_, a, x.1, hy.1, by rw [e, ea], .inl (s.lst hq), by show _ + _ * 0 ≤ _; rw [Nat.mul_zero]; exact le, wish_im W p s ⟨rfl, ok_join0 ok le⟩⟩⟩
/-! ### several at once -/
/-- a, b = x, y -/
theorem xb_par {i j : Nat} {x y : Str} {px py pt : Pos} {kt k2 : Nat} {pt2 : Pos} {mk1 : α → SA} {mk2 : β → SA} {m1 : (α → Prop) → Prop} {m2 : (β → Prop) → Prop} {k : α → β → (O → Prop) → Prop} (hc : X.calm = true) (hN : X.N.Nodup) (hi : X.N[i]? = some x) (hj : X.N[j]? = some y) (hij : i ≠ j)
    (hx : X.env.scope.names.lookup x = some .local) (hy : X.env.scope.names.lookup y = some .local) (h1 : XV X ε Γ a mk1 m1) (h2 : XV X ε Γ b mk2 m2)
    (hw : swappedStores [.Tuple [.Name x px, .Name y py] kt pt] (.Tuple [a, b] k2 pt2) X.env = pure (some [x, y]))
    (t : ∀ u v, XB X ε ((Γ.set i (mk1 u)).set j (mk2 v)) rest ed (k u v)) (hs : starEach [a, b] X.env = (false, eval a X.env) :: starEach [b] X.env := by rfl) (hs' : starEach [b] X.env = (false, eval b X.env) :: starEach [] X.env := by rfl)
    (hsw : swapsWithSole [.Tuple [.Name x px, .Name y py] kt pt] (.Tuple [a, b] k2 pt2) pos.line X.env = pure false := by rfl) :
    XB X ε Γ (.Assign [.Tuple [.Name x px, .Name y py] kt pt] (.Tuple [a, b] k2 pt2) pos :: rest) ed (fun P => m1 fun u => m2 fun v => k u v P) := fun F0 H0 xl σ F H P D S p L =>
  seq_b (k := fun σ' H' => ∃ u v F', k u v P ∧ Stt F0 H0 ((Γ.set i (mk1 u)).set j (mk2 v)) σ' F' H' ∧ Go F H F' H')
    (use_s (ps_par hc hN hi hj hij hx hy (pa_cons (run_pe X) (pa_cons (run_pe X) pa_nil hs') hs) hw hsw) (show RunE X a σ H _ from h1 F0 H0 xl σ F H _ _ S p fun u v F1 H1 p1 e1 q1 f1 => h2 F0 H0 xl σ F1 H1 _ _ (S.up e1) p1 fun w z F2 H2 p2 e2 q2 f2 => ⟨v, z, rfl, u, w, F2, p2, by
      have S1 : Stt F0 H0 (Γ.set i (mk1 u)) (σ.set i (some v)) F1 H1 := (S.up e1).set q1 (S.fresh f1 e1)
      exact (S1.up e2).set q2 (S1.fresh f2 e2), (e1.trans e2).go S.sub⟩)) fun σ' H' q => by
    obtain ⟨u, v, F', kp, S', g'⟩ := q
    exact t u v F0 H0 xl σ' F' H' P D S' kp (L.mono g')

/-- targets by an expression's parts -/
theorem xb_asg {m : (α → Prop) → Prop} {sl : List Nat} {bind : α → List SA → List SA} {k : α → (O → Prop) → Prop} (h : XE X ε Γ e r m) (hg : XG X tg r sl bind) (t : ∀ x, XB X ε (bind x Γ) rest ed (k x)) (hs : swapsWithSole [tg] e pos.line X.env = pure false := by rfl) (hw : swappedStores [tg] e X.env = pure none := by rfl)
    (h1 : (assignEach [tg] X.env).map (·.2) = [assign tg X.env] := by rfl) : XB X ε Γ (.Assign [tg] e pos :: rest) ed (fun P => m fun x => k x P) := fun F0 H0 xl σ F H P D S p L =>
  seq_b (k := fun σ' H' => ∃ x F', k x P ∧ Stt F0 H0 (bind x Γ) σ' F' H' ∧ Go F H F' H') (use_s (ps_asg (run_pe X) run_pg hs hw h1) (show RunE X e σ H _ from xe_use h xl S p fun x v F1 H1 p1 e1 r1 => hg.run v x F0 H0 Γ σ F1 H1 _ (S.up e1) r1 fun σ' S' _ => ⟨x, F1, p1, S', e1.go S.sub⟩)) fun σ' H' q => by
    obtain ⟨x, F', kp, S', g'⟩ := q
    exact t x F0 H0 xl σ' F' H' P D S' kp (L.mono g')
/-! ### an owned thing is changed -/
theorem Stt.poke {i : Nat} {A B : SA} {D : Addr} {u : HO} (S : Stt F0 H0 Γ σ F H) (hi : Γ[i]? = some A) (ho : A.own = true) (hs : σ[i]? = some (some (.ref D))) (hu : ∀ ps, u ≠ .tbl ps) (hB : B.holds F (upd H D u) (some (.ref D))) : Stt F0 H0 (Γ.set i B) σ F (upd H D u) := by
  obtain ⟨n1, n2⟩ := S.own i A D hi ho hs
  have ltG : i < Γ.length := by
    rcases Nat.lt_or_ge i Γ.length with k | k
    · exact k
    · rw [List.getElem?_eq_none k] at hi
      cases hi
  have fix : ∀ {j : Nat} {C : SA}, (Γ.set i B)[j]? = some C → C.own = true → ∃ C', Γ[j]? = some C' ∧ C'.own = true := fun {j C} hb o => by
    by_cases z : i = j
    · subst z
      exact ⟨A, hi, ho⟩
    · rw [List.getElem?_set_ne z] at hb
      exact ⟨C, hb, o⟩
  refine ⟨S.ext.side n2 n1, by rw [List.length_set]; exact S.len, fun j C hb => ?_, fun j C a hb o qa => ?_, fun j k C C2 a h1 h2 o1 o2 q1 q2 => ?_⟩
  · by_cases z : i = j
    · subst z
      rw [List.getElem?_set_self ltG] at hb
      cases hb
      exact ⟨_, hs, hB⟩
    · rw [List.getElem?_set_ne z] at hb
      obtain ⟨s, h1, h2⟩ := S.at_ j C hb
      refine ⟨s, h1, ?_⟩
      exact holds_keep (Same.refl _) (fun a' u' o e h _ => by
        have : a' ≠ D := fun w => by
          subst w
          exact z (S.inj i j A _ a' hi hb ho o hs (by rw [h1, e]))
        rw [upd_ne this]
        exact h) h2
  · obtain ⟨C', h1, o'⟩ := fix hb o
    exact S.own j C' a h1 o' qa
  · obtain ⟨C', h1', o1'⟩ := fix h1 o1
    obtain ⟨C2', h2', o2'⟩ := fix h2 o2
    exact S.inj j k C' C2' a h1' h2' o1' o2' q1 q2
theorem Go.side {F1 H1 : Hp} (g : Go F H F1 H1) (s : Sub F H) {D : Addr} {u : HO} (n : F1 D = none) : Go F H F1 (upd H1 D u) := ⟨g.ff, fun b o e no v h => by
  have : b ≠ D := fun z => by
    subst z
    rw [g.ff b o e] at n
    cases n
  rw [upd_ne this]
  exact g.hb b o e no v h⟩
theorem boot_ok : True := trivial
/-- xs.append(e) -/
theorem xb_append {i : Nat} {x : Str} {px apos cpos : Pos} {xs : List α} {m : (α → Prop) → Prop} {k : α → (O → Prop) → Prop} (hK : X.K = K) (hi : Γ[i]? = some (.ol r xs)) (hN : X.N[i]? = some x) (hv : Vis X.env.scope x) (h : XE X ε Γ e r m) (t : ∀ y, XB X ε (Γ.set i (.ol r (xs ++ [y]))) rest ed (k y))
    (hd : (x == ("__debug__" : Str)) = false := by decide) (hcd : (x == ("__classdict__" : Str)) = false := by decide) (hbase : attributeBase (.Name x px) "append" X.env (eval (.Name x px) X.env) = eval (.Name x px) X.env := by rfl)
    (hfew : ((backTo cpos (starEach [e] X.env)).all (fun x => !x.1) && (backToKw cpos (keywordEach [] X.env)).all (fun x => x.1.isSome)
      && decide (([e]).length + ([] : List Keyword).length + (if ([] : List Keyword).isEmpty then 0 else 1) < 30)) = true := by rfl)
    (hline : (apos.endLine == cpos.line) = true := by rfl) (hs : starEach [e] X.env = (false, eval e X.env) :: starEach [] X.env := by rfl) (hplain : (backTo cpos (starEach [] X.env)).any (·.1) = false := by rfl) (hsw : swapsWith (.Call (.Attribute (.Name x px) "append" apos) [e] [] cpos) none pos.line X.env = pure false := by intros; rfl) :
    XB X ε Γ (.Expr (.Call (.Attribute (.Name x px) "append" apos) [e] [] cpos) pos :: rest) ed (fun P => m fun y => xs.length < 16777216 ∧ k y P) := fun F0 H0 xl σ F H P D S p L =>
  seq_b (k := fun σ' H' => ∃ y F', k y P ∧ Stt F0 H0 (Γ.set i (.ol r (xs ++ [y]))) σ' F' H' ∧ Go F H F' H')
    (use_s (ps_expr (pe_bm PySem.F.plainAttrs_list PySem.F.slot_list_append PySem.F.type_list_append mt_append (pe_var hN hv hd hcd) (pa_cons (run_pe X) pa_nil hs) hbase hfew hline hs hplain) hsw) (by
      obtain ⟨s, h1, a, vs, rfl, ha, pr⟩ := S.at_ i _ hi
      refine ⟨.ref a, h1, .inl ⟨rfl, vs, .inl (.inl ha)⟩, xe_use h xl S p fun y v F1 H1 p1 e1 r1 => ?_⟩
      have S1 := S.up e1
      have ha1 := e1.hh _ _ ha (fun _ z => by cases z)
      refine ⟨a, vs, v, rfl, rfl, ha1, by rw [Paired.len pr]; exact p1.1, y, F1, p1.2, S1.poke hi rfl h1 (fun _ z => by cases z) ⟨a, _, rfl, upd_same, pr_app (r.ups e1.ff pr) r1⟩, (e1.go S.sub).side S.sub (S1.own i _ a hi rfl h1).1⟩)) fun σ' H' q => by
    obtain ⟨y, F', kp, S', g'⟩ := q
    exact t y F0 H0 xl σ' F' H' P D S' kp (L.mono g')
/-- xs[i] = e -/
theorem xb_store {i : Nat} {x : Str} {px spos : Pos} {xs : List α} {m : (α → Prop) → Prop} {n : (Int → Prop) → Prop} {k : α → Nat → (O → Prop) → Prop} (hi : Γ[i]? = some (.ol r xs)) (hN : X.N[i]? = some x) (hv : Vis X.env.scope x) (h : XE X ε Γ e r m) (hx : XE X ε Γ a Bv.rI n) (t : ∀ y j, XB X ε (Γ.set i (.ol r (xs.set j y))) rest ed (k y j))
    (hd : (x == ("__debug__" : Str)) = false := by decide) (hcd : (x == ("__classdict__" : Str)) = false := by decide)
    (hs : swapsWithSole [.Subscript (.Name x px) a spos] e pos.line X.env = pure false := by rfl) (hw : swappedStores [.Subscript (.Name x px) a spos] e X.env = pure none := by rfl) (h1 : (assignEach [.Subscript (.Name x px) a spos] X.env).map (·.2) = [assign (.Subscript (.Name x px) a spos) X.env] := by rfl)
    (ha : ∀ v, assign (.Subscript (.Name x px) a spos) X.env v = (do
      let ov ← holding [v] (eval (.Name x px) X.env)
      let iv ← holding [v, ov] (eval a X.env)
      standAt spos
      holding [v, ov, iv] (setItem ov iv v)
      release [v, ov, iv] []) := by intro _; rfl) :
    XB X ε Γ (.Assign [.Subscript (.Name x px) a spos] e pos :: rest) ed (fun P => m fun y => n fun z => ∃ j, ixN xs.length z = some j ∧ k y j P) := fun F0 H0 xl σ F H P D S p L =>
  seq_b (k := fun σ' H' => ∃ y j F', k y j P ∧ Stt F0 H0 (Γ.set i (.ol r (xs.set j y))) σ' F' H' ∧ Go F H F' H')
    (use_s (ps_asg (run_pe X) (pg_sub (pe_var hN hv hd hcd) (run_pe X) set_list ha) hs hw h1) (by
      obtain ⟨s, h1, a, vs, rfl, ha, pr⟩ := S.at_ i _ hi
      refine xe_use h xl S p fun y v F1 H1 p1 e1 r1 => ⟨.ref a, h1, xe_use hx xl (S.up e1) p1 fun z w F2 H2 p2 e2 r2 => ?_⟩
      obtain ⟨j, hj, p2⟩ := p2
      have e12 := e1.trans e2
      have S2 := S.up e12
      have ha2 := e12.hh _ _ ha (fun _ z => by cases z)
      have pr2 := r.ups e12.ff pr
      refine ⟨a, vs, z, j, rfl, r2, ha2, by rw [Paired.len pr]; exact hj, y, j, F2, p2, S2.poke hi rfl h1 (fun _ z => by cases z) ⟨a, _, rfl, upd_same, ?_⟩, (e12.go S.sub).side S.sub (S2.own i _ a hi rfl h1).1⟩
      have st : ∀ {vs : List V} {xs : List α} (j : Nat), Paired (r.rep F2) vs xs → Paired (r.rep F2) (vs.set j v) (xs.set j y) := by
        intro vs xs j pr
        induction pr generalizing j with
        | nil => exact .nil
        | cons h t ih => cases j with
          | zero => exact .cons (r.up e2.ff r1) t
          | succ j => exact .cons h (ih j)
      exact st j pr2)) fun σ' H' q => by
    obtain ⟨y, j, F', kp, S', g'⟩ := q
    exact t y j F0 H0 xl σ' F' H' P D S' kp (L.mono g')
/-! ### defs -/
/-- a def that tells what m says -/
def spA {A : Type} (R : Rps A) (rr : Rep γ) (m : A → (γ → Prop) → Prop) : Sp := fun vs H Q _ => ∃ (F : Hp) (x : A) (P : γ → Prop), Sub F H ∧ R.rep F vs x ∧ m x P ∧ ∀ z v F' H', P z → Ext F H F' H' → rr.rep F' v z → Q v H'
/-- the ends of a def's body -/
def Ed.fn (rr : Rep γ) : Ed γ where
  nx := fun _ o => ∀ F, rr.rep F .non o
  rt := fun F v o => rr.rep F v o
  bk := fun _ _ => False
  ct := fun _ _ => False
/-- the slots at the entry -/
def Rps.at (R : Rps β) (n : Nat) (Γ0 : β → List SA) : Prop := ∀ (F H : Hp) (vs : List V) (x : β), R.rep F vs x → vs.length ≤ n ∧ (Γ0 x).length = n ∧ ∀ (i : Nat) (A : SA), (Γ0 x)[i]? = some A → A.own = false ∧ ∃ s, (vs.map some ++ List.replicate (n - vs.length) none)[i]? = some s ∧ A.holds F H s
theorem at_nil {n : Nat} : rNil.at n (fun _ => List.replicate n .no) := fun F H vs x h => by
  subst h
  refine ⟨Nat.zero_le _, List.length_replicate, fun i A hA => ?_⟩
  rw [List.getElem?_replicate] at hA
  split at hA
  · next lt =>
    cases hA
    refine ⟨rfl, none, ?_, True.intro⟩
    show (List.replicate (n - 0) none)[i]? = _
    rw [List.getElem?_replicate, if_pos (by omega)]
  · cases hA
theorem at_cons {R : Rps β} {n : Nat} {Γ0 : β → List SA} (h : R.at n Γ0) : (rCons r R).at (n + 1) (fun x => .im r x.1 :: Γ0 x.2) := fun F H vs x ⟨v, ws, e, h1, h2⟩ => by
  subst e
  obtain ⟨l1, l2, l3⟩ := h F H ws x.2 h2
  refine ⟨Nat.succ_le_succ l1, by rw [List.length_cons, l2], fun i A hA => ?_⟩
  cases i with
  | zero =>
    cases hA
    exact ⟨rfl, some v, rfl, v, rfl, h1⟩
  | succ i =>
    obtain ⟨o, s, g1, g2⟩ := l3 i A hA
    refine ⟨o, s, ?_, g2⟩
    show (ws.map some ++ List.replicate (n + 1 - (ws.length + 1)) none)[i]? = _
    rw [Nat.add_sub_add_right]
    exact g1
theorem start_stt {R : Rps β} {N : List Str} {Γ0 : β → List SA} (hR : R.at N.length Γ0) {vs : List V} {x : β} (h : R.rep F vs x) (s : Sub F H) : Stt F H (Γ0 x) (L2.start N vs) F H := by
  obtain ⟨l1, l2, l3⟩ := hR F H vs x h
  refine ⟨Ext.refl s, ?_, fun i A hA => (l3 i A hA).2, fun i A a hA o => ?_, fun i j A B a h1 _ o1 => ?_⟩
  · unfold L2.start
    rw [List.length_append, List.length_map, List.length_replicate, l2]
    omega
  · rw [(l3 i A hA).1] at o
    cases o
  · rw [(l3 i A h1).1] at o1
    cases o1
variable {P : Program} {w : World} {mg : Str → Option Value} {base : Heap}
theorem lnk_fn {rr : Rep γ} {Pz : γ → Prop} {Q : VK} (hz : ∀ z v F' H', Pz z → Ext F H F' H' → rr.rep F' v z → Q v H') : Lnk F H F H (Ed.fn rr) Pz { nx := fun _ H' => Q .non H', rt := Q } where
  nx := fun o Γ σ F' H' p nx S _ => hz o .non F' H' p S.ext (nx F')
  rt := fun o v F' H' p rt e _ => hz o v F' H' p e rt
  bk := fun _ _ _ _ _ _ z _ _ => z.elim
  ct := fun _ _ _ _ _ _ z _ _ => z.elim
/-- a law's def (repr is allowed in it) -/
theorem okGB {A : Type} {x qual : Str} {st : Stmt} {f : Addr} {fd : FuncData} {N ps : List Str} {k : Nat} {R : Rps A} {rr : Rep γ} {m : A → (γ → Prop) → Prop} {Γ0 : A → List SA} (Fn : Fun K x qual st f fd) (Sc : FnScope N ps (defScope st)) (hR : R.at N.length Γ0) (hl : ∀ F vs x, R.rep F vs x → vs.length = ps.length)
    (hb : ∀ (cdv : Value) (A : Around) (outer : List Env) (s : Shared) (H : Hp) (E : XK), Rm k (A.deeper (envOfC qual (defScope st) s.heap.objs.size f cdv)) → ∀ y, XB (cxOf CX0 P w K mg base N qual (defScope st) f cdv A outer s H E).nox Tk0 (Γ0 y) (defBody st) (Ed.fn rr) (m y)) : FnG P w K mg base CX0 (k + 1) f fd ps (spA R rr m) :=
  okG Fn Sc (fun vs H Q E ⟨F, y, Pz, s, h, _⟩ => hl F vs y h) fun cdv A outer s H vs Q E hr hg ⟨F, y, Pz, sb, h, p, hz⟩ =>
    ⟨_, run_pss, hb cdv A outer s H E ⟨hr, hg⟩ y F H xlk0 _ F H Pz _ (start_stt hR h sb) p (lnk_fn hz)⟩
/-- a def of the program -/
theorem okB {A : Type} {x qual : Str} {st : Stmt} {f : Addr} {fd : FuncData} {N ps : List Str} {k : Nat} {R : Rps A} {rr : Rep γ} {m : A → (γ → Prop) → Prop} {Γ0 : A → List SA} (Fn : Fun K x qual st f fd) (Sc : FnScope N ps (defScope st)) (hR : R.at N.length Γ0) (hl : ∀ F vs x, R.rep F vs x → vs.length = ps.length)
    (hb : ∀ (cdv : Value) (A : Around) (outer : List Env) (s : Shared) (H : Hp) (E : XK), Room k (A.deeper (envOfC qual (defScope st) s.heap.objs.size f cdv)) → ∀ y, XB (cxOf CX0 P w K mg base N qual (defScope st) f cdv A outer s H E).nox Tk0 (Γ0 y) (defBody st) (Ed.fn rr) (m y)) : FnOk P w K mg base CX0 (k + 1) f fd ps (spA R rr m) :=
  Fn.ok Sc (fun vs H Q E ⟨F, y, Pz, s, h, _⟩ => hl F vs y h) fun cdv A outer s H vs Q E hr ⟨F, y, Pz, sb, h, p, hz⟩ =>
    ⟨_, run_pss, hb cdv A outer s H E hr y F H xlk0 _ F H Pz _ (start_stt hR h sb) p (lnk_fn hz)⟩
/-- f(e, ..) -/
theorem xe_callG {A : Type} {x : Str} {ps : List Str} {k : Nat} {R : Rps A} {rr : Rep γ} {m : A → (γ → Prop) → Prop} {mm : (A → Prop) → Prop} (D : Df X.prog X.w X.K X.mg X.base k x ps (spA R rr m)) (hr : Rm k X.A) (hg : Gl X x) (ha : XA X ε Γ (e :: es) R mm) (hdb : (x == ("__debug__" : Str)) = false := by decide)
    (he : starEach (e :: es) X.env = (false, eval e X.env) :: starEach es X.env := by rfl) (hpl : (backTo pos (starEach es X.env)).any (·.1) = false := by rfl) : XE X ε Γ (.Call (.Name x p) (e :: es) [] pos) rr (fun P => mm fun y => m y P) := xe_of fun F0 H0 xl σ F H P Q S pp q =>
  use_e (pe_callD D hr hg (run_pa X) hdb he hpl) (ha F0 H0 xl σ F H _ _ S pp fun y vs F1 H1 p1 e1 r1 => by
    show spA R rr m (vs ++ []) H1 Q E0
    rw [List.append_nil]
    exact ⟨F1, y, P, e1.fh, r1, p1, fun z v F' H' pz ez hz => q z v F' H' pz (e1.trans ez) hz⟩)
theorem xe_callN {A : Type} {x : Str} {ps : List Str} {k : Nat} {R : Rps A} {rr : Rep γ} {m : A → (γ → Prop) → Prop} {mm : (A → Prop) → Prop} (D : Dn X.prog X.w X.K X.mg X.base k x ps (spA R rr m)) (hr : Room k X.A) (hg : Gl X x) (ha : XA X ε Γ (e :: es) R mm) (hdb : (x == ("__debug__" : Str)) = false := by decide)
    (he : starEach (e :: es) X.env = (false, eval e X.env) :: starEach es X.env := by rfl) (hpl : (backTo pos (starEach es X.env)).any (·.1) = false := by rfl) : XE X ε Γ (.Call (.Name x p) (e :: es) [] pos) rr (fun P => mm fun y => m y P) := xe_of fun F0 H0 xl σ F H P Q S pp q =>
  use_e (pe_callN D hr hg (run_pa X) hdb he hpl) (ha F0 H0 xl σ F H _ _ S pp fun y vs F1 H1 p1 e1 r1 => by
    show spA R rr m (vs ++ []) H1 Q E0
    rw [List.append_nil]
    exact ⟨F1, y, P, e1.fh, r1, p1, fun z v F' H' pz ez hz => q z v F' H' pz (e1.trans ez) hz⟩)
end Bv

/-! Bv9: dicts whose keys are texts -/
namespace Bv
open PySem PySem.Spec PyProof.Rows L2 L2.DX Gd
variable {X : Cx} {ε : Tk} {F0 H0 F H F' H' : Hp} {Γ Γ' Γw : List SA} {σ : L2.St} {e a b c d tg iter o : Expr} {es : List Expr} {pos p : Pos} {α β γ δ O S : Type} {K : PySem.W.Frag} {r : Rep α} {q : Rep β} {rest ss body : List Stmt} {ed : Ed O} {st : Stmt}
theorem pd_look {z : Str} : ∀ {kvs : List (Key × V)} {L : List (Str × α)}, PD r F kvs L → (valV kvs (Sum.inr z) = none ∧ L.lookup z = none) ∨ ∃ v x, valV kvs (Sum.inr z) = some v ∧ L.lookup z = some x ∧ r.rep F v x
  | _, _, .nil => .inl ⟨rfl, rfl⟩
  | (k, v) :: _, (y, x) :: _, .cons h t => by
    obtain ⟨⟨e, ok⟩, hr⟩ := h
    have e : k = Sum.inr y := e
    by_cases q : z = y
    · subst q
      exact .inr ⟨v, x, valV_pos e, List.lookup_cons_self, hr⟩
    · rw [valV_neg (p := (k, v)) (by rw [e]; exact fun z => q (Sum.inr.inj z).symm), List.lookup_cons, show (z == y) = false from beq_eq_false_iff_ne.mpr q]
      exact pd_look t
/-- d[k] = v -/
def putD (L : List (Str × α)) (k : Str) (v : α) : List (Str × α) := if (L.any fun p => decide (p.1 = k)) = true then L.map (fun p => if p.1 = k then (p.1, v) else p) else L ++ [(k, v)]
theorem putD_int {L : List (Str × Int)} {k : Str} {v : Int} : putD L k v = putP L k v := rfl
theorem pd_any {z : Str} : ∀ {kvs : List (Key × V)} {L : List (Str × α)}, PD r F kvs L → (kvs.any fun p => decide (p.1 = Sum.inr z)) = L.any fun p => decide (p.1 = z)
  | _, _, .nil => rfl
  | (k, v) :: _, (y, x) :: _, .cons h t => by
    obtain ⟨⟨e, ok⟩, hr⟩ := h
    have e : k = Sum.inr y := e
    rw [List.any_cons, List.any_cons, pd_any t]
    congr 1
    show decide (k = _) = decide (y = z)
    rw [e]
    exact decide_eq_decide.mpr ⟨Sum.inr.inj, fun h => by rw [h]⟩
theorem pd_put {z : Str} {v : V} {x : α} {kvs : List (Key × V)} {L : List (Str × α)} (h : PD r F kvs L) (hz : okS z) (hr : r.rep F v x) : PD r F (putK kvs (Sum.inr z) v) (putD L z x) := by
  unfold putK putD
  rw [pd_any h]
  split
  · have go : ∀ {kvs : List (Key × V)} {L : List (Str × α)}, PD r F kvs L → PD r F (kvs.map fun kv => if kv.1 = Sum.inr z then (kv.1, v) else kv) (L.map fun p => if p.1 = z then (p.1, x) else p) := by
      intro kvs L h
      induction h with
      | nil => exact .nil
      | @cons kv ye kvs L h t ih =>
        refine .cons ?_ ih
        obtain ⟨⟨e, ok⟩, h2⟩ := h
        show (((if kv.1 = Sum.inr z then (kv.1, v) else kv) : Key × V).1 = Sum.inr ((if ye.1 = z then (ye.1, x) else ye) : Str × α).1 ∧ okS ((if ye.1 = z then (ye.1, x) else ye) : Str × α).1) ∧ r.rep F ((if kv.1 = Sum.inr z then (kv.1, v) else kv) : Key × V).2 ((if ye.1 = z then (ye.1, x) else ye) : Str × α).2
        by_cases q : ye.1 = z
        · rw [if_pos q, if_pos (by rw [e, q])]
          exact ⟨⟨e, ok⟩, hr⟩
        · rw [if_neg q, if_neg (by rw [e]; exact fun w => q (Sum.inr.inj w))]
          exact ⟨⟨e, ok⟩, h2⟩
    exact go h
  · exact pr_app h ⟨⟨rfl, hz⟩, hr⟩
theorem nodup_putD {L : List (Str × α)} {k : Str} {v : α} (nd : (L.map (·.1)).Nodup) : ((putD L k v).map (·.1)).Nodup := by
  unfold putD
  split
  · rw [List.map_map]
    have : ((fun p : Str × α => p.1) ∘ fun p => if p.1 = k then (p.1, v) else p) = fun p => p.1 := by
      funext p
      show (if p.1 = k then (p.1, v) else p).1 = p.1
      split <;> rfl
    rw [this]
    exact nd
  · next h =>
    rw [List.map_append]
    refine List.nodup_append.mpr ⟨nd, by simp, fun x hx y hy e => ?_⟩
    obtain rfl : y = k := by simpa using hy
    obtain ⟨p, m, ep⟩ := List.mem_map.mp hx
    exact h (List.any_eq_true.mpr ⟨p, m, decide_eq_true (ep.trans e)⟩)
theorem pd_ints : ∀ {kvs : List (Key × V)} {L : List (Str × Int)}, PD Bv.rI F kvs L → kvs = pr L
  | _, _, .nil => rfl
  | (k, v) :: _, (y, x) :: _, .cons h t => by
    obtain ⟨⟨e, ok⟩, hr⟩ := h
    have e : k = Sum.inr y := e
    have hr : v = .int x := hr
    rw [e, hr, pd_ints t]
    rfl
theorem pd_of_ints : ∀ {L : List (Str × Int)}, (∀ e ∈ L, okS e.1) → PD Bv.rI F (pr L) L
  | [], _ => .nil
  | _ :: _, h => .cons ⟨⟨rfl, h _ List.mem_cons_self⟩, rfl⟩ (pd_of_ints fun e m => h e (List.mem_cons_of_mem _ m))
theorem pd_ok {kvs : List (Key × V)} {L : List (Str × α)} (h : PD r F kvs L) : ∀ e ∈ L, okS e.1 := by
  induction h with
  | nil => exact fun _ h => (nomatch h)
  | cons h t ih => exact fun e m => (List.mem_cons.mp m).elim (fun z => z ▸ h.1.2) (ih e)
theorem pd_keys {kvs : List (Key × V)} {L : List (Str × α)} (h : PD r F kvs L) : ∀ z ∈ L.map (·.1), okS z := fun z m => by
  obtain ⟨e, me, rfl⟩ := List.mem_map.mp m
  exact pd_ok h e me
theorem PD.up {kvs : List (Key × V)} {L : List (Str × α)} (h : PD r F kvs L) (s : Same F F') : PD r F' kvs L := Paired.mapP h fun x y h => ⟨h.1, r.up s h.2⟩
theorem xe_dnew : XV X ε Γ (.Dict [] [] pos) (SA.od r) (fun P => P []) := fun F0 H0 xl σ F H P Q S p q =>
  use_e pe_dnewK fun D hD => q [] (.ref D) F _ p (Ext.grow S.sub (same_new hD)) ⟨D, [], rfl, upd_same, .nil, .nil⟩ fun _ a ea => by
    cases ea
    exact ⟨S.sub.there hD, hD⟩
/-- a dict that nobody changes any more -/
theorem xv_d {m : (List (Str × α) → Prop) → Prop} (h : XV X ε Γ e (SA.od r) m) : XE X ε Γ e (rD r) m := xe_of fun F0 H0 xl σ F H P Q S p q =>
  h F0 H0 xl σ F H P Q S p fun x v F' H' px ex hx fr => by
    obtain ⟨a, vs, ea, ha, nd, pr⟩ := hx
    cases ea
    obtain ⟨n1, n2⟩ := fr rfl a rfl
    have sm : Same F' (upd F' a (.dK vs)) := same_new n1
    refine q x (.ref a) (upd F' a (.dK vs)) H' px ⟨ex.ff.trans sm, ex.hh, ex.no, fun b o e => ?_, fun b o e n => ?_⟩ ⟨a, vs, rfl, .inl upd_same, nd, PD.up pr sm⟩
    · by_cases z : b = a
      · subst z
        rw [upd_same] at e
        cases e
        exact .inl ha
      · rw [upd_ne z] at e
        exact ex.fh b o e
    · by_cases z : b = a
      · subst z
        exact n2
      · rw [upd_ne z] at e
        exact ex.new b o e n
/-- d[k] -/
def atD (L : List (Str × α)) (z : Str) (P : α → Prop) : Prop := ∃ x, L.lookup z = some x ∧ P x
theorem xe_dget {m : (List (Str × α) → Prop) → Prop} {n : (Str → Prop) → Prop} (hu : X.A.units + 1 < cLine) (h : XE X ε Γ d (rD r) m) (t : XE X ε Γ b rS n) (hs : NoSl b) : XE X ε Γ (.Subscript d b pos) r (fun P => m fun L => n fun z => atD L z P) := xe_of fun F0 H0 xl σ F H P Q S p k =>
  use_e (pe_dget hu (run_pe X) (run_pe X) hs) (xe_use h xl S p fun L v F1 H1 p1 e1 ⟨a, kvs, ev, hd, nd, pd⟩ => xe_use t xl (S.up e1) p1 fun z w F2 H2 p2 e2 r2 => by
    obtain ⟨x, hx, p2⟩ := p2
    rcases pd_look (z := z) (PD.up pd e2.ff) with ⟨_, n⟩ | ⟨u, y, h1, h2, hr⟩
    · rw [hx] at n
      cases n
    · rw [hx] at h2
      cases h2
      exact ⟨a, u, ev, .inl ⟨kvs, Sum.inr z, e2.fh.rd (hd.elim (fun h => .inl (e2.ff _ _ h)) fun ⟨o, h⟩ => .inr ⟨o, e2.ff _ _ h⟩), r2.1, h1.symm⟩, k x u F2 H2 p2 (e1.trans e2) hr⟩)
theorem xt_din {m : (List (Str × α) → Prop) → Prop} {n : (Str → Prop) → Prop} (hu : X.A.units + 1 < cLine) (t : XE X ε Γ a rS n) (h : XE X ε Γ b (rD r) m) (h1 : behindInMarks .In b = false := by rfl) : XT X ε Γ (.Compare a [.In] [b] pos) (fun P => n fun z => m fun L => P (L.lookup z).isSome) := fun F0 H0 xl σ F H P Q S p k =>
  use_t (pt_cmp (pc_din hu (run_pe X) (run_pe X)) h1) (xe_use t xl S p fun z w F1 H1 p1 e1 r1 => xe_use h xl (S.up e1) p1 fun L v F2 H2 p2 e2 ⟨a, kvs, ev, hd, nd, pd⟩ => by
    refine ⟨a, _, ev, .inl ⟨kvs, Sum.inr z, e2.fh.rd hd, r1.1, rfl⟩, _, rfl, ?_⟩
    have : (valV kvs (Sum.inr z)).isSome = (L.lookup z).isSome := by
      rcases pd_look (z := z) pd with ⟨h1, h2⟩ | ⟨u, y, h1, h2, _⟩
      · rw [h1, h2]; rfl
      · rw [h1, h2]; rfl
    rw [this]
    exact k _ F2 H2 p2 (e1.trans e2))
theorem xe_din {m : (List (Str × α) → Prop) → Prop} {n : (Str → Prop) → Prop} (hu : X.A.units + 1 < cLine) (t : XE X ε Γ a rS n) (h : XE X ε Γ b (rD r) m) (h1 : behindInMarks .In b = false := by rfl) : XE X ε Γ (.Compare a [.In] [b] pos) rB (fun P => n fun z => m fun L => P (L.lookup z).isSome) := xe_of fun F0 H0 xl σ F H P Q S p k =>
  use_e (pe_cmp (pc_din hu (run_pe X) (run_pe X)) h1) (xe_use t xl S p fun z w F1 H1 p1 e1 r1 => xe_use h xl (S.up e1) p1 fun L v F2 H2 p2 e2 ⟨a, kvs, ev, hd, nd, pd⟩ => by
    refine ⟨a, _, ev, .inl ⟨kvs, Sum.inr z, e2.fh.rd hd, r1.1, rfl⟩, ?_⟩
    have : (valV kvs (Sum.inr z)).isSome = (L.lookup z).isSome := by
      rcases pd_look (z := z) pd with ⟨h1, h2⟩ | ⟨u, y, h1, h2, _⟩
      · rw [h1, h2]; rfl
      · rw [h1, h2]; rfl
    exact k _ _ F2 H2 p2 (e1.trans e2) (by rw [this]; rfl))
theorem xt_dnotin {m : (List (Str × α) → Prop) → Prop} {n : (Str → Prop) → Prop} (hu : X.A.units + 1 < cLine) (t : XE X ε Γ a rS n) (h : XE X ε Γ b (rD r) m) (h1 : behindInMarks .NotIn b = false := by rfl) : XT X ε Γ (.Compare a [.NotIn] [b] pos) (fun P => n fun z => m fun L => P (!(L.lookup z).isSome)) := fun F0 H0 xl σ F H P Q S p k =>
  use_t (pt_cmp (pc_dnotin hu (run_pe X) (run_pe X)) h1) (xe_use t xl S p fun z w F1 H1 p1 e1 r1 => xe_use h xl (S.up e1) p1 fun L v F2 H2 p2 e2 ⟨a, kvs, ev, hd, nd, pd⟩ => by
    refine ⟨a, _, ev, .inl ⟨kvs, Sum.inr z, e2.fh.rd hd, r1.1, rfl⟩, _, rfl, ?_⟩
    have : (valV kvs (Sum.inr z)).isSome = (L.lookup z).isSome := by
      rcases pd_look (z := z) pd with ⟨h1, h2⟩ | ⟨u, y, h1, h2, _⟩
      · rw [h1, h2]; rfl
      · rw [h1, h2]; rfl
    rw [this]
    exact k _ F2 H2 p2 (e1.trans e2))
theorem xe_dnotin {m : (List (Str × α) → Prop) → Prop} {n : (Str → Prop) → Prop} (hu : X.A.units + 1 < cLine) (t : XE X ε Γ a rS n) (h : XE X ε Γ b (rD r) m) (h1 : behindInMarks .NotIn b = false := by rfl) : XE X ε Γ (.Compare a [.NotIn] [b] pos) rB (fun P => n fun z => m fun L => P (!(L.lookup z).isSome)) := xe_of fun F0 H0 xl σ F H P Q S p k =>
  use_e (pe_cmp (pc_dnotin hu (run_pe X) (run_pe X)) h1) (xe_use t xl S p fun z w F1 H1 p1 e1 r1 => xe_use h xl (S.up e1) p1 fun L v F2 H2 p2 e2 ⟨a, kvs, ev, hd, nd, pd⟩ => by
    refine ⟨a, _, ev, .inl ⟨kvs, Sum.inr z, e2.fh.rd hd, r1.1, rfl⟩, ?_⟩
    have : (valV kvs (Sum.inr z)).isSome = (L.lookup z).isSome := by
      rcases pd_look (z := z) pd with ⟨h1, h2⟩ | ⟨u, y, h1, h2, _⟩
      · rw [h1, h2]; rfl
      · rw [h1, h2]; rfl
    exact k _ _ F2 H2 p2 (e1.trans e2) (by rw [this]; rfl))
/-- d.get(k, x) -/
theorem xe_dget2 {apos cpos : Pos} {m : (List (Str × α) → Prop) → Prop} {n : (Str → Prop) → Prop} {l : (α → Prop) → Prop} (hu : X.A.units + 1 < cLine) (h : XE X ε Γ d (rD r) m) (t : XE X ε Γ a rS n) (t2 : XE X ε Γ b r l) (mm : M2 X d "get" apos a b cpos) :
    XE X ε Γ (.Call (.Attribute d "get" apos) [a, b] [] cpos) r (fun P => m fun L => n fun z => l fun x => P ((L.lookup z).getD x)) := xe_of fun F0 H0 xl σ F H P Q S p k =>
  use_e (pe_dget2 hu (run_pe X) (run_pe X) (run_pe X) mm) (xe_use h xl S p fun L v F1 H1 p1 e1 ⟨a, kvs, ev, hd, nd, pd⟩ => ⟨a, ev, .inl ⟨kvs, e1.fh.rd hd⟩, xe_use t xl (S.up e1) p1 fun z w F2 H2 p2 e2 r2 => xe_use t2 xl ((S.up e1).up e2) p2 fun x u F3 H3 p3 e3 r3 => by
    have e23 := e2.trans e3
    refine ⟨_, .inl ⟨kvs, Sum.inr z, e3.fh.rd (hd.elim (fun h => .inl (e23.ff _ _ h)) fun ⟨o, h⟩ => .inr ⟨o, e23.ff _ _ h⟩), r2.1, rfl⟩, ?_⟩
    rcases pd_look (z := z) (PD.up pd e23.ff) with ⟨h1, h2⟩ | ⟨u', y, h1, h2, hr⟩
    · rw [h1]
      rw [h2] at p3
      exact k x u F3 H3 p3 (e1.trans e23) r3
    · rw [h1]
      rw [h2] at p3
      exact k y u' F3 H3 p3 (e1.trans e23) hr⟩)
/-- d[k] = e -/
theorem xb_dput {i : Nat} {x : Str} {px spos : Pos} {L0 : List (Str × α)} {m : (α → Prop) → Prop} {n : (Str → Prop) → Prop} {k : α → Str → (O → Prop) → Prop} (hu : X.A.units + 1 < cLine) (hi : Γ[i]? = some (.od r L0)) (hN : X.N[i]? = some x) (hv : Vis X.env.scope x) (h : XE X ε Γ e r m) (hx : XE X ε Γ a rS n) (t : ∀ y z, XB X ε (Γ.set i (.od r (putD L0 z y))) rest ed (k y z))
    (hs : swapsWith e (some (.Subscript (.Name x px) a spos)) pos.line X.env = pure false := by intros; rfl) (hd : (x == ("__debug__" : Str)) = false := by decide) (hcd : (x == ("__classdict__" : Str)) = false := by decide) :
    XB X ε Γ (.Assign [.Subscript (.Name x px) a spos] e pos :: rest) ed (fun P => m fun y => n fun z => L0.length < 16777216 ∧ k y z P) := fun F0 H0 xl σ F H P D S p L =>
  seq_b (k := fun σ' H' => ∃ y z F', k y z P ∧ Stt F0 H0 (Γ.set i (.od r (putD L0 z y))) σ' F' H' ∧ Go F H F' H')
    (use_s (ps_dput hu (pe_var hN hv hd hcd) (run_pe X) (run_pe X) hs) (by
      obtain ⟨s, h1, a, kvs, rfl, ha, nd, pd⟩ := S.at_ i _ hi
      refine xe_use h xl S p fun y v F1 H1 p1 e1 r1 => ⟨.ref a, h1, xe_use hx xl (S.up e1) p1 fun z w F2 H2 p2 e2 r2 => ?_⟩
      have e12 := e1.trans e2
      have S2 := S.up e12
      have ha2 := e12.hh _ _ ha (fun _ z => by cases z)
      refine ⟨a, _, rfl, .inl ⟨kvs, Sum.inr z, ha2, r2.1, by rw [Paired.len pd]; exact p2.1, rfl⟩, y, z, F2, p2.2, S2.poke hi rfl h1 (fun _ z => by cases z) ⟨a, _, rfl, upd_same, nodup_putD nd, pd_put (PD.up pd e12.ff) r2.2 (r.up e2.ff r1)⟩, (e12.go S.sub).side S.sub (S2.own i _ a hi rfl h1).1⟩)) fun σ' H' q => by
    obtain ⟨y, z, F', kp, S', g'⟩ := q
    exact t y z F0 H0 xl σ' F' H' P D S' kp (L.mono g')
/-! ### calls with a dict -/
theorem s_lenD : SemC (rCons (rD r) rNil) (SA.im Bv.rI) (fun xs H Q => ∃ a kvs, xs = [.ref a] ∧ Rd H a (.dK kvs) ∧ Q (.int kvs.length) H) (fun x P => P (x.1.length : Int)) := fun x vs F H P Q s ⟨v, ws, e, ⟨a, kvs, ev, hd, nd, pd⟩, en⟩ p W => by
  subst e ev en
  exact ⟨a, kvs, rfl, s.rd hd, wish_im W p s (by rw [Paired.len pd]; rfl)⟩
theorem s_dictC : SemC (rCons (rD Bv.rI) rNil) (SA.od Bv.rI) rDictC (fun x P => P x.1) := fun x vs F H P Q s ⟨v, ws, e, ⟨a, kvs, ev, hd, nd, pd⟩, en⟩ p W => by
  cases en
  subst ev
  have := pd_ints pd
  subst this
  exact ⟨a, x.1, e, s.rd hd, fun l H' hl sm at_l => W _ (.ref l) F H' p (Ext.grow s sm) ⟨l, _, rfl, at_l, nd, pd⟩ fun _ a ea => by
    cases ea
    exact ⟨s.there hl, hl⟩⟩
theorem s_sortedD : SemC (rCons (rD Bv.rI) rNil) (SA.ol rS) rSortedD (fun x P => x.1.length < 64 ∧ P (sortT (x.1.map (·.1)))) := fun x vs F H P Q s ⟨v, ws, e, ⟨a, kvs, ev, hd, nd, pd⟩, en⟩ p W => by
  cases en
  subst ev
  have := pd_ints pd
  subst this
  exact ⟨a, x.1, e, s.rd hd, p.1, fun l H' hl sm at_l => W _ (.ref l) F H' p.2 (Ext.grow s sm) ⟨l, _, rfl, at_l, of_strs fun z mz => pd_keys pd z ((sortT_perm _).mem_iff.mp mz)⟩ fun _ a ea => by
    cases ea
    exact ⟨s.there hl, hl⟩⟩
theorem s_tupD : SemC (rCons (rD Bv.rI) rNil) (SA.im (rT K rS)) rTupD (fun x P => P (x.1.map (·.1))) := fun x vs F H P Q s ⟨v, ws, e, ⟨a, kvs, ev, hd, nd, pd⟩, en⟩ p W => by
  cases en
  subst ev
  have := pd_ints pd
  subst this
  refine ⟨a, x.1, e, s.rd hd, fun l H' hl sm at_l => ?_⟩
  have ee : (x.1.map fun p => V.str p.1) = (x.1.map (·.1)).map V.str := by rw [List.map_map]; rfl
  rw [ee] at at_l
  exact wish_ext W p (Ext.put s sm hl at_l) ⟨l, _, rfl, .inl (.inl upd_same), of_strs (pd_keys pd)⟩
end Bv

/-! Bv10: dicts walked; thawing; small words -/
namespace Bv
open PySem PySem.Spec PyProof.Rows L2 L2.DX Gd
variable {X : Cx} {ε : Tk} {F0 H0 F H F' H' : Hp} {Γ Γ' Γw : List SA} {σ : L2.St} {e a b c d tg iter o : Expr} {es : List Expr} {pos p : Pos} {α β γ δ O S : Type} {K : PySem.W.Frag} {r : Rep α} {q : Rep β} {rest ss body : List Stmt} {ed : Ed O} {st : Stmt}
/-! ### locks -/
def lockH (H0 : Hp) (a : Addr) (l : HO) : Hp := fun b => if b = a then (if (H0 a).isSome then some l else none) else H0 b
theorem lockH_ne {H0 : Hp} {a b : Addr} {l : HO} (h : b ≠ a) : lockH H0 a l b = H0 b := if_neg h
theorem lockH_at {H0 : Hp} {a : Addr} {l : HO} : lockH H0 a l a = if (H0 a).isSome then some l else none := if_pos rfl
theorem lockH_none {H0 : Hp} {a b : Addr} {l : HO} : lockH H0 a l b = none ↔ H0 b = none := by
  by_cases h : b = a
  · subst h
    rw [lockH_at]
    cases H0 b with
    | none => exact ⟨fun _ => rfl, fun _ => rfl⟩
    | some o => exact ⟨fun h => (nomatch h), fun h => (nomatch h)⟩
  · rw [lockH_ne h]
theorem sub_lock {kvs : List (Key × V)} {ad : Addr} {od : Obj} (s : Sub F H) (hf : F ad = some (.dK kvs)) : Sub F (upd H ad (.frz od (.dK kvs))) := fun b o e => by
  by_cases h : b = ad
  · subst h
    rw [hf] at e
    cases e
    exact .inr ⟨trivial, od, upd_same⟩
  · rw [upd_ne h]
    exact s b o e
theorem stt_lock {kvs : List (Key × V)} {ad : Addr} {od : Obj} (S : Stt F0 H0 Γ σ F H) (hf : F ad = some (.dK kvs)) (hh : H ad = some (.dK kvs)) : Stt F0 (lockH H0 ad (.frz od (.dK kvs))) Γ σ F (upd H ad (.frz od (.dK kvs))) where
  ext := ⟨S.ext.ff, fun b o e n => by
    by_cases h : b = ad
    · subst h
      rw [lockH_at] at e
      split at e
      · cases e
        exact upd_same
      · cases e
    · rw [lockH_ne h] at e
      rw [upd_ne h]
      exact S.ext.hh b o e n, fun b e => by
    by_cases h : b = ad
    · subst h
      rw [upd_same] at e
      cases e
    · rw [upd_ne h] at e
      exact lockH_none.mpr (S.ext.no b e), sub_lock S.sub hf, fun b o e n => lockH_none.mpr (S.ext.new b o e n)⟩
  len := S.len
  at_ := fun i A q => by
    obtain ⟨s, h1, h2⟩ := S.at_ i A q
    refine ⟨s, h1, ?_⟩
    have ne : ∀ a', A.own = true → s = some (.ref a') → a' ≠ ad := fun a' o e z => by
      subst z
      have := (S.own i A a' q o (by rw [h1, e])).1
      rw [hf] at this
      cases this
    exact holds_keep (Same.refl _) (fun a' u o e h _ => by
      rw [upd_ne (ne a' o e)]
      exact h) h2
  own := fun i A b q o e => ⟨(S.own i A b q o e).1, lockH_none.mpr (S.own i A b q o e).2⟩
  inj := S.inj
theorem ext_unlock {kvs : List (Key × V)} {ad : Addr} {od : Obj} (S0 : Ext F0 H0 F H) (hf : F ad = some (.dK kvs)) (hh : H ad = some (.dK kvs)) (ff : Same F F') (e : Ext F0 (lockH H0 ad (.frz od (.dK kvs))) F' H') : Ext F0 H0 F' (upd H' ad (.dK kvs)) where
  ff := e.ff
  hh := fun b o q n => by
    by_cases h : b = ad
    · subst h
      have := S0.hh b o q n
      rw [hh] at this
      cases this
      exact upd_same
    · rw [upd_ne h]
      exact e.hh b o (by rw [lockH_ne h]; exact q) n
  no := fun b q => by
    by_cases h : b = ad
    · subst h
      rw [upd_same] at q
      cases q
    · rw [upd_ne h] at q
      exact lockH_none.mp (e.no b q)
  fh := fun b o q => by
    by_cases h : b = ad
    · subst h
      rw [ff b _ hf] at q
      cases q
      exact .inl upd_same
    · rw [upd_ne h]
      exact e.fh b o q
  new := fun b o q n => lockH_none.mp (e.new b o q n)
theorem stt_unlock {kvs : List (Key × V)} {ad : Addr} {od : Obj} {Γ2 : List SA} {σ2 : L2.St} (S0 : Stt F0 H0 Γ σ F H) (hf : F ad = some (.dK kvs)) (hh : H ad = some (.dK kvs)) (ff : Same F F') (S : Stt F0 (lockH H0 ad (.frz od (.dK kvs))) Γ2 σ2 F' H') : Stt F0 H0 Γ2 σ2 F' (upd H' ad (.dK kvs)) where
  ext := ext_unlock S0.ext hf hh ff S.ext
  len := S.len
  at_ := fun i A q => by
    obtain ⟨s, h1, h2⟩ := S.at_ i A q
    refine ⟨s, h1, ?_⟩
    have ne : ∀ a', A.own = true → s = some (.ref a') → a' ≠ ad := fun a' o e z => by
      subst z
      have := (S.own i A a' q o (by rw [h1, e])).1
      rw [ff _ _ hf] at this
      cases this
    exact holds_keep (Same.refl _) (fun a' u o e h _ => by
      rw [upd_ne (ne a' o e)]
      exact h) h2
  own := fun i A b q o e => ⟨(S.own i A b q o e).1, lockH_none.mp (S.own i A b q o e).2⟩
  inj := S.inj
theorem go_unlock {kvs : List (Key × V)} {ad : Addr} {od : Obj} (hf : F ad = some (.dK kvs)) (hh : H ad = some (.dK kvs)) (g : Go F (upd H ad (.frz od (.dK kvs))) F' H') : H' ad = some (.frz od (.dK kvs)) ∧ Go F H F' (upd H' ad (.dK kvs)) :=
  ⟨g.hb ad _ hf (fun _ z => by cases z) _ upd_same, g.ff, fun b o q n u h => by
    by_cases z : b = ad
    · subst z
      rw [hh] at h
      cases h
      exact upd_same
    · rw [upd_ne z]
      exact g.hb b o q n u (by rw [upd_ne z]; exact h)⟩
/-- a dict that is found without a change -/
def XD (X : Cx) (ε : Tk) (Γ : List SA) (d : Expr) {α : Type} (r : Rep α) (m : (List (Str × α) → Prop) → Prop) : Prop :=
  ∀ (F0 H0 : Hp), XLk X F0 H0 ε → ∀ (σ : L2.St) (F H : Hp) (P : List (Str × α) → Prop), Stt F0 H0 Γ σ F H → m P → ∃ L a kvs, P L ∧ Rd F a (.dK kvs) ∧ (L.map (·.1)).Nodup ∧ PD r F kvs L ∧ ∀ (H2 : Hp) (Q : VK), Sub F H2 → Q (.ref a) H2 → RunE X d σ H2 Q
theorem xd_var {i : Nat} {x : Str} {L : List (Str × α)} (h : Γ[i]? = some (.im (rD r) L)) (hN : X.N[i]? = some x) (hv : Vis X.env.scope x) (hd : (x == ("__debug__" : Str)) = false := by decide) (hcd : (x == ("__classdict__" : Str)) = false := by decide) : XD X ε Γ (.Name x pos) r (fun P => P L) :=
  fun F0 H0 xl σ F H P S p => by
    obtain ⟨s, h1, v, rfl, a, kvs, rfl, hd', nd, pd⟩ := S.at_ i _ h
    exact ⟨L, a, kvs, p, hd', nd, pd, fun H2 Q _ q => use_e (pe_var hN hv hd hcd) ⟨_, h1, q⟩⟩
theorem xd_e {m : (List (Str × α) → Prop) → Prop} (h : XD X ε Γ d r m) : XE X ε Γ d (rD r) m := xe_of fun F0 H0 xl σ F H P Q S p q => by
  obtain ⟨L, a, kvs, pL, hd, nd, pd, run⟩ := h F0 H0 xl σ F H P S p
  exact run H Q S.sub (q L (.ref a) F H pL (Ext.refl S.sub) ⟨a, kvs, rfl, hd, nd, pd⟩)
/-- a dict's walk: under a lock -/
def XL (X : Cx) (ε : Tk) (Γ : List SA) (tg iter : Expr) {ρ : Type} (r : Rep ρ) (m : (List ρ → Prop) → Prop) : Prop :=
  ∃ wi, PI X tg iter wi ∧ ∀ (F0 H0 : Hp), XLk X F0 H0 ε → ∀ (σ : L2.St) (F H : Hp) (P : List ρ → Prop), Stt F0 H0 Γ σ F H → m P → ∃ xs a kvs, P xs ∧ Rd F a (.dK kvs) ∧ xs.length = kvs.length ∧
    ∀ od (F2 H2 : Hp) (R : It → Hp → Prop), H2 a = some (.frz od (.dK kvs)) → Same F F2 → Sub F2 H2 → (∀ J, Runs r J F2 H2 xs → R J H2) → wi σ H2 R
theorem rd_same {F F' : Hp} {a : Addr} {o : HO} (h : Rd F a o) (s : Same F F') : Rd F' a o := h.elim (fun h => .inl (s _ _ h)) fun ⟨o, h⟩ => .inr ⟨o, s _ _ h⟩
theorem frz_stays {F2 H2 F3 H3 : Hp} {a : Addr} {kvs : List (Key × V)} {od : Obj} (h : H2 a = some (.frz od (.dK kvs))) (hf : Rd F2 a (.dK kvs)) (g : Go F2 H2 F3 H3) : H3 a = some (.frz od (.dK kvs)) := by
  rcases hf with hf | ⟨o, hf⟩
  · exact g.hb a _ hf (fun _ z => by cases z) _ h
  · exact g.hb a _ hf (fun _ z => by cases z) _ h
theorem xl_keys {m : (List (Str × α) → Prop) → Prop} (h : XD X ε Γ d r m) : XL X ε Γ tg d rS (fun P => m fun L => P (L.map (·.1))) := ⟨_, pi_keys (run_pe X), fun F0 H0 xl σ F H P S p => by
  obtain ⟨L, a, kvs, pL, hd, nd, pd, run⟩ := h F0 H0 xl σ F H _ S p
  refine ⟨L.map (·.1), a, kvs, pL, hd, by rw [List.length_map, Paired.len pd], fun od F2 H2 R at_a sm sb q => run H2 _ (sb.same sm) ⟨a, od, rfl, .inl ⟨kvs, at_a, q _ fun F3 H3 g s3 i => ?_⟩⟩⟩
  have at3 := frz_stays at_a (rd_same hd sm) g
  refine ⟨fun x hx => ?_, fun le => ⟨at3, by rw [Paired.len pd]; rw [List.length_map] at le; exact le⟩⟩
  rw [List.getElem?_map] at hx
  cases hl : L[i]? with
  | none => rw [hl] at hx; cases hx
  | some e =>
    rw [hl] at hx
    cases hx
    obtain ⟨kv, hk, ⟨e1, ok⟩, _⟩ := Paired.at_ pd hl
    have lt : i < kvs.length := by
      rcases Nat.lt_or_ge i kvs.length with k | k
      · exact k
      · rw [List.getElem?_eq_none k] at hk; cases hk
    refine ⟨⟨at3, lt⟩, fun v H4 ⟨e4, k, w, hk', ev⟩ => ?_⟩
    subst e4
    rw [hk] at hk'
    cases hk'
    exact ⟨F3, Ext.refl s3, by rw [ev, show k = Sum.inr e.1 from e1]; rfl, ok⟩⟩
theorem xl_items {elts : List Expr} {kk : Nat} {tpos apos cpos : Pos} {m : (List (Str × α) → Prop) → Prop} (K : PySem.W.Frag) (h : XD X ε Γ d r m) (hbase : attributeBase d "items" X.env (eval d X.env) = eval d X.env := by rfl) (hline : (apos.endLine == cpos.line) = true := by rfl) :
    XL X ε Γ (.Tuple elts kk tpos) (.Call (.Attribute d "items" apos) [] [] cpos) (rP K rS r) m := ⟨_, pi_items (run_pe X) hbase hline, fun F0 H0 xl σ F H P S p => by
  obtain ⟨L, a, kvs, pL, hd, nd, pd, run⟩ := h F0 H0 xl σ F H _ S p
  refine ⟨L, a, kvs, pL, hd, by rw [Paired.len pd], fun od F2 H2 R at_a sm sb q => run H2 _ (sb.same sm) ⟨a, od, kvs, rfl, at_a, q _ fun F3 H3 g s3 i => ?_⟩⟩
  have at3 := frz_stays at_a (rd_same hd sm) g
  refine ⟨fun x hx => ?_, fun le => ⟨at3, by rw [Paired.len pd]; exact le⟩⟩
  obtain ⟨kv, hk, ⟨e1, ok⟩, hr⟩ := Paired.at_ pd hx
  have lt : i < kvs.length := by
    rcases Nat.lt_or_ge i kvs.length with k | k
    · exact k
    · rw [List.getElem?_eq_none k] at hk; cases hk
  refine ⟨⟨at3, lt⟩, fun v H4 ⟨T, k, w, hk', ev, nT, e4⟩ => ?_⟩
  subst e4
  rw [hk] at hk'
  cases hk'
  exact ⟨upd F3 T (.tup [kV k, w]), Ext.new_ s3 nT, T, kV k, w, ev, .inl (.inl upd_same), ⟨by rw [show k = Sum.inr x.1 from e1]; rfl, ok⟩, r.up ((sm.trans g.ff).trans (same_new (s3.there nT))) hr⟩⟩
theorem xb_forD (Γl : S → List SA) (s0 : S) {r : Rep α} {m : (List α → Prop) → Prop} {f : α → S → (Stp S O → Prop) → Prop} {k : S → (O → Prop) → Prop} {sl : List Nat} {bind : α → List SA → List SA} (hp : PassesOwn (model X.prog X.w) X.A X.env X.xe) (hc : X.calm = true) (l : Le Γ (Γl s0)) (hi : XL X ε Γ tg iter r m) (hg : XG X tg r sl bind)
    (hb : ∀ x s, XB X Tk0 (bind x (Γl s)) body (ed.loop Γl) (f x s)) (hr : ∀ s, XB X ε (Γl s) rest ed (k s)) (hs : ∀ x, foldedSetIterable iter X.env x = pure x := by intro _; rfl) :
    XB X ε Γ (.For tg iter body [] pos :: rest) ed (fun P => m fun xs => forL f xs s0 (Sum.elim (fun s => k s P) P)) := fun F0 H0 xl σ F H P D S p L => by
  obtain ⟨wi, pi, wh⟩ := hi
  obtain ⟨xs, a, kvs, p1, hd, lx, run⟩ := wh F0 H0 xl σ F H _ S p
  have fin : ∀ σ' H', (∃ s F', Stt F0 H0 (Γl s) σ' F' H' ∧ Go F H F' H' ∧ k s P) → RunB X rest D σ' H' := fun σ' H' ⟨s, F', S', g', ks⟩ => hr s F0 H0 xl σ' F' H' P D S' ks (L.mono g')
  have H_a := S.sub.rd hd
  rcases H_a with ha | ⟨od, ha⟩
  · have hf : F a = some (.dK kvs) := by
      rcases hd with h | ⟨o, h⟩
      · exact h
      · rcases S.sub a _ h with k | ⟨k, _⟩
        · rw [ha] at k; cases k
        · exact k.elim
    refine seq_b (k := fun σ' H' => ∃ s F', Stt F0 H0 (Γl s) σ' F' H' ∧ Go F H F' H' ∧ k s P) (use_s (ps_lock (ps_for hp hc pi run_pg run_pss hs)) ?_) fin
    refine ⟨a, _, ha, trivial, fun od => ?_⟩
    have S1 := stt_lock (od := od) S hf ha
    refine run od F _ _ upd_same (Same.refl _) S1.sub fun J rn => ?_
    refine forW (P := P) (k := fun s => k s P) xlk0 rn (S1.weak l) p1 (fun o v F' H' po rt ex g' => ?_) (fun s σ' F' H' ks S' g' => ?_) hg.run hb
    · obtain ⟨g1, g2⟩ := go_unlock hf ha g'
      exact ⟨g1, L.rt o v F' _ po rt (ext_unlock S.ext hf ha g'.ff ex) g2⟩
    · obtain ⟨g1, g2⟩ := go_unlock hf ha g'
      exact ⟨g1, s, F', stt_unlock S hf ha g'.ff S', g2, ks⟩
  · refine seq_b (k := fun σ' H' => ∃ s F', Stt F0 H0 (Γl s) σ' F' H' ∧ Go F H F' H' ∧ k s P) (use_s (ps_for hp hc pi run_pg run_pss hs) ?_) fin
    refine run od F H _ ha (Same.refl _) S.sub fun J rn => ?_
    exact forW (P := P) (k := fun s => k s P) xlk0 rn (S.weak l) p1 L.rt (fun s σ' F' H' ks S' g' => ⟨s, F', S', g', ks⟩) hg.run hb
theorem xb_forDN (Γl : S → List SA) (s0 : S) {r : Rep α} {m : (List α → Prop) → Prop} {f : α → S → (S → Prop) → Prop} {k : S → (O → Prop) → Prop} {sl : List Nat} {bind : α → List SA → List SA} (hp : PassesOwn (model X.prog X.w) X.A X.env X.xe) (hc : X.calm = true) (l : Le Γ (Γl s0)) (hi : XL X ε Γ tg iter r m) (hg : XG X tg r sl bind)
    (hb : ∀ x s, XB X Tk0 (bind x (Γl s)) body (Ed.step Γl) (f x s)) (hr : ∀ s, XB X ε (Γl s) rest ed (k s)) (hs : ∀ x, foldedSetIterable iter X.env x = pure x := by intro _; rfl) :
    XB X ε Γ (.For tg iter body [] pos :: rest) ed (fun P => m fun xs => forN f xs s0 (fun s => k s P)) :=
  (xb_forD (k := k) Γl s0 hp hc l hi hg (fun x s => (hb x s).step) hr hs).cast fun P h => by
    have e : (fun xs => forL (fun x s P => f x s fun s' => P (.nx s')) xs s0 (Sum.elim (fun s => k s P) P)) = fun xs => forN f xs s0 fun s => k s P := funext fun xs => forL_N
    show m _
    rw [e]
    exact h
/-- a comprehension over a dict -/
theorem xe_lcD {elt : Expr} {ifs : List Expr} {scope : Scope} {own : List (Str × Nat)} {r : Rep α} {m : (List α → Prop) → Prop} {rb : Rep β} {sl : List Nat} {bind : α → List SA → List SA} {t : α → (Bool → Prop) → Prop} {f : α → (β → Prop) → Prop} (hc : X.calm = true) (hN : X.N.Nodup) (hi : XL X ε Γ tg iter r m) (ok : BlkOk X.N X.env.scope scope own)
    (hl : Le Γ Γw) (hw : ∀ v ∈ own.map (·.2), ∀ A, Γw[v]? = some A → A = .no) (hsl : ∀ i ∈ sl, i ∈ own.map (·.2)) (hg : ∀ s H C cl fp, XG (blkX X scope s H C cl fp) tg r sl bind)
    (ht : ∀ x s H C cl fp, XTs (blkX X scope s H C cl fp) (bind x Γw) ifs (t x)) (he : ∀ x s H C cl fp, XE (blkX X scope s H C cl fp) Tk0 (bind x Γw) elt rb (f x)) (hs : ∀ x, foldedSetIterable iter X.env x = pure x := by intro _; rfl) :
    XV X ε Γ (.ListComp elt [⟨tg, iter, ifs, 0⟩] scope pos) (SA.ol rb) (fun P => m fun xs => lcM t f xs P) := fun F0 H0 xl σ F H P Q S p q => by
  obtain ⟨wi, pi, wh⟩ := hi
  obtain ⟨xs, a, kvs, p1, hd, lx, run⟩ := wh F0 H0 xl σ F H _ S p
  unfold RunE
  intro pins s I
  have lz : xs.length ≤ sizeLine := by
    rw [lx]
    exact ((S.sub.rd hd).ok I.hok).1
  refine RunE.run X (show RunE X _ σ H Q from ?_) pins s I
  have comp := pe_lc (X := X) (pos := pos) (g := fun v σ H Q => ∀ s H' C cl fp, RunG (blkX X scope s H' C cl fp) tg v σ H Q) (tt := fun σ H Q => ∀ s H' C cl fp, RunTs (blkX X scope s H' C cl fp) ifs σ H Q) (te := fun σ H Q => ∀ s H' C cl fp, RunE (blkX X scope s H' C cl fp) elt σ H Q) hc hN pi ok
    (fun s H C cl fp => ⟨fun pins s1 σ H v u Q I rv h => h s _ C cl fp pins s1 u I rv⟩) (fun s H C cl fp => ⟨fun pins s1 σ H Q I h => by first | exact h s _ C cl fp pins s1 I | exact RunE.run _ (h s _ C cl fp) pins s1 I⟩) (fun s H C cl fp => ⟨fun pins s1 σ H Q I h => by first | exact h s _ C cl fp pins s1 I | exact RunE.run _ (h s _ C cl fp) pins s1 I⟩) hs
  rcases S.sub.rd hd with ha | ⟨od, ha⟩
  · have hf : F a = some (.dK kvs) := by
      rcases hd with h | ⟨o, h⟩
      · exact h
      · rcases S.sub a _ h with k | ⟨k, _⟩
        · rw [ha] at k; cases k
        · exact k.elim
    refine use_e (pe_lock comp) ⟨a, _, ha, trivial, fun od => ?_⟩
    have S1 := stt_lock (od := od) S hf ha
    refine run od F _ _ upd_same (Same.refl _) S1.sub fun J rn D hD => ?_
    refine lcW (Y := fun _ => True) (Qf := fun v H' => H' a = some (.frz od (.dK kvs)) ∧ Q v (upd H' a (.dK kvs))) (elt := elt) (ifs := ifs) ((S1.weak hl).wipe hw) lz rn p1 hsl (fun v x F0 H0 Γ σ F H Q S h k s Hx C cl fp => (hg s Hx C cl fp).run v x F0 H0 Γ σ F H Q S h k) (fun x F0 H0 σ F H P Q S p k s Hx C cl fp => ht x s Hx C cl fp F0 H0 σ F H P Q S p k)
      (fun x F0 H0 σ F H P Q S p k s Hx C cl fp => xe_use (he x s Hx C cl fp) xlk0 S p k) hD fun ys zs F' H' py e' g' fD hD' pr => ?_
    obtain ⟨g1, g2⟩ := go_unlock hf ha g'
    have nD : D ≠ a := fun z => by
      subst z
      rw [upd_same] at hD
      cases hD
    have hD0 : H D = none := by
      rw [upd_ne nD] at hD
      exact hD
    refine ⟨g1, q ys (.ref D) F' _ py ⟨e'.ff, fun b o e n => ?_, fun b e => ?_, fun b o e => ?_, fun b o e n => ?_⟩ ⟨D, zs, rfl, by rw [upd_ne nD]; exact hD', pr⟩ fun _ a ea => by
      cases ea
      exact ⟨fD, hD0⟩⟩
    · by_cases z : b = a
      · subst z
        rw [ha] at e
        cases e
        exact upd_same
      · rw [upd_ne z]
        exact e'.hh b o (by rw [upd_ne z]; exact e) n
    · by_cases z : b = a
      · subst z
        rw [upd_same] at e
        cases e
      · rw [upd_ne z] at e
        have := e'.no b e
        rw [upd_ne z] at this
        exact this
    · by_cases z : b = a
      · subst z
        rw [e'.ff _ _ hf] at e
        cases e
        exact .inl upd_same
      · rw [upd_ne z]
        exact e'.fh b o e
    · have := e'.new b o e n
      by_cases z : b = a
      · subst z
        rw [hf] at n
        cases n
      · rw [upd_ne z] at this
        exact this
  · refine use_e comp (run od F H _ ha (Same.refl _) S.sub fun J rn D hD => ?_)
    exact lcW (Y := fun _ => True) (elt := elt) (ifs := ifs) ((S.weak hl).wipe hw) lz rn p1 hsl (fun v x F0 H0 Γ σ F H Q S h k s Hx C cl fp => (hg s Hx C cl fp).run v x F0 H0 Γ σ F H Q S h k) (fun x F0 H0 σ F H P Q S p k s Hx C cl fp => ht x s Hx C cl fp F0 H0 σ F H P Q S p k)
      (fun x F0 H0 σ F H P Q S p k s Hx C cl fp => xe_use (he x s Hx C cl fp) xlk0 S p k) hD fun ys zs F' H' py e' g' fD hD' pr => q ys (.ref D) F' H' py e' ⟨D, zs, rfl, hD', pr⟩ fun _ a ea => by
      cases ea
      exact ⟨fD, hD⟩
end Bv

/-! Bv11: dict comprehensions; small words -/
namespace Bv
open PySem PySem.Spec PyProof.Rows L2 L2.DX Gd
variable {X : Cx} {ε : Tk} {F0 H0 F H F' H' : Hp} {Γ Γ' Γw : List SA} {σ : L2.St} {e a b c d tg iter o : Expr} {es : List Expr} {pos p : Pos} {α β γ δ O S : Type} {K : PySem.W.Frag} {r : Rep α} {q : Rep β} {rest ss body : List Stmt} {ed : Ed O} {st : Stmt}
/-- {k: v for x in xs if t} -/
def dcM (t : α → (Bool → Prop) → Prop) (k : α → (Str → Prop) → Prop) (f : α → (β → Prop) → Prop) : List α → List (Str × β) → (List (Str × β) → Prop) → Prop
  | [], L, P => P L
  | x :: xs, L, P => t x fun b => if b = true then k x fun z => f x fun y => dcM t k f xs (putD L z y) P else dcM t k f xs L P
theorem dcM_P {t : α → Bool} {k : α → Str} {f : α → β} : ∀ {xs : List α} {L : List (Str × β)} {P : List (Str × β) → Prop}, dcM (fun x P => P (t x)) (fun x P => P (k x)) (fun x P => P (f x)) xs L P = P ((xs.filter t).foldl (fun L x => putD L (k x) (f x)) L)
  | [], L, P => rfl
  | x :: xs, L, P => by
    show (if t x = true then dcM _ _ _ xs (putD L (k x) (f x)) P else dcM _ _ _ xs L P) = _
    cases h : t x with
    | true => rw [if_pos rfl, dcM_P, List.filter_cons_of_pos h]; rfl
    | false => rw [if_neg (by decide), dcM_P, List.filter_cons_of_neg (by rw [h]; decide)]
theorem dcW {vs : List Nat} {rb : Rep β} {sl : List Nat} {bind : α → List SA → List SA} {t : α → (Bool → Prop) → Prop} {k : α → (Str → Prop) → Prop} {f : α → (β → Prop) → Prop} {J : It} {F1 H1 : Hp} {xs : List α} {P : List (Str × β) → Prop} {Qf : VK} {g : TG} {tt : TT} {tk te : TE}
    (S1 : Stt F0 H0 Γw (wipe σ vs) F1 H1) (lx : xs.length ≤ sizeLine) (rn : Runs r J F1 H1 xs) (p1 : dcM t k f xs [] P) (hsl : ∀ i ∈ sl, i ∈ vs)
    (hg : ∀ (v : V) (x : α) (F0 H0 : Hp) (Γ : List SA) (σ : L2.St) (F H : Hp) (Q : L2.St → Hp → Prop), Stt F0 H0 Γ σ F H → r.rep F v x → (∀ σ', Stt F0 H0 (bind x Γ) σ' F H → Agree sl σ σ' → Q σ' H) → g v σ H Q)
    (ht : ∀ (x : α) (F0 H0 : Hp) (σ : L2.St) (F H : Hp) (P : Bool → Prop) (Q : Bool → Hp → Prop), Stt F0 H0 (bind x Γw) σ F H → t x P → (∀ x F' H', P x → Ext F H F' H' → Q x H') → tt σ H Q)
    (hk : ∀ (x : α) (F0 H0 : Hp) (σ : L2.St) (F H : Hp) (P : Str → Prop) (Q : VK), Stt F0 H0 (bind x Γw) σ F H → k x P → (∀ y v F' H', P y → Ext F H F' H' → rS.rep F' v y → Q v H') → tk σ H Q)
    (he : ∀ (x : α) (F0 H0 : Hp) (σ : L2.St) (F H : Hp) (P : β → Prop) (Q : VK), Stt F0 H0 (bind x Γw) σ F H → f x P → (∀ y v F' H', P y → Ext F H F' H' → rb.rep F' v y → Q v H') → te σ H Q)
    {D : Addr} (hD : H1 D = none) (fin : ∀ L zs F' H', P L → Ext F1 H1 F' H' → Go F1 H1 F' H' → F' D = none → H' D = some (.dK zs) → (L.map (·.1)).Nodup → PD rb F' zs L → Qf (.ref D) H') :
    ∃ W : Nat → Nat → Hp → Prop, (∃ m, W 0 m (upd H1 D (.dK []))) ∧ ∀ i m H, W i m H →
      (J.stop i H ∧ Qf (.ref D) H) ∨ (J.go i H ∧ ∃ Nx : Hp → Prop, (∀ H', Nx H' → ∃ m', m' < m ∧ W (i + 1) m' H') ∧ ∀ x H', J.yld i H x H' → g x (wipe σ vs) H' fun σ2 H2 => wipe σ2 vs = wipe σ vs ∧ tt σ2 H2 fun b H3 =>
        if b = true then tk σ2 H3 fun y H4 => te σ2 H4 fun z H5 => ∃ kvs k, y = kV k ∧ H5 D = some (.dK kvs) ∧ kvs.length < sizeLine ∧ Nx (upd H5 D (.dK (putK kvs k z))) else Nx H3) := by
  have ap : ∀ (j : Nat) (B : SA), Γw[j]? = some B → B.own = true → (wipe σ vs)[j]? ≠ some (some (.ref D)) := fun j B hb o z => by
    obtain ⟨s, h1, h2⟩ := S1.at_ j B hb
    obtain ⟨b, u, e2, e3, _⟩ := SA.held o h2
    rw [z] at h1
    cases h1
    cases e2
    rw [hD] at e3
    cases e3
  have h0D : H0 D = none := S1.ext.no _ hD
  have f1D : F1 D = none := S1.sub.there hD
  refine ⟨fun i m H' => m = xs.length - i ∧ i ≤ xs.length ∧ ∃ F' L zs, Stt F0 H0 Γw (wipe σ vs) F' H' ∧ Ext F1 H1 F' H' ∧ F' D = none ∧ H' D = some (.dK zs) ∧ zs.length ≤ i ∧ (L.map (·.1)).Nodup ∧ PD rb F' zs L ∧ dcM t k f (xs.drop i) L P, ⟨xs.length, by omega, Nat.zero_le _, F1, [], [], S1.side h0D f1D ap, (Ext.refl S1.sub).side hD f1D, f1D, upd_same, Nat.le_refl _, .nil, .nil, p1⟩, ?_⟩
  rintro i m' H' ⟨rfl, hi, F', L, zs, S', e', fD, hD', lz, nd, pr, q'⟩
  have go' : Go F1 H1 F' H' := e'.go S1.sub
  have stay : ∀ {F3 H3 : Hp}, Ext F' H' F3 H3 → F3 D = none ∧ H3 D = some (.dK zs) := fun {F3 H3} e3 => by
    refine ⟨?_, e3.hh _ _ hD' (fun _ z => by cases z)⟩
    cases z : F3 D with
    | none => rfl
    | some u =>
      have := e3.new D u z fD
      rw [this] at hD'
      cases hD'
  by_cases lt : i < xs.length
  · obtain ⟨hgo, hy⟩ := (rn F' H' go' S'.sub i).1 xs[i] (List.getElem?_eq_getElem lt)
    rw [List.drop_eq_getElem_cons lt] at q'
    have q' : t xs[i] _ := q'
    refine .inr ⟨hgo, fun H'' => ∃ F'' L' zs', Stt F0 H0 Γw (wipe σ vs) F'' H'' ∧ Ext F1 H1 F'' H'' ∧ F'' D = none ∧ H'' D = some (.dK zs') ∧ zs'.length ≤ i + 1 ∧ (L'.map (·.1)).Nodup ∧ PD rb F'' zs' L' ∧ dcM t k f (xs.drop (i + 1)) L' P, fun H'' w => ⟨xs.length - (i + 1), by omega, rfl, lt, w⟩, fun v H3 y => ?_⟩
    obtain ⟨F3, e3, r3⟩ := hy v H3 y
    refine hg v xs[i] F0 H0 Γw _ F3 H3 _ (S'.up e3) r3 fun σ4 S4 ag => ⟨?_, ?_⟩
    · exact (wipe_ext (fun j hj => (ag.2 j fun z => hj (hsl j z))) ag.1).trans wipe_wipe
    · refine ht xs[i] F0 H0 σ4 F3 H3 _ _ S4 q' fun b F4 H4 pb e4 => ?_
      have S4' : Stt F0 H0 Γw (wipe σ vs) F4 H4 := (S'.up e3).up e4
      have e34 := e3.trans e4
      cases b with
      | false =>
        rw [if_neg (by decide)]
        rw [if_neg (by decide)] at pb
        obtain ⟨n1, n2⟩ := stay e34
        exact ⟨F4, L, zs, S4', e'.trans e34, n1, n2, Nat.le_succ_of_le lz, nd, PD.up pr e34.ff, pb⟩
      | true =>
        rw [if_pos rfl]
        rw [if_pos rfl] at pb
        refine hk xs[i] F0 H0 σ4 F4 H4 _ _ (S4.up e4) pb fun z u F5 H5 pz e5 r5 => ?_
        refine he xs[i] F0 H0 σ4 F5 H5 _ _ ((S4.up e4).up e5) pz fun y w F6 H6 py e6 r6 => ?_
        have e36 := (e34.trans e5).trans e6
        obtain ⟨n1, n2⟩ := stay e36
        refine ⟨zs, Sum.inr z, r5.1, n2, Nat.lt_of_le_of_lt lz (Nat.lt_of_lt_of_le lt lx), F6, putD L z y, putK zs (Sum.inr z) w, ((S4'.up e5).up e6).side h0D n1 ap, (e'.trans e36).side hD n1, n1, upd_same, ?_, nodup_putD nd, pd_put (PD.up pr e36.ff) r5.2 r6, py⟩
        unfold putK
        split
        · rw [List.length_map]
          exact Nat.le_succ_of_le lz
        · rw [List.length_append]
          exact Nat.add_le_add_right lz 1
  · have : xs.drop i = [] := List.drop_eq_nil_of_le (by omega)
    rw [this] at q'
    exact .inl ⟨(rn F' H' go' S'.sub i).2 (by omega), fin L zs F' H' q' e' go' fD hD' nd pr⟩
theorem xe_dc {kx vx : Expr} {ifs : List Expr} {scope : Scope} {own : List (Str × Nat)} {r : Rep α} {m : (List α → Prop) → Prop} {rb : Rep β} {sl : List Nat} {bind : α → List SA → List SA} {t : α → (Bool → Prop) → Prop} {k : α → (Str → Prop) → Prop} {f : α → (β → Prop) → Prop} (hc : X.calm = true) (hN : X.N.Nodup) (hi : XI X ε Γ tg iter r m) (ok : BlkOk X.N X.env.scope scope own)
    (hl : Le Γ Γw) (hw : ∀ v ∈ own.map (·.2), ∀ A, Γw[v]? = some A → A = .no) (hsl : ∀ i ∈ sl, i ∈ own.map (·.2)) (hg : ∀ s H C cl fp, XG (blkX X scope s H C cl fp) tg r sl bind)
    (ht : ∀ x s H C cl fp, XTs (blkX X scope s H C cl fp) (bind x Γw) ifs (t x)) (hk : ∀ x s H C cl fp, XE (blkX X scope s H C cl fp) Tk0 (bind x Γw) kx rS (k x)) (he : ∀ x s H C cl fp, XE (blkX X scope s H C cl fp) Tk0 (bind x Γw) vx rb (f x)) (hs : ∀ x, foldedSetIterable iter X.env x = pure x := by intro _; rfl) :
    XV X ε Γ (.DictComp kx vx [⟨tg, iter, ifs, 0⟩] scope pos) (SA.od rb) (fun P => m fun xs => dcM t k f xs [] P) := fun F0 H0 xl σ F H P Q S p q => by
  obtain ⟨wi, pi, wh⟩ := hi
  refine use_e (pe_dc (g := fun v σ H Q => ∀ s H' C cl fp, RunG (blkX X scope s H' C cl fp) tg v σ H Q) (tt := fun σ H Q => ∀ s H' C cl fp, RunTs (blkX X scope s H' C cl fp) ifs σ H Q) (tk := fun σ H Q => ∀ s H' C cl fp, RunE (blkX X scope s H' C cl fp) kx σ H Q) (tv := fun σ H Q => ∀ s H' C cl fp, RunE (blkX X scope s H' C cl fp) vx σ H Q) hc hN pi ok
    (fun s H C cl fp => ⟨fun pins s1 σ H v u Q I rv h => h s _ C cl fp pins s1 u I rv⟩) (fun s H C cl fp => ⟨fun pins s1 σ H Q I h => by first | exact h s _ C cl fp pins s1 I | exact RunE.run _ (h s _ C cl fp) pins s1 I⟩) (fun s H C cl fp => ⟨fun pins s1 σ H Q I h => by first | exact h s _ C cl fp pins s1 I | exact RunE.run _ (h s _ C cl fp) pins s1 I⟩) (fun s H C cl fp => ⟨fun pins s1 σ H Q I h => by first | exact h s _ C cl fp pins s1 I | exact RunE.run _ (h s _ C cl fp) pins s1 I⟩) hs) ?_
  refine wh F0 H0 xl σ F H _ _ S p fun xs F1 H1 J p1 e1 lx rn D hD => ?_
  exact dcW (((S.up e1).weak hl).wipe hw) lx rn p1 hsl (fun v x F0 H0 Γ σ F H Q S h k s Hx C cl fp => (hg s Hx C cl fp).run v x F0 H0 Γ σ F H Q S h k) (fun x F0 H0 σ F H P Q S p k s Hx C cl fp => ht x s Hx C cl fp F0 H0 σ F H P Q S p k)
    (fun x F0 H0 σ F H P Q S p k s Hx C cl fp => xe_use (hk x s Hx C cl fp) xlk0 S p k) (fun x F0 H0 σ F H P Q S p k s Hx C cl fp => xe_use (he x s Hx C cl fp) xlk0 S p k) hD fun L zs F' H' py e' g' fD hD' nd pr => q L (.ref D) F' H' py (e1.trans e') ⟨D, zs, rfl, hD', nd, pr⟩ fun _ a ea => by
      cases ea
      exact ⟨fD, e1.no _ hD⟩
/-! ### small words -/
theorem xe_v (i : Nat) {x : Str} {r : Rep α} {y : α} (h : Γ[i]? = some (.im r y) := by rfl) (hN : X.N[i]? = some x := by rfl) (hv : Vis X.env.scope x := by first | exact Or.inl rfl | exact Or.inr (Or.inl rfl) | exact Or.inr (Or.inr rfl))
    (hd : (x == ("__debug__" : Str)) = false := by decide) (hcd : (x == ("__classdict__" : Str)) = false := by decide) : XE X ε Γ (.Name x pos) r (fun P => P y) := xe_var h hN hv hd hcd
theorem xd_v (i : Nat) {x : Str} {r : Rep α} {L : List (Str × α)} (h : Γ[i]? = some (.im (rD r) L) := by rfl) (hN : X.N[i]? = some x := by rfl) (hv : Vis X.env.scope x := by first | exact Or.inl rfl | exact Or.inr (Or.inl rfl) | exact Or.inr (Or.inr rfl))
    (hd : (x == ("__debug__" : Str)) = false := by decide) (hcd : (x == ("__classdict__" : Str)) = false := by decide) : XD X ε Γ (.Name x pos) r (fun P => P L) := xd_var h hN hv hd hcd
theorem xe_glob {x : Str} {v : V} {u : Value} {r : Rep α} {y : α} (hg : Gl X x) (hm : X.mg x = some u) (rv : RelV v u) (hr : ∀ F, r.rep F v y) (hd : (x == ("__debug__" : Str)) = false := by decide) (hcd : (x == ("__classdict__" : Str)) = false := by decide) : XE X ε Γ (.Name x pos) r (fun P => P y) :=
  xe_const (pe_glob hg hm rv hd) hr
theorem xb_never : XB X ε Γ (st :: rest) ed (fun _ => False) := fun _ _ _ _ _ _ _ _ _ p _ => p.elim
theorem back_ext {F1 : Hp} (S : Sub F H) (sm : Same F F1) (e : Ext F1 H F' H') : Ext F H F H' := ⟨Same.refl _, e.hh, e.no, e.fh.same (sm.trans e.ff), fun b o e n => by rw [e] at n; cases n⟩
theorem xe_th {i : Nat} {q : Rep β} {xs : List β} {m : (α → Prop) → Prop} (K : PySem.W.Frag) (hi : Γ[i]? = some (.ol q xs)) (fl : r.flat) (h : XE X ε (Γ.set i (.im (rL K q) xs)) e r m) : XE X ε Γ e r m := xe_of fun F0 H0 xl σ F H P Q S p k => by
  obtain ⟨F1, sm, S1⟩ := S.settleL K hi
  exact xe_use h xl S1 p fun x v F' H' px ex hr => k x v F H' px (back_ext S.sub sm ex) (fl _ _ _ _ hr)
theorem xe_thD {i : Nat} {q : Rep β} {xs : List (Str × β)} {m : (α → Prop) → Prop} (hi : Γ[i]? = some (.od q xs)) (fl : r.flat) (h : XE X ε (Γ.set i (.im (rD q) xs)) e r m) : XE X ε Γ e r m := xe_of fun F0 H0 xl σ F H P Q S p k => by
  obtain ⟨F1, sm, S1⟩ := S.settleD hi
  exact xe_use h xl S1 p fun x v F' H' px ex hr => k x v F H' px (back_ext S.sub sm ex) (fl _ _ _ _ hr)
theorem xt_th {i : Nat} {q : Rep β} {xs : List β} {m : (Bool → Prop) → Prop} (K : PySem.W.Frag) (hi : Γ[i]? = some (.ol q xs)) (h : XT X ε (Γ.set i (.im (rL K q) xs)) e m) : XT X ε Γ e m := fun F0 H0 xl σ F H P Q S p k => by
  obtain ⟨F1, sm, S1⟩ := S.settleL K hi
  exact h F0 H0 xl σ F1 H P Q S1 p fun x F' H' px ex => k x F H' px (back_ext S.sub sm ex)
theorem xt_thD {i : Nat} {q : Rep β} {xs : List (Str × β)} {m : (Bool → Prop) → Prop} (hi : Γ[i]? = some (.od q xs)) (h : XT X ε (Γ.set i (.im (rD q) xs)) e m) : XT X ε Γ e m := fun F0 H0 xl σ F H P Q S p k => by
  obtain ⟨F1, sm, S1⟩ := S.settleD hi
  exact h F0 H0 xl σ F1 H P Q S1 p fun x F' H' px ex => k x F H' px (back_ext S.sub sm ex)
/-- found.append(left.pop(e)) -/
def popZ (xs : List α) (i : Int) (P : α → List α → Prop) : Prop := ∃ k x, (-(2 ^ 63) ≤ i ∧ i < 2 ^ 63) ∧ seqIndex? i xs.length = some k ∧ xs[k]? = some x ∧ P x (xs.eraseIdx k)
theorem erase_pr {R : V → α → Prop} : ∀ {vs : List V} {xs : List α} (k : Nat), Paired R vs xs → Paired R (vs.eraseIdx k) (xs.eraseIdx k)
  | _, _, _, .nil => .nil
  | _, _, 0, .cons h t => t
  | _, _, k + 1, .cons h t => .cons h (erase_pr k t)
theorem xb_append_pop {i j : Nat} {x y : Str} {px py apos1 cpos1 apos2 cpos2 : Pos} {xs ys : List α} {n : (Int → Prop) → Prop} {k : α → List α → (O → Prop) → Prop} (hK : X.K = K) (hi : Γ[i]? = some (.ol r xs)) (hj : Γ[j]? = some (.ol r ys)) (hij : i ≠ j) (hN : X.N[i]? = some x) (hv : Vis X.env.scope x) (hN' : X.N[j]? = some y) (hv' : Vis X.env.scope y)
    (h : XE X ε Γ e Bv.rI n) (t : ∀ z zs, XB X ε ((Γ.set j (.ol r zs)).set i (.ol r (xs ++ [z]))) rest ed (k z zs))
    (hd : (x == ("__debug__" : Str)) = false := by decide) (hcd : (x == ("__classdict__" : Str)) = false := by decide) (hd' : (y == ("__debug__" : Str)) = false := by decide) (hcd' : (y == ("__classdict__" : Str)) = false := by decide)
    (hb1 : attributeBase (.Name x px) "append" X.env (eval (.Name x px) X.env) = eval (.Name x px) X.env := by rfl) (hb2 : attributeBase (.Name y py) "pop" X.env (eval (.Name y py) X.env) = eval (.Name y py) X.env := by rfl)
    (hfew1 : ((backTo cpos1 (starEach [.Call (.Attribute (.Name y py) "pop" apos2) [e] [] cpos2] X.env)).all (fun x => !x.1) && (backToKw cpos1 (keywordEach [] X.env)).all (fun x => x.1.isSome)
      && decide (([Expr.Call (.Attribute (.Name y py) "pop" apos2) [e] [] cpos2]).length + ([] : List Keyword).length + (if ([] : List Keyword).isEmpty then 0 else 1) < 30)) = true := by rfl)
    (hfew2 : ((backTo cpos2 (starEach [e] X.env)).all (fun x => !x.1) && (backToKw cpos2 (keywordEach [] X.env)).all (fun x => x.1.isSome)
      && decide (([e]).length + ([] : List Keyword).length + (if ([] : List Keyword).isEmpty then 0 else 1) < 30)) = true := by rfl)
    (hl1 : (apos1.endLine == cpos1.line) = true := by rfl) (hl2 : (apos2.endLine == cpos2.line) = true := by rfl)
    (hs1 : starEach [.Call (.Attribute (.Name y py) "pop" apos2) [e] [] cpos2] X.env = (false, eval (.Call (.Attribute (.Name y py) "pop" apos2) [e] [] cpos2) X.env) :: starEach [] X.env := by rfl) (hs2 : starEach [e] X.env = (false, eval e X.env) :: starEach [] X.env := by rfl)
    (hp1 : (backTo cpos1 (starEach [] X.env)).any (·.1) = false := by rfl) (hp2 : (backTo cpos2 (starEach [] X.env)).any (·.1) = false := by rfl) (hsw : swapsWith (.Call (.Attribute (.Name x px) "append" apos1) [.Call (.Attribute (.Name y py) "pop" apos2) [e] [] cpos2] [] cpos1) none pos.line X.env = pure false := by intros; rfl) :
    XB X ε Γ (.Expr (.Call (.Attribute (.Name x px) "append" apos1) [.Call (.Attribute (.Name y py) "pop" apos2) [e] [] cpos2] [] cpos1) pos :: rest) ed (fun P => n fun z => popZ ys z fun w ws => xs.length < 16777216 ∧ k w ws P) := fun F0 H0 xl σ F H P D S p L =>
  seq_b (k := fun σ' H' => ∃ z zs F', k z zs P ∧ Stt F0 H0 ((Γ.set j (.ol r zs)).set i (.ol r (xs ++ [z]))) σ' F' H' ∧ Go F H F' H')
    (use_s (ps_expr (pe_bm PySem.F.plainAttrs_list PySem.F.slot_list_append PySem.F.type_list_append mt_append (pe_var hN hv hd hcd) (pa_cons (pe_bm PySem.F.plainAttrs_list PySem.F.slot_list_pop PySem.F.type_list_pop mt_popAt (pe_var hN' hv' hd' hcd') (pa_cons (run_pe X) pa_nil hs2) hb2 hfew2 hl2 hs2 hp2) pa_nil hs1) hb1 hfew1 hl1 hs1 hp1) hsw) (by
      obtain ⟨s, h1, a, vs, rfl, ha, pr⟩ := S.at_ i _ hi
      obtain ⟨s2, h2, b, ws, rfl, hb, pr2⟩ := S.at_ j _ hj
      refine ⟨.ref a, h1, .inl ⟨rfl, vs, .inl (.inl ha)⟩, .ref b, h2, .inl ⟨rfl, ws, .inl (.inl hb)⟩, xe_use h xl S p fun z v F1 H1 p1 e1 r1 => ?_⟩
      obtain ⟨m, w, ⟨z1, z2⟩, hm, hw, le, p1⟩ := p1
      have S1 := S.up e1
      have nab : a ≠ b := fun z => by
        subst z
        exact hij (S.inj i j _ _ a hi hj rfl rfl h1 h2)
      have ha1 := e1.hh _ _ ha (fun _ z => by cases z)
      have hb1 := e1.hh _ _ hb (fun _ z => by cases z)
      have pr1 := r.ups e1.ff pr
      have pr21 := r.ups e1.ff pr2
      obtain ⟨u, hu, hr⟩ := Paired.at_ pr21 hw
      refine ⟨b, ws, z, m, u, rfl, by rw [r1], hb1, z1, z2, by rw [Paired.len pr2]; exact hm, hu, a, vs, u, rfl, rfl, by rw [upd_ne nab]; exact ha1, by rw [Paired.len pr]; exact le, w, _, F1, p1, ?_, ?_⟩
      · have S2 := S1.poke (B := .ol r (ys.eraseIdx m)) hj rfl h2 (u := .lst (ws.eraseIdx m)) (fun _ z => by cases z) ⟨b, _, rfl, upd_same, erase_pr m pr21⟩
        exact S2.poke (by rw [List.getElem?_set_ne (Ne.symm hij)]; exact hi) rfl h1 (fun _ z => by cases z) ⟨a, _, rfl, upd_same, pr_app pr1 hr⟩
      · exact (((e1.go S.sub).side S.sub (S1.own j _ b hj rfl h2).1)).side S.sub (S1.own i _ a hi rfl h1).1)) fun σ' H' q => by
    obtain ⟨z, zs, F', kp, S', g'⟩ := q
    exact t z zs F0 H0 xl σ' F' H' P D S' kp (L.mono g')
/-- xs.extend(ys) -/
theorem xb_extend {i : Nat} {x : Str} {px apos cpos : Pos} {xs : List α} {m : (List α → Prop) → Prop} {k : List α → (O → Prop) → Prop} (hK : X.K = K) (hi : Γ[i]? = some (.ol r xs)) (hN : X.N[i]? = some x) (hv : Vis X.env.scope x) (h : XV X ε Γ e (SA.ol r) m) (t : ∀ y, XB X ε (Γ.set i (.ol r (xs ++ y))) rest ed (k y))
    (hd : (x == ("__debug__" : Str)) = false := by decide) (hcd : (x == ("__classdict__" : Str)) = false := by decide) (hbase : attributeBase (.Name x px) "extend" X.env (eval (.Name x px) X.env) = eval (.Name x px) X.env := by rfl)
    (hfew : ((backTo cpos (starEach [e] X.env)).all (fun x => !x.1) && (backToKw cpos (keywordEach [] X.env)).all (fun x => x.1.isSome)
      && decide (([e]).length + ([] : List Keyword).length + (if ([] : List Keyword).isEmpty then 0 else 1) < 30)) = true := by rfl)
    (hline : (apos.endLine == cpos.line) = true := by rfl) (hs : starEach [e] X.env = (false, eval e X.env) :: starEach [] X.env := by rfl) (hplain : (backTo cpos (starEach [] X.env)).any (·.1) = false := by rfl) (hsw : swapsWith (.Call (.Attribute (.Name x px) "extend" apos) [e] [] cpos) none pos.line X.env = pure false := by intros; rfl) :
    XB X ε Γ (.Expr (.Call (.Attribute (.Name x px) "extend" apos) [e] [] cpos) pos :: rest) ed (fun P => m fun y => xs.length + y.length ≤ 16777216 ∧ k y P) := fun F0 H0 xl σ F H P D S p L =>
  seq_b (k := fun σ' H' => ∃ y F', k y P ∧ Stt F0 H0 (Γ.set i (.ol r (xs ++ y))) σ' F' H' ∧ Go F H F' H')
    (use_s (ps_expr (pe_bm PySem.F.plainAttrs_list PySem.F.slot_list_extend PySem.F.type_list_extend mt_extend (pe_var hN hv hd hcd) (pa_cons (run_pe X) pa_nil hs) hbase hfew hline hs hplain) hsw) (by
      obtain ⟨s, h1, a, vs, rfl, ha, pr⟩ := S.at_ i _ hi
      refine ⟨.ref a, h1, .inl ⟨rfl, vs, .inl (.inl ha)⟩, h F0 H0 xl σ F H _ _ S p fun y v F1 H1 p1 e1 r1 f1 => ?_⟩
      obtain ⟨b, ws, eb, hb, prb⟩ := r1
      cases eb
      have S1 := S.up e1
      have ha1 := e1.hh _ _ ha (fun _ z => by cases z)
      refine ⟨a, b, vs, ws, rfl, rfl, ha1, hb, by rw [Paired.len pr, Paired.len prb]; exact p1.1, y, F1, p1.2, S1.poke hi rfl h1 (fun _ z => by cases z) ⟨a, _, rfl, upd_same, ?_⟩, (e1.go S.sub).side S.sub (S1.own i _ a hi rfl h1).1⟩
      have ap : ∀ {vs ws : List V} {xs ys : List α}, Paired (r.rep F1) vs xs → Paired (r.rep F1) ws ys → Paired (r.rep F1) (vs ++ ws) (xs ++ ys) := by
        intro vs ws xs ys h1 h2
        induction h1 with
        | nil => exact h2
        | cons h t ih => exact .cons h ih
      exact ap (r.ups e1.ff pr) prb)) fun σ' H' q => by
    obtain ⟨y, F', kp, S', g'⟩ := q
    exact t y F0 H0 xl σ' F' H' P D S' kp (L.mono g')
/-- marks for the reader -/
@[reducible] def setV (x : α) (f : α → Prop) : Prop := f x
@[reducible] def joinV (f : (O → Prop) → Prop) (P : O → Prop) : Prop := f P
/-- a roll -/
def rollW (n : Int) (P : Int → Prop) : Prop := (0 < n ∧ n < 1073741824) ∧ ∀ r, 0 ≤ r → r < n → P r
def rDice : Rep Unit := ⟨fun F v _ => ∃ a, v = .ref a ∧ F a = some (Dice a), fun s ⟨a, e, h⟩ => ⟨a, e, s _ _ h⟩⟩
end Bv

/-! Bv12: == and repr of data; forms for the terms -/
namespace Bv
open PySem PySem.Spec PyProof.Rows L2 L2.DX Gd
variable {X : Cx} {ε : Tk} {F0 H0 F H F' H' : Hp} {Γ Γ' Γw : List SA} {σ : L2.St} {e a b c d tg iter o : Expr} {es : List Expr} {pos p : Pos} {α β γ δ O S : Type} {K : PySem.W.Frag} {r : Rep α} {q : Rep β} {t : Rep γ} {rest ss body : List Stmt} {ed : Ed O} {st : Stmt}
/-- equal, of a list: closed words, so that nothing is computed -/
def eqB [DecidableEq α] (x y : α) : Bool := decide (x = y)
def memB [DecidableEq α] (x : α) (xs : List α) : Bool := decide (x ∈ xs)
/-- data by their parts -/
def datN (_ : Unit) : PyData := .none
def datL (d : α → PyData) (xs : List α) : PyData := .list (xs.map d)
def datT (d : α → PyData) (xs : List α) : PyData := .tuple (xs.map d)
def datP (d : α → PyData) (e : β → PyData) (x : α × β) : PyData := .tuple [d x.1, e x.2]
def datP3 (d : α → PyData) (e : β → PyData) (g : γ → PyData) (x : α × β × γ) : PyData := .tuple [d x.1, e x.2.1, g x.2.2]
def datO (d : α → PyData) : Option α → PyData
  | none => .none
  | some x => d x
/-- a kind of data as the model tells it -/
structure Dt (K : PySem.W.Frag) {α : Type} [DecidableEq α] (r : Rep α) where
  dat : α → PyData
  n : Nat
  dp : ∀ (F : Hp) (v : V) (x : α), r.rep F v x → Dp K F v (dat x)
  eqv : ∀ x y, PyData.eqv (dat x) (dat y) = decide (x = y)
  lay : ∀ (F : Hp) (v : V) (x : α), r.rep F v x → (dat x).canLay0 = true
  dep : ∀ x, (dat x).depth ≤ n
theorem dp_sub {v : V} {x : PyData} (s : Sub F H) (h : Dp K F v x) : Dp K H v x := by
  refine Dp.rec (motive_1 := fun v x _ => Dp K H v x) (motive_2 := fun vs xs _ => DpAll K H vs xs) .non .bl .int .str (fun hs _ ih => .lst (s.seq hs) ih) (fun hs _ ih => .tup (s.seqT hs) ih) .nil (fun _ _ i1 i2 => .cons i1 i2) h
def dt_I : Dt K Bv.rI where
  dat := .int
  n := 0
  dp := fun F v x h => by rw [show v = V.int x from h]; exact .int x
  eqv := fun x y => by
    show (x == y) = _
    by_cases h : x = y
    · rw [decide_eq_true h, h]; exact beq_self_eq_true y
    · rw [decide_eq_false h]; exact beq_eq_false_iff_ne.mpr h
  lay := fun _ _ _ _ => rfl
  dep := fun _ => Nat.le_refl _
def dt_B : Dt K rB where
  dat := .bool
  n := 0
  dp := fun F v x h => by rw [show v = V.bl x from h]; exact .bl x
  eqv := fun x y => by
    show (x == y) = _
    by_cases h : x = y
    · rw [decide_eq_true h, h]; exact beq_self_eq_true y
    · rw [decide_eq_false h]; exact beq_eq_false_iff_ne.mpr h
  lay := fun _ _ _ _ => rfl
  dep := fun _ => Nat.le_refl _
def dt_S : Dt K rS where
  dat := .str
  n := 0
  dp := fun F v x h => by rw [h.1]; exact .str x
  eqv := fun x y => by
    show (x == y) = _
    by_cases h : x = y
    · rw [decide_eq_true h, h]; exact beq_self_eq_true y
    · rw [decide_eq_false h]; exact beq_eq_false_iff_ne.mpr h
  lay := fun _ _ _ h => h.2.2
  dep := fun _ => Nat.le_refl _
def dt_N : Dt K rN where
  dat := fun _ => .none
  n := 0
  dp := fun F v x h => by rw [show v = V.non from h]; exact .non
  eqv := fun _ _ => rfl
  lay := fun _ _ _ _ => rfl
  dep := fun _ => Nat.le_refl _
section
variable [DecidableEq α] [DecidableEq β] [DecidableEq γ]
theorem dpAll (D : Dt K r) : ∀ {vs : List V} {xs : List α}, Paired (r.rep F) vs xs → DpAll K F vs (xs.map D.dat)
  | _, _, .nil => .nil
  | _, _, .cons h t => .cons (D.dp _ _ _ h) (dpAll D t)
theorem eqvAll (D : Dt K r) : ∀ xs ys : List α, PyData.eqvAll (xs.map D.dat) (ys.map D.dat) = decide (xs = ys)
  | [], [] => by simp only [List.map_nil, PyData.eqvAll, decide_true]
  | [], _ :: _ => by simp [PyData.eqvAll]
  | _ :: _, [] => by simp [PyData.eqvAll]
  | x :: xs, y :: ys => by
    rw [List.map_cons, List.map_cons, PyData.eqvAll, eqvAll D xs ys, D.eqv]
    by_cases h : x = y
    · by_cases k : xs = ys
      · rw [decide_eq_true h, decide_eq_true k, decide_eq_true (by rw [h, k])]; rfl
      · rw [decide_eq_true h, decide_eq_false k, decide_eq_false (fun z => k (List.cons.inj z).2)]; rfl
    · rw [decide_eq_false h, decide_eq_false (fun z => h (List.cons.inj z).1)]; rfl
theorem layAll (D : Dt K r) : ∀ {vs : List V} {xs : List α}, Paired (r.rep F) vs xs → PyData.canLayAll0 (xs.map D.dat) = true
  | _, _, .nil => rfl
  | _, _, .cons h t => by
    rw [List.map_cons, PyData.canLayAll0, D.lay _ _ _ h, layAll D t]
    rfl
theorem depAll (D : Dt K r) : ∀ xs : List α, PyData.depthAll (xs.map D.dat) ≤ D.n
  | [] => Nat.zero_le _
  | x :: xs => by
    rw [List.map_cons, PyData.depthAll]
    exact Nat.max_le.mpr ⟨D.dep x, depAll D xs⟩
def dt_L (D : Dt K r) : Dt K (rL K r) where
  dat := fun xs => .list (xs.map D.dat)
  n := D.n + 1
  dp := fun F v x ⟨a, vs, e, h, p⟩ => by rw [e]; exact .lst (.inl h) (dpAll D p)
  eqv := fun x y => by rw [PyData.eqv]; exact eqvAll D x y
  lay := fun F v x ⟨a, vs, e, h, p⟩ => by rw [PyData.canLay0]; exact layAll D p
  dep := fun x => by rw [PyData.depth]; exact Nat.succ_le_succ (depAll D x)
def dt_T (D : Dt K r) : Dt K (rT K r) where
  dat := fun xs => .tuple (xs.map D.dat)
  n := D.n + 1
  dp := fun F v x ⟨a, vs, e, h, p⟩ => by rw [e]; exact .tup h (dpAll D p)
  eqv := fun x y => by rw [PyData.eqv]; exact eqvAll D x y
  lay := fun F v x ⟨a, vs, e, h, p⟩ => by rw [PyData.canLay0]; exact layAll D p
  dep := fun x => by rw [PyData.depth]; exact Nat.succ_le_succ (depAll D x)
theorem and_dec {p q : Prop} [Decidable p] [Decidable q] : (decide p && decide q) = decide (p ∧ q) := by
  by_cases h : p
  · by_cases k : q
    · rw [decide_eq_true h, decide_eq_true k, decide_eq_true ⟨h, k⟩]; rfl
    · rw [decide_eq_true h, decide_eq_false k, decide_eq_false (fun z => k z.2)]; rfl
  · rw [decide_eq_false h, decide_eq_false (fun z : p ∧ q => h z.1)]; rfl
def dt_P (D : Dt K r) (E : Dt K q) : Dt K (rP K r q) where
  dat := fun x => .tuple [D.dat x.1, E.dat x.2]
  n := max D.n E.n + 1
  dp := fun F v x ⟨a, v1, v2, e, h, h1, h2⟩ => by rw [e]; exact .tup h (.cons (D.dp _ _ _ h1) (.cons (E.dp _ _ _ h2) .nil))
  eqv := fun x y => by
    rw [PyData.eqv, PyData.eqvAll, PyData.eqvAll, PyData.eqvAll, D.eqv, E.eqv, Bool.and_true, and_dec]
    exact decide_eq_decide.mpr ⟨fun h => Prod.ext h.1 h.2, fun h => ⟨congrArg Prod.fst h, congrArg Prod.snd h⟩⟩
  lay := fun F v x ⟨a, v1, v2, e, h, h1, h2⟩ => by rw [PyData.canLay0, PyData.canLayAll0, PyData.canLayAll0, PyData.canLayAll0, D.lay _ _ _ h1, E.lay _ _ _ h2]; rfl
  dep := fun x => by
    rw [PyData.depth, PyData.depthAll, PyData.depthAll, PyData.depthAll]
    have := D.dep x.1
    have := E.dep x.2
    omega
def dt_P3 (D : Dt K r) (E : Dt K q) (G : Dt K t) : Dt K (rP3 K r q t) where
  dat := fun x => .tuple [D.dat x.1, E.dat x.2.1, G.dat x.2.2]
  n := max D.n (max E.n G.n) + 1
  dp := fun F v x ⟨a, v1, v2, v3, e, h, h1, h2, h3⟩ => by rw [e]; exact .tup h (.cons (D.dp _ _ _ h1) (.cons (E.dp _ _ _ h2) (.cons (G.dp _ _ _ h3) .nil)))
  eqv := fun x y => by
    rw [PyData.eqv, PyData.eqvAll, PyData.eqvAll, PyData.eqvAll, PyData.eqvAll, D.eqv, E.eqv, G.eqv, Bool.and_true, and_dec, and_dec]
    exact decide_eq_decide.mpr ⟨fun h => Prod.ext h.1 (Prod.ext h.2.1 h.2.2), fun h => ⟨congrArg Prod.fst h, congrArg (fun z => z.2.1) h, congrArg (fun z => z.2.2) h⟩⟩
  lay := fun F v x ⟨a, v1, v2, v3, e, h, h1, h2, h3⟩ => by rw [PyData.canLay0, PyData.canLayAll0, PyData.canLayAll0, PyData.canLayAll0, PyData.canLayAll0, D.lay _ _ _ h1, E.lay _ _ _ h2, G.lay _ _ _ h3]; rfl
  dep := fun x => by
    rw [PyData.depth, PyData.depthAll, PyData.depthAll, PyData.depthAll, PyData.depthAll]
    have := D.dep x.1
    have := E.dep x.2.1
    have := G.dep x.2.2
    omega
theorem shaped_of (D : Dt K r) (hn : D.n ≤ 64) {v : V} {x : α} (h : r.rep F v x) : SeqAt.shaped (D.dat x) = true := by
  unfold SeqAt.shaped
  rw [D.lay _ _ _ h, decide_eq_true (Nat.le_trans (D.dep x) hn)]
  rfl
theorem s_eqD (D : Dt K r) (hn : D.n ≤ 64 := by exact Nat.le_of_ble_eq_true rfl) : Sem2 r r (SA.im rB) (rEqD K) (fun x y P => P (eqB x y)) := fun x y v w F H P Q s hx hy p W =>
  ⟨D.dat x, D.dat y, dp_sub s (D.dp _ _ _ hx), dp_sub s (D.dp _ _ _ hy), shaped_of D hn hx, shaped_of D hn hy, wish_im W p s (by rw [D.eqv]; rfl)⟩
theorem s_neD (D : Dt K r) (hn : D.n ≤ 64 := by exact Nat.le_of_ble_eq_true rfl) : Sem2 r r (SA.im rB) (rNeD K) (fun x y P => P (!eqB x y)) := fun x y v w F H P Q s hx hy p W =>
  ⟨D.dat x, D.dat y, dp_sub s (D.dp _ _ _ hx), dp_sub s (D.dp _ _ _ hy), shaped_of D hn hx, shaped_of D hn hy, wish_im W p s (by rw [D.eqv]; rfl)⟩
theorem shown_len (D : Dt K r) {x : α} (h : Sh (D.dat x)) : (D.dat x).shown.length ≤ sizeLine := h.len
end
theorem hu64 {k : Nat} {A : Around} (r : Room k A) : A.units + 64 < cLine := r.units
/-! ### chains -/
section
variable {mx my mz : (Int → Prop) → Prop} {y z : Int} {f g : Int → Int → Bool} {op op' : CmpOp} {r1 r2 : R2}
theorem xe_chain (ho : OpR X (compareOp op) r1) (ho' : OpR X (compareOp op') r2) (s1 : Sem2 Bv.rI Bv.rI (SA.im rB) r1 (fun x y P => P (f x y))) (s2 : Sem2 Bv.rI Bv.rI (SA.im rB) r2 (fun x y P => P (g x y))) (ha : XE X ε Γ a Bv.rI mx) (hb : XE X ε Γ b Bv.rI (fun P => P y)) (hc : XE X ε Γ c Bv.rI (fun P => P z))
    (hm : lastMarks [op, op'] [b, c] = false := by with_unfolding_all rfl) : XE X ε Γ (.Compare a [op, op'] [b, c] pos) rB (fun P => mx fun x => P (f x y && g y z)) := xe_of fun F0 H0 xl σ F H P Q S p q =>
  use_e (pe_chain ho ho' (run_pe X) (run_pe X) (run_pe X) hm) (xe_use ha xl S p fun x v F1 H1 p1 e1 h1 => xe_use hb xl (S.up e1) (P := fun y' => y' = y) rfl fun y' w F2 H2 ey e2 h2 => by
    subst ey
    refine s1 x y' v w F2 H2 (fun b => b = f x y') _ e2.fh (Bv.rI.up e2.ff h1) h2 rfl fun k u F3 H3 ek e3 ⟨u', eu, hu⟩ _ => ?_
    subst ek
    cases eu
    refine ⟨_, hu, ?_⟩
    have e13 := (e1.trans e2).trans e3
    cases hk : f x y' with
    | false =>
      rw [if_neg (by decide)]
      rw [hk] at p1
      exact q false _ F3 H3 p1 e13 rfl
    | true =>
      rw [if_pos rfl]
      rw [hk] at p1
      refine xe_use hc xl (((S.up e1).up e2).up e3) (P := fun z' => z' = z) rfl fun z' t F4 H4 ez e4 h4 => ?_
      subst ez
      exact s2 y' z' w t F4 H4 (fun b => b = g y' z') _ e4.fh (Bv.rI.up (e3.trans e4).ff h2) h4 rfl fun k2 u2 F5 H5 ek2 e5 ⟨u2', eu2, hu2⟩ _ => by
        subst ek2
        cases eu2
        exact q _ _ F5 H5 p1 ((e13.trans e4).trans e5) hu2)
theorem xt_chain (ho : OpR X (compareOp op) r1) (ho' : OpR X (compareOp op') r2) (s1 : Sem2 Bv.rI Bv.rI (SA.im rB) r1 (fun x y P => P (f x y))) (s2 : Sem2 Bv.rI Bv.rI (SA.im rB) r2 (fun x y P => P (g x y))) (ha : XE X ε Γ a Bv.rI mx) (hb : XE X ε Γ b Bv.rI (fun P => P y)) (hc : XE X ε Γ c Bv.rI (fun P => P z))
    (hm : lastMarks [op, op'] [b, c] = false := by with_unfolding_all rfl) : XT X ε Γ (.Compare a [op, op'] [b, c] pos) (fun P => mx fun x => P (f x y && g y z)) := fun F0 H0 xl σ F H P Q S p q =>
  use_t (pt_chain ho ho' (run_pe X) (run_pe X) (run_pe X) hm) (xe_use ha xl S p fun x v F1 H1 p1 e1 h1 => xe_use hb xl (S.up e1) (P := fun y' => y' = y) rfl fun y' w F2 H2 ey e2 h2 => by
    subst ey
    refine s1 x y' v w F2 H2 (fun b => b = f x y') _ e2.fh (Bv.rI.up e2.ff h1) h2 rfl fun k u F3 H3 ek e3 ⟨u', eu, hu⟩ _ => ?_
    subst ek
    cases eu
    refine ⟨_, hu, ?_⟩
    have e13 := (e1.trans e2).trans e3
    cases hk : f x y' with
    | false =>
      rw [if_neg (by decide)]
      rw [hk] at p1
      exact ⟨false, rfl, q false F3 H3 p1 e13⟩
    | true =>
      rw [if_pos rfl]
      rw [hk] at p1
      refine xe_use hc xl (((S.up e1).up e2).up e3) (P := fun z' => z' = z) rfl fun z' t F4 H4 ez e4 h4 => ?_
      subst ez
      exact s2 y' z' w t F4 H4 (fun b => b = g y' z') _ e4.fh (Bv.rI.up (e3.trans e4).ff h2) h4 rfl fun k2 u2 F5 H5 ek2 e5 ⟨u2', eu2, hu2⟩ _ => by
        subst ek2
        cases eu2
        exact ⟨_, hu2, q _ F5 H5 p1 ((e13.trans e4).trans e5)⟩)
end
/-! ### forms -/
theorem xv_cast {mk : α → SA} {m m' : (α → Prop) → Prop} (h : XV X ε Γ e mk m) (w : ∀ P, m' P → m P) : XV X ε Γ e mk m' := fun F0 H0 xl σ F H P Q S p q => h F0 H0 xl σ F H P Q S (w P p) q
section
variable {mk : List β → SA} {m : (List α → Prop) → Prop}
theorem xv_lcP {t : α → Bool} {f : α → β} (h : XV X ε Γ e mk (fun P => m fun xs => lcM (fun x P => P (t x)) (fun x P => P (f x)) xs P)) : XV X ε Γ e mk (fun P => m fun xs => P ((xs.filter t).map f)) := xv_cast h fun P p => by
  have e : (fun xs => lcM (fun x P => P (t x)) (fun x P => P (f x)) xs P) = fun xs => P ((xs.filter t).map f) := funext fun xs => lcM_P
  show m _
  rw [e]
  exact p
theorem xv_lcA {f : α → (β → Prop) → Prop} (h : XV X ε Γ e mk (fun P => m fun xs => lcM (fun _ P => P true) f xs P)) : XV X ε Γ e mk (fun P => m fun xs => mapW f xs P) := xv_cast h fun P p => by
  have e : (fun xs => lcM (fun _ P => P true) f xs P) = fun xs => mapW f xs P := funext fun xs => lcM_all
  show m _
  rw [e]
  exact p
theorem xv_lcAP {f : α → β} (h : XV X ε Γ e mk (fun P => m fun xs => lcM (fun _ P => P true) (fun x P => P (f x)) xs P)) : XV X ε Γ e mk (fun P => m fun xs => P (xs.map f)) := xv_cast (xv_lcA h) fun P p => by
  have e : (fun xs => mapW (fun x P => P (f x)) xs P) = fun xs => P (xs.map f) := funext fun xs => mapW_P
  show m _
  rw [e]
  exact p
end
theorem xv_lcF {mk : List α → SA} {m : (List α → Prop) → Prop} {t : α → Bool} (h : XV X ε Γ e mk (fun P => m fun xs => lcM (fun x P => P (t x)) (fun x P => P x) xs P)) : XV X ε Γ e mk (fun P => m fun xs => P (xs.filter t)) := xv_cast (xv_lcP (f := fun x => x) h) fun P p => by
  have e : (fun xs : List α => P ((xs.filter t).map fun x => x)) = fun xs => P (xs.filter t) := funext fun xs => by rw [List.map_id'']; exact fun _ => rfl
  show m _
  rw [e]
  exact p
theorem xv_lcI {mk : List α → SA} {m : (List α → Prop) → Prop} (h : XV X ε Γ e mk (fun P => m fun xs => lcM (fun _ P => P true) (fun x P => P x) xs P)) : XV X ε Γ e mk (fun P => m fun xs => P xs) := xv_cast (xv_lcAP (f := fun x => x) h) fun P p => by
  have e : (fun xs : List α => P (xs.map fun x => x)) = fun xs => P xs := funext fun xs => by rw [List.map_id'']; exact fun _ => rfl
  show m _
  rw [e]
  exact p
theorem hw1 {i : Nat} (h : Γ[i]? = some .no) : ∀ v ∈ [i], ∀ A, Γ[v]? = some A → A = .no := fun v hv A hA => by
  obtain rfl := List.mem_singleton.mp hv
  rw [h] at hA
  exact (Option.some.inj hA).symm
theorem hw2 {i j : Nat} (h : Γ[i]? = some .no) (h2 : Γ[j]? = some .no) : ∀ v ∈ [i, j], ∀ A, Γ[v]? = some A → A = .no := fun v hv A hA => by
  rcases List.mem_cons.mp hv with rfl | hv
  · rw [h] at hA
    exact (Option.some.inj hA).symm
  · exact hw1 h2 v hv A hA
theorem hw3 {i j k : Nat} (h : Γ[i]? = some .no) (h2 : Γ[j]? = some .no) (h3 : Γ[k]? = some .no) : ∀ v ∈ [i, j, k], ∀ A, Γ[v]? = some A → A = .no := fun v hv A hA => by
  rcases List.mem_cons.mp hv with rfl | hv
  · rw [h] at hA
    exact (Option.some.inj hA).symm
  · exact hw2 h2 h3 v hv A hA
def Rps.len (R : Rps β) (n : Nat) : Prop := ∀ (F : Hp) (vs : List V) (x : β), R.rep F vs x → vs.length = n
theorem len_nil : rNil.len 0 := fun F vs x h => by subst h; rfl
theorem len_cons {R : Rps β} {n : Nat} (h : R.len n) : (rCons r R).len (n + 1) := fun F vs x ⟨v, ws, e, _, h2⟩ => by
  subst e
  exact congrArg (· + 1) (h F ws x.2 h2)
/-- z.endswith(y, i, j) -/
def ends4 (z y : Str) (i j : Int) : Bool := decide (fromIndex z.length i + y.length ≤ toIndexW z.length j) && Builtin.Str.subAt z y (toIndexW z.length j - y.length)
/-- None or a thing -/
def rO (K : PySem.W.Frag) {α : Type} (r : Rep α) : Rep (Option α) := ⟨fun F v x => (v = .non ∧ x = none) ∨ ∃ y, x = some y ∧ r.rep F v y, fun s h => h.imp id fun ⟨y, e, h⟩ => ⟨y, e, r.up s h⟩⟩
theorem xo_non {m : (Unit → Prop) → Prop} (h : XE X ε Γ e rN m) : XE X ε Γ e (rO K r) (fun P => m fun _ => P none) := xe_of fun F0 H0 xl σ F H P Q S p q => xe_use h xl S p fun x v F1 H1 p1 e1 h1 => q none v F1 H1 p1 e1 (.inl ⟨h1, rfl⟩)
theorem xo_yes {m : (α → Prop) → Prop} (h : XE X ε Γ e r m) : XE X ε Γ e (rO K r) (fun P => m fun x => P (some x)) := xe_of fun F0 H0 xl σ F H P Q S p q => xe_use h xl S p fun x v F1 H1 p1 e1 h1 => q (some x) v F1 H1 p1 e1 (.inr ⟨x, rfl, h1⟩)
/-! ### lists joined -/
theorem pr_join {R : V → α → Prop} : ∀ {vs ws : List V} {xs ys : List α}, Paired R vs xs → Paired R ws ys → Paired R (vs ++ ws) (xs ++ ys)
  | _, _, _, _, .nil, h => h
  | _, _, _, _, .cons h t, k => .cons h (pr_join t k)
theorem s_30 : Sem2 (rP3 K r q t) Bv.rI (SA.im r) (rIxT K) (fun x i P => i = 0 ∧ P x.1) := fun x y v w F H P Q s ⟨a, v1, v2, v3, e, hq, h1, h2, h3⟩ hy ⟨e0, p⟩ W => ⟨a, [v1, v2, v3], 0, v1, e, by rw [show w = V.int y from hy, e0], s.seqT hq, rfl, wish_im W p s h1⟩
theorem s_31 : Sem2 (rP3 K r q t) Bv.rI (SA.im q) (rIxT K) (fun x i P => i = 1 ∧ P x.2.1) := fun x y v w F H P Q s ⟨a, v1, v2, v3, e, hq, h1, h2, h3⟩ hy ⟨e0, p⟩ W => ⟨a, [v1, v2, v3], 1, v2, e, by rw [show w = V.int y from hy, e0], s.seqT hq, rfl, wish_im W p s h2⟩
theorem s_32 : Sem2 (rP3 K r q t) Bv.rI (SA.im t) (rIxT K) (fun x i P => i = 2 ∧ P x.2.2) := fun x y v w F H P Q s ⟨a, v1, v2, v3, e, hq, h1, h2, h3⟩ hy ⟨e0, p⟩ W => ⟨a, [v1, v2, v3], 2, v3, e, by rw [show w = V.int y from hy, e0], s.seqT hq, rfl, wish_im W p s h3⟩
/-! ### the law's dice -/
theorem spa_roll {P : Program} {w : World} {mg : Str → Option Value} {base : Heap} {k : Nat} {f : Addr} {fd : FuncData} {ps : List Str} (h : FnG P w K mg base CX0 k f fd ps spRoll) : FnG P w K mg base CX0 k f fd ps (spA (rCons rDice (rCons Bv.rI rNil)) Bv.rI (fun a => rollW a.2.1)) :=
  h.imp fun vs H Q E ⟨F, x, Pz, s, ⟨v, ws, e, ⟨a, ea, hf⟩, v2, ws2, e2, e3, e4⟩, p, hz⟩ => by
    subst e e2 e4
    rw [show v2 = V.int x.2.1 from e3, ea]
    exact ⟨a, x.2.1, rfl, p.1, (s a _ hf).elim id (fun k => k.1.elim), fun r h0 h1 => hz r _ F H (p.2 r h0 h1) (Ext.refl s) rfl⟩
/-- the script -/
def rScr (K : PySem.W.Frag) : Rep (List Int) := rLK K Bv.rI
theorem spa_dice {P : Program} {w : World} {mg : Str → Option Value} {base : Heap} {k : Nat} {f : Addr} {fd : FuncData} {ps : List Str} (h : FnG P w K mg base CX0 k f fd ps (spDice K)) : FnG P w K mg base CX0 k f fd ps (spA (rCons (rLK K Bv.rI) (rCons Bv.rI rNil)) rDice (fun a P => ((0 ≤ a.2.1 ∧ a.2.1 < 63) ∧ a.1.length ≤ 63) ∧ P ())) :=
  h.imp fun vs H Q E ⟨F, x, Pz, s, ⟨v, ws, e, ⟨a, us, ea, hq, pr⟩, v2, ws2, e2, e3, e4⟩, p, hz⟩ => by
    subst e e2 e4
    have := ints_of pr
    subst this
    rw [show v2 = V.int x.2.1 from e3, ea]
    refine ⟨a, x.1, x.2.1, rfl, p.1.1, s.seq hq, p.1.2, fun l hl => hz () (.ref l) _ _ p.2 (Ext.new_ s hl) ⟨l, rfl, upd_same⟩⟩
end Bv

/-! Bv13: enumerate(text); repr; lists joined; the script -/
namespace Bv
open PySem PySem.Spec PyProof.Rows L2 L2.DX Gd
/-- enumerate(text): each sign in a new pair -/
def IteS (x : Str) : It :=
  ⟨fun i _ => i < x.cps.size, fun i H v H' => ∃ T c, v = .ref T ∧ H T = none ∧ H' = upd H T (.tup [.int (i : Nat), .str ⟨#[c]⟩]) ∧ x.cps[i]? = some c, fun i _ => x.cps.size ≤ i⟩
theorem draws_str {X : Cx} {pins : List (Addr × Obj)} {σ : L2.St} {H : Hp} {s : Shared} (I : Inv X pins σ H s) (hc : X.calm = true) (it : Addr) (x : Str) (t : Tok) (ty : String) (hty : ty = "str_ascii_iterator" ∨ ty = "str_iterator") :
    Draws X.prog X.w X.A.in1 it [it] x.cps.size (fun i v => ∃ c u, x.cps[i]? = some c ∧ v = .str ⟨#[c]⟩ u) (fun i h => h.IsStrIter it ty x t i) := by
  have hd : X.A.in1.handled = none := I.ok.hd hc
  rcases hty with e | e
  · rw [e]; exact Draws.strAscii hd it x t
  · rw [e]; exact Draws.strWide hd it x t
theorem turn_enumS {P : Program} {w : World} {K : PySem.W.Frag} {elts : List Expr} {kk : Nat} {tpos : Pos} (e it : Addr) (x : Str) (t : Tok) (ty : String) (hty : ty = "str_ascii_iterator" ∨ ty = "str_iterator") :
    Turn P w K (.Tuple elts kk tpos) (IteS x) [e, it] e (fun i h => (∃ old, IsEnum h e it ((i : Nat) : Int) old) ∧ h.IsStrIter it ty x t i ∧ e ≠ it) where
  mem := by simp
  obj := fun i h st b hb => by
    obtain ⟨⟨old, he⟩, ⟨o, ho, hc, hd⟩, _⟩ := st
    have e' : b = e ∨ b = it := by simpa using hb
    rcases e' with z | z
    · rw [z]; exact ⟨_, he, fun v q => nomatch q⟩
    · rw [z]; exact ⟨o, ho, fun v q => by rw [hd] at q; cases q⟩
  keep := fun i h h' st k => let ⟨⟨old, he⟩, ⟨o, ho, r⟩, hne⟩ := st; ⟨⟨old, k e (by simp) _ he⟩, ⟨o, k it (by simp) o ho, r⟩, hne⟩
  item := by
    intro X hP hw hK hc i pins s σ H E I hf st hg
    subst hP hw hK
    obtain ⟨⟨old, he⟩, hit, hne⟩ := st
    have hel : e < s.heap.objs.size := Heap.lt_size he
    have hil : it < s.heap.objs.size := by obtain ⟨_, q, _⟩ := hit; exact Heap.lt_size q
    refine wpAny_pyNext_enum_itemD (draws_str I hc it x t ty hty) he hit hg hne (fun m => hne (List.mem_singleton.mp m)) fun v h' tk hP ho hit' hT hsz hk => ?_
    obtain ⟨c, u, hcx, rfl⟩ := hP
    refine ⟨_, rfl, wpAny_letOwnedTupleGo_enum (s := { s with heap := h', toks := tk + 1 }) ho fun h'' he' sb => ?_⟩
    have hT2 : h''.get? s.heap.objs.size = some { cls := .type "tuple", data := .seq #[.int i tk, .str ⟨#[c]⟩ u] } := (sb.2 _ (Nat.ne_of_gt hel)).trans hT
    have new : ObjOk X.prog X.w (upd H s.heap.objs.size (.tup [.int (i : Nat), .str ⟨#[c]⟩])) h'' s.heap.objs.size (.tup [.int (i : Nat), .str ⟨#[c]⟩]) :=
      ⟨by show 2 ≤ sizeLine; decide, [.int i tk, .str ⟨#[c]⟩ u], .cons ⟨_, rfl⟩ (.cons ⟨_, rfl⟩ .nil), ⟨_, hT2, rfl, _, rfl⟩⟩
    have I1 : Inv X pins σ (upd H s.heap.objs.size (.tup [.int (i : Nat), .str ⟨#[c]⟩])) { s with heap := h'', toks := tk + 1 } :=
      I.turnedNew (ch := [e, it]) (fun b ob hb q => (sb.2 b (fun z => hb (by simp [z]))).trans (hk b ob (fun z => hb (by simp [z])) (fun z => hb (by simp [z])) q)) hf (Nat.le_refl _) new
    refine ⟨.ref s.heap.objs.size, _, I1, rfl, ⟨_, c, rfl, I.hok.fresh (Nat.le_refl _), rfl, hcx⟩, ⟨⟨.str ⟨#[c]⟩ u, ?_⟩, ?_, hne⟩, fun b hb => ?_⟩
    · have e1 : ((i + 1 : Nat) : Int) = (i : Int) + 1 := by omega
      rw [e1]; exact he'
    · obtain ⟨o, ho2, r⟩ := hit'
      exact ⟨o, (sb.2 it (Ne.symm hne)).trans ho2, r⟩
    · have hb' : b < s.heap.objs.size := by
        have e' : b = e ∨ b = it := by simpa using hb
        rcases e' with z | z
        · rw [z]; exact hel
        · rw [z]; exact hil
      rw [upd_ne (Nat.ne_of_lt hb')]
      exact (hf b hb).1
  done := by
    intro X hP hw hK hc i pins s σ H E I hf st hg
    subst hP hw hK
    obtain ⟨⟨old, he⟩, hit, hne⟩ := st
    obtain ⟨f0, f1, f2, f3, f4, f5⟩ := hf it (by simp)
    have hx : x.cps[i]? = none := Array.getElem?_eq_none hg
    have hT : s.TypeIs (.ref e) "enumerate" := ⟨_, he, rfl⟩
    unfold pyNext
    refine wpAny_bind (wpAny_attempt (wpAny_callSpecial?_slot (name := Str.ofString "__next__") hT F.slot_enumerate_next
      (wpAny_call_entry F.slot_enumerate_next hT F.entry_enumerate_next ?_ (F.args_enumerate_next_1 _))))
    show wpAny _ _ (field (.ref e) 2 >>= _) _ _ _
    refine wpAny_bind (wpAny_field he rfl (x := .ref it) rfl ?_)
    have hd : X.A.in1.handled = none := I.ok.hd hc
    rcases hty with k | k
    · rw [k] at hit
      refine wpAny_bind (wpAny_nextOf_ascii_end hd hit hx fun h' x' he' hx' => ?_)
      obtain ⟨o, ho, hc⟩ := hx'
      refine wpAny_bind (wpAny_isInstance (T := "StopIteration") (b := true) ⟨o, ho, hc⟩ isSubtype_stop ?_)
      exact wpAny_pure ⟨rfl, I.turned (t' := s.toks) (fun b o hb q => he' b o hb q) f0 f1 f3 f4 f5⟩
    · rw [k] at hit
      refine wpAny_bind (wpAny_nextOf_wide_end hd hit hx fun h' x' he' hx' => ?_)
      obtain ⟨o, ho, hc⟩ := hx'
      refine wpAny_bind (wpAny_isInstance (T := "StopIteration") (b := true) ⟨o, ho, hc⟩ isSubtype_stop ?_)
      exact wpAny_pure ⟨rfl, I.turned (t' := s.toks) (fun b o hb q => he' b o hb q) f0 f1 f3 f4 f5⟩
  self := fun A i s Q E st h => let ⟨⟨_, he⟩, _⟩ := st; wpAny_pyIter_enum he h

def iEnumS (ta : TA) : TI := fun σ H R => ta σ H fun vs H1 => ∃ x, vs = [.str x] ∧ R (IteS x) H1
theorem pi_enumS {X : Cx} {e : Expr} {ta : TA} {p pos tpos : Pos} {elts : List Expr} {kk : Nat} (hg : Gl X "enumerate") (hm : X.mg "enumerate" = none) (ha : PA X [e] ta) (hs : starEach [e] X.env = [(false, eval e X.env)] := by rfl) :
    PI X (.Tuple elts kk tpos) (.Call (.Name "enumerate" p) [e] [] pos) (iEnumS ta) := by
  refine ⟨fun pins s σ H R I h => ?_⟩
  refine Call_ (ld_blt I hg hm boot_enumerate (PyProof.Rows.callWith_type1 (thn (ha.run pos pins s σ H _ I h) fun us s1 ⟨vs, H1, I1, r1, q1⟩ => ?_) hs rfl))
  obtain ⟨x, ex, q⟩ := q1
  subst ex
  cases r1 with
  | cons r rr =>
    cases rr
    obtain ⟨t, rfl⟩ := r
    refine call_enumerate_str fun h' he hit hsz hk => wpAny_pyIter_enum he ?_
    have I2 : Inv X pins σ H1 { s1 with heap := h' } := I1.kept (t' := s1.toks) hk
    have hty : strIterType x = "str_ascii_iterator" ∨ strIterType x = "str_iterator" := by
      unfold strIterType
      split
      · exact .inl rfl
      · exact .inr rfl
    refine ⟨s1.heap.objs.size + 1, [s1.heap.objs.size + 1, s1.heap.objs.size], _, _, H1, rfl, I2, turn_enumS (s1.heap.objs.size + 1) s1.heap.objs.size x t _ hty, ⟨⟨.none, he⟩, hit, Nat.succ_ne_self _⟩, fun b hb => ?_, q⟩
    have e' : b = s1.heap.objs.size + 1 ∨ b = s1.heap.objs.size := by simpa using hb
    have hle : s1.heap.objs.size ≤ b := by
      rcases e' with z | z
      · rw [z]; exact Nat.le_add_right _ _
      · rw [z]; exact Nat.le_refl _
    exact I1.fpOk hle (I1.hok.fresh hle)
variable {X : Cx} {ε : Tk} {F0 H0 F H F' H' : Hp} {Γ Γ' Γw : List SA} {σ : L2.St} {e a b c d tg iter o : Expr} {es : List Expr} {pos p : Pos} {α β γ δ O S : Type} {K : PySem.W.Frag} {r : Rep α} {q : Rep β} {t : Rep γ} {rest ss body : List Stmt} {ed : Ed O} {st : Stmt}
theorem xi_enumS {m : (Str → Prop) → Prop} {tpos : Pos} {elts : List Expr} {kk : Nat} (hK : X.K = K) (hg : Gl X "enumerate") (hm : X.mg "enumerate" = none) (h : XE X ε Γ e rS m) (hs : starEach [e] X.env = [(false, eval e X.env)] := by rfl) (hs' : starEach [e] X.env = (false, eval e X.env) :: starEach [] X.env := by rfl) :
    XI X ε Γ (.Tuple elts kk tpos) (.Call (.Name "enumerate" p) [e] [] pos) (rP K Bv.rI rS) (fun P => m fun x => P (enumZ (signs x))) :=
  ⟨_, pi_enumS hg hm (run_pa X) hs, fun F0 H0 xl σ F H P R S pp q => xa_cons h xa_nil hs' F0 H0 xl σ F H (fun x => P (enumZ (signs x.1))) _ S pp fun x vs F1 H1 p1 e1 r1 => by
    obtain ⟨v, ws, rfl, ⟨ev, ok⟩, rfl⟩ := r1
    subst ev
    refine ⟨x.1, rfl, q _ F1 H1 _ p1 e1 (by rw [enumZ_len]; unfold signs; rw [List.length_map]; exact ok.1) fun F2 H2 g s i => ⟨fun y hy => ?_, fun le => ?_⟩⟩
    · obtain ⟨ei, hx⟩ := enumZ_at hy
      unfold signs at hx
      rw [List.getElem?_map, Array.getElem?_toList] at hx
      cases hc : x.1.cps[i]? with
      | none => rw [hc] at hx; cases hx
      | some c =>
        rw [hc] at hx
        have hx : sg c = y.2 := Option.some.inj hx
        have lt : i < x.1.cps.size := by
          rcases Nat.lt_or_ge i x.1.cps.size with k | k
          · exact k
          · rw [Array.getElem?_eq_none k] at hc; cases hc
        refine ⟨lt, fun w H3 ⟨T, c', ew, nT, eH, hc'⟩ => ?_⟩
        subst ew
        subst eH
        rw [hc] at hc'
        cases hc'
        exact ⟨upd F2 T (.tup [.int (i : Nat), .str ⟨#[c]⟩]), Ext.new_ s nT, T, _, _, rfl, .inl (.inl upd_same), ei ▸ rfl, by rw [← hx], hx ▸ strOk_sg ok.2 (Array.mem_toList_iff.mpr (Array.mem_of_getElem? hc))⟩
    · rw [enumZ_len] at le
      unfold signs at le
      rw [List.length_map, Array.length_toList] at le
      exact le⟩
/-- what repr shows -/
def rR : Rep Str := ⟨fun _ v x => v = .str x, fun _ h => h⟩
theorem flat_R : rR.flat := fun _ _ _ _ h => h
theorem s_eqR : Sem2 rR rR (SA.im rB) rEq (fun x y P => P (decide (x = y))) := fun x y v w F H P Q s hx hy p W => by
  cases hx
  cases hy
  exact ⟨rfl, wish_im W p s (by show V.bl _ = _; congr 1; exact decide_eq_decide.mpr ⟨fun h => V.str.inj h, fun h => by rw [h]⟩)⟩
theorem s_neR : Sem2 rR rR (SA.im rB) rNe (fun x y P => P (!decide (x = y))) := fun x y v w F H P Q s hx hy p W => by
  cases hx
  cases hy
  exact ⟨rfl, wish_im W p s (by show V.bl _ = _; congr 2; exact decide_eq_decide.mpr ⟨fun h => V.str.inj h, fun h => by rw [h]⟩)⟩
theorem s_repr [DecidableEq α] (D : Dt K r) : SemC (rCons r rNil) (SA.im rR) (fun xs H Q => ∃ x d, xs = [x] ∧ Dp K H x d ∧ Sh d ∧ Q (.str d.shown) H) (fun x P => Sh (D.dat x.1) ∧ P (D.dat x.1).shown) := fun x vs F H P Q s ⟨v, ws, e, hv, en⟩ p W => by
  cases en
  exact ⟨v, D.dat x.1, e, dp_sub s (D.dp _ _ _ hv), p.1, wish_im W p.2 s rfl⟩
/-- lists joined -/
def rCatR : R2 := fun x y H Q => ∃ l b xs zs, x = .ref l ∧ y = .ref b ∧ Rd H l (.lst xs) ∧ Rd H b (.lst zs) ∧ xs.length + zs.length ≤ sizeLine ∧ ∀ p, H p = none → Q (.ref p) (upd H p (.lst (xs ++ zs)))
theorem op_catR : OpR X (binaryOp .Add) rCatR := by
  intro pins s σ H x y v u Q I rx ry h
  obtain ⟨l, b, xs, zs, rfl, rfl, hH, hB, hz, q⟩ := h
  cases rx
  cases ry
  obtain ⟨z, its, n, r, e⟩ : ObjOk X.prog X.w H s.heap l (.lst xs) := hH.ok I.hok
  obtain ⟨z2, its2, n2, r2, e2⟩ : ObjOk X.prog X.w H s.heap b (.lst zs) := hB.ok I.hok
  have hl := r.length
  have hl2 := r2.length
  refine PySem.P.add_list e e2 ?_ (by rw [List.size_toArray, List.size_toArray]; omega)
  have ea : its.toArray ++ its2.toArray = (its ++ its2).toArray := by simp
  rw [ea]
  exact ⟨.ref _, _, I.lnew (t' := s.toks) (r.append r2) (by rw [List.length_append]; omega), rfl, q _ I.fresh⟩
theorem s_catL : Sem2 (rL K r) (rL K r) (SA.ol r) rCatR (fun x y P => x.length + y.length ≤ 16777216 ∧ P (x ++ y)) := fun x y v w F H P Q s ⟨a, vs, e, hq, pr⟩ ⟨b, ws, e2, hq2, pr2⟩ p W =>
  ⟨a, b, vs, ws, e, e2, s.rd hq, s.rd hq2, by rw [Paired.len pr, Paired.len pr2]; exact p.1, wish_ol W p.2 s (pr_join pr pr2)⟩
/-- the script -/
theorem s_lenZ : SemC (rCons (rLK K r) rNil) (SA.im Bv.rI) (fun xs H Q => ∃ x n, xs = [x] ∧ LenV K x H n ∧ Q (.int n) H) (fun x P => P (x.1.length : Int)) := fun x vs F H P Q s ⟨v, ws, e, ⟨a, us, ev, hq, pr⟩, en⟩ p W => by
  subst e ev en
  exact ⟨_, _, rfl, .inl ⟨_, s.seq hq, Paired.len pr ▸ rfl⟩, wish_im W p s rfl⟩
theorem s_ixZ : Sem2 (rLK K r) Bv.rI (SA.im r) (rIxL K) (fun xs i P => atZ xs i P) := fun x y v w F H P Q s ⟨a, vs, e, hq, pr⟩ hy ⟨z, hz, p⟩ W => by
  obtain ⟨u, hu, hr⟩ := at_pr pr hz
  exact ⟨a, vs, y, u, e, hy, s.seq hq, hu, wish_im W p s hr⟩
end Bv

/-! Bv14: own classes -/
namespace Bv
open PySem PySem.Spec PyProof.Rows L2 L2.DX Gd
variable {X : Cx} {ε : Tk} {F0 H0 F H F' H' : Hp} {Γ Γ' Γw : List SA} {σ : L2.St} {e a b c d tg iter o : Expr} {es : List Expr} {pos p pp : Pos} {α β γ δ O S : Type} {K : PySem.W.Frag} {r : Rep α} {q : Rep β} {t : Rep γ} {rest ss body : List Stmt} {ed : Ed O} {st : Stmt} {C : Addr}
/-- an instance of the class at C, by its attributes' data -/
def rC (C : Addr) {α : Type} (fs : α → List (Str × SF)) : Rep α := ⟨fun F v x => ∃ a dx gs, v = .ref a ∧ F a = some (.ins C dx gs) ∧ FD F gs (fs x), fun s ⟨a, dx, gs, e, h, p⟩ => ⟨a, dx, gs, e, s _ _ h, p.up s⟩⟩
/-- anything -/
def rAny : Rep Unit := ⟨fun _ _ _ => True, fun _ h => h⟩
theorem FD.look {f : Str} {r : Rep α} {x : α} : ∀ {gs : List (Str × V)} {fs : List (Str × SF)}, FD F gs fs → fs.lookup f = some ⟨r, x⟩ → ∃ w, gs.lookup f = some w ∧ r.rep F w x
  | _, _, .nil, h => by cases h
  | _, _, .cons (k := k) (v := v) (f := sf) hr t, h => by
    by_cases e : f = k
    · subst e
      rw [List.lookup_cons_self] at h
      cases h
      exact ⟨v, List.lookup_cons_self, hr⟩
    · rw [List.lookup_cons, show (f == k) = false from beq_eq_false_iff_ne.mpr e] at h ⊢
      exact FD.look t h
theorem FD.miss {f : Str} : ∀ {gs : List (Str × V)} {fs : List (Str × SF)}, FD F gs fs → fs.lookup f = none → gs.lookup f = none
  | _, _, .nil, _ => rfl
  | _, _, .cons (k := k) hr t, h => by
    by_cases e : f = k
    · subst e
      rw [List.lookup_cons_self] at h
      cases h
    · rw [List.lookup_cons, show (f == k) = false from beq_eq_false_iff_ne.mpr e] at h ⊢
      exact FD.miss t h
theorem FD.len : ∀ {gs : List (Str × V)} {fs : List (Str × SF)}, FD F gs fs → gs.length = fs.length
  | _, _, .nil => rfl
  | _, _, .cons _ t => congrArg (· + 1) (FD.len t)
theorem FD.put {f : Str} {r : Rep α} {x : α} {w : V} (hr : r.rep F w x) : ∀ {gs : List (Str × V)} {fs : List (Str × SF)}, FD F gs fs → fs.lookup f = none → FD F (putF f w gs) (fs ++ [(f, ⟨r, x⟩)])
  | _, _, .nil, _ => .cons hr .nil
  | _, _, .cons (k := k) (v := v) h t, l => by
    have e : k ≠ f := fun z => by
      subst z
      rw [List.lookup_cons_self] at l
      cases l
    rw [List.lookup_cons, show (f == k) = false from beq_eq_false_iff_ne.mpr e.symm] at l
    show FD F (if k = f then (k, w) :: _ else (k, v) :: putF f w _) _
    rw [if_neg e]
    exact .cons h (FD.put hr t l)
section
variable {fs : α → List (Str × SF)} {m : (α → Prop) → Prop} {f : Str}
/-- o.f -/
theorem xe_fld {g : α → β} (cl : Cls K C) (na : NoAttr K C f) (hK : X.K = K) (h : XE X ε Γ o (rC C fs) m) (hl : ∀ x, (fs x).lookup f = some ⟨q, g x⟩) (hb : attributeBase o f X.env (eval o X.env) = eval o X.env := by rfl) : XE X ε Γ (.Attribute o f pos) q (fun P => m fun x => P (g x)) := xe_of fun F0 H0 xl σ F H P Q S p k =>
  use_e (pe_fldK (run_pe X) hK hb) (xe_use h xl S p fun x v F1 H1 p1 e1 ⟨a, dx, gs, ev, hf, fd⟩ => by
    obtain ⟨w, hw, hr⟩ := fd.look (hl x)
    exact ⟨a, C, dx, gs, w, ev, e1.fh.at_ hf (fun z => z), cl, na, hw, k (g x) w F1 H1 p1 e1 hr⟩)
/-- a dict that an attribute holds, for a walk -/
theorem xd_fld {g : α → List (Str × β)} {i : Nat} {x : Str} {y : α} {ppos : Pos} (cl : Cls K C) (na : NoAttr K C f) (hK : X.K = K) (h : Γ[i]? = some (.im (rC C fs) y)) (hN : X.N[i]? = some x) (hv : Vis X.env.scope x) (hl : ∀ x, (fs x).lookup f = some ⟨rD q, g x⟩)
    (hb : attributeBase (.Name x ppos) f X.env (eval (.Name x ppos) X.env) = eval (.Name x ppos) X.env := by rfl) (hd : (x == ("__debug__" : Str)) = false := by decide) (hcd : (x == ("__classdict__" : Str)) = false := by decide) : XD X ε Γ (.Attribute (.Name x ppos) f pos) q (fun P => P (g y)) :=
  fun F0 H0 xl σ F H P S p => by
    obtain ⟨s, h1, v, rfl, a, dx, gs, rfl, hf, fd⟩ := S.at_ i _ h
    obtain ⟨w, hw, ad, kvs, rfl, hd', nd, pd⟩ := fd.look (hl y)
    exact ⟨g y, ad, kvs, p, hd', nd, pd, fun H2 Q sb q => use_e (pe_fldK (pe_var hN hv hd hcd) hK hb) ⟨_, h1, a, C, dx, gs, _, rfl, sb.at_ hf (fun z => z), cl, na, hw, q⟩⟩
/-- self.f within __init__ -/
theorem xe_fldO {i : Nat} {x : Str} {ppos : Pos} {bb : Addr} {fl : List (Str × SF)} {y : β} (cl : Cls K C) (na : NoAttr K C f) (hK : X.K = K) (h : Γ[i]? = some (.oi C bb fl)) (hN : X.N[i]? = some x) (hv : Vis X.env.scope x) (hl : fl.lookup f = some ⟨q, y⟩)
    (hb : attributeBase (.Name x ppos) f X.env (eval (.Name x ppos) X.env) = eval (.Name x ppos) X.env := by rfl) (hd : (x == ("__debug__" : Str)) = false := by decide) (hcd : (x == ("__classdict__" : Str)) = false := by decide) : XE X ε Γ (.Attribute (.Name x ppos) f pos) q (fun P => P y) :=
  xe_of fun F0 H0 xl σ F H P Q S p k => use_e (pe_fldK (pe_var hN hv hd hcd) hK hb) (by
    obtain ⟨s, h1, dx, gs, rfl, ha, fd⟩ := S.at_ i _ h
    obtain ⟨w, hw, hr⟩ := fd.look hl
    exact ⟨_, h1, bb, C, dx, gs, w, rfl, ha, cl, na, hw, k y w F H p (Ext.refl S.sub) hr⟩)
/-- self.f = e within __init__ -/
theorem xb_fld {i : Nat} {x : Str} {ppos apos : Pos} {bb : Addr} {fl : List (Str × SF)} {mm : (β → Prop) → Prop} {k : β → (O → Prop) → Prop} (cl : Cls K C) (na : NoAttr K C f) (hK : X.K = K) (hi : Γ[i]? = some (.oi C bb fl)) (hN : X.N[i]? = some x) (hv : Vis X.env.scope x) (h : XE X ε Γ e q mm) (new : fl.lookup f = none) (few : decide (fl.length < 1000) = true)
    (t : ∀ y, XB X ε (Γ.set i (.oi C bb (fl ++ [(f, ⟨q, y⟩)]))) rest ed (k y)) (hs : swapsWith e (some (.Attribute (.Name x ppos) f apos)) pos.line X.env = pure false := by intros; rfl) (hd : (x == ("__debug__" : Str)) = false := by decide) (hcd : (x == ("__classdict__" : Str)) = false := by decide) :
    XB X ε Γ (.Assign [.Attribute (.Name x ppos) f apos] e pos :: rest) ed (fun P => mm fun y => k y P) := fun F0 H0 xl σ F H P D S p L =>
  seq_b (k := fun σ' H' => ∃ y F', k y P ∧ Stt F0 H0 (Γ.set i (.oi C bb (fl ++ [(f, ⟨q, y⟩)]))) σ' F' H' ∧ Go F H F' H') (use_s (ps_fld (pe_var hN hv hd hcd) (run_pe X) hs) (by
    obtain ⟨s, h1, dx, gs, rfl, ha, fd⟩ := S.at_ i _ hi
    refine xe_use h xl S p fun y v F1 H1 p1 e1 r1 => ⟨.ref bb, h1, bb, C, dx, gs, rfl, e1.hh _ _ ha (fun _ z => by cases z), by rw [hK]; exact cl, by rw [hK]; exact na, by rw [fd.len]; exact of_decide_eq_true few, y, F1, p1, ?_, (e1.go S.sub).side S.sub ((S.up e1).own i _ bb hi rfl h1).1⟩
    exact (S.up e1).poke hi rfl h1 (fun _ z => by cases z) ⟨dx, _, rfl, upd_same, FD.put r1 (fd.up e1.ff) new⟩)) fun σ' H' q => by
    obtain ⟨y, F', kp, S', g'⟩ := q
    exact t y F0 H0 xl σ' F' H' P D S' kp (L.mono g')
end
/-! ### __init__ and the making -/
/-- the heap without b -/
def outH (H : Hp) (b : Addr) : Hp := fun c => if c = b then none else H c
theorem outH_ne {H : Hp} {b c : Addr} (h : c ≠ b) : outH H b c = H c := if_neg h
theorem outH_at {H : Hp} {b : Addr} : outH H b b = none := if_pos rfl
def spI (C : Addr) {A : Type} (R : Rps A) (fs : γ → List (Str × SF)) (m : A → (γ → Prop) → Prop) : Sp := fun vs H Q _ => ∃ (F : Hp) (b dx : Addr) (ws : List V) (x : A) (P : γ → Prop), Sub F H ∧ F b = none ∧ vs = .ref b :: ws ∧ H b = some (.ins C dx []) ∧ R.rep F ws x ∧ m x P ∧
  ∀ z dx' gs F' H', P z → Ext F (outH H b) F' H' → F' b = none → H' b = some (.ins C dx' gs) → FD F' gs (fs z) → Q .non H'
def Ed.ini (C b : Addr) (fs : γ → List (Str × SF)) : Ed γ where
  nx := fun Γ o => ∃ A, Γ[0]? = some A ∧ A = .oi C b (fs o)
  rt := fun _ _ _ => False
  bk := fun _ _ => False
  ct := fun _ _ => False
variable {P : Program} {w : World} {mg : Str → Option Value} {base : Heap}
theorem okIB {A : Type} {x qual : Str} {st : Stmt} {f : Addr} {fd : FuncData} {N ps : List Str} {k n : Nat} {R : Rps A} {fs : γ → List (Str × SF)} {m : A → (γ → Prop) → Prop} {Γ0 : A → List SA} (Fn : Fun K x qual st f fd) (Sc : FnScope N ps (defScope st)) (hR : R.at n Γ0) (hn : N.length = n + 1) (hl : ∀ F vs x, R.rep F vs x → vs.length + 1 = ps.length)
    (hb : ∀ (cdv : Value) (A : Around) (outer : List Env) (s : Shared) (H : Hp) (E : XK), Room k (A.deeper (envOfC qual (defScope st) s.heap.objs.size f cdv)) → ∀ b y, XB (cxOf CX0 P w K mg base N qual (defScope st) f cdv A outer s H E).nox Tk0 (.oi C b [] :: Γ0 y) (defBody st) (Ed.ini C b fs) (m y)) : FnOk P w K mg base CX0 (k + 1) f fd ps (spI C R fs m) :=
  Fn.ok Sc (fun vs H Q E ⟨F, b, dx, ws, y, Pz, s, _, e, _, h, _⟩ => by subst e; exact hl F ws y h) fun cdv A outer s H vs Q E hr ⟨F, b, dx, ws, y, Pz, sb, nb, ev, hb', h, p, hz⟩ => by
    subst ev
    obtain ⟨l1, l2, l3⟩ := hR F H ws y h
    have S0 : Stt F (outH H b) (.oi C b [] :: Γ0 y) (L2.start N (.ref b :: ws)) F H := by
      have at_ : ∀ (i : Nat) (A : SA), (Γ0 y)[i]? = some A → (L2.start N (.ref b :: ws))[i + 1]? = (ws.map some ++ List.replicate (n - ws.length) none)[i]? := fun i A _ => by
        unfold L2.start
        show (ws.map some ++ List.replicate (N.length - (ws.length + 1)) none)[i]? = _
        rw [hn, Nat.add_sub_add_right]
      refine ⟨⟨Same.refl _, fun c o q _ => ?_, fun c q => ?_, sb, fun c o q nq => by rw [q] at nq; cases nq⟩, ?_, fun i A hA => ?_, fun i A a hA o q => ?_, fun i j A B a h1 h2 o1 o2 q1 q2 => ?_⟩
      · by_cases z : c = b
        · subst z
          rw [outH_at] at q
          cases q
        · rw [outH_ne z] at q
          exact q
      · by_cases z : c = b
        · subst z
          exact outH_at
        · rw [outH_ne z]
          exact q
      · unfold L2.start
        rw [List.length_append, List.length_map, List.length_replicate, List.length_cons, List.length_cons, l2, hn]
        omega
      · cases i with
        | zero =>
          cases hA
          exact ⟨some (.ref b), rfl, dx, [], rfl, hb', .nil⟩
        | succ i =>
          obtain ⟨s, g1, g2⟩ := (l3 i A hA).2
          exact ⟨s, (at_ i A hA).trans g1, g2⟩
      · cases i with
        | zero =>
          cases q
          exact ⟨nb, outH_at⟩
        | succ i =>
          rw [(l3 i A hA).1] at o
          cases o
      · cases i with
        | zero => cases j with
          | zero => rfl
          | succ j =>
            rw [(l3 j B h2).1] at o2
            cases o2
        | succ i =>
          rw [(l3 i A h1).1] at o1
          cases o1
    refine ⟨_, run_pss, hb cdv A outer s H E hr b y F (outH H b) xlk0 _ F H Pz _ S0 p ⟨fun o Γ σ F' H' po ⟨A, hA, eA⟩ S' g' => ?_, fun _ _ _ _ _ z => z.elim, fun _ _ _ _ _ _ z => z.elim, fun _ _ _ _ _ _ z => z.elim⟩⟩
    subst eA
    obtain ⟨s', h1, dx', gs, es, ha, fd⟩ := S'.at_ 0 _ hA
    subst es
    exact hz o dx' gs F' H' po S'.ext (S'.own 0 _ b hA rfl h1).1 ha fd

/-- Book(e, ..) -/
theorem xe_make {A : Type} {x : Str} {f : Addr} {ps : List Str} {k : Nat} {R : Rps A} {fs : γ → List (Str × SF)} {m : A → (γ → Prop) → Prop} {mm : (A → Prop) → Prop} (M : Mk X.K C f) (D : Dk X.prog X.w X.K X.mg X.base k f ps (spI C R fs m)) (hr : Room (k + 1) X.A) (hg : Gl X x) (hm : X.mg x = some (.ref C)) (ha : XA X ε Γ (e :: es) R mm) (hdb : (x == ("__debug__" : Str)) = false := by decide)
    (he : starEach (e :: es) X.env = (false, eval e X.env) :: starEach es X.env := by rfl) (hpl : (backTo pos (starEach es X.env)).any (·.1) = false := by rfl) : XE X ε Γ (.Call (.Name x pp) (e :: es) [] pos) (rC C fs) (fun P => mm fun y => m y P) := xe_of fun F0 H0 xl σ F H P Q S p q =>
  use_e (pe_makeD M D hr hg hm (run_pa X) hdb he hpl) (ha F0 H0 xl σ F H _ _ S p fun y vs F1 H1 p1 e1 r1 => fun b dx hb hdx ne => by
    show spI C R fs m (.ref b :: (vs ++ [])) _ _ E0
    rw [List.append_nil]
    have hbx : F1 b = none := e1.fh.there hb
    have hH2 : ∀ c, c ≠ b → c ≠ dx → upd (upd H1 dx (.own b)) b (.ins C dx []) c = H1 c := fun c n1 n2 => by rw [upd_ne n1, upd_ne n2]
    refine ⟨F1, b, dx, vs, y, P, fun a o h => ?_, hbx, rfl, upd_same, r1, p1, fun z dx' gs F' H' pz ex fb hb' fd => ⟨rfl, ?_⟩⟩
    · have nb : a ≠ b := fun z => by subst z; rw [hbx] at h; cases h
      have nd : a ≠ dx := fun z => by subst z; rw [e1.fh.there hdx] at h; cases h
      rw [hH2 a nb nd]
      exact e1.fh a o h
    · have sm : Same F' (upd F' b (.ins C dx' gs)) := same_new fb
      have old : ∀ c, c ≠ b → outH (upd (upd H1 dx (.own b)) b (.ins C dx [])) b c = none → H1 c = none := fun c n h => by
        rw [outH_ne n] at h
        by_cases d : c = dx
        · subst d
          exact hdx
        · rw [hH2 c n d] at h
          exact h
      refine q z (.ref b) (upd F' b (.ins C dx' gs)) H' pz ⟨e1.ff.trans (ex.ff.trans sm), fun c o h n => ?_, fun c h => ?_, fun c o h => ?_, fun c o h n => ?_⟩ ⟨b, dx', gs, rfl, upd_same, fd.up sm⟩
      · have h1 := e1.hh c o h n
        have nb : c ≠ b := fun z => by subst z; rw [hb] at h1; cases h1
        have nd : c ≠ dx := fun z => by subst z; rw [hdx] at h1; cases h1
        exact ex.hh c o (by rw [outH_ne nb, hH2 c nb nd]; exact h1) n
      · refine e1.no c ?_
        by_cases d : c = b
        · subst d
          exact hb
        · exact old c d (ex.no c h)
      · by_cases d : c = b
        · subst d
          rw [upd_same] at h
          cases h
          exact .inl hb'
        · rw [upd_ne d] at h
          exact ex.fh c o h
      · by_cases d : c = b
        · subst d
          exact e1.no c hb
        · rw [upd_ne d] at h
          cases w : F1 c with
          | none => exact e1.no c (old c d (ex.new c o h w))
          | some u => exact e1.new c u w n)
section
variable {fs : α → List (Str × SF)} {m : (α → Prop) → Prop} {f g p : Addr} {x : Str} {ps : List Str} {k : Nat}
theorem spa_inv {rr : Rep γ} {n : α × Unit → (γ → Prop) → Prop} {Fm Hm : Hp} {v : V} {y : α} {P : γ → Prop} {Q : VK} (sb : Sub Fm Hm) (h : (rC C fs).rep Fm v y) (hn : n (y, ()) P) (q : ∀ z v F' H', P z → Ext Fm Hm F' H' → rr.rep F' v z → Q v H') : ∃ a dx gs, v = .ref a ∧ Hm a = some (.ins C dx gs) ∧ spA (rCons (rC C fs) rNil) rr n [.ref a] Hm Q E0 := by
  obtain ⟨a, dx, gs, ev, hf, fd⟩ := h
  exact ⟨a, dx, gs, ev, sb.at_ hf (fun z => z), Fm, (y, ()), P, sb, ⟨_, [], rfl, ⟨a, dx, gs, rfl, hf, fd⟩, rfl⟩, hn, q⟩
/-- o.x, a property -/
theorem xe_prop {rr : Rep γ} {n : α × Unit → (γ → Prop) → Prop} (cl : Cls X.K C) (hp : PropOf X.K C x p g) (D : Dk X.prog X.w X.K X.mg X.base k g ps (spA (rCons (rC C fs) rNil) rr n)) (hr : Room (k + 1) X.A) (h : XE X ε Γ o (rC C fs) m) (hb : attributeBase o x X.env (eval o X.env) = eval o X.env := by rfl) : XE X ε Γ (.Attribute o x pos) rr (fun P => m fun y => n (y, ()) P) := xe_of fun F0 H0 xl σ F H P Q S pp q =>
  use_e (pe_propD (run_pe X) cl hp D hr hb) (xe_use h xl S pp fun y v F1 H1 p1 e1 r1 => by
    obtain ⟨a, dx, gs, ev, ha, s⟩ := spa_inv (Q := Q) e1.fh r1 p1 fun z v F' H' pz ez hz => q z v F' H' pz (e1.trans ez) hz
    exact ⟨a, dx, gs, ev, ha, s⟩)
/-- o.x(e, ..) -/
theorem xe_meth {A : Type} {R : Rps A} {rr : Rep γ} {n : α × A → (γ → Prop) → Prop} {mm : (A → Prop) → Prop} {apos : Pos} {pl : Sem Bool} (cl : Cls X.K C) (hm : Meth X.K C x f) (D : Dk X.prog X.w X.K X.mg X.base k f ps (spA (rCons (rC C fs) R) rr n)) (hr : Room k X.A) (hl : ∀ y, (fs y).lookup x = none) (h : XE X ε Γ o (rC C fs) m) (ha : XA X ε Γ (e :: es) R mm)
    (hst : starEach (e :: es) X.env = (false, eval e X.env) :: starEach es X.env := by rfl) (hpl : (backTo pos (starEach es X.env)).any (·.1) = false := by rfl)
    (ht : eval (.Call (.Attribute o x apos) (e :: es) [] pos) X.env = (do
      let ov ← eval o X.env
      standAt apos.atName
      let (f, first) ← holding [ov] (getMethod ov x pl)
      callWith pos f first (backTo pos (starEach (e :: es) X.env)) (backToKw pos (keywordEach [] X.env))) := by rfl) :
    XE X ε Γ (.Call (.Attribute o x apos) (e :: es) [] pos) rr (fun P => m fun y => mm fun z => n (y, z) P) := xe_of fun F0 H0 xl σ F H P Q S pp q =>
  use_e (pe_methD (run_pe X) cl hm D hr (run_pa X) hst hpl ht) (xe_use h xl S pp fun y v F1 H1 p1 e1 ⟨a, dx, gs, ev, hf, fd⟩ => by
    subst ev
    refine ⟨a, dx, gs, rfl, e1.fh.at_ hf (fun z => z), fd.miss (hl y), ha F0 H0 xl σ F1 H1 _ _ (S.up e1) p1 fun z vs F2 H2 p2 e2 r2 => ?_⟩
    show spA (rCons (rC C fs) R) rr n (.ref a :: (vs ++ [])) H2 Q E0
    rw [List.append_nil]
    exact ⟨F2, (y, z), P, e2.fh, ⟨_, vs, rfl, ⟨a, dx, gs, rfl, e2.ff _ _ hf, fd.up e2.ff⟩, r2⟩, p2, fun z v F' H' pz ez hz => q z v F' H' pz ((e1.trans e2).trans ez) hz⟩)
end
end Bv

/-! Bv15: o != p, both of a class with an __eq__ of its own -/
namespace Bv
open PySem PySem.Spec PyProof.Rows L2 L2.DX Gd
section
variable {M : Model} {prog : Program} {w : World} {A : Around} {E : Value → Shared → Prop} {s : Shared} {K : PySem.W.Frag} {x y C f : Addr} {ox oy : Obj} {od od' : Option Obj}
theorem ifBound_objNe {args : List Value} {Q : Option Value → Shared → Prop} (X : K.In s.heap) (I : PySem.W.InstAt s.heap x ox C od) (hs : PySem.W.findIn K (.ref C) "__ne__" = some (some (.builtin "object.__ne__")))
    (h : wpAny M A (call (.builtin "object.__ne__") (.ref x :: args)) (fun v => Q (some v)) E s) : wpAny M A (callSpecialIfBound? (.ref x) "__ne__" args) Q E s := by
  simp only [callSpecialIfBound?, bindSpecialIfBound?]
  refine wpAny_holding (wpAny_bind (wpAny_bind (wpAny_bind (I.type.here ((PySem.W.looks_findIn X hs).here ?_)))))
  refine wpAny_bind (wpAny_askSetting (wpAny_ite ?_))
  have fin : wpAny M A (call (.builtin "object.__ne__") ([.ref x] ++ args) >>= fun v => pure (some v)) Q E s := wpAny_bind (wpAny_mono h (fun v s' h' => wpAny_pure h') fun _ _ h' => h')
  split
  · exact wpAny_bind (wpAny_of_eq (F.cmp_object.ne.bind _) (wpAny_pure (by exact fin)))
  · exact wpAny_tryCatch (wpAny_bind (wpAny_of_eq (F.cmp_object.ne.bind _) (wpAny_pure (by exact fin))))
theorem objNe_entry {Q : Fin → Shared → Prop} (hu : A.units < cLine) (X : K.In s.heap) (I : PySem.W.InstAt s.heap x ox C od) (hs : PySem.W.findIn K (.ref C) "__eq__" = some (some (.ref f))) (hf : PySem.W.isFn K (.ref f) = true)
    (h : wpAny M A (call (.ref f) [.ref x, .ref y]) (fun v s' => ∃ b, v = .bool b ∧ Q (.done (.ret (.bool (!b)))) s') E s) : wpAny M A (Builtin.«object.__ne__» ⟨[.ref x, .ref y], []⟩) Q E s := by
  unfold Builtin.«object.__ne__»
  repeat (first
    | with_reducible refine wpAny_cRoomFor hu ?_
    | (refine wpAny_bind (m := callSpecialIfBound? (.ref x) (Str.ofString "__eq__") [.ref y])
        (PySem.W.ifBound_K X I hs hf (wpAny_mono h (fun r s' hr => by
          obtain ⟨b, rfl, hq⟩ := hr
          repeat (first | exact hq | exact wpAny_pure hq | exact wpAny_truthy_bool hq | (refine wpAny_bind (m := truthy (.bool _)) (wpAny_truthy_bool ?_)) | wp_step)) fun _ _ e => e)))
    | wp_step)
theorem ne_K {Q : Value → Shared → Prop} (hu : A.units < cLine) (hu1 : A.in1.units < cLine) (X : K.In s.heap) (I : PySem.W.InstAt s.heap x ox C od) (J : PySem.W.InstAt s.heap y oy C od')
    (hs : PySem.W.findIn K (.ref C) "__eq__" = some (some (.ref f))) (hf : PySem.W.isFn K (.ref f) = true) (hn : PySem.W.findIn K (.ref C) "__ne__" = some (some (.builtin "object.__ne__"))) (hm : PySem.W.mroIn K C (.type "object") = some true)
    (h : wpAny (model prog w) A.in1 (call (.ref f) [.ref x, .ref y]) (fun v s' => ∃ b, v = .bool b ∧ Q (.bool (!b)) s') E s) : wpAny (model prog w) A (richCompare .NotEq (.ref x) (.ref y)) Q E s := by
  have one : wpAny (model prog w) A (tryCompare (.ref x) "__ne__" (.ref y)) (fun r s' => ∃ b, r = some (.bool b) ∧ Q (.bool b) s') E s := by
    unfold tryCompare
    refine wpAny_bind (ifBound_objNe X I hn (wpAny_call (codeAny_call_builtin F.cmp_object.ne.plain F.cmpEntry_ne (PySem.W.check_slot F.cmpKind_ne F.cmpSplit_ne (I.type.andThen (PySem.W.looks_mroIn X hm)) (F.cmpArgs_ne _ _) (objNe_entry hu1 X I hs hf (wpAny_mono h (fun v s' hv => ?_) fun _ _ e => e))))))
    obtain ⟨b, rfl, hq⟩ := hv
    exact ⟨b, rfl, wpAny_pure ⟨_, rfl, hq⟩⟩
  unfold richCompare
  simp only [oneThing_ref]
  refine wpAny_holding (wpAny_bind (wpAny_cRoomFor hu ?_))
  refine wpAny_bind (I.type.here (wpAny_bind (J.type.here ?_)))
  split
  · rename_i q
    exact absurd q (by simp)
  · refine wpAny_bind (wpAny_pure ?_)
    simp only [Bool.false_eq_true, if_false]
    refine wpAny_bind (wpAny_mono one (fun r s' z => ?_) fun _ _ e => e)
    obtain ⟨v, rfl, hq⟩ := z
    exact wpAny_pure hq
end
variable {X : Cx} {C f : Addr} {k : Nat} {ps : List Str} {sp : Sp}
structure OwnNe (K : PySem.W.Frag) (C f : Addr) : Prop where
  eq : Own K C "__eq__" f
  ne : PySem.W.findIn K (.ref C) "__ne__" = some (some (.builtin "object.__ne__"))
  ob : PySem.W.mroIn K C (.type "object") = some true
/-- o != p, by __eq__ -/
def rNeOwn (C : Addr) (sp : Sp) : R2 := fun x y H Q => ∃ a dx fs b dy gs, x = .ref a ∧ y = .ref b ∧ H a = some (.ins C dx fs) ∧ H b = some (.ins C dy gs) ∧ sp [.ref a, .ref b] H (fun v H' => ∃ b : Bool, v = .bl b ∧ Q (.bl (!b)) H') E0
theorem op_neOwn (O : OwnNe X.K C f) (D : Dk X.prog X.w X.K X.mg X.base k f ps sp) (hr : Room (k + 1) X.A) : OpR X (compareOp .NotEq) (rNeOwn C sp) := by
  intro pins s σ H x y v u Q I rx ry ⟨a, dx, fs, b, dy, gs, ex, ey, ha, hb, h⟩
  subst ex
  subst ey
  cases rx
  cases ry
  obtain ⟨mA, J, _⟩ := ins_get I.hok ha
  obtain ⟨od, J, _⟩ := J.look
  obtain ⟨mB, J', _⟩ := ins_get I.hok hb
  obtain ⟨od', J', _⟩ := J'.look
  obtain ⟨m, hF⟩ := I.fr
  show wpAny (model X.prog X.w) X.A (richCompare .NotEq (.ref a) (.ref b)) (EP X pins σ Q) X.xe s
  refine ne_K hr.units0 ?_ (I.ok.mod.kin.keeps hF.keep) J J' O.eq.at_ O.eq.fn O.ne O.ob (wpAny_mono (run_dk1 (vs := [.ref a, .ref b]) D hr I (.cons rfl (.cons rfl .nil)) h) (fun r s' q => ?_) fun _ _ z => z)
  · exact (hr.in1).units0
  obtain ⟨z, H', I', rz, c, rfl, q⟩ := q
  cases rz
  exact ⟨c, rfl, .bl (!c), H', I', rfl, q⟩
end Bv

/-! Bv16: own special methods, by data -/
namespace Bv
open PySem PySem.Spec PyProof.Rows L2 L2.DX Gd
variable {X : Cx} {ε : Tk} {F0 H0 F H F' H' : Hp} {Γ Γ' Γw : List SA} {σ : L2.St} {e a b c d tg iter o : Expr} {es : List Expr} {pos p pp : Pos} {α β γ δ O S : Type} {K : PySem.W.Frag} {r : Rep α} {q : Rep β} {t : Rep γ}
section
variable {C D : Addr} {fs : α → List (Str × SF)} {gs : β → List (Str × SF)} {f : Addr} {ps : List Str} {k : Nat}
theorem spa_two {r : Rep α} {q : Rep β} {rr : Rep γ} {n : α × β × Unit → (γ → Prop) → Prop} {v w : V} {x : α} {y : β} {P : γ → Prop} {Q : VK} (sb : Sub F H) (h1 : r.rep F v x) (h2 : q.rep F w y) (hn : n (x, y, ()) P) (k : ∀ z v F' H', P z → Ext F H F' H' → rr.rep F' v z → Q v H') : spA (rCons r (rCons q rNil)) rr n [v, w] H Q E0 :=
  ⟨F, (x, y, ()), P, sb, ⟨_, _, rfl, h1, _, _, rfl, h2, rfl⟩, hn, k⟩
/-- x in o -/
theorem s_inOwn {n : α × β × Unit → (Bool → Prop) → Prop} {neg : Bool} : Sem2 q (rC C fs) (SA.im rB) (rInOwn C (spA (rCons (rC C fs) (rCons q rNil)) rB n) neg) (fun y x P => n (x, y, ()) fun b => P (b != neg)) :=
  fun y x v w F H P Q s hy hx hn W => by
    obtain ⟨a, dx, gs, ev, hf, fd⟩ := id hx
    subst ev
    exact ⟨a, dx, gs, rfl, s.at_ hf (fun z => z), spa_two s hx hy hn fun z u F' H' pz ez hz => ⟨z, hz, wish_ext W pz ez rfl⟩⟩
/-- o == p -/
theorem s_binOwn {rr : Rep γ} {n : α × β × Unit → (γ → Prop) → Prop} : Sem2 (rC C fs) (rC C gs) (SA.im rr) (rBinOwn C (spA (rCons (rC C fs) (rCons (rC C gs) rNil)) rr n)) (fun x y P => n (x, y, ()) P) :=
  fun x y v w F H P Q s hx hy hn W => by
    obtain ⟨a, dx, _, ev, hf, fd⟩ := id hx
    obtain ⟨b, dy, _, ew, hf2, fd2⟩ := id hy
    subst ev
    subst ew
    exact ⟨a, dx, _, b, dy, _, rfl, rfl, s.at_ hf (fun z => z), s.at_ hf2 (fun z => z), spa_two s hx hy hn fun z u F' H' pz ez hz => wish_ext W pz ez hz⟩
/-- o != p -/
theorem s_neOwn {n : α × β × Unit → (Bool → Prop) → Prop} : Sem2 (rC C fs) (rC C gs) (SA.im rB) (rNeOwn C (spA (rCons (rC C fs) (rCons (rC C gs) rNil)) rB n)) (fun x y P => n (x, y, ()) fun b => P (!b)) :=
  fun x y v w F H P Q s hx hy hn W => by
    obtain ⟨a, dx, _, ev, hf, fd⟩ := id hx
    obtain ⟨b, dy, _, ew, hf2, fd2⟩ := id hy
    subst ev
    subst ew
    exact ⟨a, dx, _, b, dy, _, rfl, rfl, s.at_ hf (fun z => z), s.at_ hf2 (fun z => z), spa_two s hx hy hn fun z u F' H' pz ez hz => ⟨z, hz, wish_ext W pz ez rfl⟩⟩
/-- o op t, t a tuple -/
def rBinTupQ (K : PySem.W.Frag) (C : Addr) (sp : Sp) : R2 := fun x y H Q => ∃ a dx fs t zs, x = .ref a ∧ y = .ref t ∧ H a = some (.ins C dx fs) ∧ SqT K H t zs ∧ sp [.ref a, .ref t] H Q E0
theorem op_binTupQ {op : Operator} {sp : Sp} (hK : X.K = K) (O : Own X.K C (PySem.dunder op.info.2) f) (al : Alone X.K C op) (D : Dk X.prog X.w X.K X.mg X.base k f ps sp) (hr : Room k X.A) : OpR X (binaryOp op) (rBinTupQ K C sp) := by
  intro pins s σ H x y v u Q I rx ry ⟨a, dx, fs, t, zs, ex, ey, ha, ht, h⟩
  subst ex
  subst ey
  cases rx
  cases ry
  obtain ⟨mA, J, _⟩ := ins_get I.hok ha
  obtain ⟨od, J, _⟩ := J.look
  obtain ⟨m, hF⟩ := I.fr
  have ty : PySem.W.Looks (model X.prog X.w) s.heap (typeOf (.ref t)) (.type "tuple") := by
    obtain ⟨its, _, ⟨o, e, cl, _⟩, _⟩ := I.tuple (hK ▸ ht)
    exact cl ▸ (PySem.W.Looks.ld e).andThen PySem.W.Looks.now
  exact bin_tuple hF I.ok.mod.kin J ty al O.at_ O.fn (wpAny_mono (run_dk (vs := [.ref a, .ref t]) D hr I (.cons rfl (.cons rfl .nil)) h) (fun r s' q => cmpBack_of q) fun _ _ z => z)
theorem s_binTup {rr : Rep γ} {n : α × List β × Unit → (γ → Prop) → Prop} : Sem2 (rC C fs) (rT K q) (SA.im rr) (rBinTupQ K C (spA (rCons (rC C fs) (rCons (rT K q) rNil)) rr n)) (fun x y P => n (x, y, ()) P) :=
  fun x y v w F H P Q s hx hy hn W => by
    obtain ⟨a, dx, _, ev, hf, fd⟩ := id hx
    obtain ⟨b, zs, ew, ht, pr⟩ := id hy
    subst ev
    subst ew
    exact ⟨a, dx, _, b, zs, rfl, rfl, s.at_ hf (fun z => z), s.seqT ht, spa_two s hx hy hn fun z u F' H' pz ez hz => wish_ext W pz ez hz⟩
/-- o[i] -/
theorem xe_ixOwn {rr : Rep γ} {m : (α → Prop) → Prop} {mb : (β → Prop) → Prop} {n : α × β × Unit → (γ → Prop) → Prop} (O : Own X.K C "__getitem__" f) (fi : PySem.W.fnIn X.K f = true) (D : Dk X.prog X.w X.K X.mg X.base k f ps (spA (rCons (rC C fs) (rCons q rNil)) rr n)) (hr : Room (k + 1) X.A) (ha : XE X ε Γ a (rC C fs) m) (hb : XE X ε Γ b q mb)
    (hs : ∀ o i, subscripted b true o i = runValue (.builtin "lifetime.subscript" ⟨[o, i], []⟩)) : XE X ε Γ (.Subscript a b pos) rr (fun P => m fun x => mb fun y => n (x, y, ()) P) := xe_of fun F0 H0 xl σ F H P Q S p k =>
  use_e (pe_ixOwn O fi D hr (run_pe X) (run_pe X) hs) (xe_use ha xl S p fun x v F1 H1 p1 e1 r1 => xe_use hb xl (S.up e1) p1 fun y w F2 H2 p2 e2 r2 => by
    have hx := (rC C fs).up e2.ff r1
    obtain ⟨a, dx, _, ev, hf, fd⟩ := id hx
    subst ev
    exact ⟨a, dx, _, rfl, e2.fh.at_ hf (fun z => z), spa_two e2.fh hx r2 p2 fun z u F' H' pz ez hz => k z u F' H' pz ((e1.trans e2).trans ez) hz⟩)
/-- len(o) -/
theorem s_lenOwn {n : α × Unit → (Int → Prop) → Prop} : SemC (rCons (rC C fs) rNil) (SA.im Bv.rI) (rLenOwn C (spA (rCons (rC C fs) rNil) Bv.rI n)) (fun x P => n (x.1, ()) fun z => (0 ≤ z ∧ z < 2 ^ 63) ∧ P z) :=
  fun x vs F H P Q s ⟨v, ws, e, hx, en⟩ hn W => by
    obtain ⟨a, dx, _, ev, hf, fd⟩ := id hx
    subst e
    subst en
    subst ev
    refine ⟨a, dx, _, rfl, s.at_ hf (fun z => z), F, (x.1, ()), _, s, ⟨_, _, rfl, hx, rfl⟩, hn, fun z u F' H' pz ez hz => ?_⟩
    have hu : u = .int z := hz
    refine ⟨z.toNat, by rw [hu, Int.toNat_of_nonneg pz.1.1], by rw [Int.toNat_of_nonneg pz.1.1]; exact pz.1.2, ?_⟩
    rw [Int.toNat_of_nonneg pz.1.1]
    exact wish_ext W pz.2 ez rfl
/-- for x in o -/
theorem xi_own {fl : Str} {g : α → List β} {m : (α → Prop) → Prop} (hK : X.K = K) (O : Own X.K C "__iter__" f) (D : Ds X.prog X.w X.K X.mg X.base k f ps (spIter X.K C fl)) (hr : Room k X.A) (h : XE X ε Γ e (rC C fs) m) (hl : ∀ x, (fs x).lookup fl = some ⟨rT K q, g x⟩) : XI X ε Γ tg e q (fun P => m fun x => P (g x)) := ⟨_, pi_own (run_pe X) O D hr, fun F0 H0 xl σ F H P R S p k => by
  refine inv_e (xe_use h xl S p fun x v F1 H1 p1 e1 ⟨a, dx, gs, ev, hf, fd⟩ ⟨pins, s, I⟩ => ?_)
  obtain ⟨w, hw, t, zs, ew, hs, pr⟩ := fd.look (hl x)
  subst ew
  have hq := e1.fh.seqT hs
  have le := (I.tuple (hK ▸ hq)).choose_spec.2.2
  refine ⟨a, dx, gs, t, zs, ev, e1.fh.at_ hf (fun z => z), hw, by rw [hK]; exact hq, ?_⟩
  rw [hK]
  exact k (g x) F1 H1 _ p1 e1 (Paired.len pr ▸ le) (runs_tup (J := Itt K t) hs pr)⟩
end
end Bv

/-! Bv17: own classes: what a text knows of them; isinstance -/
namespace Bv
open PySem PySem.Spec PyProof.Rows L2 L2.DX Gd
section
variable (P : Program) (w : World) (K : PySem.W.Frag) (mg : Str → Option Value) (base : Heap) (k : Nat) (C : Addr) (x : Str) (sp : Sp)
def PropD : Prop := ∃ p g ps, PropOf K C x p g ∧ Dk P w K mg base k g ps sp
def MethD : Prop := ∃ f ps, Meth K C x f ∧ Dk P w K mg base k f ps sp
def OwnD : Prop := ∃ f ps, Own K C x f ∧ PySem.W.fnIn K f = true ∧ Dk P w K mg base k f ps sp
def NeD : Prop := ∃ f ps, OwnNe K C f ∧ Dk P w K mg base k f ps sp
def MakeD : Prop := ∃ f ps, Mk K C f ∧ Dk P w K mg base k f ps sp ∧ mg x = some (.ref C)
def IterD (fl : Str) : Prop := ∃ f ps, Own K C "__iter__" f ∧ Ds P w K mg base k f ps (spIter K C fl)
end
/-- the class at C -/
structure ClsF (K : PySem.W.Frag) (C : Addr) (fields : List Str) : Prop where
  ins : C8.InsC K C
  na : ∀ f ∈ fields, NoAttr K C f
variable {X : Cx} {ε : Tk} {F0 H0 F H F' H' : Hp} {Γ Γ' Γw : List SA} {σ : L2.St} {e a b c d tg iter o : Expr} {es : List Expr} {pos p pp : Pos} {α β γ δ O S : Type} {K : PySem.W.Frag} {r : Rep α} {q : Rep β} {t : Rep γ}
section
variable {C : Addr} {fs : α → List (Str × SF)} {gs : β → List (Str × SF)} {x : Str} {k j : Nat} {m : (α → Prop) → Prop} {mb : (β → Prop) → Prop} {fl : List Str}
theorem ClsF.cl (B : ClsF K C fl) : Cls K C := B.ins.cl
theorem ClsF.no (B : ClsF K C fl) {f : Str} (h : decide (f ∈ fl) = true) : NoAttr K C f := B.na f (of_decide_eq_true h)
theorem xe_propD {rr : Rep γ} {n : α × Unit → (γ → Prop) → Prop} (B : ClsF X.K C fl) (G : PropD X.prog X.w X.K X.mg X.base k C x (spA (rCons (rC C fs) rNil) rr n)) (hr : Room (k + 1) X.A) (h : XE X ε Γ o (rC C fs) m) (hb : attributeBase o x X.env (eval o X.env) = eval o X.env := by rfl) : XE X ε Γ (.Attribute o x pos) rr (fun P => m fun y => n (y, ()) P) := by
  obtain ⟨p, g, ps, hp, D⟩ := G
  exact xe_prop B.cl hp D hr h hb
theorem xe_methD {A : Type} {R : Rps A} {rr : Rep γ} {n : α × A → (γ → Prop) → Prop} {mm : (A → Prop) → Prop} {apos : Pos} {pl : Sem Bool} (B : ClsF X.K C fl) (G : MethD X.prog X.w X.K X.mg X.base k C x (spA (rCons (rC C fs) R) rr n)) (hr : Room k X.A) (hl : ∀ y, (fs y).lookup x = none) (h : XE X ε Γ o (rC C fs) m) (ha : XA X ε Γ (e :: es) R mm)
    (hst : starEach (e :: es) X.env = (false, eval e X.env) :: starEach es X.env := by rfl) (hpl : (backTo pos (starEach es X.env)).any (·.1) = false := by rfl)
    (ht : eval (.Call (.Attribute o x apos) (e :: es) [] pos) X.env = (do
      let ov ← eval o X.env
      standAt apos.atName
      let (f, first) ← holding [ov] (getMethod ov x pl)
      callWith pos f first (backTo pos (starEach (e :: es) X.env)) (backToKw pos (keywordEach [] X.env))) := by rfl) :
    XE X ε Γ (.Call (.Attribute o x apos) (e :: es) [] pos) rr (fun P => m fun y => mm fun z => n (y, z) P) := by
  obtain ⟨f, ps, hm, D⟩ := G
  exact xe_meth B.cl hm D hr hl h ha hst hpl ht
theorem xe_makeD {A : Type} {R : Rps A} {fs : γ → List (Str × SF)} {n : A → (γ → Prop) → Prop} {mm : (A → Prop) → Prop} (G : MakeD X.prog X.w X.K X.mg X.base k C x (spI C R fs n)) (hr : Room (k + 1) X.A) (hg : Gl X x) (ha : XA X ε Γ (e :: es) R mm) (hdb : (x == ("__debug__" : Str)) = false := by decide)
    (he : starEach (e :: es) X.env = (false, eval e X.env) :: starEach es X.env := by rfl) (hpl : (backTo pos (starEach es X.env)).any (·.1) = false := by rfl) : XE X ε Γ (.Call (.Name x pp) (e :: es) [] pos) (rC C fs) (fun P => mm fun y => n y P) := by
  obtain ⟨f, ps, M, D, hm⟩ := G
  exact xe_make M D hr hg hm ha hdb he hpl
theorem xe_inOwnD {n : α × β × Unit → (Bool → Prop) → Prop} (G : OwnD X.prog X.w X.K X.mg X.base k C "__contains__" (spA (rCons (rC C fs) (rCons q rNil)) rB n)) (hr : Room k X.A) (hb : XE X ε Γ b q mb) (ha : XE X ε Γ a (rC C fs) m) (hm : behindInMarks .In a = false := by rfl) : XE X ε Γ (.Compare b [.In] [a] pos) rB (fun P => mb fun y => m fun x => n (x, y, ()) fun c => P (c != false)) := by
  obtain ⟨f, ps, O, _, D⟩ := G
  exact xe_cmp (op_inOwn O D hr) s_inOwn hb ha hm
theorem xt_inOwnD {n : α × β × Unit → (Bool → Prop) → Prop} (G : OwnD X.prog X.w X.K X.mg X.base k C "__contains__" (spA (rCons (rC C fs) (rCons q rNil)) rB n)) (hr : Room k X.A) (hb : XE X ε Γ b q mb) (ha : XE X ε Γ a (rC C fs) m) (hm : behindInMarks .In a = false := by rfl) : XT X ε Γ (.Compare b [.In] [a] pos) (fun P => mb fun y => m fun x => n (x, y, ()) fun c => P (c != false)) := by
  obtain ⟨f, ps, O, _, D⟩ := G
  exact xt_cmp (op_inOwn O D hr) s_inOwn hb ha hm
theorem xe_notinOwnD {n : α × β × Unit → (Bool → Prop) → Prop} (G : OwnD X.prog X.w X.K X.mg X.base k C "__contains__" (spA (rCons (rC C fs) (rCons q rNil)) rB n)) (hr : Room k X.A) (hb : XE X ε Γ b q mb) (ha : XE X ε Γ a (rC C fs) m) (hm : behindInMarks .NotIn a = false := by rfl) : XE X ε Γ (.Compare b [.NotIn] [a] pos) rB (fun P => mb fun y => m fun x => n (x, y, ()) fun c => P (c != true)) := by
  obtain ⟨f, ps, O, _, D⟩ := G
  exact xe_cmp (op_notinOwn O D hr) s_inOwn hb ha hm
theorem xt_notinOwnD {n : α × β × Unit → (Bool → Prop) → Prop} (G : OwnD X.prog X.w X.K X.mg X.base k C "__contains__" (spA (rCons (rC C fs) (rCons q rNil)) rB n)) (hr : Room k X.A) (hb : XE X ε Γ b q mb) (ha : XE X ε Γ a (rC C fs) m) (hm : behindInMarks .NotIn a = false := by rfl) : XT X ε Γ (.Compare b [.NotIn] [a] pos) (fun P => mb fun y => m fun x => n (x, y, ()) fun c => P (c != true)) := by
  obtain ⟨f, ps, O, _, D⟩ := G
  exact xt_cmp (op_notinOwn O D hr) s_inOwn hb ha hm
theorem xe_eqOwnD {n : α × β × Unit → (Bool → Prop) → Prop} (G : OwnD X.prog X.w X.K X.mg X.base k C "__eq__" (spA (rCons (rC C fs) (rCons (rC C gs) rNil)) rB n)) (hr : Room k X.A) (ha : XE X ε Γ a (rC C fs) m) (hb : XE X ε Γ b (rC C gs) mb) (hm : behindInMarks .Eq b = false := by exact nobehind _ (by decide) (by decide)) : XE X ε Γ (.Compare a [.Eq] [b] pos) rB (fun P => m fun x => mb fun y => n (x, y, ()) P) := by
  obtain ⟨f, ps, O, _, D⟩ := G
  exact xe_cmp (op_eqOwn O D hr) s_binOwn ha hb hm
theorem xt_eqOwnD {n : α × β × Unit → (Bool → Prop) → Prop} (G : OwnD X.prog X.w X.K X.mg X.base k C "__eq__" (spA (rCons (rC C fs) (rCons (rC C gs) rNil)) rB n)) (hr : Room k X.A) (ha : XE X ε Γ a (rC C fs) m) (hb : XE X ε Γ b (rC C gs) mb) (hm : behindInMarks .Eq b = false := by exact nobehind _ (by decide) (by decide)) : XT X ε Γ (.Compare a [.Eq] [b] pos) (fun P => m fun x => mb fun y => n (x, y, ()) P) := by
  obtain ⟨f, ps, O, _, D⟩ := G
  exact xt_cmp (op_eqOwn O D hr) s_binOwn ha hb hm
theorem xe_neOwnD {n : α × β × Unit → (Bool → Prop) → Prop} (G : NeD X.prog X.w X.K X.mg X.base k C (spA (rCons (rC C fs) (rCons (rC C gs) rNil)) rB n)) (hr : Room (k + 1) X.A) (ha : XE X ε Γ a (rC C fs) m) (hb : XE X ε Γ b (rC C gs) mb) (hm : behindInMarks .NotEq b = false := by exact nobehind _ (by decide) (by decide)) : XE X ε Γ (.Compare a [.NotEq] [b] pos) rB (fun P => m fun x => mb fun y => n (x, y, ()) fun c => P (!c)) := by
  obtain ⟨f, ps, O, D⟩ := G
  exact xe_cmp (op_neOwn O D hr) s_neOwn ha hb hm
theorem xt_neOwnD {n : α × β × Unit → (Bool → Prop) → Prop} (G : NeD X.prog X.w X.K X.mg X.base k C (spA (rCons (rC C fs) (rCons (rC C gs) rNil)) rB n)) (hr : Room (k + 1) X.A) (ha : XE X ε Γ a (rC C fs) m) (hb : XE X ε Γ b (rC C gs) mb) (hm : behindInMarks .NotEq b = false := by exact nobehind _ (by decide) (by decide)) : XT X ε Γ (.Compare a [.NotEq] [b] pos) (fun P => m fun x => mb fun y => n (x, y, ()) fun c => P (!c)) := by
  obtain ⟨f, ps, O, D⟩ := G
  exact xt_cmp (op_neOwn O D hr) s_neOwn ha hb hm
theorem xe_binOwnD {op : Operator} {rr : Rep γ} {n : α × β × Unit → (γ → Prop) → Prop} (self : PySem.W.selfFirst X.K C = true) (G : OwnD X.prog X.w X.K X.mg X.base k C (PySem.dunder op.info.2) (spA (rCons (rC C fs) (rCons (rC C gs) rNil)) rr n)) (hr : Room k X.A) (ha : XE X ε Γ a (rC C fs) m) (hb : XE X ε Γ b (rC C gs) mb) : XE X ε Γ (.BinOp a op b pos) rr (fun P => m fun x => mb fun y => n (x, y, ()) P) := by
  obtain ⟨f, ps, O, _, D⟩ := G
  exact xe_op (op_binOwn O self D hr) s_binOwn ha hb
theorem xe_binTupD {op : Operator} {rr : Rep γ} {n : α × List β × Unit → (γ → Prop) → Prop} {mt : (List β → Prop) → Prop} (hK : X.K = K) (al : Alone X.K C op) (G : OwnD X.prog X.w X.K X.mg X.base k C (PySem.dunder op.info.2) (spA (rCons (rC C fs) (rCons (rT K q) rNil)) rr n)) (hr : Room k X.A) (ha : XE X ε Γ a (rC C fs) m) (hb : XE X ε Γ b (rT K q) mt) : XE X ε Γ (.BinOp a op b pos) rr (fun P => m fun x => mt fun y => n (x, y, ()) P) := by
  obtain ⟨f, ps, O, _, D⟩ := G
  exact xe_op (op_binTupQ hK O al D hr) s_binTup ha hb
theorem xe_ixOwnD {rr : Rep γ} {n : α × β × Unit → (γ → Prop) → Prop} (G : OwnD X.prog X.w X.K X.mg X.base k C "__getitem__" (spA (rCons (rC C fs) (rCons q rNil)) rr n)) (hr : Room (k + 1) X.A) (ha : XE X ε Γ a (rC C fs) m) (hb : XE X ε Γ b q mb)
    (hs : ∀ o i, subscripted b true o i = runValue (.builtin "lifetime.subscript" ⟨[o, i], []⟩) := by intro _ _; rfl) : XE X ε Γ (.Subscript a b pos) rr (fun P => m fun x => mb fun y => n (x, y, ()) P) := by
  obtain ⟨f, ps, O, fi, D⟩ := G
  exact xe_ixOwn O fi D hr ha hb hs
theorem xe_lenOwnD {lp : Pos} {n : α × Unit → (Int → Prop) → Prop} (G : OwnD X.prog X.w X.K X.mg X.base k C "__len__" (spA (rCons (rC C fs) rNil) Bv.rI n)) (hr : Room (k + 1) X.A) (hg : Gl X "len") (hm : X.mg "len" = none) (ha : XE X ε Γ a (rC C fs) m) (he : starEach [a] X.env = (false, eval a X.env) :: starEach [] X.env := by rfl) : XE X ε Γ (.Call (.Name "len" lp) [a] [] pos) Bv.rI (fun P => m fun x => n (x, ()) fun z => (0 ≤ z ∧ z < 2 ^ 63) ∧ P z) := by
  obtain ⟨f, ps, O, _, D⟩ := G
  exact xe_callB (n := fun (y : α × Unit) P => n (y.1, ()) fun z => (0 ≤ z ∧ z < 2 ^ 63) ∧ P z) (m := fun P => m fun x => P (x, ())) (call_lenOwn O D hr) s_lenOwn hg hm (by decide +kernel) (xa_cons ha xa_nil he) (he := he)
theorem xi_ownD {fld : Str} {g : α → List β} (hK : X.K = K) (G : IterD X.prog X.w X.K X.mg X.base k C fld) (hr : Room k X.A) (h : XE X ε Γ e (rC C fs) m) (hl : ∀ x, (fs x).lookup fld = some ⟨rT K q, g x⟩) : XI X ε Γ tg e q (fun P => m fun x => P (g x)) := by
  obtain ⟨f, ps, O, D⟩ := G
  exact xi_own hK O D hr h hl
end
/-! ### isinstance -/
def Ty (K : PySem.W.Frag) (r : Rep α) (T : Value) : Prop := ∀ (F H : Hp) (v : V) (x : α), Sub F H → r.rep F v x → TyX K H v T
theorem ty_rI : Ty K Bv.rI (.type "int") := fun F H v x s h => by cases h; exact .base (.int x)
theorem ty_rB : Ty K rB (.type "bool") := fun F H v x s h => by cases h; exact .base (.bl x)
theorem ty_rS : Ty K rS (.type "str") := fun F H v x s h => by cases h.1; exact .base (.str x)
theorem ty_rN : Ty K rN (.type "NoneType") := fun F H v x s h => by cases h; exact .base .non
theorem ty_rD : Ty K (rD r) (.type "dict") := fun F H v x s ⟨a, kvs, e, h, _⟩ => by
  subst e
  rcases s.rd h with h | ⟨ob, h⟩
  · exact .base (.dK h)
  · exact .fDict h
theorem ty_sq {H : Hp} {a : Addr} {vs : List V} (h : SqT K H a vs) : TyX K H (.ref a) (.type "tuple") := by
  rcases h with (h | ⟨ob, h⟩) | ⟨o, its, n, l, c, _⟩
  · exact .base (.tup h)
  · exact .fTuple h
  · exact .kTuple l c
theorem ty_sl {H : Hp} {a : Addr} {vs : List V} (h : SqL K H a vs) : TyX K H (.ref a) (.type "list") := by
  rcases h with (h | ⟨ob, h⟩) | ⟨o, its, n, l, c, _⟩
  · exact .base (.lst h)
  · exact .base (.frz h)
  · exact .kList l c
theorem ty_rT : Ty K (rT K r) (.type "tuple") := fun F H v x s ⟨a, vs, e, h, _⟩ => by subst e; exact ty_sq (s.seqT h)
theorem ty_rP : Ty K (rP K r q) (.type "tuple") := fun F H v x s ⟨a, v1, v2, e, h, _⟩ => by subst e; exact ty_sq (s.seqT h)
theorem ty_rP3 : Ty K (rP3 K r q t) (.type "tuple") := fun F H v x s ⟨a, v1, v2, v3, e, h, _⟩ => by subst e; exact ty_sq (s.seqT h)
theorem ty_rL : Ty K (rL K r) (.type "list") := fun F H v x s ⟨a, vs, e, h, _⟩ => by subst e; exact ty_sl (s.lst h)
theorem ty_rLK : Ty K (rLK K r) (.type "list") := fun F H v x s ⟨a, vs, e, h, _⟩ => by subst e; exact ty_sl (s.seq h)
theorem ty_rC {C : Addr} {fs : α → List (Str × SF)} (B : C8.InsC K C) : Ty K (rC C fs) (.ref C) := fun F H v x s ⟨a, dx, gs, e, h, _⟩ => by
  subst e
  exact .base (.ins (s.at_ h (fun z => z)) B.cl B.ha B.hn B.htk B.hm)
/-- isinstance(e, T) -/
theorem xe_isi {T' : Str} {vT : V} {tp xp : Pos} {t u : Value} {bb : Bool} {m : (α → Prop) → Prop} (hg : Gl X "isinstance") (hm : X.mg "isinstance" = none) (ty : Ty X.K r t) (hT : PE X (.Name T' tp) (tC vT)) (cv : ClsV vT u) (e : PySem.W.kitOne X.K t u = some bb) (h : XE X ε Γ a r m)
    (he : starEach [a, .Name T' tp] X.env = (false, eval a X.env) :: starEach [.Name T' tp] X.env := by rfl) : XE X ε Γ (.Call (.Name "isinstance" xp) [a, .Name T' tp] [] pos) rB (fun P => m fun _ => P bb) :=
  xe_callB (R := rCons r (rCons ⟨fun _ v (_ : Unit) => v = vT, fun _ h => h⟩ rNil)) (m := fun P => m fun x => P (x, (), ())) (n := fun _ P => P bb) call_isi (fun x vs F H P Q s ⟨v, ws, e1, h1, w, _, e2, h2, e3⟩ p W => by
    subst e1
    subst e2
    cases h2
    subst e3
    exact ⟨v, vT, t, u, bb, rfl, cv, ty F H v x.1 s h1, e, wish_im W p s rfl⟩) hg hm (by decide +kernel) (xa_cons h (xa_cons (xe_const (y := ()) hT fun _ => rfl) xa_nil) he) (he := he)
theorem xe_isiT {T' : Str} {n n' : String} {tp xp : Pos} {bb : Bool} {m : (α → Prop) → Prop} (hg : Gl X "isinstance") (hm : X.mg "isinstance" = none) (ty : Ty X.K r (.type n)) (hg' : Gl X T') (hm' : X.mg T' = none) (hv : bootBuiltins T' = some (.type n')) (e : kitB n n' = some bb) (h : XE X ε Γ a r m) (hn : T' ≠ "__name__" := by decide) (hd : (T' == ("__debug__" : Str)) = false := by decide)
    (he : starEach [a, .Name T' tp] X.env = (false, eval a X.env) :: starEach [.Name T' tp] X.env := by rfl) : XE X ε Γ (.Call (.Name "isinstance" xp) [a, .Name T' tp] [] pos) rB (fun P => m fun _ => P bb) :=
  xe_isi hg hm ty (pe_bltn (v := .ty n') hg' hm' hv rfl hn hd) (.ty n') (kit_ty e) h he
theorem xe_isiC {C : Addr} {T' : Str} {tp xp : Pos} {fs : α → List (Str × SF)} {m : (α → Prop) → Prop} (hg : Gl X "isinstance") (hm : X.mg "isinstance" = none) (B : C8.InsC X.K C) (hg' : Gl X T') (hm' : X.mg T' = some (.ref C)) (h : XE X ε Γ a (rC C fs) m) (hd : (T' == ("__debug__" : Str)) = false := by decide)
    (he : starEach [a, .Name T' tp] X.env = (false, eval a X.env) :: starEach [.Name T' tp] X.env := by rfl) : XE X ε Γ (.Call (.Name "isinstance" xp) [a, .Name T' tp] [] pos) rB (fun P => m fun _ => P true) :=
  xe_isi hg hm (ty_rC B) (pe_glob (v := .ref C) hg' hm' rfl hd) (.own C) B.me h he
end Bv

/-! Bv18: name = [..] where the frame's own store is used; max of values; sets of texts -/
namespace Bv
open PySem PySem.Spec PyProof.Rows L2 L2.DX Gd
variable {X : Cx} {ε : Tk} {F0 H0 F H F' H' : Hp} {Γ Γ' Γw : List SA} {σ : L2.St} {e a b c d tg iter o : Expr} {es : List Expr} {pos p pp : Pos} {α β γ δ O S : Type} {K : PySem.W.Frag} {r : Rep α} {q : Rep β} {t : Rep γ} {rest ss body : List Stmt} {ed : Ed O} {st : Stmt}
/-- st stores a thing in slot i -/
def XS (X : Cx) (ε : Tk) (Γ : List SA) (st : Stmt) (i : Nat) {α : Type} (mk : α → SA) (m : (α → Prop) → Prop) : Prop :=
  ∃ te : TE, PS X st (tAsg te (gName i)) ∧ ∀ (F0 H0 : Hp), XLk X F0 H0 ε → ∀ (σ : L2.St) (F H : Hp) (P : α → Prop) (Q : VK), Stt F0 H0 Γ σ F H → m P → (∀ x v F' H', P x → Ext F H F' H' → (mk x).holds F' H' (some v) → Fresh (mk x) v F' H → Q v H') → te σ H Q
theorem xb_xs {i : Nat} {mk : α → SA} {mm : (α → Prop) → Prop} {k : α → (O → Prop) → Prop} (h : XS X ε Γ st i mk mm) (t : ∀ x, XB X ε (Γ.set i (mk x)) rest ed (k x)) : XB X ε Γ (st :: rest) ed (fun P => mm fun x => k x P) := by
  obtain ⟨te, hp, h⟩ := h
  exact xb_set2 (y := "") (pos' := ⟨0, 0, 0, 0⟩) hp h t
theorem xs_cast {i : Nat} {mk : α → SA} {m m' : (α → Prop) → Prop} (h : XS X ε Γ st i mk m) (w : ∀ P, m' P → m P) : XS X ε Γ st i mk m' := by
  obtain ⟨te, hp, h⟩ := h
  exact ⟨te, hp, fun F0 H0 xl σ F H P Q S p q => h F0 H0 xl σ F H P Q S (w P p) q⟩
section
variable {i : Nat} {mk : List β → SA} {m : (List α → Prop) → Prop}
theorem xs_lcP {t : α → Bool} {f : α → β} (h : XS X ε Γ st i mk (fun P => m fun xs => lcM (fun x P => P (t x)) (fun x P => P (f x)) xs P)) : XS X ε Γ st i mk (fun P => m fun xs => P ((xs.filter t).map f)) := xs_cast h fun P p => by
  have e : (fun xs => lcM (fun x P => P (t x)) (fun x P => P (f x)) xs P) = fun xs => P ((xs.filter t).map f) := funext fun xs => lcM_P
  show m _
  rw [e]
  exact p
theorem xs_lcA {f : α → (β → Prop) → Prop} (h : XS X ε Γ st i mk (fun P => m fun xs => lcM (fun _ P => P true) f xs P)) : XS X ε Γ st i mk (fun P => m fun xs => mapW f xs P) := xs_cast h fun P p => by
  have e : (fun xs => lcM (fun _ P => P true) f xs P) = fun xs => mapW f xs P := funext fun xs => lcM_all
  show m _
  rw [e]
  exact p
theorem xs_lcAP {f : α → β} (h : XS X ε Γ st i mk (fun P => m fun xs => lcM (fun _ P => P true) (fun x P => P (f x)) xs P)) : XS X ε Γ st i mk (fun P => m fun xs => P (xs.map f)) := xs_cast (xs_lcA h) fun P p => by
  have e : (fun xs => mapW (fun x P => P (f x)) xs P) = fun xs => P (xs.map f) := funext fun xs => mapW_P
  show m _
  rw [e]
  exact p
end
theorem xs_lcF {i : Nat} {mk : List α → SA} {m : (List α → Prop) → Prop} {t : α → Bool} (h : XS X ε Γ st i mk (fun P => m fun xs => lcM (fun x P => P (t x)) (fun x P => P x) xs P)) : XS X ε Γ st i mk (fun P => m fun xs => P (xs.filter t)) := xs_cast (xs_lcP (f := fun x => x) h) fun P p => by
  have e : (fun xs : List α => P ((xs.filter t).map fun x => x)) = fun xs => P (xs.filter t) := funext fun xs => by rw [List.map_id'']; exact fun _ => rfl
  show m _
  rw [e]
  exact p
theorem xs_lcI {i : Nat} {mk : List α → SA} {m : (List α → Prop) → Prop} (h : XS X ε Γ st i mk (fun P => m fun xs => lcM (fun _ P => P true) (fun x P => P x) xs P)) : XS X ε Γ st i mk (fun P => m fun xs => P xs) := xs_cast (xs_lcAP (f := fun x => x) h) fun P p => by
  have e : (fun xs : List α => P (xs.map fun x => x)) = fun xs => P xs := funext fun xs => by rw [List.map_id'']; exact fun _ => rfl
  show m _
  rw [e]
  exact p
/-- it changes no more -/
theorem xs_e {i : Nat} {m : (List α → Prop) → Prop} (K : PySem.W.Frag) (h : XS X ε Γ st i (SA.ol r) m) : XS X ε Γ st i (SA.im (rL K r)) m := by
  obtain ⟨te, hp, h⟩ := h
  refine ⟨te, hp, fun F0 H0 xl σ F H P Q S p q => h F0 H0 xl σ F H P Q S p fun x v F' H' px ex hx fr => ?_⟩
  obtain ⟨a, vs, ea, ha, pr⟩ := hx
  cases ea
  obtain ⟨n1, n2⟩ := fr rfl a rfl
  have sm : Same F' (upd F' a (.lst vs)) := same_new n1
  refine q x (.ref a) (upd F' a (.lst vs)) H' px ⟨ex.ff.trans sm, ex.hh, ex.no, fun b o e => ?_, fun b o e n => ?_⟩ ⟨.ref a, rfl, a, vs, rfl, .inl upd_same, r.ups sm pr⟩ (fun z => by cases z)
  · by_cases z : b = a
    · subst z
      rw [upd_same] at e
      cases e
      exact .inl ha
    · rw [upd_ne z] at e
      exact ex.fh b o e
  · by_cases z : b = a
    · subst z
      exact n2
    · rw [upd_ne z] at e
      exact ex.new b o e n
/-- name = [.. for .. in ..] -/
theorem xs_lc {elt : Expr} {ifs : List Expr} {scope : Scope} {own : List (Str × Nat)} {rb : Rep β} {m : (List α → Prop) → Prop} {sl : List Nat} {bind : α → List SA → List SA} {t : α → (Bool → Prop) → Prop} {f : α → (β → Prop) → Prop} {i : Nat} {y : Str} {py spos : Pos} (hc : X.calm = true) (hN : X.N.Nodup) (hi : XI X ε Γ tg iter r m) (ok : BlkOk X.N X.env.scope scope own)
    (hl : Le Γ Γw) (hw : ∀ v ∈ own.map (·.2), ∀ A, Γw[v]? = some A → A = .no) (hsl : ∀ i ∈ sl, i ∈ own.map (·.2))
    (hg : ∀ s H C cl fp, XG (blkX X scope s H C cl fp) tg r sl bind)
    (ht : ∀ x s H C cl fp, XTs (blkX X scope s H C cl fp) (bind x Γw) ifs (t x)) (he : ∀ x s H C cl fp, XE (blkX X scope s H C cl fp) Tk0 (bind x Γw) elt rb (f x)) (hy : X.N[i]? = some y := by rfl) (hyl : X.env.scope.names.lookup y = some .local := by rfl)
    (hsw : swapsWith (.ListComp elt [⟨tg, iter, ifs, 0⟩] scope pos) (some (.Name y py)) spos.line X.env = pure true := by exact sw_true rfl rfl rfl (by decide +kernel)) (hs : ∀ x, foldedSetIterable iter X.env x = pure x := by intro _; rfl) :
    XS X ε Γ (.Assign [.Name y py] (.ListComp elt [⟨tg, iter, ifs, 0⟩] scope pos) spos) i (SA.ol rb) (fun P => m fun xs => lcM t f xs P) := by
  obtain ⟨wi, pi, wh⟩ := hi
  refine ⟨_, ps_setLc (g := fun v σ H Q => ∀ s H' C cl fp, RunG (blkX X scope s H' C cl fp) tg v σ H Q) (tt := fun σ H Q => ∀ s H' C cl fp, RunTs (blkX X scope s H' C cl fp) ifs σ H Q) (te := fun σ H Q => ∀ s H' C cl fp, RunE (blkX X scope s H' C cl fp) elt σ H Q) hc hN hy hyl hsw pi ok
    (fun s H C cl fp => ⟨fun pins s1 σ H v u Q I rv h => h s _ C cl fp pins s1 u I rv⟩) (fun s H C cl fp => ⟨fun pins s1 σ H Q I h => by first | exact h s _ C cl fp pins s1 I | exact RunE.run _ (h s _ C cl fp) pins s1 I⟩) (fun s H C cl fp => ⟨fun pins s1 σ H Q I h => by first | exact h s _ C cl fp pins s1 I | exact RunE.run _ (h s _ C cl fp) pins s1 I⟩) hs, fun F0 H0 xl σ F H P Q S p q => ?_⟩
  refine wh F0 H0 xl σ F H _ _ S p fun xs F1 H1 J p1 e1 lx rn D hD => ?_
  exact lcW (Y := fun _ => True) (elt := elt) (ifs := ifs) (((S.up e1).weak hl).wipe hw) lx rn p1 hsl (fun v x F0 H0 Γ σ F H Q S h k s Hx C cl fp => (hg s Hx C cl fp).run v x F0 H0 Γ σ F H Q S h k) (fun x F0 H0 σ F H P Q S p k s Hx C cl fp => ht x s Hx C cl fp F0 H0 σ F H P Q S p k)
    (fun x F0 H0 σ F H P Q S p k s Hx C cl fp => xe_use (he x s Hx C cl fp) xlk0 S p k) hD fun ys zs F' H' py e' g' fD hD' pr => q ys (.ref D) F' H' py (e1.trans e') ⟨D, zs, rfl, hD', pr⟩ fun _ a ea => by
      cases ea
      exact ⟨fD, e1.no _ hD⟩
theorem ps_lockT {te0 : TE} {i : Nat} (comp : PS X st (tAsg te0 (gName i))) : PS X st (tAsg (fun σ H Q => (∃ pins s, Inv X pins σ H s) → (tLockE te0 σ H Q ∨ te0 σ H Q)) (gName i)) :=
  ⟨fun pins s σ H D I h => (h ⟨pins, s, I⟩).elim (fun h => (ps_lock comp).run pins s σ H D I h) fun h => comp.run pins s σ H D I h⟩
/-- name = [.. for .. in d.items()] -/
theorem xs_lcD {elt : Expr} {ifs : List Expr} {scope : Scope} {own : List (Str × Nat)} {r : Rep α} {m : (List α → Prop) → Prop} {rb : Rep β} {sl : List Nat} {bind : α → List SA → List SA} {t : α → (Bool → Prop) → Prop} {f : α → (β → Prop) → Prop} {i : Nat} {y : Str} {py spos : Pos} (hc : X.calm = true) (hN : X.N.Nodup) (hi : XL X ε Γ tg iter r m) (ok : BlkOk X.N X.env.scope scope own)
    (hl : Le Γ Γw) (hw : ∀ v ∈ own.map (·.2), ∀ A, Γw[v]? = some A → A = .no) (hsl : ∀ i ∈ sl, i ∈ own.map (·.2)) (hg : ∀ s H C cl fp, XG (blkX X scope s H C cl fp) tg r sl bind)
    (ht : ∀ x s H C cl fp, XTs (blkX X scope s H C cl fp) (bind x Γw) ifs (t x)) (he : ∀ x s H C cl fp, XE (blkX X scope s H C cl fp) Tk0 (bind x Γw) elt rb (f x)) (hy : X.N[i]? = some y := by rfl) (hyl : X.env.scope.names.lookup y = some .local := by rfl)
    (hsw : swapsWith (.ListComp elt [⟨tg, iter, ifs, 0⟩] scope pos) (some (.Name y py)) spos.line X.env = pure true := by exact sw_true rfl rfl rfl (by decide +kernel)) (hs : ∀ x, foldedSetIterable iter X.env x = pure x := by intro _; rfl) :
    XS X ε Γ (.Assign [.Name y py] (.ListComp elt [⟨tg, iter, ifs, 0⟩] scope pos) spos) i (SA.ol rb) (fun P => m fun xs => lcM t f xs P) := by
  obtain ⟨wi, pi, wh⟩ := hi
  have comp := ps_setLc (g := fun v σ H Q => ∀ s H' C cl fp, RunG (blkX X scope s H' C cl fp) tg v σ H Q) (tt := fun σ H Q => ∀ s H' C cl fp, RunTs (blkX X scope s H' C cl fp) ifs σ H Q) (te := fun σ H Q => ∀ s H' C cl fp, RunE (blkX X scope s H' C cl fp) elt σ H Q) hc hN hy hyl hsw pi ok
    (fun s H C cl fp => ⟨fun pins s1 σ H v u Q I rv h => h s _ C cl fp pins s1 u I rv⟩) (fun s H C cl fp => ⟨fun pins s1 σ H Q I h => by first | exact h s _ C cl fp pins s1 I | exact RunE.run _ (h s _ C cl fp) pins s1 I⟩) (fun s H C cl fp => ⟨fun pins s1 σ H Q I h => by first | exact h s _ C cl fp pins s1 I | exact RunE.run _ (h s _ C cl fp) pins s1 I⟩) hs
  refine ⟨_, ps_lockT comp, fun F0 H0 xl σ F H P Q S p q ⟨pins, s, I⟩ => ?_⟩
  obtain ⟨xs, a, kvs, p1, hd, lx, run⟩ := wh F0 H0 xl σ F H _ S p
  have lz : xs.length ≤ sizeLine := by
    rw [lx]
    exact ((S.sub.rd hd).ok I.hok).1
  rcases S.sub.rd hd with ha | ⟨od, ha⟩
  · refine .inl ?_
    have hf : F a = some (.dK kvs) := by
      rcases hd with h | ⟨o, h⟩
      · exact h
      · rcases S.sub a _ h with k | ⟨k, _⟩
        · rw [ha] at k; cases k
        · exact k.elim
    refine ⟨a, _, ha, trivial, fun od => ?_⟩
    have S1 := stt_lock (od := od) S hf ha
    refine run od F _ _ upd_same (Same.refl _) S1.sub fun J rn D hD => ?_
    refine lcW (Y := fun _ => True) (Qf := fun v H' => H' a = some (.frz od (.dK kvs)) ∧ Q v (upd H' a (.dK kvs))) (elt := elt) (ifs := ifs) ((S1.weak hl).wipe hw) lz rn p1 hsl (fun v x F0 H0 Γ σ F H Q S h k s Hx C cl fp => (hg s Hx C cl fp).run v x F0 H0 Γ σ F H Q S h k) (fun x F0 H0 σ F H P Q S p k s Hx C cl fp => ht x s Hx C cl fp F0 H0 σ F H P Q S p k)
      (fun x F0 H0 σ F H P Q S p k s Hx C cl fp => xe_use (he x s Hx C cl fp) xlk0 S p k) hD fun ys zs F' H' py e' g' fD hD' pr => ?_
    obtain ⟨g1, g2⟩ := go_unlock hf ha g'
    have nD : D ≠ a := fun z => by
      subst z
      rw [upd_same] at hD
      cases hD
    have hD0 : H D = none := by
      rw [upd_ne nD] at hD
      exact hD
    refine ⟨g1, q ys (.ref D) F' _ py ⟨e'.ff, fun b o e n => ?_, fun b e => ?_, fun b o e => ?_, fun b o e n => ?_⟩ ⟨D, zs, rfl, by rw [upd_ne nD]; exact hD', pr⟩ fun _ a ea => by
      cases ea
      exact ⟨fD, hD0⟩⟩
    · by_cases z : b = a
      · subst z
        rw [ha] at e
        cases e
        exact upd_same
      · rw [upd_ne z]
        exact e'.hh b o (by rw [upd_ne z]; exact e) n
    · by_cases z : b = a
      · subst z
        rw [upd_same] at e
        cases e
      · rw [upd_ne z] at e
        have := e'.no b e
        rw [upd_ne z] at this
        exact this
    · by_cases z : b = a
      · subst z
        rw [e'.ff _ _ hf] at e
        cases e
        exact .inl upd_same
      · rw [upd_ne z]
        exact e'.fh b o e
    · have := e'.new b o e n
      by_cases z : b = a
      · subst z
        rw [hf] at n
        cases n
      · rw [upd_ne z] at this
        exact this
  · refine .inr (run od F H _ ha (Same.refl _) S.sub fun J rn D hD => ?_)
    exact lcW (Y := fun _ => True) (elt := elt) (ifs := ifs) ((S.weak hl).wipe hw) lz rn p1 hsl (fun v x F0 H0 Γ σ F H Q S h k s Hx C cl fp => (hg s Hx C cl fp).run v x F0 H0 Γ σ F H Q S h k) (fun x F0 H0 σ F H P Q S p k s Hx C cl fp => ht x s Hx C cl fp F0 H0 σ F H P Q S p k)
      (fun x F0 H0 σ F H P Q S p k s Hx C cl fp => xe_use (he x s Hx C cl fp) xlk0 S p k) hD fun ys zs F' H' py e' g' fD hD' pr => q ys (.ref D) F' H' py e' ⟨D, zs, rfl, hD', pr⟩ fun _ a ea => by
      cases ea
      exact ⟨fD, hD⟩
/-! ### max(d.values()) -/
/-- .values() of a dict of integers -/
def rVals : Rep (List (Str × Int)) := ⟨fun F v L => ∃ p a, v = .ref p ∧ F p = some (valsO p a) ∧ Rd F a (.dK (pr L)), fun s ⟨p, a, e, h, d⟩ => ⟨p, a, e, s _ _ h, d.elim (fun h => .inl (s _ _ h)) fun ⟨o, h⟩ => .inr ⟨o, s _ _ h⟩⟩⟩
/-- what a method call asks of its object -/
def TyW (X : Cx) (T : String) (x : V) (H : Hp) : Prop := ∀ pins σ s v, Inv X pins σ H s → RelV x v → s.TypeIs v T ∧ ∀ a, v = .ref a → ∃ ob, s.heap.get? a = some ob ∧ ob.dict = none
theorem pe_bmW0 {T id : String} {name : Str} {apos cpos : Pos} {to : TE} {r : V → List V → Hp → VK → Prop} (pa : PlainAttrs T) (slot : Slot T name id) (hty : typeOf (.builtin id) = pure (.type "method_descriptor")) (hm : MtR X id r) (ho : PE X o to)
    (hbase : attributeBase o name X.env (eval o X.env) = eval o X.env := by rfl) (hline : (apos.endLine == cpos.line) = true := by rfl) : PE X (.Call (.Attribute o name apos) [] [] cpos) (fun σ H Q => to σ H fun x H1 => TyW X T x H1 ∧ r x [] H1 Q) := by
  refine ⟨fun pins s σ H Q I h => ?_⟩
  refine wpAny_Call_method0_late hbase hline (thn (ho.run pins s σ H _ I h) fun v s1 ⟨x, H1, I1, r1, ty, q1⟩ => ?_)
  obtain ⟨h1, h2⟩ := ty pins σ s1 v I1 r1
  exact ⟨T, id, pa, slot, hty, h1, h2, Calls.callWith_builtin rfl (PySem.evalArgs_none (hm pins s1 σ H1 x [] v [] Q I1 r1 .nil q1))⟩
theorem tyW_D {a : Addr} {kvs : List (Key × V)} (h : Rd H a (.dK kvs)) : TyW X "dict" (.ref a) H := fun pins σ s v I r => by
  cases r
  obtain ⟨_, _, vs, _, dd⟩ := dk_rd I.hok h
  exact ⟨dd.typeIs, dd.mapOf.noDict⟩
/-- d.values(), d.items(): views -/
theorem xe_values {apos cpos : Pos} {m : (List (Str × Int) → Prop) → Prop} (h : XE X ε Γ o (rD Bv.rI) m) (hbase : attributeBase o "values" X.env (eval o X.env) = eval o X.env := by rfl) (hline : (apos.endLine == cpos.line) = true := by rfl) : XE X ε Γ (.Call (.Attribute o "values" apos) [] [] cpos) rVals m := xe_of fun F0 H0 xl σ F H P Q S p k =>
  use_e (pe_bmW0 PySem.F.plainAttrs_dict PySem.F.slot_dict_values PySem.F.type_dict_values mt_valuesD (run_pe X) hbase hline) (xe_use h xl S p fun L v F1 H1 p1 e1 ⟨a, kvs, ev, hd, nd, pd⟩ => by
    subst ev
    have := pd_ints pd
    subst this
    refine ⟨tyW_D (e1.fh.rd hd), a, _, rfl, rfl, e1.fh.rd hd, fun p H' hp sm at_p => k L (.ref p) (upd F1 p (valsO p a)) H' p1 (e1.trans (Ext.put e1.fh sm hp at_p)) ⟨p, a, rfl, upd_same, ?_⟩⟩
    exact rd_same hd (same_new (e1.fh.there hp)))
theorem s_maxV : SemC (rCons rVals rNil) (SA.im Bv.rI) rMaxV (fun x P => maxP (x.1.map (·.2)) P) := fun x vs F H P Q s ⟨v, ws, e, ⟨p, a, ev, hp, hd⟩, en⟩ ⟨ne, pp⟩ W => by
  cases en
  subst e
  subst ev
  exact ⟨p, a, x.1, rfl, s.at_ hp (fun z => z), s.rd hd, fun z => ne (by rw [z]; rfl), fun m h1 h2 => wish_im W (pp m h1 h2) s rfl⟩
def rItems {β : Type} (r : Rep β) : Rep (List (Str × β)) := ⟨fun F v L => ∃ p a kvs, v = .ref p ∧ F p = some (itemsO p a) ∧ Rd F a (.dK kvs) ∧ (L.map (·.1)).Nodup ∧ PD r F kvs L, fun s ⟨p, a, kvs, e, h, d, nd, pd⟩ => ⟨p, a, kvs, e, s _ _ h, d.elim (fun h => .inl (s _ _ h)) fun ⟨o, h⟩ => .inr ⟨o, s _ _ h⟩, nd, Paired.mapP pd fun x y h => ⟨h.1, r.up s h.2⟩⟩⟩
theorem xe_items {apos cpos : Pos} {m : (List (Str × α) → Prop) → Prop} (h : XE X ε Γ o (rD r) m) (hbase : attributeBase o "items" X.env (eval o X.env) = eval o X.env := by rfl) (hline : (apos.endLine == cpos.line) = true := by rfl) : XE X ε Γ (.Call (.Attribute o "items" apos) [] [] cpos) (rItems r) m := xe_of fun F0 H0 xl σ F H P Q S p k =>
  use_e (pe_bmW0 PySem.F.plainAttrs_dict PySem.F.slot_dict_items PySem.F.type_dict_items mt_itemsD (run_pe X) hbase hline) (xe_use h xl S p fun L v F1 H1 p1 e1 ⟨a, kvs, ev, hd, nd, pd⟩ => by
    subst ev
    refine ⟨tyW_D (e1.fh.rd hd), a, _, rfl, rfl, e1.fh.rd hd, fun p H' hp sm at_p => ?_⟩
    have sf : Same F1 (upd F1 p (itemsO p a)) := same_new (e1.fh.there hp)
    exact k L (.ref p) (upd F1 p (itemsO p a)) H' p1 (e1.trans (Ext.put e1.fh sm hp at_p)) ⟨p, a, kvs, rfl, upd_same, rd_same hd sf, nd, Paired.mapP pd fun x y h => ⟨h.1, r.up sf h.2⟩⟩)
/-! ### list(d.items()), sorted(d.items()), dict(pairs) -/
theorem key_rel {P : Program} {w : World} {k : Key} {v : Value} (h : (mixKind P w).is k v = true) : RelV (kV k) v := keyIs_rel h
/-- a list of new pairs -/
def rListKV : List V → Hp → VK → Prop := fun xs H Q => ∃ p a kvs, xs = [.ref p] ∧ H p = some (itemsO p a) ∧ Rd H a (.dK kvs) ∧ ∀ l H' (ps : List Addr), H l = none → Same H H' → H' l = some (.lst (ps.map V.ref)) → Paired (fun b (e : Key × V) => H' b = some (.tup [kV e.1, e.2])) ps kvs → (∀ b ∈ ps, H b = none ∧ b ≠ l) → Q (.ref l) H'
theorem call_listKV (hc : X.calm = true) : CallR X (.type "list") rListKV := by
  intro pins s σ H xs us Q I r ⟨p, a, kvs, ex, hp, ha, q⟩
  subst ex
  obtain rfl := Vals.ref1 r
  have view : s.heap.IsItemsView p a := (show ObjOk X.prog X.w H s.heap p (itemsO p a) from I.hok p _ hp).1
  obtain ⟨z, lo, vs, rel, dd⟩ := dk_rd I.hok ha
  obtain ⟨ep, hat⟩ := dd.dictAt
  have hlen : vs.length = kvs.length := rel.length.symm
  refine PySem.W.kdx_call (knd := mixKind X.prog X.w) (kvs := vs) (ep := ep) (I.ok.hd hc) view hat (by rw [hlen]; exact z) fun h' tk acc c as hk hS hl hG hacc => ?_
  have hn0 : H s.heap.objs.size = none := I.hok.fresh (Nat.le_refl _)
  have nd : as.Nodup := List.Pairwise.imp (fun h => Nat.ne_of_lt h) hG.rise
  have I1 : Inv X pins σ (upd H s.heap.objs.size (.lst (as.map V.ref))) { s with heap := h', toks := tk } := I.laid (t' := tk) hk (Nat.le_refl _)
    (show ObjOk X.prog X.w _ _ _ (.lst (as.map V.ref)) from ⟨by rw [List.length_map, hl, hlen]; exact z, acc.toList, c, by rw [hacc]; exact refs_vals as, by rw [Array.toArray_toList]; exact hS⟩)
  have made : ∀ (j : Nat) (b : Addr), as[j]? = some b → ∃ e : Key × V, kvs[j]? = some e ∧ ∀ H2, ObjOk X.prog X.w H2 h' b (.tup [kV e.1, e.2]) := fun j b hj => by
    obtain ⟨key, k, x, e1, e2, e3⟩ := hG.pairs j b hj
    obtain ⟨v, h1, h3⟩ := KV.at' rel e1
    exact ⟨(k, v), h1, fun H2 => ⟨by rw [sizeLine_eq]; show 2 ≤ 16777216; omega, [key, x], .cons (key_rel e2) (.cons h3 .nil), ⟨_, e3, rfl, 0, rfl⟩⟩⟩
  obtain ⟨H2, I3, g, qt⟩ := takeT (P := fun b vs => ∃ (j : Nat) (e : Key × V), as[j]? = some b ∧ kvs[j]? = some e ∧ vs = [kV e.1, e.2]) I as _ I1 nd fun b hb => by
    obtain ⟨j, hj⟩ := List.mem_iff_getElem?.mp hb
    obtain ⟨e, he, ok⟩ := made j b hj
    have lt := hG.above b hb
    exact ⟨Nat.le_of_lt lt, by rw [upd_ne (Nat.ne_of_gt lt)]; exact I.hok.fresh (Nat.le_of_lt lt), _, ⟨j, e, hj, he, rfl⟩, ok⟩
  refine ⟨.ref s.heap.objs.size, H2, I3, rfl, q _ _ as hn0 (fun b o e => g b o (by rw [upd_ne (ne_of_none e hn0)]; exact e)) (g _ _ upd_same) (paired_get (hl.trans hlen) fun j b hj => ?_) fun b hb => ⟨I.hok.fresh (Nat.le_of_lt (hG.above b hb)), Nat.ne_of_gt (hG.above b hb)⟩⟩
  obtain ⟨vs', ⟨j', e, h1, h2, rfl⟩, h3⟩ := qt b (List.mem_of_getElem? hj)
  have lt : j < as.length := (List.getElem?_eq_some_iff.mp hj).1
  have same : j = j' := (List.getElem?_inj lt nd).mp (hj.trans h1.symm)
  subst same
  exact ⟨e, h2, h3⟩
/-- new things stand still from now on -/
def addH (F H' : Hp) (ps : List Addr) : Hp := fun c => if c ∈ ps then H' c else F c
theorem Ext.adds {ps : List Addr} (h : Sub F H) (s : Same H H') (n : ∀ b ∈ ps, H b = none) : Ext F H (addH F H' ps) H' where
  ff := fun b o e => by
    unfold addH
    rw [if_neg fun z => by rw [h.there (n b z)] at e; cases e]
    exact e
  hh := fun b o e _ => s b o e
  no := (Ext.grow h s).no
  fh := fun b o e => by
    unfold addH at e
    split at e
    · exact .inl e
    · exact (Ext.grow h s).fh b o e
  new := fun b o e z => by
    unfold addH at e
    split at e
    · rename_i m
      exact n b m
    · rw [z] at e
      cases e
theorem addH_at {ps : List Addr} {b : Addr} (m : b ∈ ps) : addH F H' ps b = H' b := if_pos m
theorem addH_ne {ps : List Addr} {b : Addr} (m : b ∉ ps) : addH F H' ps b = F b := if_neg m
theorem paired_mem {α β : Type} {R S : α → β → Prop} {as : List α} {bs : List β} (p : Paired R as bs) (h : ∀ a b, a ∈ as → R a b → S a b) : Paired S as bs := by
  induction p with
  | nil => exact .nil
  | cons a t ih => exact .cons (h _ _ List.mem_cons_self a) (ih fun x y m => h x y (List.mem_cons_of_mem _ m))
theorem paired_mem2 {α β : Type} {R S : α → β → Prop} {as : List α} {bs : List β} (p : Paired R as bs) (h : ∀ a b, a ∈ as → b ∈ bs → R a b → S a b) : Paired S as bs := by
  induction p with
  | nil => exact .nil
  | cons a t ih => exact .cons (h _ _ List.mem_cons_self List.mem_cons_self a) (ih fun x y m n => h x y (List.mem_cons_of_mem _ m) (List.mem_cons_of_mem _ n))
theorem paired_refs {R : V → β → Prop} : ∀ {ps : List Addr} {ys : List β}, Paired (fun b y => R (V.ref b) y) ps ys → Paired R (ps.map V.ref) ys
  | _, _, .nil => .nil
  | _, _, .cons h t => .cons h (paired_refs t)
theorem paired_comp {α β δ : Type} {R : α → β → Prop} {S : β → δ → Prop} {T : α → δ → Prop} (h : ∀ a b c, R a b → S b c → T a c) : ∀ {as : List α} {bs : List β} {cs : List δ}, Paired R as bs → Paired S bs cs → Paired T as cs
  | _, _, _, .nil, .nil => .nil
  | _, _, _, .cons a t, .cons b u => .cons (h _ _ _ a b) (paired_comp h t u)
theorem s_listItems : SemC (rCons (rItems r) rNil) (SA.ol (rP K rS r)) rListKV (fun x P => P x.1) := fun x vs F H P Q s ⟨v, ws, e, ⟨p, a, kvs, ev, hp, hd, nd, pd⟩, en⟩ pp W => by
  cases en
  subst e
  subst ev
  refine ⟨p, a, kvs, rfl, s.at_ hp (fun z => z), s.rd hd, fun l H' ps hl sm at_l pr fr => ?_⟩
  have ex := Ext.adds (ps := ps) s sm (fun b m => (fr b m).1)
  have nl : l ∉ ps := fun m => (fr l m).2 rfl
  refine W x.1 (.ref l) (addH F H' ps) H' pp ex ⟨l, _, rfl, at_l, paired_refs (paired_comp (fun b e y h1 h2 => ?_) (paired_mem pr fun b e m h => (⟨m, h⟩ : b ∈ ps ∧ H' b = some (.tup [kV e.1, e.2]))) pd)⟩ fun _ b eb => by
    cases eb
    exact ⟨by rw [addH_ne nl]; exact s.there hl, hl⟩
  refine ⟨b, kV e.1, e.2, rfl, .inl (.inl (by rw [addH_at h1.1]; exact h1.2)), ⟨by rw [h2.1.1]; rfl, h2.1.2⟩, r.up ex.ff h2.2⟩
theorem s_sortedItems : SemC (rCons (rItems Bv.rI) rNil) (SA.ol (rP K rS Bv.rI)) rSortedI (fun x P => (x.1 ≠ [] ∧ x.1.length < 64) ∧ ∀ M, M.Perm x.1 → AscP M → P M) := fun x vs F H P Q s ⟨v, ws, e, ⟨p, a, kvs, ev, hp, hd, nd, pd⟩, en⟩ ⟨⟨ne, few⟩, pp⟩ W => by
  cases en
  subst e
  subst ev
  have := pd_ints pd
  subst this
  refine ⟨p, a, x.1, rfl, s.at_ hp (fun z => z), s.rd hd, nd, ne, few, fun l H' M hl sm ⟨ps, at_l, pr, fr⟩ pm asc => ?_⟩
  have ex := Ext.adds (ps := ps) s sm (fun b m => (fr b m).1)
  have nl : l ∉ ps := fun m => (fr l m).2 rfl
  refine W M (.ref l) (addH F H' ps) H' (pp M pm asc) ex ⟨l, _, rfl, at_l, paired_refs (paired_mem2 pr fun b e m n h => ?_)⟩ fun _ b eb => by
    cases eb
    exact ⟨by rw [addH_ne nl]; exact s.there hl, hl⟩
  exact ⟨b, .str e.1, .int e.2, rfl, .inl (.inl (by rw [addH_at m]; exact h)), ⟨rfl, pd_keys pd _ (List.mem_map.mpr ⟨e, pm.mem_iff.mp n, rfl⟩)⟩, rfl⟩
end Bv

/-! Bv19: dict(pairs), list(d), sorted(d), sets of texts -/
namespace Bv
open PySem PySem.Spec PyProof.Rows L2 L2.DX Gd
variable {X : Cx} {ε : Tk} {F0 H0 F H F' H' : Hp} {Γ Γ' Γw : List SA} {σ : L2.St} {e a b c d tg iter o : Expr} {es : List Expr} {pos p pp : Pos} {α β γ δ O S : Type} {K : PySem.W.Frag} {r : Rep α} {q : Rep β} {t : Rep γ} {rest ss body : List Stmt} {ed : Ed O} {st : Stmt} {w : World}
def mergeD (xs : List (Str × α)) : List (Str × α) := xs.foldl (fun L e => putD L e.1 e.2) []
theorem pd_merge {acc : List (Key × V)} {L : List (Str × α)} : ∀ {kvs : List (Key × V)} {xs : List (Str × α)}, PD r F acc L → PD r F kvs xs → PD r F (mergeK acc kvs) (xs.foldl (fun L e => putD L e.1 e.2) L) := by
  intro kvs xs h p
  induction p generalizing acc L with
  | nil => exact h
  | @cons kv ye kvs xs hd tl ih =>
    obtain ⟨⟨e1, ok⟩, hr⟩ := hd
    have := ih (pd_put (z := ye.1) (v := kv.2) (x := ye.2) h ok hr)
    show PD r F (mergeK (putK acc kv.1 kv.2) kvs) _
    rw [e1]
    exact this
theorem nodup_foldD {L : List (Str × α)} : ∀ {xs : List (Str × α)}, (L.map (·.1)).Nodup → ((xs.foldl (fun L e => putD L e.1 e.2) L).map (·.1)).Nodup := by
  intro xs h
  induction xs generalizing L with
  | nil => exact h
  | cons x xs ih => exact ih (nodup_putD h)
theorem pairs_split {vs : List V} {xs : List (Str × α)} (p : Paired ((rP K rS r).rep F) vs xs) : ∃ (ps : List Addr) (kvs : List (Key × V)), vs = ps.map V.ref ∧ Paired (fun b (kv : Key × V) => SqT K F b [kV kv.1, kv.2]) ps kvs ∧ PD r F kvs xs := by
  induction p with
  | nil => exact ⟨[], [], rfl, .nil, .nil⟩
  | @cons v x vs xs h t ih =>
    obtain ⟨a, v1, v2, e, hq, h1, h2⟩ := h
    obtain ⟨ps, kvs, e2, p1, p2⟩ := ih
    refine ⟨a :: ps, (Sum.inr x.1, v2) :: kvs, by rw [List.map_cons, e, e2], .cons ?_ p1, .cons ⟨⟨rfl, h1.2⟩, h2⟩ p2⟩
    show SqT K F a [V.str x.1, v2]
    rw [← h1.1]
    exact hq
/-- dict(xs) of pairs -/
def rDictKV (K : PySem.W.Frag) : List V → Hp → VK → Prop := fun xs H Q => ∃ (a : Addr) (ps : List Addr) (kvs : List (Key × V)), xs = [.ref a] ∧ SqL K H a (ps.map V.ref) ∧ Paired (fun p kv => SqT K H p [kV kv.1, kv.2]) ps kvs ∧ ∀ p, H p = none → Q (.ref p) (upd H p (.dK (mergeK [] kvs)))
theorem call_dictKV (hK : X.K = K) (hc : X.calm = true) : CallR X (.type "dict") (rDictKV K) := by
  subst hK
  exact call_dictP hc
theorem s_dictPairs : SemC (rCons (rL K (rP K rS r)) rNil) (SA.od r) (rDictKV K) (fun x P => P (mergeD x.1)) := fun x vs F H P Q s ⟨v, ws, e, ⟨a, us, ev, hq, pr⟩, en⟩ p W => by
  cases en
  subst e
  subst ev
  obtain ⟨ps, kvs, e2, p1, p2⟩ := pairs_split pr
  subst e2
  refine ⟨a, ps, kvs, rfl, s.lst hq, Paired.mapP p1 fun b kv h => s.seqT h, fun l hl => ?_⟩
  refine W (mergeD x.1) (.ref l) F _ p (Ext.grow s (same_new hl)) ⟨l, _, rfl, upd_same, nodup_foldD .nil, pd_merge .nil p2⟩ fun _ b eb => by
    cases eb
    exact ⟨s.there hl, hl⟩
theorem pd_kv {kvs : List (Key × V)} {L : List (Str × α)} (h : PD r F kvs L) : kvs.map (fun kv => kV kv.1) = (L.map (·.1)).map V.str := by
  induction h with
  | nil => rfl
  | cons h t ih =>
    rw [List.map_cons, List.map_cons, List.map_cons, ih, h.1.1]
    rfl
theorem pd_inr {kvs : List (Key × V)} {L : List (Str × α)} (h : PD r F kvs L) : kvs.map (·.1) = (L.map (·.1)).map Sum.inr := by
  induction h with
  | nil => rfl
  | cons h t ih => rw [List.map_cons, List.map_cons, List.map_cons, ih, h.1.1]
/-- list(d) -/
def rListDK : List V → Hp → VK → Prop := fun xs H Q => ∃ (a : Addr) (kvs : List (Key × V)), xs = [.ref a] ∧ Rd H a (.dK kvs) ∧ ∀ p, H p = none → Q (.ref p) (upd H p (.lst (kvs.map fun kv => kV kv.1)))
theorem s_listDK : SemC (rCons (rD r) rNil) (SA.ol rS) rListDK (fun x P => P (x.1.map (·.1))) := fun x vs F H P Q s ⟨v, ws, e, ⟨a, kvs, ev, hd, nd, pd⟩, en⟩ p W => by
  cases en
  subst e
  subst ev
  refine ⟨a, kvs, rfl, s.rd hd, fun l hl => wish_ol W p s ?_ l hl⟩
  rw [pd_kv pd]
  exact of_strs fun z m => pd_keys pd z m
/-- sorted(d) -/
def rSortedDK : List V → Hp → VK → Prop := fun xs H Q => ∃ (a : Addr) (kvs : List (Key × V)) (ks : List Str), xs = [.ref a] ∧ Rd H a (.dK kvs) ∧ kvs.map (·.1) = ks.map Sum.inr ∧ ks.length < 64 ∧
    ∀ ys p, ys.Perm ks → sortedS ys = true → H p = none → Q (.ref p) (upd H p (.lst (ys.map V.str)))
theorem s_sortedDK : SemC (rCons (rD r) rNil) (SA.ol rS) rSortedDK (fun x P => x.1.length < 64 ∧ P (sortT (x.1.map (·.1)))) := fun x vs F H P Q s ⟨v, ws, e, ⟨a, kvs, ev, hd, nd, pd⟩, en⟩ p W => by
  cases en
  subst e
  subst ev
  refine ⟨a, kvs, x.1.map (·.1), rfl, s.rd hd, pd_inr pd, by rw [List.length_map]; exact p.1, fun ys l pm so hl => ?_⟩
  rw [sortT_eq_of so pm]
  exact wish_ol W p.2 s (of_strs fun z m => pd_keys pd z ((sortT_perm _).mem_iff.mp m)) l hl
/-! ### sets of texts -/
def rU (w : World) : Rep (List Str) := ⟨fun F v xs => ∃ a, v = .ref a ∧ F a = some (SetTx w a xs) ∧ ∀ x ∈ xs, okS x, fun s ⟨a, e, h, k⟩ => ⟨a, e, s _ _ h, k⟩⟩
theorem nodup_le {α : Type} [DecidableEq α] : ∀ {l m : List α}, l.Nodup → (∀ k ∈ l, k ∈ m) → l.length ≤ m.length
  | [], _, _, _ => Nat.zero_le _
  | a :: l, m, nd, sub => by
    obtain ⟨na, nl⟩ := List.nodup_cons.mp nd
    have ma := sub a List.mem_cons_self
    have := nodup_le (l := l) (m := m.erase a) nl fun k hk => (List.mem_erase_of_ne fun z : k = a => na (by rw [← z]; exact hk)).mpr (sub k (List.mem_cons_of_mem _ hk))
    rw [List.length_erase_of_mem ma] at this
    have pos : 0 < m.length := List.length_pos_of_mem ma
    rw [List.length_cons]
    omega
/-- few different ones -/
def FewU (xs : List Str) : Prop := (uniq xs).length < 4095
theorem FewU.few {xs : List Str} (h : FewU xs) : FewIn xs := fun l nd sub => by
  have : l.length ≤ (uniq xs).length := nodup_le nd fun k m => mem_uniq.mpr (sub k m)
  unfold FewU at h
  show l.length + 1 < 4096
  omega
theorem strs_pr {vs : List V} {xs : List Str} (p : Paired (rS.rep F) vs xs) : vs = xs.map V.str ∧ ∀ x ∈ xs, okS x := by
  induction p with
  | nil => exact ⟨rfl, fun _ m => nomatch m⟩
  | cons h t ih => exact ⟨by rw [List.map_cons, ih.1, h.1], fun x m => (List.mem_cons.mp m).elim (fun e => e ▸ h.2) (ih.2 x)⟩
theorem wish_u {P : List Str → Prop} {Q : VK} {xs : List Str} (W : Wish F H (SA.im (rU w)) P Q) (pp : P xs) (s : Sub F H) (ok : ∀ x ∈ xs, okS x) : ∀ p H', H p = none → Same H H' → H' p = some (SetTx w p xs) → Q (.ref p) H' := fun p H' hp sm at_p =>
  wish_ext W pp (Ext.put s sm hp at_p) ⟨p, rfl, upd_same, ok⟩
theorem s_setL : SemC (rCons (rL K rS) rNil) (SA.im (rU w)) (rSetT K w) (fun x P => FewU x.1 ∧ P x.1) := fun x vs F H P Q s ⟨v, ws, e, ⟨a, us, ev, hq, pr⟩, en⟩ p W => by
  cases en
  subst e
  subst ev
  obtain ⟨e2, ok⟩ := strs_pr pr
  subst e2
  exact ⟨.ref a, x.1, rfl, .inr (.inl ⟨a, rfl, s.lst hq⟩), p.1.few, wish_u W p.2 s ok⟩
theorem s_setT : SemC (rCons (rT K rS) rNil) (SA.im (rU w)) (rSetT K w) (fun x P => FewU x.1 ∧ P x.1) := fun x vs F H P Q s ⟨v, ws, e, ⟨a, us, ev, hq, pr⟩, en⟩ p W => by
  cases en
  subst e
  subst ev
  obtain ⟨e2, ok⟩ := strs_pr pr
  subst e2
  exact ⟨.ref a, x.1, rfl, .inr (.inr ⟨a, rfl, s.seqT hq⟩), p.1.few, wish_u W p.2 s ok⟩
theorem s_setS : SemC (rCons rS rNil) (SA.im (rU w)) (rSetT K w) (fun x P => FewU (Bv.signs x.1) ∧ P (Bv.signs x.1)) := fun x vs F H P Q s ⟨v, ws, e, ⟨ev, ok⟩, en⟩ p W => by
  cases en
  subst e
  subst ev
  exact ⟨.str x.1, Bv.signs x.1, rfl, .inl ⟨x.1, rfl, ok.1, rfl⟩, p.1.few, wish_u W p.2 s fun y m => by
    obtain ⟨c, hc, rfl⟩ := List.mem_map.mp m
    exact strOk_sg ok.2 hc⟩
theorem s_sortedU : SemC (rCons (rU w) rNil) (SA.ol rS) (rSortedTx w) (fun x P => x.1.length ≤ 16777216 ∧ P (ascT x.1)) := fun x vs F H P Q s ⟨v, ws, e, ⟨a, ev, h, ok⟩, en⟩ p W => by
  cases en
  subst e
  subst ev
  refine ⟨a, x.1, rfl, s.at_ h (fun z => z), p.1, fun l H' hl sm at_l => W _ (.ref l) F H' p.2 (Ext.grow s sm) ⟨l, _, rfl, at_l, of_strs fun z m => ok z (mem_ascT.mp m)⟩ fun _ b eb => ?_⟩
  cases eb
  exact ⟨s.there hl, hl⟩
end Bv

/-! Bv20: small things that the compiled terms name -/
namespace Bv
open PySem PySem.Spec PyProof.Rows L2 L2.DX Gd
variable {X : Cx} {ε : Tk} {F0 H0 F H F' H' : Hp} {Γ Γ' Γw : List SA} {σ : L2.St} {e a b c d tg iter o : Expr} {es : List Expr} {pos p pp : Pos} {α β γ δ O S : Type} {K : PySem.W.Frag} {r : Rep α} {q : Rep β} {t : Rep γ} {rest ss body : List Stmt} {ed : Ed O} {st : Stmt} {w : World}
theorem xe_gI {x : Str} {i : Int} (hg : Gl X x) (hm : ∃ t, X.mg x = some (.int i t)) (hd : (x == ("__debug__" : Str)) = false := by decide) (hcd : (x == ("__classdict__" : Str)) = false := by decide) : XE X ε Γ (.Name x pos) Bv.rI (fun P => P i) := by
  obtain ⟨t, h⟩ := hm
  exact xe_glob hg h (v := .int i) ⟨t, rfl⟩ (fun _ => rfl) hd hcd
theorem call_listDK (hc : X.calm = true) : CallR X (.type "list") rListDK := call_listD hc
theorem call_sortedDK (hc : X.calm = true) : CallR X (.builtin "sorted") rSortedDK := call_sortedD hc
theorem call_lenDR : CallR X (.builtin "len") (fun xs H Q => ∃ a kvs, xs = [.ref a] ∧ Rd H a (.dK kvs) ∧ Q (.int kvs.length) H) := by
  intro pins s σ H xs us Q I r h
  obtain ⟨a, kvs, rfl, ha, q⟩ := h
  obtain ⟨u, rfl, ru⟩ := vals1 r
  cases ru
  exact d_len I ha fun t s' I' => ⟨.int kvs.length, H, I', ⟨t, rfl⟩, q⟩
def sortI (L : List (Str × Int)) (P : List (Str × Int) → Prop) : Prop := (L ≠ [] ∧ L.length < 64) ∧ ∀ M, M.Perm L → AscP M → P M
theorem s_sortI : SemC (rCons (rItems Bv.rI) rNil) (SA.ol (rP K rS Bv.rI)) rSortedI (fun x P => sortI x.1 P) := s_sortedItems
theorem lenI {R : Rps α} {n : Nat} (h : ∀ F vs x, R.rep F vs x → vs.length = n) : ∀ F vs x, R.rep F vs x → vs.length + 1 = n + 1 := fun F vs x q => congrArg (· + 1) (h F vs x q)
/-- a class's own iteration: return iter(self.fl) -/
theorem iterD_of {P : Program} {K : PySem.W.Frag} {mg : Str → Option Value} {base : Heap} {k : Nat} {C f : Addr} {ps : List Str} {fl : Str} (O : Own K C "__iter__" f) (D : Ds P w K mg base k f ps (spIter K C fl)) : IterD P w K mg base k C fl := ⟨f, ps, O, D⟩
theorem xe_any {mk : α → SA} {m : (α → Prop) → Prop} (h : XV X ε Γ e mk m) : XE X ε Γ e rAny (fun P => m fun _ => P ()) := xe_of fun F0 H0 xl σ F H P Q S p k => h F0 H0 xl σ F H _ Q S p fun x v F' H' px ex _ _ => k () v F' H' px ex True.intro
def lenOwn (m : (Int → Prop) → Prop) (P : Int → Prop) : Prop := m fun z => (0 ≤ z ∧ z < 2 ^ 63) ∧ P z
theorem xv_castE {r : Rep α} {m m' : (α → Prop) → Prop} (h : XE X ε Γ e r m) (w : ∀ P, m' P → m P) : XE X ε Γ e r m' := xv_cast h w
end Bv

/-! Bv21: dicts compared; methods of texts without arguments; joins -/
namespace Bv
open PySem PySem.Spec PyProof.Rows L2 L2.DX Gd
variable {X : Cx} {ε : Tk} {F0 H0 F H F' H' : Hp} {Γ Γ' Γw : List SA} {σ : L2.St} {e a b c d tg iter o : Expr} {es : List Expr} {pos p pp : Pos} {α β γ δ O S : Type} {K : PySem.W.Frag} {r : Rep α} {q : Rep β} {t : Rep γ} {rest ss body : List Stmt} {ed : Ed O} {st : Stmt} {w : World}
section
variable [DecidableEq α]
/-- the same values at the same keys -/
def eqD (L M : List (Str × α)) : Bool := decide (L.length = M.length) && L.all fun p => decide (M.lookup p.1 = some p.2)
theorem hits_D {A : Around} {s : Shared} {pins : List (Addr × Obj)} {σ : L2.St} {H : Hp} (D : Dt X.K r) (hn : D.n ≤ 64) (I : Inv X pins σ H s) (sb : Sub F H) (hu : A.in1.units + 64 < cLine) {kvs' : List (Key × V)} {M : List (Str × α)} {vb : List (Key × Value)} (rb : KV kvs' vb) (pb : PD r F kvs' M) :
    ∀ {kvs : List (Key × V)} {L : List (Str × α)} {va : List (Key × Value)}, KV kvs va → PD r F kvs L → ∃ b, PySem.W.KeqHits A.in1 s vb va b ∧ b = L.all fun p => decide (M.lookup p.1 = some p.2)
  | [], _, va, ra, pa => by
    cases pa
    have ra' : KV ([] : List (Key × V)) _ := ra
    unfold KV at ra'
    cases ra'
    exact ⟨true, .nil, rfl⟩
  | (k, v) :: kvs, (y, x) :: L, va, ra, pa => by
    have ra' : KV ((k, v) :: kvs) va := ra
    unfold KV at ra'
    cases ra' with
    | @cons _ q _ qs h t =>
      cases pa with
      | cons hd tl =>
        obtain ⟨b, hb, e⟩ := hits_D D hn I sb hu rb pb (kvs := kvs) (L := L) (va := qs) t tl
        obtain ⟨k', u⟩ := q
        obtain ⟨h1, h2⟩ := h
        have h1' : k = k' := h1
        subst h1'
        obtain ⟨⟨e1, ok⟩, hr⟩ := hd
        have e1 : k = Sum.inr y := e1
        subst e1
        have rv : RelO (valV kvs' (Sum.inr y)) (valueAt vb (Sum.inr y)) := rb.val (Sum.inr y)
        rcases pd_look pb (z := y) with ⟨n1, n2⟩ | ⟨w, z, n1, n2, n3⟩
        · rw [n1] at rv
          cases ev : valueAt vb (Sum.inr y) with
          | some y' =>
            rw [ev] at rv
            exact (show False from rv).elim
          | none =>
            refine ⟨false, .miss ev, ?_⟩
            rw [List.all_cons]
            show false = (decide (M.lookup y = some x) && _)
            rw [n2]
            rfl
        · rw [n1] at rv
          obtain ⟨u', eu, ru⟩ := rv.some_of
          obtain ⟨as, r1⟩ := Dp.reads I (D.dat x) v u (dp_sub sb (D.dp _ _ _ hr)) h2
          obtain ⟨bs, r2⟩ := Dp.reads I (D.dat z) w u' (dp_sub sb (D.dp _ _ _ n3)) ru
          refine ⟨PyData.eqv (D.dat x) (D.dat z) && b, .hit eu (PySem.W.keq_at r1 r2 (shaped_of D hn hr) (shaped_of D hn n3) hu) hb, ?_⟩
          rw [List.all_cons, e, D.eqv]
          show _ = (decide (M.lookup y = some x) && _)
          rw [n2]
          congr 1
          exact decide_eq_decide.mpr ⟨fun z => by rw [z], fun z => (Option.some.inj z).symm⟩
def rEqDD (r : Rep α) (neg : Bool) : R2 := fun x y H Q => ∃ F L M, Sub F H ∧ (rD r).rep F x L ∧ (rD r).rep F y M ∧ Q (.bl (eqD L M != neg)) H
theorem op_eqDD (D : Dt X.K r) (hn : D.n ≤ 64) (hu : X.A.units + 66 < cLine) : OpR X (compareOp .Eq) (rEqDD r false) := by
  intro pins s σ H x y v u Q I rx ry ⟨F, L, M, sb, ⟨a, kvs, ea, ha, nd, pa⟩, ⟨b, kvs', eb, hb, nd', pb⟩, q⟩
  subst ea
  subst eb
  obtain rfl : v = Value.ref a := rx
  obtain rfl : u = Value.ref b := ry
  obtain ⟨_, ya, va, ra, da⟩ := dk_rd I.hok (sb.rd ha)
  obtain ⟨_, yb, vb, rb, db⟩ := dk_rd I.hok (sb.rd hb)
  obtain ⟨r, hits, er⟩ := hits_D (A := X.A) (s := s) D hn I sb (by show X.A.units + 1 + 64 < cLine; omega) rb pb ra pa
  refine PySem.W.keq_eq (knd := mixKind X.prog X.w) (r := r) ya yb da db (by omega) (fun _ => hits) (fin_bl I q ?_)
  rw [Bool.bne_false]
  unfold eqD
  rw [er, ← ra.length, ← rb.length, Paired.len pa, Paired.len pb]
  congr 1
theorem op_neDD (D : Dt X.K r) (hn : D.n ≤ 64) (hu : X.A.units + 66 < cLine) : OpR X (compareOp .NotEq) (rEqDD r true) := by
  intro pins s σ H x y v u Q I rx ry ⟨F, L, M, sb, ⟨a, kvs, ea, ha, nd, pa⟩, ⟨b, kvs', eb, hb, nd', pb⟩, q⟩
  subst ea
  subst eb
  obtain rfl : v = Value.ref a := rx
  obtain rfl : u = Value.ref b := ry
  obtain ⟨_, ya, va, ra, da⟩ := dk_rd I.hok (sb.rd ha)
  obtain ⟨_, yb, vb, rb, db⟩ := dk_rd I.hok (sb.rd hb)
  obtain ⟨r, hits, er⟩ := hits_D (A := X.A) (s := s) D hn I sb (by show X.A.units + 1 + 64 < cLine; omega) rb pb ra pa
  refine PySem.W.keq_ne (knd := mixKind X.prog X.w) (r := r) ya yb da db (by omega) (fun _ => hits) (fin_bl I q ?_)
  rw [Bool.bne_true]
  unfold eqD
  rw [er, ← ra.length, ← rb.length, Paired.len pa, Paired.len pb]
  congr 1
theorem s_eqDD {neg : Bool} : Sem2 (rD r) (rD r) (SA.im rB) (rEqDD r neg) (fun x y P => P (eqD x y != neg)) := fun x y v w F H P Q s hx hy p W => ⟨F, x, y, s, hx, hy, wish_im W p s rfl⟩
end
theorem hu66 {k : Nat} {A : Around} (r : Room k A) : A.units + 66 < cLine := by have := r.un; omega
/-- text.isalpha() and the like -/
theorem s_str0 {g : Str → Bool} : SemM K "str" rS rNil (SA.im rB) (fun x xs H Q => ∃ a, x = .str a ∧ xs = [] ∧ True ∧ Q (.bl (g a)) H) (fun y _ P => P (g y)) := ⟨ty_S, fun y x v vs F H P Q s hy hv p W => ⟨y, hy.1, hv, True.intro, wish_im W p s rfl⟩⟩
/-- "".join of a tuple -/
theorem s_joinT : SemM K "str" rS (rCons (rT K rS) rNil) (SA.im rS) (fun x xs H Q => ∃ a p, ∃ ys : List Str, x = .str a ∧ xs = [.ref p] ∧ (SqL K H p (ys.map V.str) ∨ SqT K H p (ys.map V.str)) ∧ (ys.map (·.length)).sum + ys.length * a.length ≤ 16777216 ∧ Q (.str (Txt.join a ys)) H)
    (fun y x P => (y = Str.ofString "" ∧ (x.1.map (·.length)).sum ≤ 16777216) ∧ P (Txt.join (Str.ofString "") x.1)) := ⟨ty_S, fun y x v vs F H P Q s hy ⟨w, ws, e, ⟨a, us, ea, hq, pr⟩, en⟩ p W => by
  obtain ⟨eu, ok⟩ := strs_of pr
  subst eu
  cases en
  obtain ⟨⟨e0, le⟩, p⟩ := p
  subst e0
  exact ⟨_, a, x.1, hy.1, by rw [e, ea], .inr (s.seqT hq), by show _ + _ * 0 ≤ _; rw [Nat.mul_zero]; exact le, wish_im W p s ⟨rfl, ok_join0 ok le⟩⟩⟩
/-! ### is None -/
def NN (r : Rep α) : Prop := ∀ (F : Hp) (v : V) (x : α), r.rep F v x → v ≠ .non
theorem nn_I : NN Bv.rI := fun F v x h z => by subst z; cases h
theorem nn_B : NN rB := fun F v x h z => by subst z; cases h
theorem nn_S : NN rS := fun F v x h z => by subst z; cases h.1
theorem nn_L : NN (rL K r) := fun F v x ⟨a, vs, e, _⟩ z => by subst z; cases e
theorem nn_T : NN (rT K r) := fun F v x ⟨a, vs, e, _⟩ z => by subst z; cases e
theorem nn_P : NN (rP K r q) := fun F v x ⟨a, v1, v2, e, _⟩ z => by subst z; cases e
theorem nn_P3 : NN (rP3 K r q t) := fun F v x ⟨a, v1, v2, v3, e, _⟩ z => by subst z; cases e
theorem nn_D : NN (rD r) := fun F v x ⟨a, vs, e, _⟩ z => by subst z; cases e
theorem nn_C {C : Addr} {fs : α → List (Str × SF)} : NN (rC C fs) := fun F v x ⟨a, dx, gs, e, _⟩ z => by subst z; cases e
theorem s_isN (n : NN r) : Sem2 (rO K r) rN (SA.im rB) (fun x y H Q => y = .non ∧ Q (.bl (decide (x = .non))) H) (fun x _ P => P x.isNone) := fun x y v w F H P Q s hx hy p W => ⟨hy, by
  rcases hx with ⟨e1, e2⟩ | ⟨z, e1, e2⟩
  · rw [decide_eq_true e1]
    rw [e2] at p
    exact wish_im W p s rfl
  · rw [decide_eq_false (n _ _ _ e2)]
    rw [e1] at p
    exact wish_im W p s rfl⟩
theorem s_notN (n : NN r) : Sem2 (rO K r) rN (SA.im rB) (fun x y H Q => y = .non ∧ Q (.bl (!decide (x = .non))) H) (fun x _ P => P x.isSome) := fun x y v w F H P Q s hx hy p W => ⟨hy, by
  rcases hx with ⟨e1, e2⟩ | ⟨z, e1, e2⟩
  · rw [decide_eq_true e1]
    rw [e2] at p
    exact wish_im W p s rfl
  · rw [decide_eq_false (n _ _ _ e2)]
    rw [e1] at p
    exact wish_im W p s rfl⟩
section
variable {m : (Option α → Prop) → Prop} {j : Nat}
theorem xe_isNone (n : NN r) (h : XE X ε Γ a (rO K r) m) : XE X ε Γ (.Compare a [.Is] [.Constant .none j p] pos) rB (fun P => m fun x => P x.isNone) := xe_cmp op_isN (s_isN n) h xe_non rfl
theorem xt_isNone (n : NN r) (h : XE X ε Γ a (rO K r) m) : XT X ε Γ (.Compare a [.Is] [.Constant .none j p] pos) (fun P => m fun x => P x.isNone) := xt_cmp op_isN (s_isN n) h xe_non rfl
theorem xe_isNoneN (n : NN r) (h : XE X ε Γ a (rO K r) m) : XE X ε Γ (.Compare a [.IsNot] [.Constant .none j p] pos) rB (fun P => m fun x => P x.isSome) := xe_cmp op_notN (s_notN n) h xe_non rfl
theorem xt_isNoneN (n : NN r) (h : XE X ε Γ a (rO K r) m) : XT X ε Γ (.Compare a [.IsNot] [.Constant .none j p] pos) (fun P => m fun x => P x.isSome) := xt_cmp op_notN (s_notN n) h xe_non rfl
end
theorem xe_p {r : Rep α} {x : α} {m : (α → Prop) → Prop} (h : XE X ε Γ a r m) (e : m = fun P => P x := by rfl) : XE X ε Γ a r (fun P => P x) := by
  subst e
  exact h
theorem xt_p {x : Bool} {m : (Bool → Prop) → Prop} (h : XT X ε Γ a m) (e : m = fun P => P x := by rfl) : XT X ε Γ a (fun P => P x) := by
  subst e
  exact h
end Bv

/-! Bv22: xs * n -/
namespace Bv
open PySem PySem.Spec PyProof.Rows L2 L2.DX Gd
variable {X : Cx} {ε : Tk} {F0 H0 F H F' H' : Hp} {Γ Γ' Γw : List SA} {σ : L2.St} {e a b c d tg iter o : Expr} {es : List Expr} {pos p pp : Pos} {α β γ δ O S : Type} {K : PySem.W.Frag} {r : Rep α} {q : Rep β} {t : Rep γ} {rest ss body : List Stmt} {ed : Ed O} {st : Stmt} {w : World}
def rRepR : R2 := fun x y H Q => ∃ l k xs, x = .ref l ∧ y = .int k ∧ Rd H l (.lst xs) ∧ -(2 ^ 63) ≤ k ∧ k < 2 ^ 63 ∧ xs.length * k.toNat ≤ sizeLine ∧ ∀ p, H p = none → Q (.ref p) (upd H p (.lst (List.replicate k.toNat xs).flatten))
theorem op_repR : OpR X (binaryOp .Mult) rRepR := by
  intro pins s σ H x y v u Q I rx ry h
  obtain ⟨l, k, xs, rfl, rfl, hH, h1, h2, hz, q⟩ := h
  cases rx
  obtain ⟨t, rfl⟩ := ry
  obtain ⟨z, its, n, r, e⟩ : ObjOk X.prog X.w H s.heap l (.lst xs) := hH.ok I.hok
  have hl := r.length
  have hlen : its.toArray.size * k.toNat ≤ sizeLine := by rw [List.size_toArray, ← hl]; exact hz
  have hcap : ¬ its.toArray.size * k.toNat > (2 ^ 63 - 1) / 8 := by
    have : (sizeLine : Nat) ≤ (2 ^ 63 - 1) / 8 := by decide
    omega
  have hfit : ¬ (!Builtin.List.listFitsIndex k) = true := by
    rw [fitsIndex_both h1 h2]
    exact Bool.false_ne_true
  have hlong : ¬ Builtin.List.listTooLong (its.toArray.size * k.toNat) = true := by
    rw [notLongL hlen]
    exact Bool.false_ne_true
  have hnew : List.foldl (fun x1 x2 => x1 ++ x2) #[] (List.replicate (if its.toArray.isEmpty = true then 0 else k.toNat) its.toArray) = (List.replicate k.toNat its).flatten.toArray := by
    have f0 : ∀ m : Nat, List.foldl (fun x1 x2 => x1 ++ x2) #[] (List.replicate m its.toArray) = (List.replicate m its).flatten.toArray := fun m => by
      have := foldl_rep its m []
      rw [List.nil_append] at this
      exact this
    rw [f0]
    cases its with
    | nil => simp
    | cons a r' => rw [if_neg (by simp)]
  refine wpAny_binaryOp_repeat_ref (T := "list") (U := "int") (by decide) ⟨_, e, rfl⟩ (fun s' => typeIs_int s' k t) noFill_list_mul F.fills_int_mul F.slot_int_rmul repeat_list F.slot_int_index.lookup
    (call_meets F.slot_int_rmul (typeIs_int s k t) F.entry_int_rmul (F.args_int_rmul_2 _ _) (int___rmul___int_list k t l its.toArray n)
      ⟨e, rfl, ⟨_, e, rfl⟩, call_meets F.slot_list_mul ⟨_, e, rfl⟩ F.entry_list_mul (F.args_list_mul_2 _ _) (AutoListH.list___mul___list_int_3 l its.toArray n k t hfit hcap hlong) ⟨e, ?_⟩⟩)
  rw [hnew]
  exact ⟨.ref _, _, I.lnew (t' := s.toks) (r.rep k.toNat) (by rw [PyProof.Rows.lm_len_rep_flat, Nat.mul_comm]; exact hz), rfl, q _ I.fresh⟩
/-- xs, k times -/
def repL (xs : List α) (k : Int) : List α := (List.replicate k.toNat xs).flatten
theorem pr_rep {R : V → α → Prop} {vs : List V} {xs : List α} (p : Paired R vs xs) : ∀ n, Paired R (List.replicate n vs).flatten (List.replicate n xs).flatten
  | 0 => .nil
  | n + 1 => by
    rw [List.replicate_succ, List.replicate_succ, List.flatten_cons, List.flatten_cons]
    exact pr_join p (pr_rep p n)
theorem s_repL : Sem2 (rL K r) Bv.rI (SA.ol r) rRepR (fun x k P => ((-(2 ^ 63) ≤ k ∧ k < 2 ^ 63) ∧ x.length * k.toNat ≤ 16777216) ∧ P (repL x k)) := fun x y v w F H P Q s ⟨a, vs, e, hq, pr⟩ hy p W =>
  ⟨a, y, vs, e, hy, s.rd hq, p.1.1.1, p.1.1.2, by rw [Paired.len pr]; exact p.1.2, wish_ol W p.2 s (pr_rep pr _)⟩
end Bv

/-! Bv23: values of several kinds, in of data, displays of dicts -/
namespace Bv
open PySem PySem.Spec PyProof.Rows L2 L2.DX Gd
variable {X : Cx} {ε : Tk} {F0 H0 F H F' H' : Hp} {Γ Γ' Γw : List SA} {σ : L2.St} {e a b c d tg iter o : Expr} {es : List Expr} {pos p pp : Pos} {α β γ δ O S : Type} {K : PySem.W.Frag} {r : Rep α} {q : Rep β} {t : Rep γ} {rest ss body : List Stmt} {ed : Ed O} {st : Stmt} {w : World}
theorem hu65 {k : Nat} {A : Around} (r : Room k A) : A.units + 65 < cLine := by have := r.un; omega
/-! ### values of several kinds -/
theorem seqL_same {a : Addr} {xs : List V} (s : Same F F') (h : SqL K F a xs) : SqL K F' a xs := h.elim (fun h => .inl (rd_same h s)) .inr
theorem seqT_same {a : Addr} {xs : List V} (s : Same F F') (h : SqT K F a xs) : SqT K F' a xs := h.elim (fun h => .inl (rd_same h s)) .inr
theorem dp_same {v : V} {x : PyData} (s : Same F F') (h : Dp K F v x) : Dp K F' v x := by
  refine Dp.rec (motive_1 := fun v x _ => Dp K F' v x) (motive_2 := fun vs xs _ => DpAll K F' vs xs) .non .bl .int .str (fun hs _ ih => .lst (seqL_same s hs) ih) (fun hs _ ih => .tup (seqT_same s hs) ih) .nil (fun _ _ i1 i2 => .cons i1 i2) h
def rV (K : PySem.W.Frag) : Rep PyData := ⟨fun F v x => Dp K F v x, fun s h => dp_same s h⟩
theorem dpV : ∀ {vs : List V} {xs : List PyData}, Paired ((rV K).rep F) vs xs → DpAll K F vs xs
  | _, _, .nil => .nil
  | _, _, .cons h t => .cons h (dpV t)
theorem xe_toV [DecidableEq α] {m : (α → Prop) → Prop} (D : Dt K r) (h : XE X ε Γ e r m) : XE X ε Γ e (rV K) (fun P => m fun x => P (D.dat x)) := xe_of fun F0 H0 xl σ F H P Q S p k => xe_use h xl S p fun x v F1 H1 p1 e1 h1 => k _ v F1 H1 p1 e1 (D.dp _ _ _ h1)
theorem xe_LV {m : (List PyData → Prop) → Prop} (h : XE X ε Γ e (rL K (rV K)) m) : XE X ε Γ e (rV K) (fun P => m fun xs => P (.list xs)) := xe_of fun F0 H0 xl σ F H P Q S p k => xe_use h xl S p fun x v F1 H1 p1 e1 ⟨a, vs, ev, hq, pr⟩ => k _ v F1 H1 p1 e1 (by rw [ev]; exact Dp.lst (.inl hq) (dpV pr))
theorem xe_TV {m : (List PyData → Prop) → Prop} (h : XE X ε Γ e (rT K (rV K)) m) : XE X ε Γ e (rV K) (fun P => m fun xs => P (.tuple xs)) := xe_of fun F0 H0 xl σ F H P Q S p k => xe_use h xl S p fun x v F1 H1 p1 e1 ⟨a, vs, ev, hq, pr⟩ => k _ v F1 H1 p1 e1 (by rw [ev]; exact Dp.tup hq (dpV pr))
theorem s_eqV : Sem2 (rV K) (rV K) (SA.im rB) (rEqD K) (fun x y P => (SeqAt.shaped x = true ∧ SeqAt.shaped y = true) ∧ P (PyData.eqv x y)) := fun x y v w F H P Q s hx hy p W =>
  ⟨x, y, dp_sub s hx, dp_sub s hy, p.1.1, p.1.2, wish_im W p.2 s rfl⟩
theorem s_neV : Sem2 (rV K) (rV K) (SA.im rB) (rNeD K) (fun x y P => (SeqAt.shaped x = true ∧ SeqAt.shaped y = true) ∧ P (!PyData.eqv x y)) := fun x y v w F H P Q s hx hy p W =>
  ⟨x, y, dp_sub s hx, dp_sub s hy, p.1.1, p.1.2, wish_im W p.2 s rfl⟩
theorem s_reprV : SemC (rCons (rV K) rNil) (SA.im rR) (fun xs H Q => ∃ x d, xs = [x] ∧ Dp K H x d ∧ Sh d ∧ Q (.str d.shown) H) (fun x P => Sh x.1 ∧ P x.1.shown) := fun x vs F H P Q s ⟨v, ws, e, hv, en⟩ p W => by
  cases en
  exact ⟨v, x.1, e, dp_sub s hv, p.1, wish_im W p.2 s rfl⟩
def dt_O [DecidableEq α] (D : Dt K r) (h1 : ∀ x, PyData.eqv .none (D.dat x) = false) (h2 : ∀ x, PyData.eqv (D.dat x) .none = false) : Dt K (rO K r) where
  dat := datO D.dat
  n := D.n
  dp := fun F v x h => by
    rcases h with ⟨e, ex⟩ | ⟨y, ex, hy⟩
    · subst e ex; exact .non
    · subst ex; exact D.dp _ _ _ hy
  eqv := fun x y => by
    cases x with
    | none => cases y with
      | none => rfl
      | some y => exact (h1 y).trans (decide_eq_false (fun z => nomatch z)).symm
    | some x => cases y with
      | none => exact (h2 x).trans (decide_eq_false (fun z => nomatch z)).symm
      | some y => exact (D.eqv x y).trans (decide_eq_decide.mpr ⟨fun h => by rw [h], fun h => Option.some.inj h⟩)
  lay := fun F v x h => by
    rcases h with ⟨e, ex⟩ | ⟨y, ex, hy⟩
    · subst ex; rfl
    · subst ex; exact D.lay _ _ _ hy
  dep := fun x => by
    cases x with
    | none => exact Nat.zero_le _
    | some x => exact D.dep x
/-! ### in a list of data -/
section
variable [DecidableEq α]
theorem any_mem (D : Dt K r) (x : α) : ∀ xs : List α, ((xs.map D.dat).any fun z => PyData.eqv z (D.dat x)) = memB x xs
  | [] => by unfold memB; rw [List.map_nil, List.any_nil, decide_eq_false (by simp)]
  | y :: ys => by
    have ih := any_mem D x ys
    unfold memB at ih ⊢
    rw [List.map_cons, List.any_cons, ih, D.eqv]
    by_cases h : y = x
    · rw [decide_eq_true h, decide_eq_true (show x ∈ y :: ys by rw [h]; exact List.mem_cons_self)]; rfl
    · rw [decide_eq_false h, Bool.false_or]
      exact decide_eq_decide.mpr ⟨List.mem_cons_of_mem _, fun z => (List.mem_cons.mp z).resolve_left fun q => h q.symm⟩
theorem shaped_list (D : Dt K r) (hn : D.n ≤ 63) {vs : List V} {xs : List α} (h : Paired (r.rep F) vs xs) : SeqAt.shaped (.list (xs.map D.dat)) = true := by
  unfold SeqAt.shaped
  rw [PyData.canLay0, layAll D h, PyData.depth, decide_eq_true (by have := depAll D xs; omega)]
  rfl
theorem dpAll_sub (s : Sub F H) : ∀ (vs : List V) (ds : List PyData), DpAll K F vs ds → DpAll K H vs ds
  | [], _, h => by cases h; exact .nil
  | v :: vs, _, h => by
    cases h with
    | cons h1 h2 => exact .cons (dp_sub s h1) (dpAll_sub s vs _ h2)
theorem s_inD (D : Dt K r) (hn : D.n ≤ 63 := by exact Nat.le_of_ble_eq_true rfl) : Sem2 r (rL K r) (SA.im rB) (rInD K) (fun x y P => P (memB x y)) := fun x y v w F H P Q s hx ⟨a, vs, ev, hq, pr⟩ p W =>
  ⟨D.dat x, y.map D.dat, dp_sub s (D.dp _ _ _ hx), by rw [ev]; exact Dp.lst (s.lst hq) (dpAll_sub s _ _ (dpAll D pr)), shaped_of D (by omega) hx, shaped_list D hn pr, wish_im W p s (by rw [any_mem]; rfl)⟩
theorem s_ninD (D : Dt K r) (hn : D.n ≤ 63 := by exact Nat.le_of_ble_eq_true rfl) : Sem2 r (rL K r) (SA.im rB) (rNotInD K) (fun x y P => P (!memB x y)) := fun x y v w F H P Q s hx ⟨a, vs, ev, hq, pr⟩ p W =>
  ⟨D.dat x, y.map D.dat, dp_sub s (D.dp _ _ _ hx), by rw [ev]; exact Dp.lst (s.lst hq) (dpAll_sub s _ _ (dpAll D pr)), shaped_of D (by omega) hx, shaped_list D hn pr, wish_im W p s (by rw [any_mem]; rfl)⟩
end
/-! ### {k: v, ..} -/
def XPs (X : Cx) (ε : Tk) (Γ : List SA) (pos : Pos) (keys : List (Option Expr)) (values : List Expr) {α : Type} (r : Rep α) (m : (List (Str × α) → Prop) → Prop) : Prop :=
  ∃ trs, PPs X pos keys values trs ∧ ∀ (F0 H0 : Hp), XLk X F0 H0 ε → ∀ (σ : L2.St) (F H : Hp) (P : List (Str × α) → Prop) (Q : List (V × V) → Hp → Prop), Stt F0 H0 Γ σ F H → m P →
    (∀ xs (kvs : List (Key × V)) F' H', P xs → Ext F H F' H' → PD r F' kvs xs → kvs.length = keys.length → Q (kvs.map fun kv => (kV kv.1, kv.2)) H') → tPairs trs σ H Q
theorem xps_nil : XPs X ε Γ pos [] [] r (fun P => P []) := ⟨[], pps_nil, fun F0 H0 xl σ F H P Q S p q => q [] [] F H p (Ext.refl S.sub) .nil rfl⟩
theorem xps_cons {k v : Expr} {ks : List (Option Expr)} {vs : List Expr} {mk : (Str → Prop) → Prop} {mv : (α → Prop) → Prop} {n : (List (Str × α) → Prop) → Prop} (hk : XE X ε Γ k rS mk) (hv : XE X ε Γ v r mv) (ht : XPs X ε Γ pos ks vs r n) :
    XPs X ε Γ pos (some k :: ks) (v :: vs) r (fun P => mk fun x => mv fun y => n fun xs => P ((x, y) :: xs)) := by
  obtain ⟨trs, hp, h⟩ := ht
  refine ⟨(RunE X k, RunE X v) :: trs, pps_cons (run_pe X) (run_pe X) hp, fun F0 H0 xl σ F H P Q S p q => ?_⟩
  refine xe_use hk xl S p fun x u F1 H1 p1 e1 r1 => xe_use hv xl (S.up e1) p1 fun y w F2 H2 p2 e2 r2 => h F0 H0 xl σ F2 H2 _ _ ((S.up e1).up e2) p2 fun xs kvs F3 H3 p3 e3 pd l3 => ?_
  have := q ((x, y) :: xs) ((Sum.inr x, w) :: kvs) F3 H3 p3 ((e1.trans e2).trans e3) (.cons ⟨⟨rfl, r1.2⟩, r.up e3.ff r2⟩ pd) (by rw [List.length_cons, List.length_cons, l3])
  rw [r1.1]
  exact this
theorem xe_disp {keys : List (Option Expr)} {values : List Expr} {m : (List (Str × α) → Prop) → Prop} (h : XPs X ε Γ pos keys values r m) (hall : keys.all (·.isSome) = true := by rfl) (hl : keys.length = values.length := by rfl) (h0 : keys.isEmpty = false := by rfl) (h15 : decide (keys.length ≤ 15) = true := by rfl) :
    XV X ε Γ (.Dict keys values pos) (SA.od r) (fun P => m fun xs => P (mergeD xs)) := fun F0 H0 xl σ F H P Q S p q => by
  obtain ⟨trs, hp, h⟩ := h
  refine use_e (pe_disp hp hall hl (fun z => by rw [z] at h0; cases h0) (of_decide_eq_true h15)) fun D hD => ?_
  have e0 : Ext F H F (upd H D (.dK [])) := Ext.grow S.sub (same_new hD)
  refine h F0 H0 xl σ F _ _ _ (S.up e0) p fun xs kvs F2 H2 p2 e2 pd l2 => ⟨e2.hh D _ upd_same (fun _ z => by cases z), kvs, rfl, by rw [l2]; exact of_decide_eq_true h15, ?_⟩
  have fD : F2 D = none := by
    cases w : F2 D with
    | none => rfl
    | some u =>
      have := e2.new D u w (S.sub.there hD)
      rw [upd_same] at this
      cases this
  have off : ∀ b, b ≠ D → upd H D (.dK []) b = H b := fun b n => upd_ne n
  refine q (mergeD xs) (.ref D) F2 _ p2 ⟨e2.ff, fun b o hb n => ?_, fun b hb => ?_, fun b o hb => ?_, fun b o hb n => ?_⟩ ⟨D, _, rfl, upd_same, nodup_foldD .nil, pd_merge .nil pd⟩ fun _ a ea => by
    cases ea
    exact ⟨fD, hD⟩
  · have nb : b ≠ D := fun z => by subst z; rw [hD] at hb; cases hb
    rw [upd_ne nb]
    exact e2.hh b o (by rw [off b nb]; exact hb) n
  · by_cases z : b = D
    · subst z
      exact hD
    · rw [upd_ne z] at hb
      have := e2.no b hb
      rw [off b z] at this
      exact this
  · have nb : b ≠ D := fun z => by subst z; rw [fD] at hb; cases hb
    rw [upd_ne nb]
    exact e2.fh b o hb
  · have nb : b ≠ D := fun z => by subst z; rw [fD] at hb; cases hb
    have := e2.new b o hb n
    rw [off b nb] at this
    exact this
end Bv

/-! Bv24: one name over d.items(): the iterator keeps its pair -/
namespace Bv
open PySem PySem.Spec PyProof.Rows L2 L2.DX Gd
section
variable {prog : Program} {w : World} {A : Around} {E : Value → Shared → Prop} {s : Shared} {it d : Addr} {i n ep : Nat} {x ok ov key val : Value} {f : Bool}
/-- the iterator's own object -/
abbrev itO (d : Addr) (x : Value) (f : Bool) (i n ep : Nat) (ok ov : Value) : Obj := ⟨.type "dict_itemiterator", none, .fields #[x, .bool f, .ref d, .int i 0, .int n 0, .int ep 0, ok, ov], #[]⟩
def It1 (h : Heap) (it d : Addr) (i n ep : Nat) : Prop := ∃ x f ok ov, (x = .none ∨ ∃ a : Addr, x = rawInt a) ∧ h.get? it = some (itO d x f i n ep ok ov)
theorem free1 {Q : Bool → Shared → Prop} (hx : x = .none ∨ ∃ a : Addr, x = rawInt a) (st : s.heap.get? it = some (itO d x f i n ep ok ov)) (q0 : Q true s)
    (q1 : ∀ h', h'.get? it = some (itO d x true i n ep ok ov) → Heap.SameBut it s.heap h' → Q false { s with heap := h' }) : wpAny (model prog w) A (Builtin.Dict_items.ownedTupleIsFree (.ref it)) Q E s := by
  unfold Builtin.Dict_items.ownedTupleIsFree
  rcases hx with rfl | ⟨a, rfl⟩
  · exact wpAny_bind (wpAny_field st rfl (x := .none) rfl (wpAny_pure q0))
  · refine wpAny_bind (wpAny_field st rfl (x := rawInt a) rfl ?_)
    show wpAny _ _ (loadIfAlive (Int.toNat (a : Int)) >>= _) Q E s
    rw [Int.toNat_natCast]
    have alive : ∀ {R : Option Obj → Shared → Prop}, R (s.heap.get? a) s → wpAny (model prog w) A (loadIfAlive a) R E s := fun h => fun _ _ _ => h
    refine wpAny_bind (alive ?_)
    cases s.heap.get? a with
    | none =>
      simp only [Option.isNone_none, if_true]
      exact wpAny_pure q0
    | some oa =>
      simp only [Option.isNone_some, Bool.false_eq_true, if_false]
      refine wpAny_bind (wpAny_field st rfl (x := .bool f) rfl ?_)
      cases f with
      | true =>
        rw [if_neg (by decide)]
        exact wpAny_pure (q1 s.heap st (Heap.SameBut.refl _ _))
      | false =>
        rw [if_pos (by decide)]
        exact wpAny_bind (wpAny_setField_rec st (by simp) fun h3 e3 s3 => wpAny_pure (q1 h3 e3 s3))
theorem pair1 {Q : Value → Shared → Prop} (st : It1 s.heap it d i n ep)
    (q : ∀ h', It1 h' it d i n ep → h'.get? s.heap.objs.size = some ⟨.type "tuple", none, .seq #[key, val] 0, #[]⟩ → (∀ b o, b ≠ it → s.heap.get? b = some o → h'.get? b = some o) → Q (.ref s.heap.objs.size) { s with heap := h' }) :
    wpAny (model prog w) A (Builtin.Dict_items.pairFromOwner (.ref it) 6 key val) Q E s := by
  obtain ⟨x, f, ok, ov, hx, e⟩ := st
  have lt : it < s.heap.objs.size := Heap.lt_size e
  have ne : s.heap.objs.size ≠ it := Nat.ne_of_gt lt
  unfold Builtin.Dict_items.pairFromOwner
  refine wpAny_bind (wpAny_newTuple ?_)
  obtain ⟨h2, eh2⟩ : ∃ h2, h2 = s.heap.push { cls := .type "tuple", data := .seq [key, val].toArray } := ⟨_, rfl⟩
  rw [← eh2]
  have t2 : h2.get? s.heap.objs.size = some ⟨.type "tuple", none, .seq #[key, val] 0, #[]⟩ := by rw [eh2]; exact Heap.get?_push_size _ rfl
  have k2 : ∀ b o, s.heap.get? b = some o → h2.get? b = some o := fun b o z => by rw [eh2]; exact Heap.get?_push_of_some _ z
  have e2 := k2 it _ e
  clear eh2
  refine wpAny_bind (free1 (s := { s with heap := h2 }) hx e2 ?_ fun h3 e3 s3 => ?_)
  · simp only [if_true]
    refine wpAny_bind (wpAny_field e2 rfl (x := ok) rfl (wpAny_bind (wpAny_field e2 rfl (x := ov) rfl ?_)))
    refine wpAny_bind (wpAny_setField_rec e2 (by simp) fun h3 e3 s3 => wpAny_bind (wpAny_setField_rec e3 (by simp) fun h4 e4 s4 => ?_))
    refine wpAny_bind (wpAny_setField_rec e4 (by simp) fun h5 e5 s5 => wpAny_bind (wpAny_setField_rec e5 (by simp) fun h6 e6 s6 => ?_))
    have k6 : ∀ b o, b ≠ it → h2.get? b = some o → h6.get? b = some o := fun b o nb z => s6.extBut b o nb (s5.extBut b o nb (s4.extBut b o nb (s3.extBut b o nb z)))
    exact wpAny_bind (wpAny_letGo (wpAny_pure (q h6 ⟨_, _, _, _, .inr ⟨_, rfl⟩, e6⟩ (k6 _ _ ne t2) fun b o nb z => k6 b o nb (k2 b o z))))
  · simp only [Bool.false_eq_true, if_false]
    exact wpAny_pure (q h3 ⟨_, _, _, _, hx, e3⟩ (s3.extBut _ _ ne t2) fun b o nb z => s3.extBut b o nb (k2 b o z))
/-- what stands ahead of the pair -/
theorem ahead1 {es : Array DictEntry} {o : Obj} {Q : Option Value → Shared → Prop} (st : It1 s.heap it d i n ep) (hn : n = es.size) (ho : s.heap.get? d = some o) (hd : o.data = .dict es ep) (hi : i < es.size)
    (q : ∀ h', It1 h' it d (i + 1) n ep → h'.get? s.heap.objs.size = some ⟨.type "tuple", none, .seq #[es[i].key, es[i].val] 0, #[]⟩ → (∀ b o, b ≠ it → s.heap.get? b = some o → h'.get? b = some o) → Q (some (.ref s.heap.objs.size)) { s with heap := h' }) :
    wpAny (model prog w) A (pyNext (.ref it)) Q E s := by
  obtain ⟨x, f, ok, ov, hx, e⟩ := st
  subst hn
  have ty : s.TypeIs (.ref it) "dict_itemiterator" := ⟨_, e, rfl⟩
  have own : Builtin.Dict_items.ownsTuple "dict_itemiterator" = true := by decide
  unfold pyNext
  refine wpAny_bind (wpAny_attempt (wpAny_callSpecial?_slot (name := Str.ofString "__next__") ty PySem.F.slot_dict_itemiterator_next (wpAny_call_entry PySem.F.slot_dict_itemiterator_next ty PySem.F.entry_dict_itemiterator_next ?_ (PySem.F.args_dict_itemiterator_next_1 _))))
  refine wpAny_bind (wpAny_pure (wpAny_bind (wpAny_bind ?_)))
  first | refine wpAny_bind (wpAny_typeNameOfWhole_itemiter ty (wpAny_pure (wpAny_bind (wpAny_fieldsOf e rfl ?_)))) | refine wpAny_bind (wpAny_typeNameOf_itemiter ty (wpAny_pure (wpAny_bind (wpAny_fieldsOf e rfl ?_))))
  simp only [own, if_true]
  show wpAny _ _ (if (Value.ref d == Value.none) = true then _ else _) _ _ _
  rw [if_neg (show ¬ (Value.ref d == .none) = true from Bool.false_ne_true)]
  refine wpAny_bind (wpAny_pure (wpAny_bind (wpAny_dictEntries ho hd ?_)))
  rw [if_neg (by simp)]
  refine wpAny_bind (wpAny_pure (wpAny_bind (wpAny_dictEpoch ho hd ?_)))
  rw [if_neg (by simp)]
  refine wpAny_pure ?_
  simp only [show ¬ ((i : Int) < 0) from by omega, if_false, Int.toNat_natCast, Array.getElem?_eq_getElem hi]
  refine wpAny_bind ?_
  first | refine wpAny_bind (wpAny_typeNameOfWhole_itemiter ty (wpAny_pure (wpAny_bind (wpAny_isOneOf_itemiter ty ?_)))) | refine wpAny_bind (wpAny_typeNameOf_itemiter ty (wpAny_pure (wpAny_bind (wpAny_isOneOf_itemiter ty ?_))))
  show wpAny _ _ (setField (.ref it) 3 (rawInt ((i : Int) + 1)) >>= _) _ _ _
  refine wpAny_bind (wpAny_setField_rec e (by simp) fun h1 e1 s1 => ?_)
  replace e1 : h1.get? it = some (itO d x f (i + 1) es.size ep ok ov) := by
    have z : ((i + 1 : Nat) : Int) = (i : Int) + 1 := by omega
    show _ = some (⟨_, _, .fields #[x, .bool f, .ref d, .int ((i + 1 : Nat) : Int) 0, _, _, _, _], _⟩ : Obj)
    rw [z]
    simpa [rawInt] using e1
  have ty1 : Shared.TypeIs { s with heap := h1 } (.ref it) "dict_itemiterator" := ⟨_, e1, rfl⟩
  have k1 : ∀ b o, b ≠ it → s.heap.get? b = some o → h1.get? b = some o := fun b o nb z => s1.extBut b o nb z
  refine wpAny_bind (wpAny_holding (wpAny_bind (wpAny_isOneOf_itemiter ty1 (wpAny_bind (wpAny_isOneOf_itemiter ty1 ?_)))))
  refine pair1 (s := { s with heap := h1 }) (i := i + 1) (n := es.size) (ep := ep) (d := d) ⟨x, f, ok, ov, hx, e1⟩ fun h2 st2 t2 k2 => ?_
  have z1 : h1.objs.size = s.heap.objs.size := s1.1
  dsimp only at t2 k2 ⊢
  rw [z1] at t2 ⊢
  exact wpAny_pure ⟨_, rfl, wpAny_pure (q h2 st2 t2 fun b o nb z => k2 b o nb (k1 b o nb z))⟩
theorem done1 {es : Array DictEntry} {o : Obj} {Q : Option Value → Shared → Prop} (hh : A.handled = none) (st : It1 s.heap it d i n ep) (hn : n = es.size) (ho : s.heap.get? d = some o) (hd : o.data = .dict es ep) (hi : es.size ≤ i)
    (q : ∀ h', Heap.ExtBut it s.heap h' → Q none { s with heap := h' }) : wpAny (model prog w) A (pyNext (.ref it)) Q E s := by
  obtain ⟨x, f, ok, ov, hx, e⟩ := st
  subst hn
  have ty : s.TypeIs (.ref it) "dict_itemiterator" := ⟨_, e, rfl⟩
  have own : Builtin.Dict_items.ownsTuple "dict_itemiterator" = true := by decide
  unfold pyNext
  refine wpAny_bind (wpAny_attempt (wpAny_callSpecial?_slot (name := Str.ofString "__next__") ty PySem.F.slot_dict_itemiterator_next (wpAny_call_entry PySem.F.slot_dict_itemiterator_next ty PySem.F.entry_dict_itemiterator_next ?_ (PySem.F.args_dict_itemiterator_next_1 _))))
  refine wpAny_bind (wpAny_pure (wpAny_bind (wpAny_bind ?_)))
  first | refine wpAny_bind (wpAny_typeNameOfWhole_itemiter ty (wpAny_pure (wpAny_bind (wpAny_fieldsOf e rfl ?_)))) | refine wpAny_bind (wpAny_typeNameOf_itemiter ty (wpAny_pure (wpAny_bind (wpAny_fieldsOf e rfl ?_))))
  simp only [own, if_true]
  show wpAny _ _ (if (Value.ref d == Value.none) = true then _ else _) _ _ _
  rw [if_neg (show ¬ (Value.ref d == .none) = true from Bool.false_ne_true)]
  refine wpAny_bind (wpAny_pure (wpAny_bind (wpAny_dictEntries ho hd ?_)))
  rw [if_neg (by simp)]
  refine wpAny_bind (wpAny_pure (wpAny_bind (wpAny_dictEpoch ho hd ?_)))
  rw [if_neg (by simp)]
  refine wpAny_pure ?_
  simp only [show ¬ ((i : Int) < 0) from by omega, if_false, Int.toNat_natCast, Array.getElem?_eq_none hi]
  refine wpAny_bind ?_
  first | refine wpAny_bind (wpAny_typeNameOfWhole_itemiter ty (wpAny_pure ?_)) | refine wpAny_bind (wpAny_typeNameOf_itemiter ty (wpAny_pure ?_))
  show wpAny _ _ (setField (.ref it) 2 .none >>= _) _ _ _
  refine wpAny_bind (wpAny_setField e rfl (by simp) ?_)
  show wpAny _ _ (newExc (.type "StopIteration") [] >>= _) _ _ _
  refine wpAny_bind ?_
  simp only [newExc, newTuple]
  refine wpAny_bind (wpAny_newObj_type (wpAny_bind (m := firstArgMember _ _) (wpAny_of_eq (a := Value.none) (by first | rfl | (simp only [firstArgMember]; rfl)) (wpAny_newObj_type ?_ (by size_fits)))) (by size_fits))
  simp only [raiseNew]
  refine wpAny_bind (wpAny_handled ?_)
  rw [show A.in1.handled = none from hh]
  refine wpAny_bind (wpAny_pure (wpAny_throw ?_))
  refine wpAny_bind (wpAny_isInstance (b := true) (T := "StopIteration") ⟨_, Heap.get?_push_size _ rfl, rfl⟩ isSubtype_stop ?_)
  exact wpAny_pure (q _ (((Heap.SameBut.update ..).extBut.push _).push _))
theorem self1 {Q : Value → Shared → Prop} (st : It1 s.heap it d i n ep) (q : Q (.ref it) s) : wpAny (model prog w) A (pyIter (.ref it)) Q E s := by
  obtain ⟨x, f, ok, ov, hx, e⟩ := st
  have ty : s.TypeIs (.ref it) "dict_itemiterator" := ⟨_, e, rfl⟩
  refine wpAny_pyIter_slot ty PySem.F.slot_dict_itemiterator_iter (wpAny_call_entry PySem.F.slot_dict_itemiterator_iter ty PySem.entry_dict_itemiterator_iter ?_ (PySem.F.args_dict_itemiterator_iter_1 _))
  show wpAny _ _ (ret (.ref it)) _ _ s
  exact wpAny_pure ⟨_, rfl, "dict_itemiterator", _, ty, PySem.F.slot_dict_itemiterator_next.lookup, q⟩
end
theorem turn_items1 {P : Program} {w : World} {K : PySem.W.Frag} {kvs : List (Key × V)} {y : Str} {npos : Pos} {d : Addr} {o : Obj} {es : Array DictEntry} {ep : Nat} (it : Addr) (hod : o.data = .dict es ep) :
    Turn P w K (.Name y npos) (Iti d o kvs) [it] it (fun i h => It1 h it d i kvs.length ep) where
  mem := by simp
  obj := fun i h st b hb => by
    have e : b = it := by simpa using hb
    subst e
    obtain ⟨x, f, ok, ov, _, e⟩ := st
    exact ⟨_, e, fun v z => nomatch z⟩
  keep := fun i h h' st k => let ⟨x, f, ok, ov, hx, e⟩ := st; ⟨x, f, ok, ov, hx, k it (by simp) _ e⟩
  item := by
    intro X hP hw hK hc i pins s σ H E I hf st ⟨hd, hi⟩
    subst hP hw hK
    obtain ⟨hs, hgd, hx, es', ep', vs, hdt, hsz, kv, hm⟩ := I.frzK hd
    obtain ⟨rfl, rfl⟩ := dict_ep hod hdt
    have hl : kvs.length = vs.length := Paired.length kv
    obtain ⟨⟨k, v⟩, hkv⟩ : ∃ p, kvs[i]? = some p := ⟨kvs[i], List.getElem?_eq_getElem hi⟩
    obtain ⟨u, hu, ru⟩ := kv_get kv hkv
    obtain ⟨o', es2, ho', _, hd', hk2, hp2, _⟩ := id hm
    rw [hgd] at ho'
    cases ho'
    obtain ⟨rfl, _⟩ := dict_ep hdt hd'
    have lt : i < es2.size := by rw [hsz]; exact hi
    obtain ⟨hkey, hval⟩ := hp2.get? (e := es2[i]) (by simp [lt]) hu
    have old : it < s.heap.objs.size := by
      obtain ⟨_, _, _, _, _, e⟩ := st
      exact Heap.lt_size e
    refine ahead1 st hsz.symm hgd hdt lt fun h' st' t' k' => ⟨_, rfl, wpAny_pure ?_⟩
    have new : ObjOk X.prog X.w (upd H s.heap.objs.size (.tup [kV k, v])) h' s.heap.objs.size (.tup [kV k, v]) :=
      ⟨by show 2 ≤ sizeLine; decide, [es2[i].key, es2[i].val], .cons (relV_key hkey) (.cons (hval ▸ ru) .nil), ⟨_, t', rfl, _, rfl⟩⟩
    refine ⟨.ref s.heap.objs.size, _, I.turnedNew (t' := s.toks) (ch := [it]) (fun b ob hb e => k' b ob (by simpa using hb) e) hf (Nat.le_refl _) new, rfl, ⟨_, k, v, hkv, rfl, I.hok.fresh (Nat.le_refl _), rfl⟩, st', fun b hb => ?_⟩
    have e : b = it := by simpa using hb
    rw [e, upd_ne (Nat.ne_of_lt old)]
    exact (hf it (by simp)).1
  done := by
    intro X hP hw hK hc i pins s σ H E I hf st ⟨hd, hi⟩
    subst hP hw hK
    obtain ⟨f0, f1, f2, f3, f4, f5⟩ := hf it (by simp)
    obtain ⟨hs, hgd, hx, es', ep', vs, hdt, hsz, kv, hm⟩ := I.frzK hd
    obtain ⟨rfl, rfl⟩ := dict_ep hod hdt
    exact done1 (I.ok.hd hc) st hsz.symm hgd hdt (by omega) fun h' eb => ⟨rfl, I.turned (t' := s.toks) (fun b ob hb e => eb b ob hb e) f0 f1 f3 f4 f5⟩
  self := fun A i s Q E st h => self1 st h
theorem pi_items1 {X : Cx} {e : Expr} {td : TE} {y : Str} {npos apos cpos : Pos} (he : PE X e td) (hbase : attributeBase e "items" X.env (eval e X.env) = eval e X.env := by rfl) (hline : (apos.endLine == cpos.line) = true := by rfl) :
    PI X (.Name y npos) (.Call (.Attribute e "items" apos) [] [] cpos) (iItems td) := by
  refine ⟨fun pins s σ H R I h => ?_⟩
  refine wpAny_Call_method (T := "dict") (id := "dict.items") hbase rfl hline PySem.F.plainAttrs_dict PySem.F.slot_dict_items PySem.F.type_dict_items (thn (he.run pins s σ H _ I h) fun u s1 ⟨x, H1, I1, rx, d, o, kvs, ex, hd, q⟩ => ?_)
  subst ex
  obtain rfl : u = Value.ref d := rx
  obtain ⟨hs, hgd, hx, es, ep, vs, hdt, hsz, kv, hm⟩ := I1.frzK hd
  have hl : kvs.length = vs.length := Paired.length kv
  refine ⟨hm.dictOf.typeIs, hm.dictOf.mapOf.noDict, ?_⟩
  obtain ⟨s2, es2⟩ : ∃ s2 : Shared, s2 = { s1 with heap := s1.heap.push { cls := .type "dict_items", data := .fields #[.ref d] } } := ⟨_, rfl⟩
  have fin : wpAny (model X.prog X.w) X.A (pyIter (.ref s1.heap.objs.size)) (PIE X pins σ (.Name y npos) R) X.xe { s1 with heap := s1.heap.push { cls := .type "dict_items", data := .fields #[.ref d] } } := by
    refine wpAny_pyIter_items (d := d) (knd := mixKind X.prog X.w) ⟨_, Heap.get?_push_size _ rfl, rfl, rfl⟩ (hm.push _) (pi_one (tk := s1.toks) (I1.kept (t' := s1.toks) fun b ob q => Heap.get?_push_of_some _ q) _ (turn_items1 _ hdt) ⟨.none, false, .none, .none, .inl rfl, ?_⟩ q)
    rw [hl]
    exact Heap.get?_push_size _ rfl
  exact method_meetsIn PySem.F.slot_dict_items PySem.F.entry_dict_items rfl (PySem.evalArgs_none ⟨rfl, hm.dictOf.typeIs, PySem.F.args_dict_items_1 _, _, meets_dict_items (mixKind X.prog X.w) d hs, ⟨vs, hm.dictOf⟩, fin⟩)
variable {X : Cx} {ε : Tk} {F0 H0 F H F' H' : Hp} {Γ : List SA} {σ : L2.St} {d : Expr} {α : Type} {r : Rep α}
theorem xl_items1 {y : Str} {npos apos cpos : Pos} {m : (List (Str × α) → Prop) → Prop} (K : PySem.W.Frag) (h : XD X ε Γ d r m) (hbase : attributeBase d "items" X.env (eval d X.env) = eval d X.env := by rfl) (hline : (apos.endLine == cpos.line) = true := by rfl) :
    XL X ε Γ (.Name y npos) (.Call (.Attribute d "items" apos) [] [] cpos) (rP K rS r) m := ⟨_, pi_items1 (run_pe X) hbase hline, fun F0 H0 xl σ F H P S p => by
  obtain ⟨L, a, kvs, pL, hd, nd, pd, run⟩ := h F0 H0 xl σ F H _ S p
  refine ⟨L, a, kvs, pL, hd, by rw [Paired.len pd], fun od F2 H2 R at_a sm sb q => run H2 _ (sb.same sm) ⟨a, od, kvs, rfl, at_a, q _ fun F3 H3 g s3 i => ?_⟩⟩
  have at3 := frz_stays at_a (rd_same hd sm) g
  refine ⟨fun x hx => ?_, fun le => ⟨at3, by rw [Paired.len pd]; exact le⟩⟩
  obtain ⟨kv, hk, ⟨e1, ok⟩, hr⟩ := Paired.at_ pd hx
  have lt : i < kvs.length := by
    rcases Nat.lt_or_ge i kvs.length with k | k
    · exact k
    · rw [List.getElem?_eq_none k] at hk; cases hk
  refine ⟨⟨at3, lt⟩, fun v H4 ⟨T, k, w, hk', ev, nT, e4⟩ => ?_⟩
  subst e4
  rw [hk] at hk'
  cases hk'
  exact ⟨upd F3 T (.tup [kV k, w]), Ext.new_ s3 nT, T, kV k, w, ev, .inl (.inl upd_same), ⟨by rw [show k = Sum.inr x.1 from e1]; rfl, ok⟩, r.up ((sm.trans g.ff).trans (same_new (s3.there nT))) hr⟩⟩
end Bv

/-! Bv25: set - set, of texts -/
namespace Bv
open PySem PySem.Spec PyProof.Rows L2 L2.DX Gd
section
variable {P : Program} {w : World} {A : Around} {E : Value → Shared → Prop} {s : Shared} {a b r : Addr} {S T : Str → Bool} {n m : Nat}
theorem text_fits {R : Prop} (h : TextSet w s.heap a S n) (k : ∀ o es ep t, s.heap.get? a = some o → o.ExactSet → o.data = .set es ep t → (∀ e ∈ es.toList, IsT w e) → (es.toList.map textOf).Nodup → (∀ k, S k = true ↔ k ∈ es.toList.map textOf) → t.fits es.size = true → es.size = n → es.size < scanBound → R) : R := by
  obtain ⟨o, es, ep, t, h1, h2, h3, h4, h5, h6, h7, h8, h9, _⟩ := h
  exact k o es ep t h1 h2 h3 h4 h5 h6 h8 h9 h7
theorem text_type (h : TextSet w s.heap a S n) : s.TypeIs (.ref a) "set" := by
  obtain ⟨o, es, ep, t, h1, h2, _⟩ := h
  exact ⟨o, h1, h2.1⟩
theorem any_set {Q : Bool → Shared → Prop} (h : TextSet w s.heap a S n) (q : Q true s) : wpAny (model P w) A (Builtin.Frozenset.isAnySet (.ref a)) Q E s := by
  unfold Builtin.Frozenset.isAnySet
  refine wpAny_bind (wpAny_isInstance (T := "set") (b := true) (text_type h) sub_set_self ?_)
  exact wpAny_pure q
theorem quiet_one {f : Int × Value → Option Bool × Unit → Sem (ForInStep (Option Bool × Unit))} (es : Array (Int × Value)) (g : ∀ e ∈ es.toList, IsT w e) (hf : ∀ e x t, e.2 = Value.str x t → ∀ c, f e c = pure (.yield (none, ()))) {Q : Option Bool × Unit → Shared → Prop} (q : Q (none, ()) s) :
    wpAny (model P w) A (forIn es (none, ()) f) Q E s := by
  refine wpAny_forIn_array' f (fun l c s' => c = (none, ()) ∧ s' = s ∧ ∀ e ∈ l, IsT w e) Q (fun e l c s' ⟨ec, es', g'⟩ => ?_) (fun c s' ⟨ec, es', _⟩ => by rw [ec, es']; exact q) es _ ⟨rfl, rfl, g⟩
  obtain ⟨x, t, ex, _⟩ := g' e List.mem_cons_self
  rw [hf e x t ex]
  exact wpAny_pure ⟨rfl, es', fun e' m => g' e' (List.mem_cons_of_mem _ m)⟩
theorem sets_quiet {Q : Bool → Shared → Prop} (ls : List Addr) (h : ∀ c ∈ ls, ∃ S n, TextSet w s.heap c S n) (q : Q true s) : wpAny (model P w) A (setsQuiet ls) Q E s := by
  unfold setsQuiet
  refine wpAny_bind (wpAny_forIn_list _ (fun l c s' => c = ⟨none, PUnit.unit⟩ ∧ s' = s ∧ ∀ c ∈ l, ∃ S n, TextSet w s.heap c S n) (fun c s' => c = ⟨none, PUnit.unit⟩ ∧ s' = s) (fun c l b s' ⟨eb, es', hl⟩ => ?_) (fun c s' ⟨ec, es', _⟩ => ⟨ec, es'⟩) ls _ ⟨rfl, rfl, h⟩ |> fun H => wpAny_mono H (fun c s' ⟨ec, es'⟩ => ?_) fun _ _ h => h)
  · subst es' eb
    obtain ⟨S, n, ht⟩ := hl c List.mem_cons_self
    refine text_fits ht fun o es ep t h1 h2 h3 h4 h5 h6 h7 h8 h9 => ?_
    refine wpAny_bind (wpAny_setEntries_of h1 h3 h7 ?_)
    refine wpAny_bind (quiet_one es h4 (fun e x t ex c => by obtain ⟨k, v⟩ := e; cases ex; rfl) (wpAny_pure ⟨rfl, rfl, fun c m => hl c (List.mem_cons_of_mem _ m)⟩))
  · subst ec es'
    exact wpAny_pure q
/-- the entries, in some order -/
theorem walk_unseen {o : Obj} {es : Array (Int × Value)} {ep : Nat} {t : SetTable} {Q : Array (Int × Value) → Shared → Prop} (ha : TextSet w s.heap a S n) (h1 : s.heap.get? a = some o) (h3 : o.data = .set es ep t) (hb : TextSet w s.heap b T m) (hr : TextSet w s.heap r (fun _ => false) 0) (ne : r ≠ a)
    (q : ∀ ys h', ys.toList.Perm es.toList → Heap.SameBut r s.heap h' → TextSet w h' r (fun _ => false) 0 → Q ys { s with heap := h' }) : wpAny (model P w) A (setWalkUnseen a [b, r] (some r)) Q E s := by
  obtain ⟨o', es', ep', t', g1, g2, g3, g4, g5, g6, g7, g8, g9, g10, g11⟩ := id ha
  rw [h1] at g1
  cases g1
  rw [h3] at g3
  cases g3
  have same : s = { s with heap := s.heap } := by cases s; rfl
  unfold setWalkUnseen
  refine wpAny_bind (wpAny_setState_of h1 h3 g8 ?_)
  dsimp only
  refine wpAny_bind (wpAny_byText ?_)
  have perm : ∀ ys : Array (Int × Value), ys.toList.Perm es.toList → Q ys s := fun ys p => by rw [same]; exact q ys s.heap p (Heap.SameBut.refl _ _) hr
  have walk : (w.params.followText "set-order" = true ∨ (t.led = true ∧ t.plain = true) ∨ es.size ≤ 1) → wpAny (model P w) A (setWalk a) Q E s := fun c => by
    unfold setWalk
    refine wpAny_bind (wpAny_setState_of h1 h3 g8 ?_)
    dsimp only
    refine wpAny_bind (wpAny_byText ?_)
    by_cases bt : w.params.followText "set-order" = true
    · refine wp_if_pos bt ?_
      refine wpAny_bind (wpAny_askSetting (wpAny_pure ?_))
      exact perm _ (pick_perm _ _)
    · refine wp_if_neg bt ?_
      have led : t.led = true := g11.resolve_left bt
      have hdr : (!t.plain && decide (es.size > 1)) = false := by
        rcases c with c | ⟨_, c⟩ | c
        · exact absurd c bt
        · rw [c]; rfl
        · rw [decide_eq_false (by omega), Bool.and_false]
      refine wp_if_neg (by show ¬ ((!t.plain && decide (es.size > 1)) = true); rw [hdr]; exact Bool.false_ne_true) ?_
      refine wpAny_bind (wpAny_of_eq (a := ()) ?_ (wpAny_pure (perm es (List.Perm.refl _))))
      show (if (!t.led && decide (es.size > 1)) = true then unsupported "set:maker-not-led" else pure ()) = pure ()
      rw [led]
      rfl
  by_cases c : (w.params.followText "set-order" || t.led && t.plain || decide (es.size ≤ 1)) = true
  · refine wp_if_pos c (walk ?_)
    rw [Bool.or_eq_true, Bool.or_eq_true, Bool.and_eq_true, decide_eq_true_eq] at c
    exact or_assoc.mp c
  · refine wp_if_neg c ?_
    have bt : ¬ w.params.followText "set-order" = true := fun z => c (by rw [z]; rfl)
    have led : t.led = true := g11.resolve_left bt
    refine wpAny_bind (sets_quiet _ (fun c m => ?_) ?_)
    · rcases List.mem_cons.mp m with rfl | m
      · exact ⟨_, _, ha⟩
      · rcases List.mem_cons.mp m with rfl | m
        · exact ⟨_, _, hb⟩
        · rw [List.mem_singleton.mp m]; exact ⟨_, _, hr⟩
    · refine wp_if_neg (by decide) (wpAny_bind (wpAny_rule ?_))
      obtain ⟨ob, er, er_ep, tr, k1, k2, k3, k4, k5, k6, k7, k8, k9, k10, k11⟩ := id hr
      refine wpAny_bind (wpAny_setState_of k1 k3 k8 ?_)
      dsimp only
      split
      · refine wpAny_bind (wpAny_storeSet_of k1 k3 (wpAny_pure ?_) (fits_of_scanBound k7))
        refine q es _ (List.Perm.refl _) (Heap.SameBut.update _ _ _) ?_
        have ledr : tr.led = true := k11.resolve_left bt
        have st := SetOf_store (knd := PySem.strKind P w) k1 k2 k3 (es' := er) (t' := { tr with led := tr.led && t.led, plain := tr.plain && t.plain }) (S' := fun _ => false) (isT_elems k4) (fun k => (k6 k).trans (isT_mem k4 k)) k7 k8
        exact ⟨_, er, er_ep + 1, _, st.1, k2, rfl, k4, k5, k6, k7, k8, k9, k10, .inr (by show (tr.led && t.led) = true; rw [ledr, led]; rfl)⟩
      · exact wpAny_pure (perm es (List.Perm.refl _))
theorem entry_set_sub : entryFor table "set.__sub__" = some Builtin.«frozenset.__sub__» := entryFor_alias (id' := "frozenset.__sub__") (by kernel_rfl) rfl (by decide +kernel) (by kernel_rfl)
theorem set_sub {Q : Value → Shared → Prop} (ha : TextSet w s.heap a S n) (hb : TextSet w s.heap b T m) (few : n / 4 ≤ m)
    (q : ∀ h' tk c, TextSet w h' s.heap.objs.size (fun k => S k && !T k) c → (∀ b o, s.heap.get? b = some o → h'.get? b = some o) → Q (.ref s.heap.objs.size) { s with heap := h', toks := tk }) : wpAny (model P w) A (binaryOp .Sub (.ref a) (.ref b)) Q E s := by
  refine wpAny_binaryOp_same (T := "set") (id := "set.__sub__") (text_type ha) (text_type hb) PySem.F.fills_set_sub PySem.F.slot_set_sub ?_
  refine wpAny_call_entry PySem.F.slot_set_sub (text_type ha) entry_set_sub ?_ (PySem.F.args_set_sub_2 _ _)
  show wpAny _ _ (Builtin.Frozenset.slot1 "__sub__" ⟨[.ref a, .ref b], []⟩ >>= _) _ _ _
  refine wpAny_bind (wpAny_pure ?_)
  dsimp only
  refine wpAny_bind (wpAny_bind (any_set ha ?_))
  show wpAny _ _ (Builtin.Frozenset.isAnySet (.ref b)) _ _ _
  refine any_set hb ?_
  refine wp_if_neg (by decide) ?_
  refine wpAny_bind (wpAny_pure (wpAny_bind ?_))
  obtain ⟨o, es, ep, t, a1, a2, a3, a4, a5, a6, a7, a8, a9, a10, a11⟩ := id ha
  obtain ⟨ob, eb, epb, tb, b1, b2, b3, b4, b5, b6, b7, b8, b9, b10, b11⟩ := id hb
  unfold Builtin.Frozenset.difference
  refine wpAny_bind (any_set hb ?_)
  simp only [Bool.false_eq_true, if_false, Bool.not_true, Bool.false_and, if_true]
  refine wpAny_bind (wpAny_pure (wpAny_bind ?_))
  unfold Builtin.Frozenset.sizeOf
  refine wpAny_bind (wpAny_setEntries_of b1 b3 b8 (wpAny_pure (wpAny_bind (wpAny_bind (wpAny_setEntries_of a1 a3 a8 (wpAny_pure ?_))))))
  refine wp_if_neg (by rw [a9, b9]; omega) ?_
  unfold Builtin.Frozenset.baseOf
  refine wpAny_bind (wpAny_bind (wpAny_isInstance (T := "set") (b := true) (text_type ha) sub_set_self (wpAny_pure ?_)))
  simp only [if_true]
  refine wpAny_bind (wpAny_newSet_raw fun led eled => wpAny_bind (wpAny_pure (wpAny_bind ?_)))
  have lta : a < s.heap.objs.size := Heap.lt_size a1
  have ltb : b < s.heap.objs.size := Heap.lt_size b1
  obtain ⟨h2, eh2⟩ : ∃ h2, h2 = s.heap.push { cls := .type "set", dict := none, data := .set #[] 0 (.fresh 0 0 led) } := ⟨_, rfl⟩
  have up : ∀ c o, s.heap.get? c = some o → h2.get? c = some o := fun c o z => by rw [eh2]; exact Heap.get?_push_of_some _ z
  have fr : TextSet w h2 s.heap.objs.size (fun _ => false) 0 := text_fresh (by rw [eh2, eled]; exact Heap.get?_push_size _ rfl)
  rw [← eh2]
  have a2' := ha.keep (h' := h2) fun o z => up _ _ z
  have b2' := hb.keep (h' := h2) fun o z => up _ _ z
  unfold setEpoch
  refine wpAny_bind (wpAny_setState_of (s := { s with heap := h2 }) (up _ _ a1) a3 a8 (wpAny_pure ?_))
  refine wpAny_bind (wpAny_holding (wpAny_bind (walk_unseen (s := { s with heap := h2 }) (b := b) a2' (up _ _ a1) a3 b2' fr (Nat.ne_of_gt lta) fun ys h3 pm sb3 fr3 => ?_)))
  have gy : ∀ e ∈ ys.toList, IsT w e := fun e m => a4 e (pm.mem_iff.mp m)
  have nr : s.heap.objs.size ≠ a := Nat.ne_of_gt lta
  have nrb : s.heap.objs.size ≠ b := Nat.ne_of_gt ltb
  have size : ys.toList.length = n := by rw [pm.length_eq, Array.length_toList, a9]
  refine wpAny_bind (wpAny_forIn_array' _ (fun l _ s' => ∃ (dn : List (Int × Value)) (h4 : Heap) (c : Nat), ys.toList = dn ++ l ∧ s' = { s with heap := h4 } ∧ Heap.SameBut s.heap.objs.size h3 h4 ∧ TextSet w h4 s.heap.objs.size (fun k => decide (k ∈ dn.map textOf) && !T k) c ∧ c ≤ dn.length)
    (fun _ s' => wpAny (model P w) A.in1 (pure ()) (fun _ s' => wpAny (model P w) A.in1 (pure (Value.ref s.heap.objs.size)) (fun v s' => wpAny (model P w) A.in1 (ret v) (fun fin s' => ∃ v, fin = Fin.done (Flow.ret v) ∧ v ≠ Value.notImplemented ∧ Q v s') E s') E s') E s')
    (fun e l c s' ⟨dn, h4, c4, ey, es4, sb4, t4, le4⟩ => ?_) (fun c s' ⟨dn, h4, c4, ey, es4, sb4, t4, le4⟩ => ?_) ys () ⟨[], h3, 0, rfl, rfl, Heap.SameBut.refl _ _, fr3.same fun k => rfl, Nat.le_refl _⟩)
  · subst es4
    have up4 : ∀ c o, c ≠ s.heap.objs.size → h2.get? c = some o → h4.get? c = some o := fun c o nc z => sb4.extBut c o nc (sb3.extBut c o nc z)
    have b4' := b2'.keep (h' := h4) fun o z => up4 b o nrb.symm z
    obtain ⟨x, tk, ex, eh⟩ := gy e (by rw [ey]; exact List.mem_append_right _ List.mem_cons_self)
    have ll := congrArg List.length ey
    rw [size, List.length_append, List.length_cons] at ll
    have tx : textOf e = x := by unfold textOf; rw [ex]
    rw [ex, eh]
    obtain ⟨ob', eb', epb', tb', c1, c2, c3, cc4, c5, c6, c7, c8, c9, _⟩ := id b4'
    have so : h4.SetOf (PySem.strKind P w) b T m := ⟨ob', eb', epb', tb', c1, c2, c3, isT_elems cc4, fun k => (c6 k).trans (isT_mem cc4 k), c7, c8, c9⟩
    have rest : ∀ (h5 : Heap) (c5 : Nat), Heap.SameBut s.heap.objs.size h4 h5 → TextSet w h5 s.heap.objs.size (fun k => decide (k ∈ (dn ++ [e]).map textOf) && !T k) c5 → c5 ≤ dn.length + 1 → wpAny (model P w) A.in1 (do
          Builtin.Frozenset.unchanged (toString "frozenset." ++ toString "__sub__") a (es, ep, t).snd.fst
          pure (ForInStep.yield PUnit.unit)) (fun r s' => match r with
            | .yield b' => ∃ (dn : List (Int × Value)) (h4 : Heap) (c : Nat), ys.toList = dn ++ l ∧ s' = { s with heap := h4 } ∧ Heap.SameBut s.heap.objs.size h3 h4 ∧ TextSet w h4 s.heap.objs.size (fun k => decide (k ∈ dn.map textOf) && !T k) c ∧ c ≤ dn.length
            | .done b' => wpAny (model P w) A.in1 (pure ()) (fun _ s' => wpAny (model P w) A.in1 (pure (Value.ref s.heap.objs.size)) (fun v s' => wpAny (model P w) A.in1 (ret v) (fun fin s' => ∃ v, fin = Fin.done (Flow.ret v) ∧ v ≠ Value.notImplemented ∧ Q v s') E s') E s') E s') E { s with heap := h5 } := fun h5 c5 sb5 t5 le5 => by
      unfold Builtin.Frozenset.unchanged setEpoch
      refine wpAny_bind (wpAny_bind (wpAny_bind (wpAny_setState_of (s := { s with heap := h5 }) (sb5.extBut a _ nr.symm (up4 a _ nr.symm (up _ _ a1))) a3 a8 (wpAny_pure ?_))))
      refine wp_if_neg (by simp) (wpAny_pure (wpAny_pure ⟨dn ++ [e], h5, c5, by rw [ey, List.append_assoc]; rfl, rfl, sb4.trans sb5, t5, by rw [List.length_append]; exact le5⟩))
    refine wpAny_bind (wpAny_holding (wpAny_bind (wpAny_setFind_of (knd := PySem.strKind P w) (s := { s with heap := h4 }) (k := x) (strKind_is _ _ _ _) rfl so fun r hr => ?_)))
    refine wpAny_bind (wpAny_pure ?_)
    rw [hr]
    cases hT : T x with
    | true =>
      refine wp_if_neg (by decide) (wpAny_pure ?_)
      refine wpAny_mono (rest h4 c4 (Heap.SameBut.refl _ _) (t4.same fun k => ?_) (by omega)) (fun r s' h => by cases r <;> exact h) (fun _ _ h => h)
      rw [List.map_append, List.map_cons, List.map_nil, tx]
      by_cases q : k = x
      · subst q
        rw [hT]
        simp
      · congr 1
        refine decide_eq_decide.mpr ⟨fun m => ?_, fun m => List.mem_append_left _ m⟩
        exact (List.mem_append.mp m).resolve_right fun z => q (List.mem_singleton.mp z)
    | false =>
      refine wp_if_pos (by decide) (wpAny_bind ?_)
      refine text_add (s := { s with heap := h4 }) t4 (by have : n < scanBound := a9 ▸ a7; omega) fun h5 sb5 t5 => wpAny_pure ?_
      refine wpAny_mono (rest h5 _ sb5 (t5.same fun k => ?_) (by split <;> omega)) (fun r s' h => by cases r <;> exact h) (fun _ _ h => h)
      rw [List.map_append, List.map_cons, List.map_nil, tx]
      by_cases q : k = x
      · subst q
        rw [hT, decide_eq_true rfl, decide_eq_true (List.mem_append_right _ (List.mem_singleton.mpr rfl))]
        simp
      · rw [decide_eq_false q, Bool.or_false]
        congr 1
        refine decide_eq_decide.mpr ⟨fun m => ?_, fun m => List.mem_append_left _ m⟩
        exact (List.mem_append.mp m).resolve_right fun z => q (List.mem_singleton.mp z)
  · subst es4
    refine wpAny_pure (wpAny_pure (wpAny_pure ⟨_, rfl, (fun z => nomatch z), ?_⟩))
    rw [List.append_nil] at ey
    refine q h4 s.toks c4 (t4.same fun k => ?_) fun c o z => sb4.extBut c o (fun e => ?_) (sb3.extBut c o (fun e => ?_) (up c o z))
    · congr 1
      rw [← ey]
      refine Bool.eq_iff_iff.mpr ((a6 k).trans ?_)
      rw [decide_eq_true_iff]
      exact ((pm.map textOf).mem_iff).symm
    · rw [e] at z
      exact absurd (Heap.lt_size z) (Nat.lt_irrefl _)
    · rw [e] at z
      exact absurd (Heap.lt_size z) (Nat.lt_irrefl _)
end
end Bv

/-! Bv26: set - set, len(set), type(x) is not int, repr of dicts of integers -/
namespace Bv
open PySem PySem.Spec PyProof.Rows L2 L2.DX Gd
variable {X : Cx} {ε : Tk} {F0 H0 F H F' H' : Hp} {Γ Γ' Γw : List SA} {σ : L2.St} {e a b c d tg iter o : Expr} {es : List Expr} {pos p pp : Pos} {α β γ δ O S : Type} {K : PySem.W.Frag} {r : Rep α} {q : Rep β} {t : Rep γ} {rest ss body : List Stmt} {ed : Ed O} {st : Stmt} {w : World}
theorem text_count {h : Heap} {a : Addr} {xs : List Str} {n : Nat} (R : TextSet w h a (fun j => decide (j ∈ xs)) n) : n = (uniq xs).length := by
  obtain ⟨o, es, ep, t, h1, h2, h3, h4, h5, h6, h7, h8, h9, _⟩ := R
  rw [← h9, ← Array.length_toList, ← List.length_map (f := textOf)]
  exact (nodup_perm h5 (nodup_uniq xs) fun x => ((h6 x).symm.trans decide_eq_true_iff).trans mem_uniq.symm).length_eq
def rSubU (w : World) : R2 := fun x y H Q => ∃ a b xs ys, x = .ref a ∧ y = .ref b ∧ H a = some (SetTx w a xs) ∧ H b = some (SetTx w b ys) ∧ (uniq xs).length / 4 ≤ (uniq ys).length ∧ ∀ p H', H p = none → Same H H' → H' p = some (SetTx w p (xs.filter fun z => !decide (z ∈ ys))) → Q (.ref p) H'
theorem op_subU : OpR X (binaryOp .Sub) (rSubU X.w) := by
  intro pins s σ H x y v u Q I rx ry h
  obtain ⟨a, b, xs, ys, rfl, rfl, ha, hb, few, q⟩ := h
  cases rx
  cases ry
  obtain ⟨n, ta⟩ := setTx_get I ha
  obtain ⟨m, tb⟩ := setTx_get I hb
  refine set_sub ta tb (by rw [text_count ta, text_count tb]; exact few) fun h' tk c R k => ?_
  refine set_end (A := X.A) I q h' tk c (R.same fun z => ?_) k
  by_cases q1 : z ∈ xs
  · by_cases q2 : z ∈ ys
    · rw [decide_eq_true q1, decide_eq_true q2, decide_eq_false]
      · rfl
      · intro m
        have := (List.mem_filter.mp m).2
        rw [decide_eq_true q2] at this
        cases this
    · rw [decide_eq_true q1, decide_eq_false q2, decide_eq_true]
      · rfl
      · exact List.mem_filter.mpr ⟨q1, by rw [decide_eq_false q2]; rfl⟩
  · rw [decide_eq_false q1, Bool.false_and]
    exact decide_eq_false fun m => q1 (List.mem_filter.mp m).1
theorem s_subU : Sem2 (rU w) (rU w) (SA.im (rU w)) (rSubU w) (fun x y P => (uniq x).length / 4 ≤ (uniq y).length ∧ P (x.filter fun z => !decide (z ∈ y))) := fun x y v u F H P Q s ⟨a, ea, ha, oka⟩ ⟨b, eb, hb, okb⟩ p W =>
  ⟨a, b, x, y, ea, eb, s.at_ ha (fun z => z), s.at_ hb (fun z => z), p.1, wish_u W p.2 s fun z m => oka z (List.mem_filter.mp m).1⟩
theorem call_lenU (hc : X.calm = true) : CallR X (.builtin "len") (fun xs H Q => ∃ a zs, xs = [.ref a] ∧ H a = some (SetTx X.w a zs) ∧ Q (.int ((uniq zs).length : Int)) H) := by
  intro pins s σ H xs us Q I r h
  obtain ⟨a, zs, rfl, ha, q⟩ := h
  obtain ⟨u, rfl, ru⟩ := vals1 r
  cases ru
  obtain ⟨n, R⟩ := setTx_get I ha
  have e := text_count R
  obtain ⟨o, es, ep, t, h1, h2, h3, h4, h5, h6, h7, h8, h9, _⟩ := id R
  have hb : scanBound = 4096 := rfl
  refine call_len_set h1 h2 h3 h8 (by omega) ⟨.int es.size, H, I.tok _, ⟨_, rfl⟩, ?_⟩
  rw [h9, e]
  exact q
theorem s_lenU : SemC (rCons (rU w) rNil) (SA.im Bv.rI) (fun xs H Q => ∃ a zs, xs = [.ref a] ∧ H a = some (SetTx w a zs) ∧ Q (.int ((uniq zs).length : Int)) H) (fun x P => P ((uniq x.1).length : Int)) := fun x vs F H P Q s ⟨v, ws, e, ⟨a, ev, h, ok⟩, en⟩ p W => by
  cases en
  subst e
  subst ev
  exact ⟨a, x.1, rfl, s.at_ h (fun z => z), wish_im W p s rfl⟩
/-! ### type(x) is not int -/
def rTy (n : String) : Rep Unit := ⟨fun _ v _ => v = .ty n, fun _ h => h⟩
def TyBs (K : PySem.W.Frag) (r : Rep α) (n : String) : Prop := ∀ (F H : Hp) (v : V) (x : α), Sub F H → r.rep F v x → TyB K H v n
theorem tb_I : TyBs K Bv.rI "int" := fun F H v x s h => by cases h; exact .int x
theorem tb_B : TyBs K rB "bool" := fun F H v x s h => by cases h; exact .bl x
theorem tb_S : TyBs K rS "str" := fun F H v x s h => by cases h.1; exact .str x
theorem tb_N : TyBs K rN "NoneType" := fun F H v x s h => by cases h; exact .non
theorem s_type {n : String} (ty : TyBs K r n) : SemC (rCons r rNil) (SA.im (rTy n)) (rTyp K) (fun _ P => P ()) := fun x vs F H P Q s ⟨v, ws, e, hv, en⟩ p W => by
  cases en
  exact ⟨v, n, e, ty F H v x.1 s hv, wish_im W p s rfl⟩
theorem s_isNotTy {m n : String} : Sem2 (rTy m) (rTy n) (SA.im rB) (fun x y H Q => ∃ m n, x = .ty m ∧ y = .ty n ∧ Q (.bl (!decide (m = n))) H) (fun _ _ P => P (!decide (m = n))) := fun x y v u F H P Q s hx hy p W => ⟨m, n, hx, hy, wish_im W p s rfl⟩
theorem s_isTy {m n : String} : Sem2 (rTy m) (rTy n) (SA.im rB) (fun x y H Q => ∃ m n, x = .ty m ∧ y = .ty n ∧ Q (.bl (decide (m = n))) H) (fun _ _ P => P (decide (m = n))) := fun x y v u F H P Q s hx hy p W => ⟨m, n, hx, hy, wish_im W p s rfl⟩
theorem xe_tyName {T' : Str} {n : String} {tp : Pos} (hg : Gl X T') (hm : X.mg T' = none) (hv : bootBuiltins T' = some (.type n)) (hn : T' ≠ "__name__" := by decide) (hd : (T' == ("__debug__" : Str)) = false := by decide) : XE X ε Γ (.Name T' tp) (rTy n) (fun P => P ()) :=
  xe_const (y := ()) (pe_bltn (v := .ty n) hg hm hv rfl hn hd) fun _ => rfl
theorem xe_typeOf {n : String} {lp : Pos} {m : (α → Prop) → Prop} (ty : TyBs X.K r n) (hg : Gl X "type") (hm : X.mg "type" = none) (h : XE X ε Γ a r m) (he : starEach [a] X.env = (false, eval a X.env) :: starEach [] X.env := by rfl) : XE X ε Γ (.Call (.Name "type" lp) [a] [] pos) (rTy n) (fun P => m fun _ => P ()) :=
  xe_callTy (m := fun P => m fun x => P (x, ())) (n := fun _ P => P ()) call_type1 (s_type ty) hg hm (by decide +kernel) (xa_cons h xa_nil he) (he := he)
/-! ### repr of dicts of integers -/
def datD (d : α → PyData) (L : List (Str × α)) : PyData := .dict (L.map fun e => (.str e.1, d e.2))
theorem reads_strs {h : Heap} {P : Program} : ∀ {es : List DictEntry} {kvs : List (Key × Value)} {L : List (Str × Int)}, Pairs (mixKind P w) es kvs → KV (pr L) kvs → ReadsAll h (es.map (·.key)) ((L.map fun e => (PyData.str e.1, PyData.int e.2)).map (·.1)) [] ∧ ReadsAll h (es.map (·.val)) ((L.map fun e => (PyData.str e.1, PyData.int e.2)).map (·.2)) []
  | [], _, L, .nil, k => by
    cases L with
    | nil => exact ⟨.nil, .nil⟩
    | cons _ _ => cases k
  | en :: es, _, L, .cons hk hv t, k => by
    cases L with
    | nil => cases k
    | cons e L =>
      cases k with
      | cons h1 h2 =>
        obtain ⟨r1, r2⟩ := reads_strs (h := h) (L := L) t h2
        have ek := relV_key (k := Sum.inr e.1) (show keyIs (Sum.inr e.1) en.key = true from by rw [show (Sum.inr e.1 : Key) = _ from h1.1]; exact hk)
        obtain ⟨tk, ek⟩ : ∃ tk, en.key = .str e.1 tk := ek
        obtain ⟨tv, ev⟩ : ∃ tv, _ = Value.int e.2 tv := h1.2
        rw [List.map_cons, List.map_cons, List.map_cons, List.map_cons, List.map_cons, ek, hv, ev]
        exact ⟨.cons (.str _ _) r1, .cons (.int _ _) r2⟩
structure ShD (d : PyData) : Prop where
  short : d.leavesShort 600 = true
  can : d.showable = true
  few : d.weight ≤ 20000
  low : d.depth ≤ 60
theorem call_reprD {k : Nat} (hr : Rm k X.A) : CallR X (.builtin "repr") (fun xs H Q => ∃ (a : Addr) (L : List (Str × Int)), xs = [.ref a] ∧ Rd H a (.dK (pr L)) ∧ ShD (datD PyData.int L) ∧ Q (.str (datD PyData.int L).shown) H) := by
  intro pins s σ H xs us Q I r h
  obtain ⟨a, L, rfl, hd, sh, q⟩ := h
  obtain ⟨u, rfl, rx⟩ := vals1 r
  cases rx
  obtain ⟨_, sys, vs, kv, ob, eb, en, h1, h2, h3, h4, h5, h6⟩ := dk_rd I.hok hd
  have un := hr.room.units
  have le : (datD PyData.int L).shown.length ≤ sizeLine := by
    have h1 := PyData.shown_le 600 (by decide) _ sh.short
    have h2 := sh.few
    have h3 : sizeLine = 16777216 := by decide
    omega
  obtain ⟨r1, r2⟩ := reads_strs (h := s.heap) h5 kv
  have rd : Reads s.heap (.ref a) (datD PyData.int L) (a :: [] ++ []) := Reads.dict h1 h2.1 h3 r1 r2
  refine PySem.repr_of_reads' rd sh.can (fun _ m => ?_) hr.still (by have := sh.low; omega) (fun b o e => e) (fun h' u tk keep => ⟨.str _, H, I.kept keep, ⟨u, rfl⟩, q⟩) le
  have : sysModules = a := by simpa using m
  rw [this] at sys
  simp at sys
theorem s_reprD : SemC (rCons (rD Bv.rI) rNil) (SA.im rR) (fun xs H Q => ∃ (a : Addr) (L : List (Str × Int)), xs = [.ref a] ∧ Rd H a (.dK (pr L)) ∧ ShD (datD PyData.int L) ∧ Q (.str (datD PyData.int L).shown) H) (fun x P => ShD (datD PyData.int x.1) ∧ P (datD PyData.int x.1).shown) := fun x vs F H P Q s ⟨v, ws, e, ⟨a, kvs, ev, hd, nd, pd⟩, en⟩ p W => by
  cases en
  subst e
  subst ev
  have := pd_ints pd
  subst this
  exact ⟨a, x.1, rfl, s.rd hd, p.1, wish_im W p.2 s rfl⟩
end Bv

/-! Bv27: lists of lists of numbers written out, at one stroke -/
namespace Bv
open PySem PySem.Spec PyProof.Rows L2 L2.DX Gd
variable {X : Cx} {ε : Tk} {Γ : List SA} {es : List Expr} {pos : Pos} {K : PySem.W.Frag}
def cI : Expr → Option Int
  | .Constant (.int i) _ _ => some i
  | _ => none
def cIs : List Expr → Option (List Int)
  | [] => some []
  | e :: es => (cI e).bind fun i => (cIs es).bind fun r => some (i :: r)
def cL : Expr → Option (List Int)
  | .List es _ => if es.length ≤ sizeLine then cIs es else none
  | _ => none
def cLs : List Expr → Option (List (List Int))
  | [] => some []
  | e :: es => (cL e).bind fun i => (cLs es).bind fun r => some (i :: r)
theorem xas_cI : ∀ {es : List Expr} {xs : List Int}, cIs es = some xs → XAs X ε Γ es Bv.rI (fun P => P xs)
  | [], xs, h => by
    cases h
    exact xas_nil
  | e :: es, xs, h => by
    unfold cIs at h
    obtain ⟨i, hi, h⟩ := Option.bind_eq_some_iff.mp h
    obtain ⟨r, hr, h⟩ := Option.bind_eq_some_iff.mp h
    cases h
    unfold cI at hi
    split at hi
    · cases hi
      exact xas_cons xe_int (xas_cI hr)
    · cases hi
theorem xas_cL : ∀ {es : List Expr} {xs : List (List Int)}, cLs es = some xs → XAs X ε Γ es (rL K Bv.rI) (fun P => P xs)
  | [], xs, h => by
    cases h
    exact xas_nil
  | e :: es, xs, h => by
    unfold cLs at h
    obtain ⟨i, hi, h⟩ := Option.bind_eq_some_iff.mp h
    obtain ⟨r, hr, h⟩ := Option.bind_eq_some_iff.mp h
    cases h
    unfold cL at hi
    split at hi
    · split at hi
      · exact xas_cons (xv_e K (xe_lst (xas_cI hi) (decide_eq_true (by assumption)))) (xas_cL hr)
      · cases hi
    · cases hi
theorem xe_cLL {xss : List (List Int)} (h : (decide (es.length ≤ sizeLine) && decide (cLs es = some xss)) = true) : XV X ε Γ (.List es pos) (SA.ol (rL K Bv.rI)) (fun P => P xss) :=
  xe_lst (xas_cL (of_decide_eq_true (Bool.and_eq_true_iff.mp h).2)) (Bool.and_eq_true_iff.mp h).1
theorem xe_cLLe {xss : List (List Int)} (h : (decide (es.length ≤ sizeLine) && decide (cLs es = some xss)) = true) : XE X ε Γ (.List es pos) (rL K (rL K Bv.rI)) (fun P => P xss) := xv_e K (xe_cLL h)
end Bv

/-! Bv28: a list of two or three laid into names -/
namespace Bv
open PySem PySem.Spec PyProof.Rows L2 L2.DX Gd
variable {X : Cx} {ε : Tk} {F0 H0 F H F' H' : Hp} {Γ : List SA} {σ : L2.St} {e a b c : Expr} {pos : Pos} {α : Type} {K : PySem.W.Frag} {r : Rep α}
def rU3 (K : PySem.W.Frag) (r : Rep α) : Rep (α × α × α) := ⟨fun F v x => (rL K r).rep F v [x.1, x.2.1, x.2.2], fun s h => (rL K r).up s h⟩
def unp3 (l : List α) (P : α × α × α → Prop) : Prop := ∃ a b c, l = [a, b, c] ∧ P (a, b, c)
theorem xe_unp3 {m : (List α → Prop) → Prop} (h : XE X ε Γ e (rL K r) m) : XE X ε Γ e (rU3 K r) (fun P => m fun l => unp3 l P) := xe_of fun F0 H0 xl σ F H P Q S p q =>
  xe_use h xl S p fun x v F' H' px ex hx => by
    obtain ⟨a, b, c, rfl, px⟩ := px
    exact q (a, b, c) v F' H' px ex hx
theorem xg_unp3 {k : Nat} {f g h : α → List SA → List SA} (hK : X.K = K) (hc : X.calm = true) {s1 s2 s3 : List Nat} (h1 : XG X a r s1 f) (h2 : XG X b r s2 g) (h3 : XG X c r s3 h)
    (hs : (assignEach [a, b, c] X.env).map (·.2) = [assign a X.env, assign b X.env, assign c X.env] := by rfl) (hs' : (assignEach [b, c] X.env).map (·.2) = [assign b X.env, assign c X.env] := by rfl) (hs'' : (assignEach [c] X.env).map (·.2) = [assign c X.env] := by rfl)
    (hn : (assignEach [a, b, c] X.env).length = 3 := by rfl) (hst : (assignEach [a, b, c] X.env).findIdx? (·.1) = none := by rfl) :
    XG X (.Tuple [a, b, c] k pos) (rU3 K r) (s1 ++ s2 ++ s3) (fun y Γ => h y.2.2 (g y.2.1 (f y.1 Γ))) := by
  refine ⟨fun v y F0 H0 Γ σ F H Q S hr k => use_g (pg_lst hc (pgs_cons run_pg (pgs_cons run_pg (pgs_cons run_pg pgs_nil (by rw [hs'']; rfl)) (by rw [hs', hs''])) (by rw [hs, hs'])) hn hst) ?_⟩
  obtain ⟨a, vs, rfl, hq, pr⟩ := hr
  cases pr with
  | cons r1 pr =>
    cases pr with
    | cons r2 pr =>
      cases pr with
      | cons r3 pr =>
        cases pr
        refine ⟨a, _, rfl, by rw [hK]; exact S.sub.seq (.inl hq), rfl, _, _, rfl, h1.run _ y.1 F0 H0 Γ σ F H _ S r1 fun σ1 S1 a1 => ⟨_, _, rfl, h2.run _ y.2.1 F0 H0 _ σ1 F H _ S1 r2 fun σ2 S2 a2 => ⟨_, _, rfl, h3.run _ y.2.2 F0 H0 _ σ2 F H _ S2 r3 fun σ3 S3 a3 => ⟨rfl, k σ3 S3 ((a1.trans a2).trans a3)⟩⟩⟩⟩
end Bv

namespace Bk
open PySem PySem.Spec PyProof.Rows L2 L2.DX Gd Bv
structure BookD where
  prices : List (Str × Int)
  pieces : List Str
  alphabet : List Str
  longest : Int
  dearest : Int
  ending : List (Str × List (Str × Int × Int))
  heading : List (Str × List (Str × Int × Int))
def fsBook (K : PySem.W.Frag) (x : BookD) : List (Str × SF) := [("_prices", ⟨rD Bv.rI, x.prices⟩), ("_pieces", ⟨rT K rS, x.pieces⟩), ("_alphabet", ⟨rT K rS, x.alphabet⟩), ("_longest", ⟨Bv.rI, x.longest⟩), ("_dearest", ⟨Bv.rI, x.dearest⟩),
  ("ending", ⟨rD (rL K (rP3 K rS Bv.rI Bv.rI)), x.ending⟩), ("heading", ⟨rD (rL K (rP3 K rS Bv.rI Bv.rI)), x.heading⟩), ("kept", ⟨rAny, ()⟩)]
abbrev rBook (K : PySem.W.Frag) (C : Addr) : Rep BookD := rC C (fsBook K)
structure BookK (K : PySem.W.Frag) (mg : Str → Option Value) (C : Addr) : Prop where
  mg : mg "Book" = some (.ref C)
  sf : PySem.W.selfFirst K C = true
  al : Alone K C .Sub
def m_is_ascending (strings_ : (List Str)) (P : Bool → Prop) : Prop := FewU strings_ ∧ strings_.length ≤ 16777216 ∧ P (eqB strings_ (ascT strings_))
def m_is_integer (value_ : Int) (P : Bool → Prop) : Prop := P (true && ((!false) && ((decide ((-((10 ^ 60) : Int)) < value_)) && (decide (value_ < ((10 ^ 60) : Int))))))
def m_is_price (value_ : Int) (P : Bool → Prop) : Prop := (fun Q_2 => m_is_integer value_ fun r_1 => (if r_1 = true then Q_2 ((decide ((1 : Int) ≤ value_)) && (decide (value_ ≤ (99 : Int)))) else Q_2 false)) fun b_3 => P b_3
def m_signs_in_vL (pieces_ : (List Str)) (P : (List Str) → Prop) : Prop := (("" : Str) = Str.ofString "" ∧ (pieces_.map (·.length)).sum ≤ 16777216) ∧ FewU (Bv.signs (Txt.join (Str.ofString "") pieces_)) ∧ (Bv.signs (Txt.join (Str.ofString "") pieces_)).length ≤ 16777216 ∧ P (ascT (Bv.signs (Txt.join (Str.ofString "") pieces_)))
def m_is_text (value_ : Str) (P : Bool → Prop) : Prop := (if ((!true) || (decide ((8000 : Int) < (value_.length : Int)))) = true then P false else P ((decide (value_ = ("" : Str))) || ((Txt.isascii value_) && ((Txt.isalpha value_) && (Txt.islower value_)))))
def m_is_piece (value_ : Str) (P : Bool → Prop) : Prop := (fun Q_2 => m_is_text value_ fun r_1 => (if r_1 = true then Q_2 ((decide ((1 : Int) ≤ (value_.length : Int))) && (decide ((value_.length : Int) ≤ (5 : Int)))) else Q_2 false)) fun b_3 => P b_3
def m_are_prices (value_ : (List (Str × Int))) (P : Bool → Prop) : Prop := (if ((!true) || (!((decide ((1 : Int) ≤ (value_.length : Int))) && (decide ((value_.length : Int) ≤ (12 : Int)))))) = true then P false else mapW (fun it_2 Q_7 => (fun Q_5 => m_is_piece it_2.1 fun r_3 => (if r_3 = true then m_is_price it_2.2 fun r_4 => Q_5 r_4 else Q_5 false)) fun b_6 => Q_7 b_6) value_ fun l_8 => (if (!(l_8.all id)) = true then P false else m_signs_in_vL (value_.map (·.1)) fun r_10 => setV r_10 fun alphabet_11 => P ((decide ((alphabet_11.length : Int) ≤ (4 : Int))) && ((alphabet_11.map fun sign_12 => ((value_.lookup sign_12).isSome)).all id))))
def m_signs_in (pieces_ : (List Str)) (P : (List Str) → Prop) : Prop := (("" : Str) = Str.ofString "" ∧ (pieces_.map (·.length)).sum ≤ 16777216) ∧ FewU (Bv.signs (Txt.join (Str.ofString "") pieces_)) ∧ (Bv.signs (Txt.join (Str.ofString "") pieces_)).length ≤ 16777216 ∧ P (ascT (Bv.signs (Txt.join (Str.ofString "") pieces_)))
def m_longer_pieces (prices_ : (List (Str × Int))) (alphabet_ : (List Str)) (place_ : Int) (P : (List (Str × (List (Str × Int × Int)))) → Prop) : Prop := setV ((prices_.filter fun it_1 => (decide ((1 : Int) < (it_1.1.length : Int)))).map fun it_1 => (it_1.1, (it_1.1.length : Int), it_1.2)) fun longer_2 => dcM (fun _ Q_9 => Q_9 true) (fun sign_3 Q_9 => Q_9 sign_3) (fun sign_3 Q_9 => lcM (fun entry_4 Q_7 => (0 : Int) = 0 ∧ atZ (Bv.signs entry_4.1) place_ fun c_6 => Q_7 (decide (c_6 = sign_3))) (fun entry_4 Q_7 => Q_7 entry_4) longer_2 fun l_8 => Q_9 l_8) alphabet_ [] fun l_10 => P l_10
def m_Book__init (prices_ : (List (Str × Int))) (P : BookD → Prop) : Prop := m_are_prices prices_ fun r_1 => (if (!r_1) = true then False else prices_.length < 64 ∧ dcM (fun _ Q_4 => Q_4 true) (fun piece_2 Q_4 => Q_4 piece_2) (fun piece_2 Q_4 => atD prices_ piece_2 fun d_3 => Q_4 d_3) (sortT (prices_.map (·.1))) [] fun l_5 => setV l_5 fun prices_6 => setV (prices_6.map (·.1)) fun pieces_7 => m_signs_in pieces_7 fun r_8 => setV r_8 fun alphabet_9 => maxP (pieces_7.map fun piece_11 => (piece_11.length : Int)) fun m_12 => setV m_12 fun longest_13 => maxP (prices_6.map (·.2)) fun m_14 => setV m_14 fun dearest_15 => m_longer_pieces prices_6 alphabet_9 (-(1 : Int)) fun r_16 => setV r_16 fun ending_17 => m_longer_pieces prices_6 alphabet_9 (0 : Int) fun r_18 => setV r_18 fun heading_19 => setV () fun kept_20 => P (⟨prices_6, pieces_7, alphabet_9, longest_13, dearest_15, ending_17, heading_19⟩ : BookD))
def m_result (prices_ : (List (Str × Int))) (P : BookD → Prop) : Prop := m_are_prices prices_ fun r_1 => (if (!r_1) = true then False else m_Book__init prices_ fun o_2 => P o_2)
def m_Book__contains (self_ : BookD) (value_ : Str) (P : Bool → Prop) : Prop := P (true && ((self_.prices.lookup value_).isSome))
def m_Book__sub (self_ : BookD) (other_ : (List Str)) (P : BookD → Prop) : Prop := (fun Q_5 => (if (!true) = true then Q_5 true else mapW (fun piece_1 Q_3 => m_Book__contains self_ piece_1 fun c_2 => Q_3 (c_2 != false)) other_ fun l_4 => Q_5 (!(l_4.all id)))) fun b_6 => (if b_6 = true then False else m_is_ascending other_ fun r_7 => (if (!r_7) = true then False else setV (self_.pieces.filter fun piece_8 => (!decide (piece_8 ∈ other_))) fun left_9 => dcM (fun _ Q_12 => Q_12 true) (fun piece_10 Q_12 => Q_12 piece_10) (fun piece_10 Q_12 => atD self_.prices piece_10 fun d_11 => Q_12 d_11) left_9 [] fun l_13 => m_result l_13 fun r_14 => P r_14))
def m_Book__getitem (self_ : BookD) (piece_ : Str) (P : Int → Prop) : Prop := m_Book__contains self_ piece_ fun c_1 => (if (c_1 != true) = true then False else atD self_.prices piece_ fun d_2 => P d_2)
def m_check_book (book_ : BookD) (P : Unit → Prop) : Prop := (if (!true) = true then False else P ())
def m_Book_prices (self_ : BookD) (P : (List (Str × Int)) → Prop) : Prop := P self_.prices
def m_prices_of_beginnings (book_ : BookD) (text_ : Str) (P : (List Int) → Prop) : Prop := m_Book_prices book_ fun r_1 => setV r_1 fun prices_2 => setV [(0 : Int)] fun least_3 => forN (fun it_5 s_4 P => setV (it_5.1 + (1 : Int)) fun end_6 => atZ s_4 it_5.1 fun x_8 => atD prices_2 it_5.2 fun d_9 => setV (x_8 + d_9) fun best_10 => atD book_.ending it_5.2 fun d_11 => forN (fun it_13 s_12 P => (fun Q_16 => (if (ends4 text_ it_13.1 (0 : Int) end_6) = true then atZ s_4 (end_6 - it_13.2.1) fun x_15 => Q_16 (decide ((x_15 + it_13.2.2) < s_12)) else Q_16 false)) fun b_17 => (if b_17 = true then atZ s_4 (end_6 - it_13.2.1) fun x_19 => setV (x_19 + it_13.2.2) fun best_20 => P best_20 else P s_12)) d_11 best_10 (fun s_12 => setV s_12 fun y_21 => s_4.length < 16777216 ∧ P (s_4 ++ [y_21]))) (enumZ (Bv.signs text_)) least_3 (fun s_4 => P s_4)
def m_least_price (book_ : BookD) (text_ : Str) (P : Int → Prop) : Prop := m_prices_of_beginnings book_ text_ fun r_2 => atZ r_2 (-(1 : Int)) fun x_3 => P x_3
def m_needless (book_ : BookD) (P : (List Str) → Prop) : Prop := m_check_book book_ fun r_1 => setV r_1 fun _ => setV (book_.pieces.filter fun piece_2 => (decide ((1 : Int) < (piece_2.length : Int)))) fun several_3 => lcM (fun piece_10 Q_14 => m_Book__sub book_ [piece_10] fun r_11 => m_least_price r_11 piece_10 fun r_12 => m_Book__getitem book_ piece_10 fun x_13 => Q_14 (decide (r_12 ≤ x_13))) (fun piece_10 Q_14 => Q_14 piece_10) several_3 fun l_15 => P l_15
def m_least_book (book_ : BookD) (P : BookD → Prop) : Prop := m_needless book_ fun r_2 => m_Book__sub book_ r_2 fun r_3 => P r_3
def m_Book_alphabet (self_ : BookD) (P : (List Str) → Prop) : Prop := P self_.alphabet
def m_check_books (book_ : BookD) (other_ : BookD) (P : Unit → Prop) : Prop := m_check_book book_ fun r_1 => setV r_1 fun _ => m_check_book other_ fun r_2 => setV r_2 fun _ => m_Book_alphabet book_ fun r_6 => m_Book_alphabet other_ fun r_7 => (if (!eqB r_6 r_7) = true then False else P ())
def m_dearer_piece (book_ : BookD) (other_ : BookD) (P : (Option Str) → Prop) : Prop := m_check_books book_ other_ fun r_1 => setV r_1 fun _ => forL (fun piece_3 s_2 P => m_least_price book_ piece_3 fun r_4 => m_Book__getitem other_ piece_3 fun x_5 => (if (decide (x_5 < r_4)) = true then P (.rt (some piece_3)) else P (.nx ()))) other_.pieces () (Sum.elim (fun s_2 => P none) P)
def m_is_nowhere_dearer (book_ : BookD) (other_ : BookD) (P : Bool → Prop) : Prop := m_dearer_piece book_ other_ fun r_1 => P r_1.isNone
def m_are_as_cheap (book_ : BookD) (other_ : BookD) (P : Bool → Prop) : Prop := (fun Q_3 => m_is_nowhere_dearer book_ other_ fun r_1 => (if r_1 = true then m_is_nowhere_dearer other_ book_ fun r_2 => Q_3 r_2 else Q_3 false)) fun b_4 => P b_4
def m_Book_pieces (self_ : BookD) (P : (List Str) → Prop) : Prop := P self_.pieces
def m_Book_longest (self_ : BookD) (P : Int → Prop) : Prop := P self_.longest
def m_Book_dearest (self_ : BookD) (P : Int → Prop) : Prop := P self_.dearest
def m_Book__eq (self_ : BookD) (other_ : BookD) (P : Bool → Prop) : Prop := P (true && ((eqD self_.prices other_.prices) != false))
def m_Book__len (self_ : BookD) (P : Int → Prop) : Prop := P (self_.pieces.length : Int)
def m_Book__or (self_ : BookD) (other_ : BookD) (P : BookD → Prop) : Prop := (if (!true) = true then False else setV self_.prices fun prices_1 => forN (fun it_3 s_2 P => setV (minZ it_3.2 ((s_2.lookup it_3.1).getD it_3.2)) fun y_4 => setV it_3.1 fun z_5 => s_2.length < 16777216 ∧ P (putD s_2 z_5 y_4)) other_.prices prices_1 (fun s_2 => m_result s_2 fun r_7 => P r_7))
def m_Book__and (self_ : BookD) (other_ : BookD) (P : BookD → Prop) : Prop := (if (!true) = true then False else lcM (fun piece_1 Q_3 => m_Book__contains other_ piece_1 fun c_2 => Q_3 (c_2 != false)) (fun piece_1 Q_3 => Q_3 piece_1) self_.pieces fun l_4 => setV l_4 fun shared_5 => dcM (fun _ Q_9 => Q_9 true) (fun piece_6 Q_9 => Q_9 piece_6) (fun piece_6 Q_9 => atD self_.prices piece_6 fun d_7 => atD other_.prices piece_6 fun d_8 => Q_9 (maxZ d_7 d_8)) shared_5 [] fun l_10 => m_result l_10 fun r_11 => P r_11)
def m_is_sign (value_ : Str) (P : Bool → Prop) : Prop := (fun Q_2 => m_is_text value_ fun r_1 => (if r_1 = true then Q_2 (decide ((value_.length : Int) = (1 : Int))) else Q_2 false)) fun b_3 => P b_3
def m_prices_of_rests (book_ : BookD) (text_ : Str) (P : (List Int) → Prop) : Prop := m_Book_prices book_ fun r_1 => setV r_1 fun prices_2 => ((-(2 ^ 63) ≤ ((text_.length : Int) + (1 : Int)) ∧ ((text_.length : Int) + (1 : Int)) < 2 ^ 63) ∧ [(0 : Int)].length * (((text_.length : Int) + (1 : Int))).toNat ≤ 16777216) ∧ setV (repL [(0 : Int)] ((text_.length : Int) + (1 : Int))) fun least_3 => rangeOk (-(1 : Int)) ((text_.length : Int) - (1 : Int)) ∧ forN (fun place_5 s_4 P => atZ s_4 (place_5 + (1 : Int)) fun x_7 => atZ (Bv.signs text_) place_5 fun c_8 => atD prices_2 c_8 fun d_9 => setV (x_7 + d_9) fun best_10 => atZ (Bv.signs text_) place_5 fun c_11 => atD book_.heading c_11 fun d_12 => forN (fun it_14 s_13 P => (fun Q_17 => (if (Txt.startswith3 text_ it_14.1 place_5) = true then atZ s_4 (place_5 + it_14.2.1) fun x_16 => Q_17 (decide ((x_16 + it_14.2.2) < s_13)) else Q_17 false)) fun b_18 => (if b_18 = true then atZ s_4 (place_5 + it_14.2.1) fun x_20 => setV (x_20 + it_14.2.2) fun best_21 => P best_21 else P s_13)) d_12 best_10 (fun s_13 => setV s_13 fun y_22 => ∃ z_23, ixN s_4.length place_5 = some z_23 ∧ P (s_4.set z_23 y_22))) (downZ ((text_.length : Int) - (1 : Int)) (-(1 : Int))) least_3 (fun s_4 => P s_4)
def m_check_count (many_ : Int) (P : Unit → Prop) : Prop := (fun Q_2 => m_is_integer many_ fun r_1 => (if (!r_1) = true then Q_2 true else Q_2 (decide (many_ < (0 : Int))))) fun b_3 => (if b_3 = true then False else P ())
def m_check_sign (book_ : BookD) (sign_ : Str) (P : Unit → Prop) : Prop := m_Book_alphabet book_ fun r_2 => (if (!decide (sign_ ∈ r_2)) = true then False else P ())
def m_Book_accepts (self_ : BookD) (value_ : Str) (P : Bool → Prop) : Prop := (if ((!true) || (decide ((8000 : Int) < (value_.length : Int)))) = true then P false else FewU (Bv.signs value_) ∧ FewU self_.alphabet ∧ (uniq (Bv.signs value_)).length / 4 ≤ (uniq self_.alphabet).length ∧ P (decide (((uniq ((Bv.signs value_).filter fun z => !decide (z ∈ self_.alphabet))).length : Int) = (0 : Int))))
def m_check_text (book_ : BookD) (text_ : Str) (P : Unit → Prop) : Prop := m_Book_accepts book_ text_ fun r_1 => (if (!r_1) = true then False else P ())
def m_are_integers (numbers_ : (List Int)) (P : Bool → Prop) : Prop := forL (fun number_2 s_1 P => (if ((!decide (("int" : String) = "int")) || (!((decide ((-((10 ^ 60) : Int)) < number_2)) && (decide (number_2 < ((10 ^ 60) : Int)))))) = true then P (.rt false) else P (.nx ()))) numbers_ () (Sum.elim (fun s_1 => P true) P)
def m_has_form_of_front (book_ : BookD) (value_ : (Str × (List Int))) (P : Bool → Prop) : Prop := (if ((!true) || (!decide ((2 : Int) = (2 : Int)))) = true then P false else setV value_ fun t_2 => (fun Q_5 => m_Book_accepts book_ t_2.1 fun r_3 => (if (!r_3) = true then Q_5 true else m_Book_longest book_ fun r_4 => Q_5 (decide (r_4 ≤ (t_2.1.length : Int))))) fun b_6 => (if b_6 = true then P false else (if ((!true) || (!decide ((t_2.2.length : Int) = (t_2.1.length : Int)))) = true then P false else m_are_integers t_2.2 fun r_9 => P r_9)))
def m_front_behind (book_ : BookD) (text_ : Str) (P : (Str × (List Int)) → Prop) : Prop := m_prices_of_beginnings book_ text_ fun r_1 => setV r_1 fun least_2 => m_Book_longest book_ fun r_5 => setV (minZ (text_.length : Int) (r_5 - (1 : Int))) fun many_6 => rangeOk (1 : Int) (many_6 + (1 : Int)) ∧ mapW (fun back_7 Q_13 => atZ least_2 ((-(1 : Int)) - back_7) fun x_11 => atZ least_2 (-(1 : Int)) fun x_12 => Q_13 (x_11 - x_12)) (rangeZ (1 : Int) (many_6 + (1 : Int))) fun l_14 => setV l_14 fun differences_15 => P ((cutS text_ (some ((text_.length : Int) - many_6)) none), differences_15)
def m_front_step (book_ : BookD) (front_ : (Str × (List Int))) (sign_ : Str) (P : ((Str × (List Int)) × Int) → Prop) : Prop := setV front_ fun t_1 => t_1.1.length + sign_.length ≤ 16777216 ∧ setV (t_1.1 ++ sign_) fun longer_2 => m_Book__getitem book_ sign_ fun x_3 => setV x_3 fun change_4 => atD book_.ending sign_ fun d_5 => forN (fun it_7 s_6 P => (if (Txt.endswith longer_2 it_7.1) = true then atZ t_1.2 (it_7.2.1 - (2 : Int)) fun x_8 => setV (minZ s_6 (it_7.2.2 + x_8)) fun change_9 => P change_9 else P s_6)) d_5 change_4 (fun s_6 => m_Book_longest book_ fun r_12 => setV (minZ (longer_2.length : Int) (r_12 - (1 : Int))) fun many_13 => [(-s_6)].length + (t_1.2.map fun number_14 => (number_14 - s_6)).length ≤ 16777216 ∧ setV ([(-s_6)] ++ (t_1.2.map fun number_14 => (number_14 - s_6))) fun moved_15 => P (((cutS longer_2 (some ((longer_2.length : Int) - many_13)) none), (cutL moved_15 none (some many_13))), s_6))
def m_front_of (book_ : BookD) (text_ : Str) (P : (Str × (List Int)) → Prop) : Prop := m_check_book book_ fun r_1 => setV r_1 fun _ => m_check_text book_ text_ fun r_2 => setV r_2 fun _ => m_front_behind book_ text_ fun r_3 => P r_3
def m_next_front (book_ : BookD) (front_ : (Str × (List Int))) (sign_ : Str) (P : ((Str × (List Int)) × Int) → Prop) : Prop := m_check_book book_ fun r_1 => setV r_1 fun _ => m_has_form_of_front book_ front_ fun r_2 => (if (!r_2) = true then False else m_check_sign book_ sign_ fun r_3 => setV r_3 fun _ => m_front_step book_ front_ sign_ fun r_4 => P r_4)
end Bk

/-! Mr1: rules for the mirrors -/
namespace Mr
open PySem PySem.Spec L2 Gd Bv
variable {α β γ S O : Type}
theorem forN_inv {f : α → S → (S → Prop) → Prop} (I : List α → S → Prop) {xs : List α} {s0 : S} {P : S → Prop} (h0 : I [] s0)
    (h : ∀ pre x post s, xs = pre ++ x :: post → I pre s → ∀ Q : S → Prop, (∀ s', I (pre ++ [x]) s' → Q s') → f x s Q) (hP : ∀ s, I xs s → P s) : forN f xs s0 P := by
  have aux : ∀ post pre s, xs = pre ++ post → I pre s → forN f post s P := by
    intro post
    induction post with
    | nil => intro pre s e i; rw [List.append_nil] at e; subst e; exact hP s i
    | cons x post ih =>
      intro pre s e i
      exact h pre x post s e i _ fun s' i' => ih (pre ++ [x]) s' (by rw [e, List.append_assoc]; rfl) i'
  exact aux xs [] s0 rfl h0
/-- a loop that computes g -/
theorem forN_fn {f : α → S → (S → Prop) → Prop} {g : S → α → S} {xs : List α} {s0 : S} {P : S → Prop} (h : ∀ x ∈ xs, ∀ s (Q : S → Prop), Q (g s x) → f x s Q) (p : P (xs.foldl g s0)) : forN f xs s0 P := by
  induction xs generalizing s0 with
  | nil => exact p
  | cons x xs ih => exact h x List.mem_cons_self _ _ (ih (fun y m => h y (List.mem_cons_of_mem _ m)) p)
theorem forL_inv {f : α → S → (Stp S O → Prop) → Prop} (I : List α → S → Prop) (B : S → Prop) (R : O → Prop) {xs : List α} {s0 : S} {P : S ⊕ O → Prop} (h0 : I [] s0)
    (h : ∀ pre x post s, xs = pre ++ x :: post → I pre s → ∀ Q : Stp S O → Prop, (∀ s', I (pre ++ [x]) s' → Q (.nx s')) → (∀ s', B s' → Q (.bk s')) → (∀ o, R o → Q (.rt o)) → f x s Q)
    (hP : ∀ s, I xs s → P (.inl s)) (hB : ∀ s, B s → P (.inl s)) (hR : ∀ o, R o → P (.inr o)) : forL f xs s0 P := by
  have aux : ∀ post pre s, xs = pre ++ post → I pre s → forL f post s P := by
    intro post
    induction post with
    | nil => intro pre s e i; rw [List.append_nil] at e; subst e; exact hP s i
    | cons x post ih =>
      intro pre s e i
      exact h pre x post s e i _ (fun s' i' => ih (pre ++ [x]) s' (by rw [e, List.append_assoc]; rfl) i') hB hR
  exact aux xs [] s0 rfl h0
theorem whileN_inv {c : S → (Bool → Prop) → Prop} {f : S → (Stp S O → Prop) → Prop} (I : Nat → S → Prop) (E B : S → Prop) (R : O → Prop) {n : Nat} {s0 : S} {P : S ⊕ O → Prop} (h0 : I n s0)
    (h : ∀ k s, I k s → ∀ Q : Bool → Prop, (∀ b, (b = false → E s) → (b = true → ∃ j, k = j + 1 ∧ ∀ Q' : Stp S O → Prop, (∀ s', I j s' → Q' (.nx s')) → (∀ s', B s' → Q' (.bk s')) → (∀ o, R o → Q' (.rt o)) → f s Q') → Q b) → c s Q)
    (hE : ∀ s, E s → P (.inl s)) (hB : ∀ s, B s → P (.inl s)) (hR : ∀ o, R o → P (.inr o)) : whileN c f (n + 1) s0 P := by
  induction n generalizing s0 with
  | zero =>
    refine h 0 s0 h0 _ fun b e1 e2 => ?_
    cases b with
    | true =>
      obtain ⟨j, z, _⟩ := e2 rfl
      omega
    | false => exact hE _ (e1 rfl)
  | succ n ih =>
    refine h (n + 1) s0 h0 _ fun b e1 e2 => ?_
    cases b with
    | true =>
      obtain ⟨j, z, w⟩ := e2 rfl
      obtain rfl : n = j := by omega
      exact w _ (fun s' i' => ih i') hB hR
    | false => exact hE _ (e1 rfl)
theorem mapW_fn {f : α → (β → Prop) → Prop} {g : α → β} {xs : List α} {P : List β → Prop} (h : ∀ x ∈ xs, ∀ Q : β → Prop, Q (g x) → f x Q) (p : P (xs.map g)) : mapW f xs P := by
  induction xs generalizing P with
  | nil => exact p
  | cons x xs ih => exact h x List.mem_cons_self _ (ih (fun y m => h y (List.mem_cons_of_mem _ m)) p)
/-- .. where each one has some value as R says -/
theorem mapW_rel {f : α → (β → Prop) → Prop} (R : α → β → Prop) {xs : List α} {P : List β → Prop} (h : ∀ x ∈ xs, ∀ Q : β → Prop, (∀ y, R x y → Q y) → f x Q) (p : ∀ ys, Paired R xs ys → P ys) : mapW f xs P := by
  induction xs generalizing P with
  | nil => exact p [] .nil
  | cons x xs ih => exact h x List.mem_cons_self _ fun y r => ih (fun y m => h y (List.mem_cons_of_mem _ m)) fun ys rs => p _ (.cons r rs)
theorem lcM_fn {t : α → (Bool → Prop) → Prop} {f : α → (β → Prop) → Prop} {tb : α → Bool} {g : α → β} {xs : List α} {P : List β → Prop} (ht : ∀ x ∈ xs, ∀ Q : Bool → Prop, Q (tb x) → t x Q) (h : ∀ x ∈ xs, tb x = true → ∀ Q : β → Prop, Q (g x) → f x Q) (p : P ((xs.filter tb).map g)) : lcM t f xs P := by
  induction xs generalizing P with
  | nil => exact p
  | cons x xs ih =>
    refine ht x List.mem_cons_self _ ?_
    cases hb : tb x with
    | true =>
      rw [if_pos rfl]
      rw [List.filter_cons_of_pos hb] at p
      exact h x List.mem_cons_self hb _ (ih (fun y m => ht y (List.mem_cons_of_mem _ m)) (fun y m => h y (List.mem_cons_of_mem _ m)) p)
    | false =>
      rw [if_neg Bool.false_ne_true]
      rw [List.filter_cons_of_neg (by rw [hb]; exact Bool.false_ne_true)] at p
      exact ih (fun y m => ht y (List.mem_cons_of_mem _ m)) (fun y m => h y (List.mem_cons_of_mem _ m)) p
theorem dcM_fn {t : α → (Bool → Prop) → Prop} {k : α → (Str → Prop) → Prop} {f : α → (β → Prop) → Prop} {tb : α → Bool} {kz : α → Str} {g : α → β} {xs : List α} {L : List (Str × β)} {P : List (Str × β) → Prop} (ht : ∀ x ∈ xs, ∀ Q : Bool → Prop, Q (tb x) → t x Q) (hk : ∀ x ∈ xs, tb x = true → ∀ Q : Str → Prop, Q (kz x) → k x Q) (h : ∀ x ∈ xs, tb x = true → ∀ Q : β → Prop, Q (g x) → f x Q)
    (p : P ((xs.filter tb).foldl (fun L x => putD L (kz x) (g x)) L)) : dcM t k f xs L P := by
  induction xs generalizing L with
  | nil => exact p
  | cons x xs ih =>
    refine ht x List.mem_cons_self _ ?_
    cases hb : tb x with
    | true =>
      rw [if_pos rfl]
      rw [List.filter_cons_of_pos hb] at p
      exact hk x List.mem_cons_self hb _ (h x List.mem_cons_self hb _ (ih (fun y m => ht y (List.mem_cons_of_mem _ m)) (fun y m => hk y (List.mem_cons_of_mem _ m)) (fun y m => h y (List.mem_cons_of_mem _ m)) p))
    | false =>
      rw [if_neg Bool.false_ne_true]
      rw [List.filter_cons_of_neg (by rw [hb]; exact Bool.false_ne_true)] at p
      exact ih (fun y m => ht y (List.mem_cons_of_mem _ m)) (fun y m => hk y (List.mem_cons_of_mem _ m)) (fun y m => h y (List.mem_cons_of_mem _ m)) p
/-- different keys, from nothing -/
theorem fold_new {kz : α → Str} {g : α → β} : ∀ {xs : List α} {L : List (Str × β)}, (xs.map kz).Nodup → (∀ x ∈ xs, kz x ∉ L.map (·.1)) → xs.foldl (fun L x => putD L (kz x) (g x)) L = L ++ xs.map fun x => (kz x, g x)
  | [], L, _, _ => by rw [List.map_nil, List.append_nil]; rfl
  | x :: xs, L, nd, new => by
    rw [List.map_cons, List.nodup_cons] at nd
    have e : putD L (kz x) (g x) = L ++ [(kz x, g x)] := by
      unfold putD
      rw [if_neg]
      intro h
      obtain ⟨p, m, q⟩ := List.any_eq_true.mp h
      exact new x List.mem_cons_self (List.mem_map.mpr ⟨p, m, of_decide_eq_true q⟩)
    rw [List.foldl_cons, e, fold_new nd.2 fun y m => ?_, List.map_cons, List.append_assoc]
    · rfl
    · rw [List.map_append, List.mem_append]
      rintro (h | h)
      · exact new y (List.mem_cons_of_mem _ m) h
      · rw [List.map_cons, List.map_nil, List.mem_singleton] at h
        exact nd.1 (List.mem_map.mpr ⟨y, m, h⟩)
theorem atZ_nat {xs : List α} {j : Nat} {x : α} {P : α → Prop} (h : xs[j]? = some x) (p : P x) : atZ xs (j : Int) P := ⟨x, atI_nat h, p⟩
theorem atZ_getD {xs : List α} {i : Int} {j : Nat} (d : α) (e : i = j) (h : j < xs.length) {P : α → Prop} (p : P (xs.getD j d)) : atZ xs i P := by
  subst e
  rw [List.getD_eq_getElem?_getD, List.getElem?_eq_getElem h] at p
  exact atZ_nat (List.getElem?_eq_getElem h) p
theorem atZ_last {xs : List α} {n : Nat} {x : α} {P : α → Prop} (l : xs.length = n + 1) (h : xs[n]? = some x) (p : P x) : atZ xs (-1) P := ⟨x, by rw [atI_last l]; exact h, p⟩
theorem atD_i {L : List (Str × α)} {z : Str} {x : α} {P : α → Prop} (h : L.lookup z = some x) (p : P x) : atD L z P := ⟨x, h, p⟩
theorem iteT {p q : Prop} {c : Prop} [Decidable c] (h : c) (k : p) : if c then p else q := by rw [if_pos h]; exact k
theorem iteF {p q : Prop} {c : Prop} [Decidable c] (h : ¬ c) (k : q) : if c then p else q := by rw [if_neg h]; exact k
theorem ite2 {p q : Prop} {c : Prop} [Decidable c] (h : c → p) (k : ¬ c → q) : if c then p else q := by
  by_cases hc : c
  · rw [if_pos hc]; exact h hc
  · rw [if_neg hc]; exact k hc
theorem maxP_i {xs : List Int} {m : Int} {P : Int → Prop} (h1 : m ∈ xs) (h2 : ∀ y ∈ xs, y ≤ m) (p : P m) : maxP xs P := ⟨fun z => (by rw [z] at h1; cases h1), fun m' a b => by
  obtain rfl : m' = m := Int.le_antisymm (h2 _ a) (b _ h1)
  exact p⟩
theorem minP_i {xs : List Int} {m : Int} {P : Int → Prop} (h1 : m ∈ xs) (h2 : ∀ y ∈ xs, m ≤ y) (p : P m) : minP xs P := ⟨fun z => (by rw [z] at h1; cases h1), fun m' a b => by
  obtain rfl : m' = m := Int.le_antisymm (b _ h1) (h2 _ a)
  exact p⟩
theorem lookup_none {L : List (Str × α)} {z : Str} : L.lookup z = none ↔ z ∉ L.map (·.1) := by
  induction L with
  | nil => exact ⟨fun _ h => (nomatch h), fun _ => rfl⟩
  | cons e L ih =>
    obtain ⟨y, v⟩ := e
    rw [List.lookup_cons, List.map_cons, List.mem_cons, not_or]
    by_cases h : z = y
    · subst h
      rw [beq_self_eq_true]
      exact ⟨fun h => (nomatch h), fun h => absurd rfl h.1⟩
    · rw [show (z == y) = false from beq_eq_false_iff_ne.mpr h]
      exact ⟨fun q => ⟨h, ih.mp q⟩, fun q => ih.mpr q.2⟩
theorem lookup_some_mem {L : List (Str × α)} {z : Str} {v : α} (h : L.lookup z = some v) : (z, v) ∈ L := by
  induction L with
  | nil => cases h
  | cons e L ih =>
    obtain ⟨y, w⟩ := e
    rw [List.lookup_cons] at h
    by_cases q : z = y
    · subst q
      rw [beq_self_eq_true] at h
      cases h
      exact List.mem_cons_self
    · rw [show (z == y) = false from beq_eq_false_iff_ne.mpr q] at h
      exact List.mem_cons_of_mem _ (ih h)
theorem lookup_nd {L : List (Str × α)} (nd : (L.map (·.1)).Nodup) {z : Str} {v : α} (h : (z, v) ∈ L) : L.lookup z = some v := by
  induction L with
  | nil => cases h
  | cons e L ih =>
    obtain ⟨y, w⟩ := e
    rw [List.map_cons, List.nodup_cons] at nd
    rw [List.lookup_cons]
    rcases List.mem_cons.mp h with q | q
    · cases q
      rw [beq_self_eq_true]
    · rw [show (z == y) = false from beq_eq_false_iff_ne.mpr fun e => nd.1 (e ▸ List.mem_map.mpr ⟨_, q, rfl⟩)]
      exact ih nd.2 q
theorem isSome_mem {L : List (Str × α)} {z : Str} : (L.lookup z).isSome = true ↔ z ∈ L.map (·.1) := by
  cases h : L.lookup z with
  | none => exact ⟨fun q => (nomatch q), fun q => absurd q (lookup_none.mp h)⟩
  | some v => exact ⟨fun _ => List.mem_map.mpr ⟨_, lookup_some_mem h, rfl⟩, fun _ => rfl⟩
end Mr

/-! Mb1: what books tell, by their prices -/
namespace Bk
open PySem PySem.Spec PyProof.Rows L2 Gd Bv Mr
theorem text_ok {z : Str} {P : Bool → Prop} (p : P (isText (.str z))) : m_is_text z P := by
  unfold m_is_text
  by_cases h : z.length ≤ 8000
  · refine iteF (by simp; omega) ?_
    have e : isText (.str z) = (decide (z = ("" : Str)) || (Txt.isascii z && (Txt.isalpha z && Txt.islower z))) := by
      rw [isText_str, decide_eq_true h, Bool.true_and]
      by_cases n : z.cps.toList = []
      · have : z = ("" : Str) := str_eq_of_lists (by rw [n]; rfl)
        rw [decide_eq_true this, n]
        rfl
      · rw [text_low n, decide_eq_false (fun q => n (by rw [q]; rfl)), Bool.false_or]
    rw [e] at p
    exact p
  · refine iteT (by simp; omega) ?_
    rw [isText_str, decide_eq_false h, Bool.false_and] at p
    exact p
theorem piece_ok {z : Str} {P : Bool → Prop} (p : P (isPiece (.str z))) : m_is_piece z P := by
  unfold m_is_piece
  refine text_ok ?_
  have e : isPiece (.str z) = (isText (.str z) && decide (1 ≤ z.length ∧ z.length ≤ 5)) := rfl
  rw [e] at p
  cases h : isText (.str z) with
  | true =>
    rw [h] at p
    refine iteT rfl ?_
    have q : (decide ((1 : Int) ≤ (z.length : Int)) && decide ((z.length : Int) ≤ (5 : Int))) = decide (1 ≤ z.length ∧ z.length ≤ 5) := by
      rw [and_dec]
      exact decide_eq_decide.mpr ⟨fun h => by omega, fun h => by omega⟩
    rw [q]
    exact p
  | false =>
    rw [h] at p
    exact iteF Bool.false_ne_true p
theorem integer_ok {i : Int} {P : Bool → Prop} (p : P (isInteger (.int i))) : m_is_integer i P := by
  unfold m_is_integer
  have e : (true && (!false && (decide (-(10 ^ 60 : Int) < i) && decide (i < (10 ^ 60 : Int))))) = isInteger (.int i) := by
    rw [Bool.true_and, Bool.not_false, Bool.true_and, and_dec]
    refine decide_eq_decide.mpr ⟨fun h => ?_, fun h => ?_⟩ <;> omega
  rw [e]
  exact p
theorem price_ok {i : Int} {P : Bool → Prop} (p : P (isPrice (.int i))) : m_is_price i P := by
  unfold m_is_price
  refine integer_ok ?_
  have e : isPrice (.int i) = decide (1 ≤ i ∧ i ≤ 99) := rfl
  rw [e] at p
  cases h : isInteger (.int i) with
  | true =>
    refine iteT rfl ?_
    rw [and_dec]
    exact p
  | false =>
    refine iteF Bool.false_ne_true ?_
    rw [decide_eq_false] at p
    · exact p
    · intro z
      have : decide (i.natAbs < 10 ^ 60) = false := h
      have := of_decide_eq_false this
      omega
theorem few_len {xs : List Str} (h : xs.length ≤ 4000) : FewU xs := by
  unfold FewU
  have := len_uniq xs
  omega
theorem signs_join (zs : List Str) : Bv.signs (Txt.join (Str.ofString "") zs) = sgs zs := join_sgs zs
theorem signsL_ok {zs : List Str} {P : List Str → Prop} (l : (zs.map (·.length)).sum ≤ 4000) (p : P (ascT (sgs zs))) : m_signs_in_vL zs P := by
  unfold m_signs_in_vL
  rw [signs_join]
  exact ⟨⟨rfl, by omega⟩, few_len (by rw [len_sgs]; exact l), by rw [len_sgs]; omega, p⟩
theorem signs_ok {zs : List Str} {P : List Str → Prop} (l : (zs.map (·.length)).sum ≤ 4000) (p : P (ascT (sgs zs))) : m_signs_in zs P := signsL_ok l p
theorem are_ok {L : List (Str × Int)} {P : Bool → Prop} (p : P (arePr L)) : m_are_prices L P := by
  unfold m_are_prices
  have e : arePr L = (decide (1 ≤ L.length ∧ L.length ≤ 12) && (L.all fun e => isPiece (.str e.1) && isPrice (.int e.2)) && decide ((sigsP L).length ≤ 4) && (sigsP L).all fun z => (L.lookup z).isSome) := rfl
  by_cases h : 1 ≤ L.length ∧ L.length ≤ 12
  · refine iteF (by simp; omega) ?_
    refine mapW_fn (g := fun e => isPiece (.str e.1) && isPrice (.int e.2)) (fun e m Q q => piece_ok ?_) ?_
    · cases hp : isPiece (.str e.1) with
      | true => rw [hp] at q; exact iteT rfl (price_ok q)
      | false => rw [hp] at q; exact iteF Bool.false_ne_true q
    · have ea : (L.map fun e => isPiece (.str e.1) && isPrice (.int e.2)).all id = L.all fun e => isPiece (.str e.1) && isPrice (.int e.2) := by rw [List.all_map]; rfl
      rw [ea]
      cases ha : L.all fun e => isPiece (.str e.1) && isPrice (.int e.2) with
      | false =>
        refine iteT rfl ?_
        rw [e, ha, Bool.and_false, Bool.false_and, Bool.false_and] at p
        exact p
      | true =>
        refine iteF (by decide) ?_
        have five : ∀ z ∈ L.map (·.1), z.length ≤ 5 := fun z m => by
          obtain ⟨x, mx, rfl⟩ := List.mem_map.mp m
          have := List.all_eq_true.mp ha x mx
          rw [Bool.and_eq_true] at this
          exact (piece_len this.1).2
        have := sum_five five
        rw [List.length_map] at this
        refine signsL_ok (by omega) ?_
        rw [e, ha, decide_eq_true h, Bool.and_true, Bool.true_and] at p
        have e2 : ((ascT (sgs (L.map (·.1)))).map fun z => (L.lookup z).isSome).all id = (sigsP L).all fun z => (L.lookup z).isSome := by rw [List.all_map]; rfl
        show P (decide (((ascT (sgs (L.map (·.1)))).length : Int) ≤ 4) && ((ascT (sgs (L.map (·.1)))).map fun z => (L.lookup z).isSome).all id)
        rw [e2, show decide (((ascT (sgs (L.map (·.1)))).length : Int) ≤ 4) = decide ((sigsP L).length ≤ 4) from decide_eq_decide.mpr ⟨fun h => by have : ((sigsP L).length : Int) ≤ 4 := h; omega, fun h => by show ((sigsP L).length : Int) ≤ 4; omega⟩]
        exact p
  · refine iteT (by simp; omega) ?_
    rw [e, decide_eq_false h, Bool.false_and, Bool.false_and, Bool.false_and] at p
    exact p
/-! ### what a book is made of -/
def longerL (L : List (Str × Int)) : List (Str × Int × Int) := (L.filter fun e => decide ((1 : Int) < (e.1.length : Int))).map fun e => (e.1, (e.1.length : Int), e.2)
def endingL (L : List (Str × Int)) : List (Str × List (Str × Int × Int)) := (sigsP L).map fun s => (s, (longerL L).filter fun e => decide ((Bv.signs e.1).getLast? = some s))
def headingL (L : List (Str × Int)) : List (Str × List (Str × Int × Int)) := (sigsP L).map fun s => (s, (longerL L).filter fun e => decide ((Bv.signs e.1).head? = some s))
def mxL : List Int → Int
  | [] => 0
  | [x] => x
  | x :: y :: r => let m := mxL (y :: r); if m ≤ x then x else m
theorem mxL_spec : ∀ {l : List Int}, l ≠ [] → mxL l ∈ l ∧ ∀ y ∈ l, y ≤ mxL l
  | [], h => absurd rfl h
  | [x], _ => ⟨List.mem_singleton.mpr rfl, fun y m => by rw [List.mem_singleton.mp m]; exact Int.le_refl _⟩
  | x :: y :: r, _ => by
    obtain ⟨h1, h2⟩ := mxL_spec (l := y :: r) (by simp)
    show (if mxL (y :: r) ≤ x then x else mxL (y :: r)) ∈ x :: y :: r ∧ ∀ z ∈ x :: y :: r, z ≤ (if mxL (y :: r) ≤ x then x else mxL (y :: r))
    split
    · next h =>
      refine ⟨List.mem_cons_self .., fun z m => ?_⟩
      rcases List.mem_cons.mp m with rfl | m
      · exact Int.le_refl _
      · exact Int.le_trans (h2 z m) h
    · next h =>
      refine ⟨List.mem_cons_of_mem _ h1, fun z m => ?_⟩
      rcases List.mem_cons.mp m with rfl | m
      · omega
      · exact h2 z m
/-- the book with these prices, which ascend -/
def bookD (L : List (Str × Int)) : BookD := ⟨L, L.map (·.1), sigsP L, mxL (L.map fun e => (e.1.length : Int)), mxL (L.map (·.2)), endingL L, headingL L⟩
theorem nd_bne {α : Type} [DecidableEq α] {xs : List α} (h : xs.Nodup) : (xs.map fun x => x).Nodup := by rw [List.map_id'']; exact h; exact fun _ => rfl
theorem longer_ok {L : List (Str × Int)} {al : List Str} {i : Int} {P : List (Str × List (Str × Int × Int)) → Prop} (g : Str × Int × Int → Option Str) (nd : al.Nodup) (h : ∀ e ∈ longerL L, ∃ s, atI (Bv.signs e.1) i = some s ∧ g e = some s)
    (p : P (al.map fun s => (s, (longerL L).filter fun e => decide (g e = some s)))) : m_longer_pieces L al i P := by
  unfold m_longer_pieces
  show dcM _ _ _ al [] P
  refine dcM_fn (tb := fun _ => true) (kz := fun s => s) (g := fun s => (longerL L).filter fun e => decide (g e = some s)) (fun _ _ Q q => q) (fun _ _ _ Q q => q) (fun s ms _ Q q => ?_) ?_
  · refine lcM_fn (tb := fun e => decide (g e = some s)) (g := fun e => e) (fun e me Q q => ?_) (fun _ _ _ Q q => q) ?_
    · obtain ⟨s', h1, h2⟩ := h e me
      refine ⟨rfl, s', h1, ?_⟩
      rw [h2] at q
      rw [show decide (s' = s) = decide (some s' = some s) from decide_eq_decide.mpr ⟨congrArg some, Option.some.inj⟩]
      exact q
    · rw [List.map_id'']
      exact q
      exact fun _ => rfl
  · rw [List.filter_eq_self.mpr (fun _ _ => rfl), fold_new (nd_bne nd) (fun _ _ h => List.not_mem_nil h), List.nil_append]
    exact p
theorem longer_pos {L : List (Str × Int)} {e : Str × Int × Int} (m : e ∈ longerL L) : 2 ≤ (Bv.signs e.1).length ∧ (e.1, e.2.2) ∈ L ∧ e.2.1 = (e.1.length : Int) := by
  unfold longerL at m
  obtain ⟨x, mx, rfl⟩ := List.mem_map.mp m
  obtain ⟨m1, m2⟩ := List.mem_filter.mp mx
  have := of_decide_eq_true m2
  refine ⟨?_, m1, rfl⟩
  show 2 ≤ (x.1.cps.toList.map sg).length
  rw [List.length_map, str_len]
  omega
theorem at_head {xs : List Str} (h : 1 ≤ xs.length) : ∃ s, atI xs 0 = some s ∧ xs.head? = some s := by
  cases xs with
  | nil => simp at h
  | cons x r => exact ⟨x, atI_nat (j := 0) rfl, rfl⟩
theorem at_end {xs : List Str} (h : 1 ≤ xs.length) : ∃ s, atI xs (-1) = some s ∧ xs.getLast? = some s := by
  have l : xs.length = (xs.length - 1) + 1 := by omega
  refine ⟨xs[xs.length - 1]'(by omega), ?_, ?_⟩
  · rw [atI_last l, List.getElem?_eq_getElem]
  · rw [List.getLast?_eq_getElem?, List.getElem?_eq_getElem]
theorem sigs_nd (L : List (Str × Int)) : (sigsP L).Nodup := nodup_ascT _
theorem len64 {L : List (Str × Int)} (g : arePr L = true) : L.length < 64 := by
  have := good_len g
  omega
theorem sum_good {L : List (Str × Int)} (g : arePr L = true) : ((L.map (·.1)).map (·.length)).sum ≤ 60 := by
  have five : ∀ z ∈ L.map (·.1), z.length ≤ 5 := fun z m => by
    obtain ⟨x, mx, rfl⟩ := List.mem_map.mp m
    exact (piece_len (good_all g x mx).1).2
  have h := sum_five five
  rw [List.length_map] at h
  have := good_len g
  omega
theorem init_ok {L : List (Str × Int)} {P : BookD → Prop} (nd : (L.map (·.1)).Nodup) (g : arePr L = true) (p : P (bookD (sortP L))) : m_Book__init L P := by
  unfold m_Book__init
  refine are_ok ?_
  rw [g]
  refine iteF (by decide) ⟨len64 g, ?_⟩
  have gs : arePr (sortP L) = true := by rw [arePr_sortP nd]; exact g
  refine dcM_fn (tb := fun _ => true) (kz := fun z => z) (g := fun z => (L.lookup z).getD 0) (fun _ _ Q q => q) (fun _ _ _ Q q => q) (fun z mz _ Q q => ?_) ?_
  · obtain ⟨e, me, rfl⟩ := List.mem_map.mp ((sortT_perm _).mem_iff.mp mz)
    have := lookup_nodup nd e me
    rw [this] at q
    exact ⟨e.2, this, q⟩
  · rw [List.filter_eq_self.mpr (fun _ _ => rfl), fold_new (nd_bne ((sortT_perm _).nodup_iff.mpr nd)) (fun _ _ h => List.not_mem_nil h), List.nil_append]
    show m_signs_in ((sortP L).map (·.1)) _
    have ne : sortP L ≠ [] := fun z => by
      have := good_len gs
      rw [z] at this
      simp at this
    have n2 : (sortP L).map (·.2) ≠ [] := fun z => ne (List.map_eq_nil_iff.mp z)
    refine signs_ok (by have := sum_good gs; omega) ?_
    refine maxP_i (m := mxL ((sortP L).map fun e => (e.1.length : Int))) ?_ ?_ ?_
    · have := (mxL_spec (l := (sortP L).map fun e => (e.1.length : Int)) (by simpa using ne)).1
      rw [List.map_map]
      exact this
    · have := (mxL_spec (l := (sortP L).map fun e => (e.1.length : Int)) (by simpa using ne)).2
      rw [List.map_map]
      exact this
    · refine maxP_i (m := mxL ((sortP L).map fun e : Str × Int => e.2)) (mxL_spec n2).1 (mxL_spec n2).2 ?_
      refine longer_ok (fun e => (Bv.signs e.1).getLast?) (sigs_nd _) (fun e me => at_end (by have := (longer_pos me).1; omega)) ?_
      refine longer_ok (fun e => (Bv.signs e.1).head?) (sigs_nd _) (fun e me => at_head (by have := (longer_pos me).1; omega)) ?_
      exact p
theorem result_ok {L : List (Str × Int)} {P : BookD → Prop} (nd : (L.map (·.1)).Nodup) (g : arePr L = true) (p : P (bookD (sortP L))) : m_result L P := by
  unfold m_result
  refine are_ok ?_
  rw [g]
  exact iteF (by decide) (init_ok nd g p)
end Bk

/-! Mb2: least prices of texts -/
namespace Bk
open PySem PySem.Spec PyProof.Rows L2 Gd Bv Mr
/-- prices of a book, ascending -/
structure IsL (L : List (Str × Int)) : Prop where
  nd : (L.map (·.1)).Nodup
  asc : sortP L = L
  good : arePr L = true
theorem IsL.of {L : List (Str × Int)} (nd : (L.map (·.1)).Nodup) (g : arePr L = true) : IsL (sortP L) := ⟨sortP_nodup nd, sortP_id (sortP_asc L) (sortP_nodup nd), by rw [arePr_sortP nd]; exact g⟩
theorem IsL.pos {L : List (Str × Int)} (h : IsL L) : ∀ e ∈ L, 1 ≤ e.1.length := fun e m => (piece_len (good_all h.good e m).1).1
theorem get_at {xs : List Int} {i : Int} {P : Int → Prop} {n : Nat} (l : n < xs.length) (e : i = (n : Int)) (p : P (xs.getD n 0)) : atZ xs i P := atZ_getD 0 e l p
theorem enum_snoc {α : Type} {xs : List α} {pre post : List (Int × α)} {x : Int × α} (h : enumZ xs = pre ++ x :: post) : x.1 = (pre.length : Int) ∧ xs[pre.length]? = some x.2 := by
  have hx : (enumZ xs)[pre.length]? = some x := by
    rw [h, List.getElem?_append_right (Nat.le_refl _), Nat.sub_self]
    rfl
  unfold enumZ at hx
  rw [List.getElem?_map, List.getElem?_zipIdx] at hx
  cases hq : xs[pre.length]? with
  | none => rw [hq] at hx; cases hx
  | some y =>
    rw [hq] at hx
    have := Option.some.inj hx
    rw [← this]
    exact ⟨by show ((0 + pre.length : Nat) : Int) = _; rw [Nat.zero_add], rfl⟩
theorem enum_len {α : Type} (xs : List α) : (enumZ xs).length = xs.length := by
  unfold enumZ
  rw [List.length_map, List.length_zipIdx]
theorem signs_len (z : Str) : (Bv.signs z).length = z.length := by
  show (z.cps.toList.map sg).length = _
  rw [List.length_map, str_len]
theorem signs_at {z : Str} {n : Nat} {s : Str} (h : (Bv.signs z)[n]? = some s) : ∃ c, z.cps.toList[n]? = some c ∧ s = sg c ∧ n < z.length := by
  have h : (z.cps.toList.map sg)[n]? = some s := h
  rw [List.getElem?_map] at h
  cases hc : z.cps.toList[n]? with
  | none => rw [hc] at h; cases h
  | some c =>
    rw [hc] at h
    refine ⟨c, rfl, (Option.some.inj h).symm, ?_⟩
    have := (List.getElem?_eq_some_iff.mp hc).1
    rw [str_len] at this
    exact this
theorem last_app {α : Type} {xs ys : List α} (h : ys ≠ []) : (xs ++ ys).getLast? = ys.getLast? := by
  rw [List.getLast?_append]
  cases hq : ys.getLast? with
  | none => exact absurd (List.getLast?_eq_none_iff.mp hq) h
  | some y => rfl
/-- what ends with a piece ends with its last sign -/
theorem ends_sig {z y : Str} {n c : Nat} (hc : z.cps.toList[n]? = some c) (h : Txt.endswith (pre z (n + 1)) y = true) (l : 1 ≤ y.length) : (Bv.signs y).getLast? = some (sg c) := by
  obtain ⟨x, e⟩ := ends_iff.mp h
  have e2 : (pre z (n + 1)).cps.toList = (x ++ y).cps.toList := by rw [e]
  rw [pre_list, app_list] at e2
  have e3 := congrArg List.getLast? e2
  have ny : y.cps.toList ≠ [] := fun z => by
    have := str_len y
    rw [z] at this
    simp at this
    omega
  rw [last_app ny, List.take_add_one, hc] at e3
  show (y.cps.toList.map sg).getLast? = _
  rw [List.getLast?_map, ← e3]
  simp
theorem lookup_fn {α β : Type} [DecidableEq α] {f : α → β} {x : α} : ∀ {xs : List α}, x ∈ xs → (xs.map fun s => (s, f s)).lookup x = some (f x)
  | y :: r, m => by
    rw [List.map_cons, List.lookup_cons]
    by_cases h : x = y
    · subst h
      rw [beq_self_eq_true]
    · rw [show (x == y) = false from beq_eq_false_iff_ne.mpr h]
      exact lookup_fn ((List.mem_cons.mp m).resolve_left h)
theorem begin_ok {L : List (Str × Int)} (h : IsL L) {z : Str} (cov : Cov L z) (sz : z.length < 16777216) {P : List Int → Prop} (p : P (leastL L z z.length)) : m_prices_of_beginnings (bookD L) z P := by
  unfold m_prices_of_beginnings m_Book_prices
  show forN _ (enumZ (Bv.signs z)) [0] _
  refine forN_inv (fun pre s => s = leastL L z pre.length) rfl (fun pre it post s hs is Q q => ?_) (fun s is => ?_)
  · subst is
    obtain ⟨e1, e2⟩ := enum_snoc hs
    obtain ⟨c, hc, es, lt⟩ := signs_at e2
    have q : ∀ s', s' = leastL L z (pre.length + 1) → Q s' := fun s' e => q s' (by rw [List.length_append]; exact e)
    generalize pre.length = n at *
    have ll := leastL_len L z n
    have mc : sg c ∈ L.map (·.1) := cov c (List.mem_of_getElem? hc)
    obtain ⟨es0, ms0, ees⟩ := List.mem_map.mp mc
    have hv : L.lookup (sg c) = some es0.2 := by
      rw [← ees]
      exact lookup_nodup h.nd es0 ms0
    have hsig : sg c ∈ sigsP L := mem_sigs.mpr ⟨sg c, mc, c, by show c ∈ [c]; exact List.mem_singleton.mpr rfl, rfl⟩
    show atZ (leastL L z n) it.1 _
    refine get_at (n := n) (by omega) e1 ?_
    rw [es]
    refine atD_i hv ?_
    refine atD_i (show (endingL L).lookup (sg c) = some ((longerL L).filter fun e => decide ((Bv.signs e.1).getLast? = some (sg c))) from lookup_fn (f := fun s => (longerL L).filter fun e : Str × Int × Int => decide ((Bv.signs e.1).getLast? = some s)) hsig) ?_
    have base : (leastL L z n).getD n 0 + es0.2 ∈ costsP L z (leastL L z n) (n + 1) := by
      unfold costsP lastP
      refine List.mem_map.mpr ⟨es0, List.mem_filter.mpr ⟨ms0, ?_⟩, ?_⟩
      · rw [ees]
        exact ends_sign hc
      · rw [ees]
        show (leastL L z n).getD (n + 1 - 1) 0 + _ = _
        rw [Nat.add_sub_cancel]
    refine forN_inv (fun pre2 b => b ∈ costsP L z (leastL L z n) (n + 1) ∧ b ≤ (leastL L z n).getD n 0 + es0.2 ∧ ∀ e ∈ pre2, Txt.endswith (Gd.pre z (n + 1)) e.1 = true → b ≤ (leastL L z n).getD (n + 1 - e.1.length) 0 + e.2.2) ⟨base, Int.le_refl _, fun e m => nomatch m⟩ (fun pre2 e post2 b h2 ib Q2 q2 => ?_) (fun b ib => ?_)
    · obtain ⟨i1, i2, i3⟩ := ib
      have me : e ∈ longerL L := (List.mem_filter.mp (by rw [h2]; exact List.mem_append_right _ List.mem_cons_self)).1
      obtain ⟨l2, mL, el⟩ := longer_pos me
      rw [signs_len] at l2
      have hen : ends4 z e.1 0 (it.1 + 1) = Txt.endswith (Gd.pre z (n + 1)) e.1 := by
        rw [e1]
        exact ends_within z e.1 (n + 1) (by omega)
      show (if ends4 z e.1 0 (it.1 + 1) = true then _ else _)
      rw [hen]
      cases hb : Txt.endswith (Gd.pre z (n + 1)) e.1 with
      | false =>
        refine Mr.iteF Bool.false_ne_true (Mr.iteF Bool.false_ne_true (q2 b ⟨i1, i2, fun x mx hx => ?_⟩))
        rcases List.mem_append.mp mx with mx | mx
        · exact i3 x mx hx
        · rw [List.mem_singleton.mp mx, hb] at hx
          cases hx
      | true =>
        have le := ends_le hb
        rw [pre_len (by omega)] at le
        have cost : (leastL L z n).getD (n + 1 - e.1.length) 0 + e.2.2 ∈ costsP L z (leastL L z n) (n + 1) := List.mem_map.mpr ⟨(e.1, e.2.2), List.mem_filter.mpr ⟨mL, hb⟩, rfl⟩
        refine Mr.iteT rfl ?_
        refine get_at (n := n + 1 - e.1.length) (by omega) (by rw [e1, el]; omega) ?_
        refine Mr.ite2 (fun hlt => ?_) (fun hge => ?_)
        · refine get_at (n := n + 1 - e.1.length) (by omega) (by rw [e1, el]; omega) ?_
          have hlt := of_decide_eq_true hlt
          refine q2 _ ⟨cost, by omega, fun x mx hx => ?_⟩
          rcases List.mem_append.mp mx with mx | mx
          · have := i3 x mx hx
            omega
          · rw [List.mem_singleton.mp mx]
            exact Int.le_refl _
        · have hge : ¬ _ < _ := fun z => hge (decide_eq_true z)
          refine q2 _ ⟨i1, i2, fun x mx hx => ?_⟩
          rcases List.mem_append.mp mx with mx | mx
          · exact i3 x mx hx
          · rw [List.mem_singleton.mp mx]
            omega
    · obtain ⟨i1, i2, i3⟩ := ib
      have isMin : b = minL (costsP L z (leastL L z n) (n + 1)) := minL_is i1 fun y my => by
        obtain ⟨e, me, rfl⟩ := List.mem_map.mp my
        obtain ⟨m1, m2⟩ := List.mem_filter.mp me
        have lp := h.pos e m1
        have sig := ends_sig hc m2 lp
        by_cases l1 : e.1.length = 1
        · have : e.1 = sg c := by
            have : e.1.cps.toList.map sg = [sg c] := by
              have l : (Bv.signs e.1).length = 1 := by rw [signs_len]; exact l1
              match hq : Bv.signs e.1, l with
              | [s], _ =>
                rw [hq] at sig
                have : s = sg c := by simpa using sig
                rw [this] at hq
                exact hq
            exact str_eq_of_lists (by
              cases hq : e.1.cps.toList with
              | nil => rw [hq] at this; cases this
              | cons d r =>
                rw [hq] at this
                cases r with
                | cons _ _ => simp at this
                | nil =>
                  rw [List.map_cons, List.map_nil] at this
                  have := List.head_eq_of_cons_eq this
                  have e2 := congrArg (fun t : Str => t.cps.toList) this
                  exact e2)
          have : e.2 = es0.2 := by
            have h1 := lookup_nodup h.nd e m1
            rw [this, hv] at h1
            exact (Option.some.inj h1).symm
          rw [l1, this, Nat.add_sub_cancel]
          exact i2
        · have me2 : (e.1, (e.1.length : Int), e.2) ∈ longerL L := List.mem_map.mpr ⟨e, List.mem_filter.mpr ⟨m1, decide_eq_true (by omega)⟩, rfl⟩
          exact i3 (e.1, (e.1.length : Int), e.2) (List.mem_filter.mpr ⟨me2, decide_eq_true sig⟩) m2
      subst isMin
      refine ⟨by omega, ?_⟩
      exact q _ rfl
  · subst is
    rw [enum_len, signs_len]
    exact p
theorem least_ok {L : List (Str × Int)} (h : IsL L) {z : Str} (cov : Cov L z) (sz : z.length < 16777216) {P : Int → Prop} (p : P (leastP L z)) : m_least_price (bookD L) z P := by
  unfold m_least_price
  refine begin_ok h cov sz ?_
  have ll := leastL_len L z z.length
  refine atZ_last (x := leastP L z) ll ?_ p
  unfold leastP
  rw [List.getD_eq_getElem?_getD, List.getElem?_eq_getElem (by omega)]
  rfl
end Bk

/-! Mb3: books compared, needless pieces -/
namespace Bk
open PySem PySem.Spec PyProof.Rows L2 Gd Bv Mr
variable {L M : List (Str × Int)}
theorem contains_ok {z : Str} {P : Bool → Prop} (p : P (L.lookup z).isSome) : m_Book__contains (bookD L) z P := by
  unfold m_Book__contains
  rw [Bool.true_and]
  exact p
theorem getitem_ok {z : Str} {v : Int} {P : Int → Prop} (h : L.lookup z = some v) (p : P v) : m_Book__getitem (bookD L) z P := by
  unfold m_Book__getitem
  refine contains_ok ?_
  rw [h]
  exact Mr.iteF (by simp) (atD_i h p)
theorem IsL.ascP (h : IsL L) : AscP L := by
  have := sortP_asc L
  rw [h.asc] at this
  exact this
theorem IsL.sub (h : IsL L) {zs : List Str} (long : ∀ z ∈ zs, 1 < z.length) : IsL (subP L zs) := ⟨subP_nd h.nd, sortP_id (subP_asc h.ascP) (subP_nd h.nd), subP_good h.good long⟩
theorem ascending_ok {zs : List Str} {P : Bool → Prop} (l : zs.length ≤ 4000) (p : P (decide (zs = ascT zs))) : m_is_ascending zs P := ⟨few_len l, by omega, p⟩
theorem sub_ok (h : IsL L) {zs : List Str} (long : ∀ z ∈ zs, 1 < z.length) (mem : ∀ z ∈ zs, z ∈ L.map (·.1)) (asc : zs = ascT zs) (few : zs.length ≤ 4000) {P : BookD → Prop} (p : P (bookD (subP L zs))) : m_Book__sub (bookD L) zs P := by
  unfold m_Book__sub
  refine Mr.iteF (by decide) ?_
  refine mapW_fn (g := fun z => (L.lookup z).isSome) (fun z mz Q q => contains_ok (by rw [Bool.bne_false]; exact q)) ?_
  have all : (zs.map fun z => (L.lookup z).isSome).all id = true := by
    rw [List.all_map, List.all_eq_true]
    exact fun z mz => isSome_mem.mpr (mem z mz)
  rw [all]
  refine Mr.iteF (by decide) (ascending_ok few ?_)
  rw [decide_eq_true asc]
  refine Mr.iteF (by decide) ?_
  show dcM _ _ _ ((L.map (·.1)).filter fun z => !decide (z ∈ zs)) [] _
  refine dcM_fn (tb := fun _ => true) (kz := fun z => z) (g := fun z => (L.lookup z).getD 0) (fun _ _ Q q => q) (fun _ _ _ Q q => q) (fun z mz _ Q q => ?_) ?_
  · obtain ⟨e, me, rfl⟩ := List.mem_map.mp (List.mem_filter.mp mz).1
    have := lookup_nodup h.nd e me
    rw [this] at q
    exact atD_i this q
  · rw [List.filter_eq_self.mpr (fun _ _ => rfl), fold_new (nd_bne (h.nd.filter _)) (fun _ _ h => List.not_mem_nil h), List.nil_append]
    rw [subP_vals h.nd]
    have s := h.sub long
    refine result_ok s.nd s.good ?_
    rw [s.asc]
    exact p
theorem check_ok {b : BookD} {P : Unit → Prop} (p : P ()) : m_check_book b P := Mr.iteF (by decide) p
/-- a piece of several signs in other pieces -/
theorem cov_one (h : IsL L) {zs : List Str} (long : ∀ z ∈ zs, 1 < z.length) {e : Str × Int} (me : e ∈ L) : Cov (subP L zs) e.1 := cov_sub h.good long me
theorem short (h : IsL L) {e : Str × Int} (me : e ∈ L) : e.1.length ≤ 5 := (piece_len (good_all h.good e me).1).2
theorem one_long {z : Str} (h : 1 < z.length) : ∀ y ∈ [z], 1 < y.length := fun y m => by rw [List.mem_singleton.mp m]; exact h
theorem ndl_eq (nd : (L.map (·.1)).Nodup) : (((L.map (·.1)).filter fun z => decide ((1 : Int) < (z.length : Int))).filter fun z => decide (leastP (subP L [z]) z ≤ (L.lookup z).getD 0)) = ndl L := by
  unfold ndl
  rw [List.filter_filter]
  have e : L.filter (isNd L) = L.filter ((fun z => decide (leastP (subP L [z]) z ≤ (L.lookup z).getD 0) && decide ((1 : Int) < (z.length : Int))) ∘ fun e => e.1) := by
    refine List.filter_congr fun e me => ?_
    unfold isNd
    show _ = (decide (leastP (subP L [e.1]) e.1 ≤ (L.lookup e.1).getD 0) && decide ((1 : Int) < (e.1.length : Int)))
    rw [lookup_nodup nd e me, Bool.and_comm]
    congr 1
    exact decide_eq_decide.mpr ⟨fun h => by omega, fun h => by omega⟩
  rw [e, List.filter_map]
theorem needless_ok (h : IsL L) {P : List Str → Prop} (p : P (ndl L)) : m_needless (bookD L) P := by
  unfold m_needless
  refine check_ok ?_
  show lcM _ _ ((L.map (·.1)).filter fun z => decide ((1 : Int) < (z.length : Int))) _
  refine lcM_fn (tb := fun z => decide (leastP (subP L [z]) z ≤ (L.lookup z).getD 0)) (g := fun z => z) (fun z mz Q q => ?_) (fun _ _ _ Q q => q) ?_
  · obtain ⟨m1, m2⟩ := List.mem_filter.mp mz
    have long : 1 < z.length := by have := of_decide_eq_true m2; omega
    obtain ⟨e, me, rfl⟩ := List.mem_map.mp m1
    refine sub_ok h (one_long long) (fun y my => by rw [List.mem_singleton.mp my]; exact m1) (one_asc e.1) (by simp) ?_
    refine least_ok (h.sub (one_long long)) (cov_one h (one_long long) me) (by have := short h me; omega) ?_
    refine getitem_ok (lookup_nodup h.nd e me) ?_
    rw [lookup_nodup h.nd e me] at q
    exact q
  · rw [List.map_id'' (fun _ => rfl), ndl_eq h.nd]
    exact p
theorem ndl_mem : ∀ z ∈ ndl L, z ∈ L.map (·.1) := fun z m => (ndl_sub L).subset m
theorem ndl_few (h : IsL L) : (ndl L).length ≤ 12 := by
  have := (ndl_sub L).length_le
  rw [List.length_map] at this
  have := good_len h.good
  omega
theorem least_book_ok (h : IsL L) {P : BookD → Prop} (p : P (bookD (subP L (ndl L)))) : m_least_book (bookD L) P := by
  unfold m_least_book
  exact needless_ok h (sub_ok h ndl_long ndl_mem (ndl_asc h.ascP h.nd) (by have := ndl_few h; omega) p)
/-- the first piece of M that costs more by L -/
def dearO (L M : List (Str × Int)) : Option Str := (M.find? fun e => decide (e.2 < leastP L e.1)).map (·.1)
theorem dearO_none : dearO L M = none ↔ ∀ e ∈ M, leastP L e.1 ≤ e.2 := by
  unfold dearO
  rw [Option.map_eq_none_iff, List.find?_eq_none]
  exact ⟨fun h e m => Int.not_lt.mp fun lt => h e m (decide_eq_true lt), fun h e m q => absurd (of_decide_eq_true q) (Int.not_lt.mpr (h e m))⟩
theorem dearO_is (nd : (M.map (·.1)).Nodup) : (dearO L M = none ↔ dearer L M = .non) := dearO_none.trans dearer_non.symm
theorem books_ok (same : sigsP L = sigsP M) {P : Unit → Prop} (p : P ()) : m_check_books (bookD L) (bookD M) P := by
  unfold m_check_books
  refine check_ok (check_ok ?_)
  unfold m_Book_alphabet
  show (if (!decide (sigsP L = sigsP M)) = true then False else P ())
  rw [decide_eq_true same]
  exact Mr.iteF (by decide) p
theorem cov_other (hL : IsL L) (hM : IsL M) (same : sigsP L = sigsP M) {e : Str × Int} (me : e ∈ M) : Cov L e.1 := sign_in hL.good same me
theorem dearer_ok (hL : IsL L) (hM : IsL M) (same : sigsP L = sigsP M) {P : Option Str → Prop} (p : P (dearO L M)) : m_dearer_piece (bookD L) (bookD M) P := by
  unfold m_dearer_piece
  refine books_ok same ?_
  show forL _ (M.map (·.1)) () _
  have find : ∀ pre post, M = pre ++ post → (∀ e ∈ pre, ¬ e.2 < leastP L e.1) → dearO L M = (post.find? fun e => decide (e.2 < leastP L e.1)).map (·.1) := fun pre post e h => by
    unfold dearO
    rw [e, List.find?_append, List.find?_eq_none.mpr fun x m => by rw [decide_eq_false (h x m)]; exact Bool.false_ne_true]
    rfl
  have aux : ∀ post pre, M = pre ++ post → (∀ e ∈ pre, ¬ e.2 < leastP L e.1) → forL (fun piece_3 (s_2 : Unit) (P : Stp Unit (Option Str) → Prop) => m_least_price (bookD L) piece_3 fun r_4 => m_Book__getitem (bookD M) piece_3 fun x_5 => (if (decide (x_5 < r_4)) = true then P (.rt (some piece_3)) else P (.nx ()))) (post.map (·.1)) () (Sum.elim (fun s_2 => P none) P) := by
    intro post
    induction post with
    | nil =>
      intro pre e h
      have := find pre [] e h
      rw [this] at p
      exact p
    | cons x post ih =>
      intro pre e h
      have mx : x ∈ M := by rw [e]; exact List.mem_append_right _ List.mem_cons_self
      refine least_ok hL (cov_other hL hM same mx) (by have := short hM mx; omega) (getitem_ok (lookup_nodup hM.nd x mx) ?_)
      refine Mr.ite2 (fun c => ?_) (fun c => ?_)
      · have := find pre _ e h
        rw [List.find?_cons, c] at this
        rw [this] at p
        exact p
      · refine ih (pre ++ [x]) (by rw [e, List.append_assoc]; rfl) fun y my => ?_
        rcases List.mem_append.mp my with my | my
        · exact h y my
        · rw [List.mem_singleton.mp my]
          exact fun lt => c (decide_eq_true lt)
  exact aux M [] rfl (fun _ m => nomatch m)
theorem nowhere_ok (hL : IsL L) (hM : IsL M) (same : sigsP L = sigsP M) {P : Bool → Prop} (p : P (dearO L M).isNone) : m_is_nowhere_dearer (bookD L) (bookD M) P := dearer_ok hL hM same p
theorem cheap_ok (hL : IsL L) (hM : IsL M) (same : sigsP L = sigsP M) {P : Bool → Prop} (p : P ((dearO L M).isNone && (dearO M L).isNone)) : m_are_as_cheap (bookD L) (bookD M) P := by
  unfold m_are_as_cheap
  refine nowhere_ok hL hM same ?_
  cases h : (dearO L M).isNone with
  | true =>
    rw [h] at p
    exact Mr.iteT rfl (nowhere_ok hM hL same.symm p)
  | false =>
    rw [h] at p
    exact Mr.iteF Bool.false_ne_true p
theorem eqD_eq : eqD L M = eqPr L M := by
  unfold eqD eqPr
  have e : ∀ (a b : Option Int), decide (a = b) = (a == b) := fun a b => by
    by_cases h : a = b
    · rw [decide_eq_true h, h]; exact (beq_self_eq_true b).symm
    · rw [decide_eq_false h]; exact (beq_eq_false_iff_ne.mpr h).symm
  have e2 : decide (L.length = M.length) = (L.length == M.length) := by
    by_cases h : L.length = M.length
    · rw [decide_eq_true h, h]; exact (beq_self_eq_true _).symm
    · rw [decide_eq_false h]; exact (beq_eq_false_iff_ne.mpr h).symm
  rw [e2]
  congr 2
  funext p
  exact e _ _
theorem eqD_iff (hL : IsL L) (hM : IsL M) : eqD L M = decide (L = M) := by
  rw [eqD_eq]
  by_cases h : L = M
  · rw [decide_eq_true h, (eqPr_iff hL.nd hM.nd).mpr (fun z => by rw [h])]
  · rw [decide_eq_false h]
    refine Bool.eq_false_iff.mpr fun q => h ?_
    exact asc_eq hL.nd hM.nd hL.ascP hM.ascP ((eqPr_iff hL.nd hM.nd).mp q)
theorem eq_ok (hL : IsL L) (hM : IsL M) {P : Bool → Prop} (p : P (decide (L = M))) : m_Book__eq (bookD L) (bookD M) P := by
  unfold m_Book__eq
  show P (true && (eqD L M != false))
  rw [Bool.true_and, Bool.bne_false, eqD_iff hL hM]
  exact p
end Bk

/-! Mb4: texts over a book, fronts -/
namespace Bk
open PySem PySem.Spec PyProof.Rows L2 Gd Bv Mr
variable {L M : List (Str × Int)}
/-- a text over the prices' letters -/
theorem cov_sigs {z : Str} (cov : Cov L z) : ∀ s ∈ Bv.signs z, s ∈ sigsP L := fun s m => by
  obtain ⟨c, mc, e⟩ := List.mem_map.mp (show s ∈ z.cps.toList.map sg from m)
  subst e
  exact mem_sigs.mpr ⟨sg c, cov c mc, c, List.mem_singleton.mpr rfl, rfl⟩
theorem uniq_few (h : IsL L) {z : Str} (cov : Cov L z) : (uniq (Bv.signs z)).length ≤ 4 := by
  have := nodup_le (nodup_uniq (Bv.signs z)) (xs := sigsP L) fun k m => cov_sigs cov k (mem_uniq.mp m)
  have := good_sigs h.good
  omega
theorem accepts_ok (h : IsL L) {z : Str} (cov : Cov L z) (sz : z.length ≤ 8000) {P : Bool → Prop} (p : P true) : m_Book_accepts (bookD L) z P := by
  unfold m_Book_accepts
  refine Mr.iteF (by simp; omega) ?_
  have u := uniq_few h cov
  show FewU _ ∧ FewU (sigsP L) ∧ (uniq (Bv.signs z)).length / 4 ≤ (uniq (sigsP L)).length ∧ P (decide (((uniq ((Bv.signs z).filter fun z => !decide (z ∈ sigsP L))).length : Int) = 0))
  have g := good_sigs h.good
  refine ⟨by unfold FewU; omega, few_len (by omega), ?_, ?_⟩
  · by_cases e : uniq (Bv.signs z) = []
    · rw [e]; simp
    · have : 1 ≤ (uniq (sigsP L)).length := by
        cases q : uniq (Bv.signs z) with
        | nil => exact absurd q e
        | cons x r =>
          have mx : x ∈ uniq (sigsP L) := mem_uniq.mpr (cov_sigs cov x (mem_uniq.mp (by rw [q]; exact List.mem_cons_self)))
          exact List.length_pos_of_mem mx
      omega
  · have : (Bv.signs z).filter (fun z => !decide (z ∈ sigsP L)) = [] := by
      rw [List.filter_eq_nil_iff]
      intro s m
      rw [decide_eq_true (cov_sigs cov s m)]
      decide
    rw [this]
    exact p
theorem check_text_ok (h : IsL L) {z : Str} (cov : Cov L z) (sz : z.length ≤ 8000) {P : Unit → Prop} (p : P ()) : m_check_text (bookD L) z P := by
  unfold m_check_text
  exact accepts_ok h cov sz (Mr.iteF (by decide) p)
theorem check_sign_ok {s : Str} (m : s ∈ sigsP L) {P : Unit → Prop} (p : P ()) : m_check_sign (bookD L) s P := by
  unfold m_check_sign m_Book_alphabet
  show (if (!decide (s ∈ sigsP L)) = true then False else P ())
  rw [decide_eq_true m]
  exact Mr.iteF (by decide) p
/-! ### how wide a book is -/
def wd (L : List (Str × Int)) : Nat := (mxL (L.map fun e => (e.1.length : Int))).toNat
theorem wd_spec (h : IsL L) : mxL (L.map fun e => (e.1.length : Int)) = (wd L : Int) ∧ 1 ≤ wd L ∧ wd L ≤ 5 ∧ ∀ e ∈ L, e.1.length ≤ wd L := by
  have ne : L.map (fun e : Str × Int => (e.1.length : Int)) ≠ [] := fun e => by
    have := good_len h.good
    rw [List.map_eq_nil_iff.mp e] at this
    simp at this
  obtain ⟨h1, h2⟩ := mxL_spec ne
  obtain ⟨e, me, q⟩ := List.mem_map.mp h1
  have l := piece_len (good_all h.good e me).1
  have w : mxL (L.map fun e => (e.1.length : Int)) = (wd L : Int) := by unfold wd; omega
  refine ⟨w, by omega, by omega, fun e' m' => ?_⟩
  have := h2 _ (List.mem_map.mpr ⟨e', m', rfl⟩)
  omega
theorem atZ_neg {α : Type} {xs : List α} {i : Int} {j : Nat} {x : α} {P : α → Prop} (h : i < 0) (e : i + (xs.length : Int) = (j : Int)) (hx : xs[j]? = some x) (p : P x) : atZ xs i P := by
  refine ⟨x, ?_, p⟩
  unfold atI ixN
  rw [if_neg (by omega), if_pos (by omega)]
  show xs[(i + (xs.length : Int)).toNat]? = _
  rw [e]
  exact hx
/-- the front of a text -/
def rowL (L : List (Str × Int)) (z : Str) (n : Nat) : List Int := (List.range n).map fun k => leastP L (Gd.pre z (z.length - (k + 1))) - leastP L z
def frontL (L : List (Str × Int)) (z : Str) : Str × List Int := (suf z (z.length - min z.length (wd L - 1)), rowL L z (min z.length (wd L - 1)))
theorem leastL_get (L : List (Str × Int)) {z : Str} {n : Nat} (h : n ≤ z.length) : (leastL L z z.length)[n]? = some (leastP L (Gd.pre z n)) := by
  have l := leastL_len L z z.length
  rw [leastP_pre L h, ← leastL_at L z h, List.getD_eq_getElem?_getD, List.getElem?_eq_getElem (by omega)]
  rfl
theorem behind_ok (h : IsL L) {z : Str} (cov : Cov L z) (sz : z.length ≤ 1000000) {P : Str × List Int → Prop} (p : P (frontL L z)) : m_front_behind (bookD L) z P := by
  unfold m_front_behind
  obtain ⟨w1, w2, w3, w4⟩ := wd_spec h
  refine begin_ok h cov (by omega) ?_
  unfold m_Book_longest
  show rangeOk 1 (minZ (z.length : Int) (mxL (L.map fun e => (e.1.length : Int)) - 1) + 1) ∧ _
  have mn : minZ (z.length : Int) (mxL (L.map fun e => (e.1.length : Int)) - 1) = ((min z.length (wd L - 1) : Nat) : Int) := by
    rw [w1]
    unfold minZ
    split <;> omega
  show rangeOk 1 _ ∧ mapW _ (rangeZ 1 (minZ (z.length : Int) (mxL (L.map fun e => (e.1.length : Int)) - 1) + 1)) fun l => P (cutS z (some ((z.length : Int) - minZ (z.length : Int) (mxL (L.map fun e => (e.1.length : Int)) - 1))) none, l)
  rw [mn]
  generalize hk : min z.length (wd L - 1) = k
  refine ⟨⟨⟨⟨by omega, by omega⟩, ⟨by omega, by omega⟩⟩, by omega⟩, ?_⟩
  have ll := leastL_len L z z.length
  refine mapW_fn (g := fun b => leastP L (Gd.pre z (z.length - b.toNat)) - leastP L z) (fun b mb Q q => ?_) ?_
  · obtain ⟨i, hi, rfl⟩ := List.mem_map.mp mb
    have hi := List.mem_range.mp hi
    refine atZ_neg (j := z.length - (i + 1)) (by omega) (by omega) (leastL_get L (by omega)) ?_
    refine atZ_neg (j := z.length) (by omega) (by omega) (leastL_get L (Nat.le_refl _)) ?_
    rw [pre_all]
    rw [show (1 + (i : Int)).toNat = i + 1 by omega] at q
    exact q
  · have e1 : ((z.length : Int) - (k : Int)) = ((z.length - k : Nat) : Int) := by omega
    rw [e1]
    have e2 : (rangeZ 1 ((k : Int) + 1)).map (fun b => leastP L (Gd.pre z (z.length - b.toNat)) - leastP L z) = rowL L z k := by
      unfold rangeZ rowL
      rw [List.map_map, show ((k : Int) + 1 - 1).toNat = k by omega]
      refine List.map_congr_left fun i _ => ?_
      show leastP L (Gd.pre z (z.length - (1 + (i : Int)).toNat)) - _ = _
      rw [show (1 + (i : Int)).toNat = i + 1 by omega]
    rw [e2]
    have p : P (frontL L z) := p
    unfold frontL at p
    rw [hk] at p
    exact p
theorem front_of_ok (h : IsL L) {z : Str} (cov : Cov L z) (sz : z.length ≤ 8000) {P : Str × List Int → Prop} (p : P (frontL L z)) : m_front_of (bookD L) z P := by
  unfold m_front_of
  exact check_ok (check_text_ok h cov sz (behind_ok h cov (by omega) p))
/-! ### a step -/
def chgs (L : List (Str × Int)) (f : Str × List Int) (s : Str) : List Int := (L.filter fun e => Txt.endswith (f.1 ++ s) e.1).map fun e => e.2 + (0 :: f.2).getD (e.1.length - 1) 0
def stepL (L : List (Str × Int)) (f : Str × List Int) (s : Str) : (Str × List Int) × Int :=
  ((suf (f.1 ++ s) ((f.1 ++ s).length - min (f.1 ++ s).length (wd L - 1)), ((0 :: f.2).map fun x => x - minL (chgs L f s)).take (min (f.1 ++ s).length (wd L - 1))), minL (chgs L f s))
/-- the form of a front -/
structure IsF (L : List (Str × Int)) (f : Str × List Int) : Prop where
  cov : Cov L f.1
  len : f.2.length = f.1.length
  few : f.1.length < wd L
  small : ∀ x ∈ f.2, -(10 ^ 60 : Int) < x ∧ x < (10 ^ 60 : Int)
theorem form_ok (h : IsL L) {f : Str × List Int} (k : IsF L f) {P : Bool → Prop} (p : P true) : m_has_form_of_front (bookD L) f P := by
  unfold m_has_form_of_front
  obtain ⟨w1, w2, w3, w4⟩ := wd_spec h
  have few := k.few
  refine Mr.iteF (by decide) ?_
  refine accepts_ok h k.cov (by omega) (Mr.iteF (by decide) ?_)
  unfold m_Book_longest
  show (if decide (mxL (L.map fun e => (e.1.length : Int)) ≤ (f.1.length : Int)) = true then P false else _)
  rw [w1]
  refine Mr.iteF (by rw [decide_eq_false (by omega)]; exact Bool.false_ne_true) ?_
  refine Mr.iteF (by rw [k.len]; simp) ?_
  unfold m_are_integers
  refine forL_inv (fun _ _ => True) (fun _ => False) (fun _ => False) trivial (fun pre x post _ e _ Q q _ _ => ?_) (fun _ _ => p) (fun _ q => q.elim) (fun _ q => q.elim)
  have := k.small x (by rw [e]; exact List.mem_append_right _ List.mem_cons_self)
  refine Mr.iteF ?_ (q () trivial)
  rw [decide_eq_true rfl, decide_eq_true this.1, decide_eq_true this.2]
  decide
end Bk

/-! Mb5: a step of a front -/
namespace Bk
open PySem PySem.Spec PyProof.Rows L2 Gd Bv Mr
variable {L M : List (Str × Int)}
theorem cutL_take {α : Type} {xs : List α} {i : Int} {k : Nat} (e : i = (k : Int)) : cutL xs none (some i) = xs.take k := by
  subst e
  unfold cutL
  have h0 : HT.sIx xs.length 0 none = 0 := rfl
  rw [h0, sIx_n, List.drop_zero, Nat.sub_zero]
  by_cases h : k ≤ xs.length
  · rw [Nat.min_eq_left h]
  · rw [List.take_of_length_le (by omega), List.take_of_length_le (by omega)]
theorem suf_list (z : Str) (i : Nat) : (suf z i).cps.toList = z.cps.toList.drop i := by
  unfold suf
  rw [cutS_list, sIx_n]
  have h0 : HT.sIx z.length z.length none = z.length := rfl
  rw [h0]
  by_cases h : i ≤ z.length
  · rw [Nat.min_eq_left h, List.take_of_length_le (by rw [List.length_drop, str_len]; exact Nat.le_refl _)]
  · rw [Nat.min_eq_right (by omega), List.drop_of_length_le (by rw [str_len]; exact Nat.le_refl _), List.drop_of_length_le (by rw [str_len]; omega), List.take_nil]
theorem suf_len (z : Str) (i : Nat) : (suf z i).length = z.length - i := by rw [← str_len, suf_list, List.length_drop, str_len]
theorem suf_zero (z : Str) : suf z 0 = z := str_eq_of_lists (by rw [suf_list, List.drop_zero])
theorem suf_suf (z : Str) (i j : Nat) : suf (suf z i) j = suf z (i + j) := str_eq_of_lists (by rw [suf_list, suf_list, suf_list, List.drop_drop])
theorem suf_app {x y : Str} {j : Nat} (h : j ≤ x.length) : suf (x ++ y) j = suf x j ++ y := str_eq_of_lists (by
  rw [suf_list, app_list, app_list, suf_list, List.drop_append_of_le_length (by rw [str_len]; exact h)])
theorem pre_suf (z : Str) {i : Nat} (h : i ≤ z.length) : z = Gd.pre z i ++ suf z i := by
  have := pre_seg (z := z) h (Nat.le_refl _)
  rw [pre_all, ← suf_seg] at this
  exact this
theorem ends_suf {z y : Str} {i : Nat} (h : i ≤ z.length) (l : y.length ≤ z.length - i) : Txt.endswith (suf z i) y = Txt.endswith z y := by
  refine Bool.eq_iff_iff.mpr ⟨fun e => ?_, fun e => ?_⟩
  · obtain ⟨x, ex⟩ := ends_iff.mp e
    refine ends_iff.mpr ⟨Gd.pre z i ++ x, ?_⟩
    rw [app_assoc, ← ex]
    exact pre_suf z h
  · obtain ⟨x, ex⟩ := ends_iff.mp e
    refine ends_iff.mpr ⟨suf x i, ?_⟩
    have := congrArg (fun z : Str => z.length) ex
    rw [ex]
    refine suf_app ?_
    have this : z.length = (x ++ y).length := this
    rw [app_len] at this
    omega
theorem one_sig {y : Str} {c : Nat} (l : y.length = 1) (sig : (Bv.signs y).getLast? = some (sg c)) : y = sg c := by
  have : y.cps.toList.map sg = [sg c] := by
    have l : (Bv.signs y).length = 1 := by rw [signs_len]; exact l
    match hq : Bv.signs y, l with
    | [s], _ =>
      rw [hq] at sig
      have : s = sg c := by simpa using sig
      rw [this] at hq
      exact hq
  exact str_eq_of_lists (by
    cases hq : y.cps.toList with
    | nil => rw [hq] at this; cases this
    | cons d r =>
      rw [hq] at this
      cases r with
      | cons _ _ => simp at this
      | nil =>
        rw [List.map_cons, List.map_nil] at this
        have := List.head_eq_of_cons_eq this
        have e2 := congrArg (fun t : Str => t.cps.toList) this
        exact e2)
theorem minZ_spec (a b : Int) : minZ a b ≤ a ∧ minZ a b ≤ b ∧ (minZ a b = a ∨ minZ a b = b) := by
  unfold minZ
  split <;> omega
theorem keep_nat (h : IsL L) (z : Str) : minZ (z.length : Int) (mxL (L.map fun e => (e.1.length : Int)) - 1) = ((min z.length (wd L - 1) : Nat) : Int) := by
  obtain ⟨w1, w2, w3, w4⟩ := wd_spec h
  rw [w1]
  unfold minZ
  split <;> omega
theorem step_ok (h : IsL L) {f : Str × List Int} (k : IsF L f) {c : Nat} (hs : sg c ∈ L.map (·.1)) {P : (Str × List Int) × Int → Prop} (p : P (stepL L f (sg c))) : m_front_step (bookD L) f (sg c) P := by
  obtain ⟨x, r⟩ := f
  unfold m_front_step
  obtain ⟨w1, w2, w3, w4⟩ := wd_spec h
  have few : x.length < wd L := k.few
  have len : r.length = x.length := k.len
  obtain ⟨es0, ms0, ees⟩ := List.mem_map.mp hs
  have hv : L.lookup (sg c) = some es0.2 := by
    rw [← ees]
    exact lookup_nodup h.nd es0 ms0
  have hsig : sg c ∈ sigsP L := mem_sigs.mpr ⟨sg c, hs, c, by show c ∈ [c]; exact List.mem_singleton.mpr rfl, rfl⟩
  have l1 : (x ++ sg c).length = x.length + 1 := by rw [app_len]; rfl
  have hc : (x ++ sg c).cps.toList[x.length]? = some c := by
    rw [app_list, List.getElem?_append_right (by rw [str_len]; exact Nat.le_refl _), str_len, Nat.sub_self]
    rfl
  have pa : Gd.pre (x ++ sg c) (x.length + 1) = x ++ sg c := by rw [← l1]; exact pre_all _
  show x.length + (sg c).length ≤ 16777216 ∧ m_Book__getitem (bookD L) (sg c) _
  refine ⟨by show x.length + 1 ≤ _; omega, getitem_ok hv ?_⟩
  refine atD_i (show (endingL L).lookup (sg c) = some ((longerL L).filter fun e => decide ((Bv.signs e.1).getLast? = some (sg c))) from lookup_fn (f := fun s => (longerL L).filter fun e : Str × Int × Int => decide ((Bv.signs e.1).getLast? = some s)) hsig) ?_
  have base : es0.2 ∈ chgs L (x, r) (sg c) := by
    refine List.mem_map.mpr ⟨es0, List.mem_filter.mpr ⟨ms0, ?_⟩, ?_⟩
    · have := ends_sign hc
      rw [pa] at this
      rw [ees]
      exact this
    · rw [ees]
      show es0.2 + 0 = _
      omega
  refine forN_inv (fun pre2 b => b ∈ chgs L (x, r) (sg c) ∧ b ≤ es0.2 ∧ ∀ e ∈ pre2, Txt.endswith (x ++ sg c) e.1 = true → b ≤ e.2.2 + (0 :: r).getD (e.1.length - 1) 0) ⟨base, Int.le_refl _, fun e m => nomatch m⟩ (fun pre2 e post2 b h2 ib Q q => ?_) (fun b ib => ?_)
  · obtain ⟨i1, i2, i3⟩ := ib
    have me : e ∈ longerL L := (List.mem_filter.mp (by rw [h2]; exact List.mem_append_right _ List.mem_cons_self)).1
    obtain ⟨l2, mL, el⟩ := longer_pos me
    rw [signs_len] at l2
    refine Mr.ite2 (fun hb => ?_) (fun hb => ?_)
    · have le := ends_le hb
      rw [l1] at le
      have hd : (0 :: r).getD (e.1.length - 1) 0 = r.getD (e.1.length - 2) 0 := by
        rw [show e.1.length - 1 = (e.1.length - 2) + 1 by omega]
        rfl
      refine get_at (n := e.1.length - 2) (by show _ < r.length; omega) (by rw [el]; omega) ?_
      show Q (minZ b (e.2.2 + r.getD (e.1.length - 2) 0))
      rw [← hd]
      have cost : e.2.2 + (0 :: r).getD (e.1.length - 1) 0 ∈ chgs L (x, r) (sg c) := List.mem_map.mpr ⟨(e.1, e.2.2), List.mem_filter.mpr ⟨mL, hb⟩, rfl⟩
      obtain ⟨m1, m2, m3⟩ := minZ_spec b (e.2.2 + (0 :: r).getD (e.1.length - 1) 0)
      refine q _ ⟨?_, by omega, fun y my hy => ?_⟩
      · rcases m3 with e3 | e3
        · rw [e3]; exact i1
        · rw [e3]; exact cost
      · rcases List.mem_append.mp my with my | my
        · have := i3 y my hy
          omega
        · rw [List.mem_singleton.mp my]
          exact m2
    · refine q b ⟨i1, i2, fun y my hy => ?_⟩
      rcases List.mem_append.mp my with my | my
      · exact i3 y my hy
      · rw [List.mem_singleton.mp my] at hy
        exact absurd hy hb
  · obtain ⟨i1, i2, i3⟩ := ib
    have isMin : b = minL (chgs L (x, r) (sg c)) := minL_is i1 fun y my => by
      obtain ⟨e, me, rfl⟩ := List.mem_map.mp my
      obtain ⟨m1, m2⟩ := List.mem_filter.mp me
      have m2 : Txt.endswith (x ++ sg c) e.1 = true := m2
      have lp := h.pos e m1
      have sig := ends_sig hc (by rw [pa]; exact m2) lp
      by_cases q1 : e.1.length = 1
      · have e1 := one_sig q1 sig
        have : e.2 = es0.2 := by
          have h1 := lookup_nodup h.nd e m1
          rw [e1, hv] at h1
          exact (Option.some.inj h1).symm
        rw [q1, this]
        show b ≤ es0.2 + 0
        omega
      · have me2 : (e.1, (e.1.length : Int), e.2) ∈ longerL L := List.mem_map.mpr ⟨e, List.mem_filter.mpr ⟨m1, decide_eq_true (by omega)⟩, rfl⟩
        exact i3 (e.1, (e.1.length : Int), e.2) (List.mem_filter.mpr ⟨me2, decide_eq_true sig⟩) m2
    subst isMin
    unfold m_Book_longest
    show [(-minL (chgs L (x, r) (sg c)))].length + (r.map fun n => n - minL (chgs L (x, r) (sg c))).length ≤ 16777216 ∧ P ((cutS (x ++ sg c) (some (((x ++ sg c).length : Int) - minZ ((x ++ sg c).length : Int) (mxL (L.map fun e => (e.1.length : Int)) - 1))) none, cutL ([(-minL (chgs L (x, r) (sg c)))] ++ r.map fun n => n - minL (chgs L (x, r) (sg c))) none (some (minZ ((x ++ sg c).length : Int) (mxL (L.map fun e => (e.1.length : Int)) - 1)))), minL (chgs L (x, r) (sg c)))
    rw [keep_nat h, cutL_take rfl, show (((x ++ sg c).length : Int) - ((min (x ++ sg c).length (wd L - 1) : Nat) : Int)) = (((x ++ sg c).length - min (x ++ sg c).length (wd L - 1) : Nat) : Int) by omega]
    refine ⟨by rw [List.length_map]; show 1 + r.length ≤ _; omega, ?_⟩
    have e0 : [(-minL (chgs L (x, r) (sg c)))] ++ (r.map fun n => n - minL (chgs L (x, r) (sg c))) = (0 :: r).map fun n => n - minL (chgs L (x, r) (sg c)) := by
      rw [List.map_cons, Int.zero_sub]
      rfl
    rw [e0]
    exact p
theorem next_front_ok (h : IsL L) {f : Str × List Int} (k : IsF L f) {c : Nat} (hs : sg c ∈ L.map (·.1)) {P : (Str × List Int) × Int → Prop} (p : P (stepL L f (sg c))) : m_next_front (bookD L) f (sg c) P := by
  unfold m_next_front
  have hsig : sg c ∈ sigsP L := mem_sigs.mpr ⟨sg c, hs, c, by show c ∈ [c]; exact List.mem_singleton.mpr rfl, rfl⟩
  exact check_ok (form_ok h k (Mr.iteF (by decide) (check_sign_ok hsig (step_ok h k hs p))))
/-! ### a step of a text's front -/
theorem minL_sub {l : List Int} (ne : l ≠ []) (a : Int) : minL (l.map fun v => v - a) = minL l - a := by
  obtain ⟨h1, h2⟩ := minL_spec ne
  refine (minL_is (List.mem_map.mpr ⟨_, h1, rfl⟩) fun y my => ?_).symm
  obtain ⟨v, mv, rfl⟩ := List.mem_map.mp my
  have := h2 v mv
  omega
theorem row0 (L : List (Str × Int)) (z : Str) (k : Nat) : 0 :: rowL L z k = (List.range (k + 1)).map fun j => leastP L (Gd.pre z (z.length - j)) - leastP L z := by
  rw [List.range_succ_eq_map, List.map_cons, List.map_map, Nat.sub_zero, pre_all, Int.sub_self]
  rfl
theorem pre_left {x y : Str} {n : Nat} (h : n ≤ x.length) : Gd.pre (x ++ y) n = Gd.pre x n := by
  have := pre_pre (z := x ++ y) h
  rw [pre_app] at this
  exact this.symm
theorem step_front (h : IsL L) {z : Str} {c : Nat} (hs : sg c ∈ L.map (·.1)) : stepL L (frontL L z) (sg c) = (frontL L (z ++ sg c), leastP L (z ++ sg c) - leastP L z) := by
  obtain ⟨w1, w2, w3, w4⟩ := wd_spec h
  have l1 : (z ++ sg c).length = z.length + 1 := by rw [app_len]; rfl
  have pa : Gd.pre (z ++ sg c) (z.length + 1) = z ++ sg c := by rw [← l1]; exact pre_all _
  have hc : (z ++ sg c).cps.toList[z.length]? = some c := by
    rw [app_list, List.getElem?_append_right (by rw [str_len]; exact Nat.le_refl _), str_len, Nat.sub_self]
    rfl
  have hk : min z.length (wd L - 1) ≤ z.length := Nat.min_le_left _ _
  have f1 : (frontL L z).1 ++ sg c = suf (z ++ sg c) (z.length - min z.length (wd L - 1)) := (suf_app (by omega)).symm
  have chg : chgs L (frontL L z) (sg c) = (costsP L (z ++ sg c) (leastL L (z ++ sg c) z.length) (z.length + 1)).map fun v => v - leastP L z := by
    unfold chgs costsP lastP
    rw [f1, List.map_map, pa]
    have ef : (L.filter fun e => Txt.endswith (suf (z ++ sg c) (z.length - min z.length (wd L - 1))) e.1) = L.filter fun e => Txt.endswith (z ++ sg c) e.1 := List.filter_congr fun e me => by
      have := w4 e me
      by_cases q : z.length ≤ wd L - 1
      · rw [Nat.min_eq_left q, Nat.sub_self, suf_zero]
      · exact ends_suf (by omega) (by omega)
    rw [ef]
    refine List.map_congr_left fun e me => ?_
    obtain ⟨m1, m2⟩ := List.mem_filter.mp me
    have le := ends_le m2
    have lw := w4 e m1
    have lp := h.pos e m1
    show e.2 + (0 :: rowL L z (min z.length (wd L - 1))).getD (e.1.length - 1) 0 = (leastL L (z ++ sg c) z.length).getD (z.length + 1 - e.1.length) 0 + e.2 - leastP L z
    rw [row0, List.getD_eq_getElem?_getD, List.getElem?_map, List.getElem?_range (by omega), leastL_at L _ (by omega), ← leastP_pre L (by omega), pre_left (by omega)]
    show e.2 + (leastP L (Gd.pre z (z.length - (e.1.length - 1))) - leastP L z) = _
    rw [show z.length + 1 - e.1.length = z.length - (e.1.length - 1) by omega]
    omega
  obtain ⟨es0, ms0, ees⟩ := List.mem_map.mp hs
  have ne : costsP L (z ++ sg c) (leastL L (z ++ sg c) z.length) (z.length + 1) ≠ [] := List.ne_nil_of_mem (a := (leastL L (z ++ sg c) z.length).getD (z.length + 1 - es0.1.length) 0 + es0.2) (List.mem_map.mpr ⟨es0, List.mem_filter.mpr ⟨ms0, by rw [ees]; exact ends_sign hc⟩, rfl⟩)
  have mn : minL (chgs L (frontL L z) (sg c)) = leastP L (z ++ sg c) - leastP L z := by
    rw [chg, minL_sub ne, ← leastP_succ L l1]
  unfold stepL
  rw [mn]
  refine Prod.ext (Prod.ext ?_ ?_) rfl
  · show suf ((frontL L z).1 ++ sg c) (((frontL L z).1 ++ sg c).length - min ((frontL L z).1 ++ sg c).length (wd L - 1)) = suf (z ++ sg c) ((z ++ sg c).length - min (z ++ sg c).length (wd L - 1))
    rw [f1, suf_suf, suf_len, l1]
    exact congrArg (suf (z ++ sg c)) (by omega)
  · show ((0 :: rowL L z (min z.length (wd L - 1))).map fun x => x - (leastP L (z ++ sg c) - leastP L z)).take (min ((frontL L z).1 ++ sg c).length (wd L - 1)) = rowL L (z ++ sg c) (min (z ++ sg c).length (wd L - 1))
    rw [f1, suf_len, l1, row0, List.map_map, ← List.map_take, List.take_range, show min (min (z.length + 1 - (z.length - min z.length (wd L - 1))) (wd L - 1)) (min z.length (wd L - 1) + 1) = min (z.length + 1) (wd L - 1) by omega]
    refine List.map_congr_left fun j mj => ?_
    have := List.mem_range.mp mj
    show leastP L (Gd.pre z (z.length - j)) - leastP L z - (leastP L (z ++ sg c) - leastP L z) = leastP L (Gd.pre (z ++ sg c) ((z ++ sg c).length - (j + 1))) - leastP L (z ++ sg c)
    rw [l1, pre_left (by omega), show z.length + 1 - (j + 1) = z.length - j by omega]
    omega
theorem isF_front (h : IsL L) {z : Str} (cov : Cov L z) (b : ∀ n, n ≤ z.length → 0 ≤ leastP L (Gd.pre z n) ∧ leastP L (Gd.pre z n) ≤ 1000000000) : IsF L (frontL L z) := by
  obtain ⟨w1, w2, w3, w4⟩ := wd_spec h
  refine ⟨fun c m => ?_, ?_, ?_, fun x m => ?_⟩
  · refine cov c ?_
    have m : c ∈ (suf z (z.length - min z.length (wd L - 1))).cps.toList := m
    rw [suf_list] at m
    exact List.mem_of_mem_drop m
  · show (rowL L z _).length = (suf z _).length
    rw [suf_len]
    unfold rowL
    rw [List.length_map, List.length_range]
    omega
  · show (suf z _).length < _
    rw [suf_len]
    omega
  · obtain ⟨j, mj, rfl⟩ := List.mem_map.mp (show x ∈ (List.range _).map _ from m)
    have h1 := b (z.length - (j + 1)) (by omega)
    have h2 := b z.length (Nat.le_refl _)
    rw [pre_all] at h2
    omega
end Bk

/-! Mb6: books put together -/
namespace Bk
open PySem PySem.Spec PyProof.Rows L2 Gd Bv Mr
variable {L M : List (Str × Int)}
theorem or_ok (hL : IsL L) (hM : IsL M) (nd : ((orP L M).map (·.1)).Nodup) (g : arePr (orP L M) = true) {P : BookD → Prop} (p : P (bookD (sortP (orP L M)))) : m_Book__or (bookD L) (bookD M) P := by
  unfold m_Book__or
  refine Mr.iteF (by decide) ?_
  have l1 := good_len hL.good
  have l2 := good_len hM.good
  show forN _ M L _
  refine forN_inv (fun pre s => s = orP L pre ∧ s.length ≤ L.length + pre.length) ⟨rfl, Nat.le_refl _⟩ (fun pre x post s e ⟨i1, i2⟩ Q q => ?_) (fun s ⟨i1, _⟩ => ?_)
  · have ll := congrArg List.length e
    rw [List.length_append, List.length_cons] at ll
    refine ⟨by omega, q _ ⟨?_, ?_⟩⟩
    · rw [orP_snoc, ← i1, putD_int]
      rfl
    · rw [putD_int]
      have := putP_len s x.1 (minZ x.2 ((s.lookup x.1).getD x.2))
      rw [List.length_append]
      show _ ≤ _ + (pre.length + 1)
      omega
  · rw [i1]
    exact result_ok nd g p
theorem and_ok (hL : IsL L) (hM : IsL M) (nd : ((andP L M).map (·.1)).Nodup) (g : arePr (andP L M) = true) {P : BookD → Prop} (p : P (bookD (sortP (andP L M)))) : m_Book__and (bookD L) (bookD M) P := by
  unfold m_Book__and
  refine Mr.iteF (by decide) ?_
  refine lcM_fn (tb := fun z => (M.lookup z).isSome) (g := fun z => z) (fun z mz Q q => contains_ok ?_) (fun z mz _ Q q => q) ?_
  · show Q ((M.lookup z).isSome != false)
    rw [show ((M.lookup z).isSome != false) = (M.lookup z).isSome by cases (M.lookup z).isSome <;> rfl]
    exact q
  · show dcM _ _ _ (((L.map (·.1)).filter fun z => (M.lookup z).isSome).map fun z => z) [] _
    rw [List.map_id'']
    · refine dcM_fn (tb := fun _ => true) (kz := fun z => z) (g := fun z => greater ((L.lookup z).getD 0) ((M.lookup z).getD 0)) (fun _ _ Q q => q) (fun _ _ _ Q q => q) (fun z mz _ Q q => ?_) ?_
      · obtain ⟨m1, m2⟩ := List.mem_filter.mp mz
        obtain ⟨e, me, rfl⟩ := List.mem_map.mp m1
        have h1 := lookup_nodup hL.nd e me
        obtain ⟨v, h2⟩ := Option.isSome_iff_exists.mp m2
        rw [h1, h2] at q
        exact atD_i h1 (atD_i h2 q)
      · rw [List.filter_eq_self.mpr (fun _ _ => rfl), fold_new (nd_bne ((List.filter_sublist).nodup hL.nd)) (fun _ _ h => List.not_mem_nil h), List.nil_append]
        exact result_ok nd g p
    · exact fun _ => rfl
end Bk

namespace Bl
open PySem PySem.Spec PyProof.Rows L2 L2.DX Gd Bv Bk
def m_law_pick_vS (items_ : (List Str)) (P : Str → Prop) : Prop := rollW (items_.length : Int) fun r_1 => atZ items_ r_1 fun x_2 => P x_2
def m_law_pick_vI (items_ : (List Int)) (P : Int → Prop) : Prop := rollW (items_.length : Int) fun r_1 => atZ items_ r_1 fun x_2 => P x_2
def m_law_some_vT (items_ : Str) (many_ : Int) (P : (List Str) → Prop) : Prop := setV (Bv.signs items_) fun left_1 => setV [] fun found_2 => rangeOk 0 (minZ many_ (left_1.length : Int)) ∧ forN (fun turn_4 s_3 P => rollW (s_3.1.length : Int) fun r_5 => popZ s_3.1 r_5 fun z_6 zs_7 => s_3.2.length < 16777216 ∧ P (zs_7, (s_3.2 ++ [z_6]))) (rangeZ 0 (minZ many_ (left_1.length : Int))) (left_1, found_2) (fun s_3 => P s_3.2)
def m_law_some_vS (items_ : (List Str)) (many_ : Int) (P : (List Str) → Prop) : Prop := setV items_ fun left_1 => setV [] fun found_2 => rangeOk 0 (minZ many_ (left_1.length : Int)) ∧ forN (fun turn_4 s_3 P => rollW (s_3.1.length : Int) fun r_5 => popZ s_3.1 r_5 fun z_6 zs_7 => s_3.2.length < 16777216 ∧ P (zs_7, (s_3.2 ++ [z_6]))) (rangeZ 0 (minZ many_ (left_1.length : Int))) (left_1, found_2) (fun s_3 => P s_3.2)
def m_law_some_vP (items_ : (List (Str × Int))) (many_ : Int) (P : (List (Str × Int)) → Prop) : Prop := setV items_ fun left_1 => setV [] fun found_2 => rangeOk 0 (minZ many_ (left_1.length : Int)) ∧ forN (fun turn_4 s_3 P => rollW (s_3.1.length : Int) fun r_5 => popZ s_3.1 r_5 fun z_6 zs_7 => s_3.2.length < 16777216 ∧ P (zs_7, (s_3.2 ++ [z_6]))) (rangeZ 0 (minZ many_ (left_1.length : Int))) (left_1, found_2) (fun s_3 => P s_3.2)
def m_law_letters (signs_ : (List Str)) (many_ : Int) (P : Str → Prop) : Prop := rangeOk 0 many_ ∧ mapW (fun turn_5 Q_7 => m_law_pick_vS signs_ fun r_6 => Q_7 r_6) (rangeZ 0 many_) fun l_8 => (("" : Str) = Str.ofString "" ∧ (l_8.map (·.length)).sum ≤ 16777216) ∧ P (Txt.join (Str.ofString "") l_8)
def m_law_prices (signs_ : (List Str)) (many_ : Int) (upto_ : Int) (P : (List (Str × Int)) → Prop) : Prop := setV [] fun found_1 => rangeOk 0 many_ ∧ forN (fun turn_3 s_2 P => rollW (4 : Int) fun r_9 => rangeOk 0 ((2 : Int) + r_9) ∧ mapW (fun at_10 Q_12 => m_law_pick_vS signs_ fun r_11 => Q_12 r_11) (rangeZ 0 ((2 : Int) + r_9)) fun l_13 => (("" : Str) = Str.ofString "" ∧ (l_13.map (·.length)).sum ≤ 16777216) ∧ setV (Txt.join (Str.ofString "") l_13) fun piece_14 => rollW upto_ fun r_15 => setV ((1 : Int) + r_15) fun y_16 => setV piece_14 fun z_17 => s_2.length < 16777216 ∧ P (putD s_2 z_17 y_16)) (rangeZ 0 many_) found_1 (fun s_2 => forN (fun sign_20 s_19 P => rollW upto_ fun r_21 => setV ((1 : Int) + r_21) fun y_22 => setV sign_20 fun z_23 => s_19.length < 16777216 ∧ P (putD s_19 z_23 y_22)) signs_ s_2 (fun s_19 => m_law_some_vP s_19 (12 : Int) fun r_25 => P (mergeD r_25)))
def m_law_all (prices_ : (List (Str × Int))) (signs_ : (List Str)) (size_ : Int) (P : (List (Str × Int)) → Prop) : Prop := setV (mergeD [(("" : Str), (0 : Int))]) fun found_1 => setV [("" : Str)] fun layer_2 => rangeOk 0 size_ ∧ forN (fun turn_4 s_3 P => setV [] fun longer_5 => forN (fun text_7 s_6 P => mapW (fun sign_8 Q_9 => text_7.length + sign_8.length ≤ 16777216 ∧ Q_9 (text_7 ++ sign_8)) signs_ fun l_10 => setV l_10 fun y_11 => s_6.length + y_11.length ≤ 16777216 ∧ P (s_6 ++ y_11)) s_3.2 longer_5 (fun s_6 => forN (fun text_13 s_12 P => setV [] fun costs_14 => rangeOk (maxZ (0 : Int) ((text_13.length : Int) - (5 : Int))) (text_13.length : Int) ∧ forN (fun start_16 s_15 P => (if ((prices_.lookup (cutS text_13 (some start_16) none)).isSome) = true then atD s_12 (cutS text_13 none (some start_16)) fun d_18 => atD prices_ (cutS text_13 (some start_16) none) fun d_19 => setV (d_18 + d_19) fun y_20 => s_15.length < 16777216 ∧ P (s_15 ++ [y_20]) else P s_15)) (rangeZ (maxZ (0 : Int) ((text_13.length : Int) - (5 : Int))) (text_13.length : Int)) costs_14 (fun s_15 => minP s_15 fun m_21 => setV m_21 fun y_22 => setV text_13 fun z_23 => s_12.length < 16777216 ∧ P (putD s_12 z_23 y_22))) s_6 s_3.1 (fun s_12 => setV s_6 fun layer_25 => P (s_12, layer_25)))) (rangeZ 0 size_) (found_1, layer_2) (fun s_3 => P s_3.1)
def m_law_least (prices_ : (List (Str × Int))) (text_ : Str) (P : Int → Prop) : Prop := setV [(0 : Int)] fun found_1 => rangeOk (1 : Int) ((text_.length : Int) + (1 : Int)) ∧ forN (fun stop_3 s_2 P => setV [] fun costs_4 => rangeOk (maxZ (0 : Int) (stop_3 - (5 : Int))) stop_3 ∧ forN (fun start_6 s_5 P => (if ((prices_.lookup (cutS text_ (some start_6) (some stop_3))).isSome) = true then atZ s_2 start_6 fun x_8 => atD prices_ (cutS text_ (some start_6) (some stop_3)) fun d_9 => setV (x_8 + d_9) fun y_10 => s_5.length < 16777216 ∧ P (s_5 ++ [y_10]) else P s_5)) (rangeZ (maxZ (0 : Int) (stop_3 - (5 : Int))) stop_3) costs_4 (fun s_5 => minP s_5 fun m_11 => setV m_11 fun y_12 => s_2.length < 16777216 ∧ P (s_2 ++ [y_12]))) (rangeZ (1 : Int) ((text_.length : Int) + (1 : Int))) found_1 (fun s_2 => atZ s_2 (-(1 : Int)) fun x_13 => P x_13)
end Bl

/-! Ml1: what the defs that several laws have alike tell -/
namespace Bl
open PySem PySem.Spec PyProof.Rows L2 Gd Bv Bk
open Mr (forN_inv forN_fn forL_inv mapW_fn mapW_rel lcM_fn dcM_fn fold_new atZ_nat atZ_last atD_i minP_i maxP_i)
variable {α : Type}
theorem rok {i j : Int} (a : -1000000000 ≤ i ∧ i ≤ 1000000000) (b : -1000000000 ≤ j ∧ j ≤ 1000000000) (c : j - i ≤ 16777216) : rangeOk i j :=
  ⟨⟨⟨by omega, by omega⟩, ⟨by omega, by omega⟩⟩, c⟩
theorem len_rangeZ (i j : Int) : (rangeZ i j).length = (j - i).toNat := by unfold rangeZ; rw [List.length_map, List.length_range]
theorem rangeZ_split {i j x : Int} {pre post : List Int} (h : rangeZ i j = pre ++ x :: post) : x = i + (pre.length : Int) ∧ pre.length < (j - i).toNat := by
  have hx : (rangeZ i j)[pre.length]? = some x := by rw [h, List.getElem?_append_right (Nat.le_refl _), Nat.sub_self]; rfl
  have := range_at hx
  exact ⟨this.2, this.1⟩
theorem pick_i {xs : List α} (ne : xs ≠ []) (few : xs.length < 1000000) {P : α → Prop} (p : ∀ x ∈ xs, P x) : rollW (xs.length : Int) fun r => atZ xs r fun x => P x := by
  have : 0 < xs.length := List.length_pos_iff.mpr ne
  refine ⟨by omega, fun r h0 h1 => ?_⟩
  have lt : r.toNat < xs.length := by omega
  have e : r = (r.toNat : Int) := by omega
  rw [e]
  exact atZ_nat (List.getElem?_eq_getElem lt) (p _ (List.getElem_mem lt))
theorem pickS_ok {xs : List Str} (ne : xs ≠ []) (few : xs.length < 1000000) {P : Str → Prop} (p : ∀ x ∈ xs, P x) : m_law_pick_vS xs P := pick_i ne few p
theorem pickI_ok {xs : List Int} (ne : xs ≠ []) (few : xs.length < 1000000) {P : Int → Prop} (p : ∀ x ∈ xs, P x) : m_law_pick_vI xs P := pick_i ne few p
theorem some_i {xs : List α} {n : Int} (few : xs.length ≤ 100000) (hn : 0 ≤ n) {P : List α → Prop} (p : ∀ ys rest, (ys ++ rest).Perm xs → (ys.length : Int) = min n xs.length → P ys) :
    rangeOk 0 (minZ n xs.length) ∧ forN (fun (_ : Int) (s : List α × List α) (P : List α × List α → Prop) => rollW (s.1.length : Int) fun r => popZ s.1 r fun z zs => s.2.length < 16777216 ∧ P (zs, s.2 ++ [z])) (rangeZ 0 (minZ n xs.length)) (xs, []) (fun s => P s.2) := by
  have mn : minZ n (xs.length : Int) = ((min n.toNat xs.length : Nat) : Int) := by
    unfold minZ
    split <;> omega
  rw [mn]
  refine ⟨rok (by omega) (by omega) (by omega), ?_⟩
  refine forN_inv (fun pre s => (s.2 ++ s.1).Perm xs ∧ s.2.length = pre.length) ⟨List.Perm.refl _, rfl⟩ (fun pre x post s e ⟨pm, l⟩ Q q => ?_) (fun s ⟨pm, l⟩ => ?_)
  · obtain ⟨_, lt⟩ := rangeZ_split e
    have h := pm.length_eq
    rw [List.length_append] at h
    refine ⟨by omega, fun r r0 r1 => ?_⟩
    have lr : r.toNat < s.1.length := by omega
    refine ⟨r.toNat, s.1[r.toNat], ⟨by omega, by omega⟩, ?_, List.getElem?_eq_getElem lr, by omega, q _ ⟨?_, ?_⟩⟩
    · unfold seqIndex?
      have n0 : ¬ r < 0 := by omega
      simp only [n0, if_false]
      exact if_pos (by rw [decide_eq_true r0, decide_eq_true r1]; rfl)
    · refine List.Perm.trans ?_ pm
      rw [List.append_assoc]
      exact List.Perm.append_left _ (erase_perm lr)
    · rw [List.length_append, List.length_append, l]; rfl
  · refine p s.2 s.1 pm ?_
    rw [l, len_rangeZ]
    omega
theorem someT_ok {xs : Str} {n : Int} (few : xs.length ≤ 100000) (hn : 0 ≤ n) {P : List Str → Prop} (p : ∀ ys rest, (ys ++ rest).Perm (Bv.signs xs) → (ys.length : Int) = min n xs.length → P ys) : m_law_some_vT xs n P :=
  some_i (by rw [signs_len]; exact few) hn fun ys rest pm l => p ys rest pm (by rw [signs_len] at l; exact l)
theorem someS_ok {xs : List Str} {n : Int} (few : xs.length ≤ 100000) (hn : 0 ≤ n) {P : List Str → Prop} (p : ∀ ys rest, (ys ++ rest).Perm xs → (ys.length : Int) = min n xs.length → P ys) : m_law_some_vS xs n P := some_i few hn p
theorem someP_ok {xs : List (Str × Int)} {n : Int} (few : xs.length ≤ 100000) (hn : 0 ≤ n) {P : List (Str × Int) → Prop} (p : ∀ ys rest, (ys ++ rest).Perm xs → (ys.length : Int) = min n xs.length → P ys) : m_law_some_vP xs n P := some_i few hn p
/-- some letters of the alphabet -/
theorem letters_i {n : Int} (h1 : 1 ≤ n) (h4 : n ≤ 4) {P : List Str → Prop} (p : ∀ S, Sg S → (S.length : Int) = n → P S) : m_law_some_vT ("abcdefghijklmnopqrstuvwxyz" : Str) n P := by
  refine someT_ok (by decide) (by omega) fun ys rest pm l => ?_
  have l26 : (("abcdefghijklmnopqrstuvwxyz" : Str).length : Int) = 26 := by decide +kernel
  rw [l26] at l
  have nd : (Bv.signs ("abcdefghijklmnopqrstuvwxyz" : Str)).Nodup := by decide +kernel
  refine p ys ⟨by omega, fun z mz => ?_, ?_⟩ (by omega)
  · have : z ∈ Bv.signs ("abcdefghijklmnopqrstuvwxyz" : Str) := pm.mem_iff.mp (List.mem_append_left _ mz)
    obtain ⟨c, mc, e⟩ := List.mem_map.mp this
    exact ⟨c, abc_low c mc, e.symm⟩
  · exact (List.nodup_append.mp ((pm.nodup_iff).mpr nd)).1
theorem paired_mem {α β : Type} {R : α → β → Prop} {Y : β → Prop} (h : ∀ a b, R a b → Y b) : ∀ {xs : List α} {ys : List β}, Paired R xs ys → (∀ y ∈ ys, Y y) ∧ ys.length = xs.length
  | _, _, .nil => ⟨(fun _ m => nomatch m), rfl⟩
  | _, _, .cons r t => ⟨fun y m => (List.mem_cons.mp m).elim (fun e => e ▸ h _ _ r) ((paired_mem h t).1 y), by rw [List.length_cons, List.length_cons, (paired_mem h t).2]⟩
/-- so many drawn letters joined -/
theorem joined {S : List Str} (s : Sg S) {lo : Int} (h : 0 ≤ lo ∧ lo ≤ 100000) {P : Str → Prop} (p : ∀ z, (z.length : Int) = lo → Over S z → P z) :
    rangeOk 0 lo ∧ mapW (fun (_ : Int) Q => m_law_pick_vS S fun r => Q r) (rangeZ 0 lo) fun l => (("" : Str) = Str.ofString "" ∧ (l.map (·.length)).sum ≤ 16777216) ∧ P (Txt.join (Str.ofString "") l) := by
  refine ⟨rok (by omega) (by omega) (by omega), ?_⟩
  refine mapW_rel (fun _ y => y ∈ S) (fun _ _ Q q => pickS_ok (fun e => by have := s.few.1; rw [e] at this; simp at this) (by have := s.few.2; omega) q) fun ys py => ?_
  obtain ⟨m, l⟩ := paired_mem (Y := fun y => y ∈ S) (fun _ _ h => h) py
  rw [len_rangeZ] at l
  obtain ⟨l2, o⟩ := over_join s m
  have e1 := len_join ys
  exact ⟨⟨rfl, by omega⟩, p _ (by omega) o⟩
theorem letters_ok {S : List Str} (s : Sg S) {lo : Int} (h : 0 ≤ lo ∧ lo ≤ 100000) {P : Str → Prop} (p : ∀ z, (z.length : Int) = lo → Over S z → P z) : m_law_letters S lo P := joined s h p
theorem mergeD_nd {L : List (Str × α)} (nd : (L.map (·.1)).Nodup) : mergeD L = L := by
  have := fold_new (kz := fun e : Str × α => e.1) (g := fun e => e.2) (xs := L) (L := []) nd (fun _ _ h => List.not_mem_nil h)
  unfold mergeD
  rw [this, List.nil_append]
  exact List.map_id _
/-- drawn prices -/
theorem prices_ok {S : List Str} (s : Sg S) {many upto : Int} (h : 0 ≤ many ∧ many + S.length ≤ 12) (hu : 1 ≤ upto ∧ upto ≤ 99) {P : List (Str × Int) → Prop} (p : ∀ L, Full S L → (∀ e ∈ L, e.2 ≤ upto) → P L) : m_law_prices S many upto P := by
  unfold m_law_prices
  show rangeOk 0 many ∧ forN _ _ [] _
  refine ⟨rok (by omega) (by omega) (by omega), ?_⟩
  refine forN_inv (fun pre (L : List (Str × Int)) => (L.map (·.1)).Nodup ∧ L.length ≤ pre.length ∧ (∀ e ∈ L, 1 ≤ e.2 ∧ e.2 ≤ upto) ∧ ∀ z ∈ L.map (·.1), (1 ≤ z.length ∧ z.length ≤ 5) ∧ Over S z) ⟨.nil, Nat.le_refl _, (fun _ m => nomatch m), (fun _ m => nomatch m)⟩ (fun pre x post L e ⟨i1, i2, i3, i4⟩ Q q => ?_) (fun L ⟨i1, i2, i3, i4⟩ => ?_)
  · obtain ⟨_, lt⟩ := rangeZ_split e
    refine ⟨by omega, fun r r0 r1 => ?_⟩
    refine joined s (P := fun z => rollW upto fun r => L.length < 16777216 ∧ Q (putD L z (1 + r))) (by omega) fun z lz oz => ⟨by omega, fun v v0 v1 => ⟨by omega, q _ ?_⟩⟩
    rw [putD_int]
    refine ⟨nodup_putP i1, ?_, all_putP (p := fun v => 1 ≤ v ∧ v ≤ upto) i3 (by omega), fun y my => ?_⟩
    · have := putP_len L z (1 + v)
      rw [List.length_append]
      show _ ≤ pre.length + 1
      omega
    · rcases mem_putP.mp my with h | h
      · subst h
        exact ⟨by omega, oz⟩
      · exact i4 y h
  · rw [len_rangeZ] at i2
    refine forN_inv (fun pre (M : List (Str × Int)) => (M.map (·.1)).Nodup ∧ M.length ≤ L.length + pre.length ∧ (∀ e ∈ M, 1 ≤ e.2 ∧ e.2 ≤ upto) ∧ (∀ z ∈ M.map (·.1), (1 ≤ z.length ∧ z.length ≤ 5) ∧ Over S z) ∧ ∀ z ∈ pre, z ∈ M.map (·.1)) ⟨i1, Nat.le_refl _, i3, i4, (fun _ m => nomatch m)⟩ (fun pre x post M e ⟨j1, j2, j3, j4, j5⟩ Q q => ?_) (fun M ⟨j1, j2, j3, j4, j5⟩ => ?_)
    · have mx : x ∈ S := by rw [e]; exact List.mem_append_right _ List.mem_cons_self
      have ll := congrArg List.length e
      rw [List.length_append, List.length_cons] at ll
      refine ⟨by omega, fun v v0 v1 => ⟨by omega, q _ ?_⟩⟩
      rw [putD_int]
      refine ⟨nodup_putP j1, ?_, all_putP (p := fun v => 1 ≤ v ∧ v ≤ upto) j3 (by omega), fun y my => ?_, fun y my => ?_⟩
      · have := putP_len M x (1 + v)
        rw [List.length_append]
        show _ ≤ _ + (pre.length + 1)
        omega
      · rcases mem_putP.mp my with h | h
        · subst h
          exact ⟨by rw [s.len mx]; omega, s.over mx⟩
        · exact j4 y h
      · rcases List.mem_append.mp my with h | h
        · exact mem_putP.mpr (.inr (j5 y h))
        · exact mem_putP.mpr (.inl (List.mem_singleton.mp h))
    · have f : Full S M := ⟨j1, by omega, j5, j4, fun e m => by have := j3 e m; omega⟩
      refine someP_ok (by omega) (by decide) fun ys rest pm l => ?_
      have : rest = [] := List.length_eq_zero_iff.mp (by have := pm.length_eq; rw [List.length_append] at this; omega)
      subst this
      rw [List.append_nil] at pm
      have g := f.perm pm
      rw [mergeD_nd g.nd]
      exact p ys g fun e m => (j3 e (pm.mem_iff.mp m)).2
/-! ### least prices by the law -/
theorem costs_for {L : List (Str × Int)} {z : Str} {f : Nat → Int} {lo j stop : Nat} {lo' hi' : Int} {b : Int → List Int → (List Int → Prop) → Prop} {k : List Int → Prop} (e1 : lo' = (lo : Int)) (e2 : hi' = ((lo + j : Nat) : Int))
    (h : ∀ i, i < j → ∀ (s : List Int) (Q : List Int → Prop), s.length ≤ i → Q (s ++ (match L.lookup (seg z (lo + i) stop) with | some v => [f (lo + i) + v] | none => [])) → b ((lo + i : Nat) : Int) s Q) (p : k (costJ L z f lo j stop)) : forN b (rangeZ lo' hi') [] k := by
  subst e1 e2
  refine forN_inv (fun pre s => s = costJ L z f lo pre.length stop) rfl (fun pre x post s e es Q q => ?_) (fun s es => ?_)
  · obtain ⟨ex, lt⟩ := rangeZ_split e
    have : x = ((lo + pre.length : Nat) : Int) := by omega
    rw [this]
    refine h pre.length (by omega) s Q (by rw [es]; exact costJ_len ..) (q _ ?_)
    rw [List.length_append, es]
    exact (costJ_succ ..).symm
  · rw [len_rangeZ] at es
    rw [es, show (((lo + j : Nat) : Int) - (lo : Int)).toNat = j by omega]
    exact p
theorem minP_l {xs : List Int} {m : Int} {P : Int → Prop} (ne : xs ≠ []) (e : minL xs = m) (p : P m) : minP xs P := by
  obtain ⟨h1, h2⟩ := minL_spec ne
  rw [e] at h1 h2
  exact minP_i h1 h2 p
theorem least_l {L : List (Str × Int)} (nd : (L.map (·.1)).Nodup) (hp : ∀ e ∈ L, 1 ≤ e.1.length ∧ e.1.length ≤ 5) {z : Str} (cov : Cov L z) (sz : z.length ≤ 1000000) {P : Int → Prop} (p : P (leastP L z)) : m_law_least L z P := by
  unfold m_law_least
  show rangeOk _ _ ∧ forN _ _ [0] _
  refine ⟨rok (by omega) (by omega) (by omega), ?_⟩
  refine forN_inv (fun pre s => s = leastL L z pre.length) rfl (fun pre x post s e es Q q => ?_) (fun s es => ?_)
  · obtain ⟨ex, lt⟩ := rangeZ_split e
    have lt : pre.length < z.length := by omega
    have ex : x = ((pre.length + 1 : Nat) : Int) := by omega
    have q2 : ∀ s', s' = leastL L z (pre.length + 1) → Q s' := fun s' e => q s' (by rw [List.length_append]; exact e)
    clear q
    generalize pre.length = n at *
    subst ex es
    have ll := leastL_len L z n
    have lo : maxZ (0 : Int) (((n + 1 : Nat) : Int) - 5) = ((n + 1 - 5 : Nat) : Int) := by unfold maxZ; split <;> omega
    show rangeOk _ _ ∧ forN _ _ [] _
    refine ⟨rok (by omega) (by omega) (by omega), ?_⟩
    refine costs_for (L := L) (z := z) (f := fun s => (leastL L z n).getD s 0) (stop := n + 1) (lo := n + 1 - 5) (j := n + 1 - (n + 1 - 5)) lo (by omega) (fun i hi s Q q => ?_) ?_
    · intro q
      show (if (L.lookup (seg z (n + 1 - 5 + i) (n + 1))).isSome = true then _ else _)
      cases h : L.lookup (seg z (n + 1 - 5 + i) (n + 1)) with
      | none =>
        rw [h, List.append_nil] at q
        exact Mr.iteF (by simp) q
      | some v =>
        rw [h] at q
        refine Mr.iteT rfl ?_
        refine get_at (n := n + 1 - 5 + i) (by omega) rfl (atD_i h ⟨by omega, q⟩)
    · have hf : ∀ s, s < n + 1 → (leastL L z n).getD s 0 = leastP L (Gd.pre z s) := fun s hs => by
        rw [leastP_pre L (by omega : s ≤ z.length), leastL_at L z (by omega : s ≤ n)]
      obtain ⟨ne, mn⟩ := costJ_min nd hp (z := z) (stop := n + 1) (by omega) (by omega) hf (cov.pre _)
      refine minP_l ne mn ⟨by omega, q2 _ ?_⟩
      rw [leastL_snoc L (by omega)]
  · rw [len_rangeZ] at es
    have e : ((z.length : Int) + 1 - 1).toNat = z.length := by omega
    rw [e] at es
    subst es
    refine atZ_last (x := leastP L z) (leastL_len L z z.length) ?_ p
    unfold leastP
    rw [List.getD_eq_getElem?_getD, List.getElem?_eq_getElem (by have := leastL_len L z z.length; omega)]
    rfl
theorem Full.l {S : List Str} {L : List (Str × Int)} (f : Full S L) {z : Str} (o : Over S z) (sz : z.length ≤ 1000000) {P : Int → Prop} (p : P (leastP L z)) : m_law_least L z P := least_l f.nd f.pos (f.cov o) sz p
end Bl

/-! Ml2: the least prices of all short texts, by the law -/
namespace Bl
open PySem PySem.Spec PyProof.Rows L2 Gd Bv Bk
open Mr (forN_inv forN_fn forL_inv mapW_fn mapW_rel lcM_fn dcM_fn fold_new atZ_nat atZ_last atD_i minP_i maxP_i)
variable {S : List Str} {L : List (Str × Int)}
theorem pow9 {n : Nat} (h : n ≤ 9) : 4 ^ n ≤ 262144 := by
  have : 4 ^ n ≤ 4 ^ 9 := Nat.pow_le_pow_right (by decide) h
  have e : 4 ^ 9 = 262144 := by decide
  omega
theorem all_l (s : Sg S) (f : Full S L) {size : Int} (h : 0 ≤ size ∧ size ≤ 8) {P : List (Str × Int) → Prop} (p : P (tab L (allK S size.toNat))) : m_law_all L S size P := by
  unfold m_law_all
  show rangeOk 0 size ∧ forN _ _ (mergeD [(("" : Str), (0 : Int))], [("" : Str)]) _
  refine ⟨rok (by omega) (by omega) (by omega), ?_⟩
  refine forN_inv (fun pre st => st = (tab L (allK S pre.length), layK S pre.length)) rfl (fun pre x post st e es Q q => ?_) (fun st es => ?_)
  · obtain ⟨_, lt⟩ := rangeZ_split e
    have q2 : ∀ st', st' = (tab L (allK S (pre.length + 1)), layK S (pre.length + 1)) → Q st' := fun st' e => q st' (by rw [List.length_append]; exact e)
    clear q
    have hn : pre.length ≤ 7 := by omega
    generalize pre.length = n at *
    subst es
    show forN _ (layK S n) [] _
    have few := lay_len s (n + 1)
    have p9 := pow9 (n := n + 1) (by omega)
    refine forN_inv (fun pre (M : List Str) => M = pre.flatMap fun t => S.map fun s => t ++ s) rfl (fun pre t post M e eM Q2 q3 => ?_) (fun M eM => ?_)
    · have mt : t ∈ layK S n := by rw [e]; exact List.mem_append_right _ List.mem_cons_self
      obtain ⟨l1, o1⟩ := (lay_mem s).mp mt
      refine mapW_fn (g := fun sg => t ++ sg) (fun y my Q4 q4 => ⟨by rw [s.len my]; omega, q4⟩) ⟨?_, q3 _ ?_⟩
      · have tot : (layK S (n + 1)).length = M.length + (S.map fun s => t ++ s).length + (post.flatMap fun t => S.map fun s => t ++ s).length := by
          show ((layK S n).flatMap fun t => S.map fun s => t ++ s).length = _
          rw [e, List.flatMap_append, List.flatMap_cons, List.length_append, List.length_append, eM]
          omega
        omega
      · rw [eM, List.flatMap_append, List.flatMap_cons, List.flatMap_nil, List.append_nil]
    · have eM : M = layK S (n + 1) := eM
      subst eM
      refine forN_inv (fun pre (T : List (Str × Int)) => T = tab L (pre.foldl addK (allK S n))) rfl (fun pre t post T e eT Q2 q3 => ?_) (fun T eT => ?_)
      · have mt : t ∈ layK S (n + 1) := by rw [e]; exact List.mem_append_right _ List.mem_cons_self
        obtain ⟨l1, o1⟩ := (lay_mem s).mp mt
        have ll := congrArg List.length e
        rw [List.length_append, List.length_cons] at ll
        subst eT
        have lo : maxZ (0 : Int) ((t.length : Int) - 5) = ((n + 1 - 5 : Nat) : Int) := by unfold maxZ; split <;> omega
        show rangeOk _ _ ∧ forN _ _ [] _
        refine ⟨rok (by omega) (by omega) (by omega), ?_⟩
        refine costs_for (L := L) (z := t) (f := fun k => leastP L (Gd.pre t k)) (stop := n + 1) (lo := n + 1 - 5) (j := n + 1 - (n + 1 - 5)) lo (by omega) (fun i hi M Q4 lM => ?_) ?_
        · intro q4
          have es : cutS t (some ((n + 1 - 5 + i : Nat) : Int)) none = seg t (n + 1 - 5 + i) (n + 1) := by
            have := suf_seg t (n + 1 - 5 + i)
            rw [l1] at this
            exact this
          rw [es]
          cases h : L.lookup (seg t (n + 1 - 5 + i) (n + 1)) with
          | none =>
            rw [h, List.append_nil] at q4
            exact Mr.iteF (by simp) q4
          | some v =>
            rw [h] at q4
            refine Mr.iteT rfl ?_
            refine atD_i (x := leastP L (Gd.pre t (n + 1 - 5 + i))) (lookup_tab (mem_adds.mpr (.inl ((all_mem_iff s).mpr ⟨?_, o1.pre _⟩)))) (atD_i h ⟨by omega, q4⟩)
            show (Gd.pre t (n + 1 - 5 + i)).length ≤ n
            rw [pre_len (by omega)]
            omega
        · obtain ⟨ne, mn⟩ := costJ_min f.nd f.pos (z := t) (stop := n + 1) (by omega) (by omega) (f := fun k => leastP L (Gd.pre t k)) (fun _ _ => rfl) (f.cov (o1.pre _))
          refine minP_l ne mn ⟨?_, q3 _ ?_⟩
          · unfold tab
            rw [List.length_map]
            have h1 := len_adds pre (allK S n)
            have h2 := all_len s n
            omega
          · rw [putD_int, show Gd.pre t (n + 1) = t by rw [← l1]; exact pre_all t, putP_tab, List.foldl_append]
            rfl
      · exact q2 _ (by rw [eT]; rfl)
  · rw [len_rangeZ, Int.sub_zero] at es
    rw [es]
    exact p
end Bl

/-! Ml3: small things that the laws' mathematics wants -/
namespace Bl
open PySem PySem.Spec PyProof.Rows L2 Gd Bv Bk
open Mr (forN_inv forN_fn forL_inv mapW_fn mapW_rel lcM_fn dcM_fn fold_new atZ_nat atZ_last atD_i minP_i maxP_i)
variable {S : List Str} {L M N : List (Str × Int)}
theorem eqB_self {α : Type} [DecidableEq α] (x : α) : eqB x x = true := decide_eq_true rfl
theorem eqB_i {α : Type} [DecidableEq α] {x y : α} : eqB x y = true ↔ x = y := decide_eq_true_iff
theorem eqB_n {α : Type} [DecidableEq α] {x y : α} (h : ¬ x = y) : eqB x y = false := decide_eq_false h
theorem memB_i {α : Type} [DecidableEq α] {x : α} {xs : List α} : memB x xs = true ↔ x ∈ xs := decide_eq_true_iff
theorem ifno {p q : Prop} {b : Bool} (h : b = true) (k : q) : if (!b) = true then p else q := by rw [h]; exact Mr.iteF (by decide) k
theorem ifyes {p q : Prop} {b : Bool} (h : b = true) (k : p) : if b = true then p else q := Mr.iteT h k
theorem ifnot {p q : Prop} {b : Bool} (h : b = false) (k : q) : if b = true then p else q := Mr.iteF (by rw [h]; exact Bool.false_ne_true) k
theorem eqD_self (nd : (L.map (·.1)).Nodup) : eqD L L = true := by
  unfold eqD
  rw [decide_eq_true rfl, Bool.true_and, List.all_eq_true]
  exact fun p m => decide_eq_true (Mr.lookup_nd nd m)
theorem shown_same {x y : PyData} (e : x = y) {p q : Prop} (k : q) : if (!decide (x.shown = y.shown)) = true then p else q := by
  have : ∀ {i : Decidable (x.shown = y.shown)}, (!@decide _ i) = false := fun {i} => by rw [decide_eq_true (congrArg PyData.shown e)]; rfl
  exact Mr.iteF (by rw [this]; exact Bool.false_ne_true) k
theorem isL_of (s : Sg S) (f : Full S L) : IsL (sortP L) := IsL.of f.nd (f.good s)
theorem isA_of (s : Sg S) (f : Full S L) (asc : sortP L = L) : IsL L := by
  have := isL_of s f
  rw [asc] at this
  exact this
theorem dearO_of {z : Str} (h : dearer L M = .str z) : dearO L M = some z := by
  unfold dearer at h
  unfold dearO
  cases q : M.find? fun e => decide (e.2 < leastP L e.1) with
  | none => rw [q] at h; cases h
  | some e => rw [q] at h; cases h; rfl
theorem dearO_isNone : (dearO L M).isNone = true ↔ dearer L M = .non := by
  rw [Option.isNone_iff_eq_none, dearO_none, dearer_non]
theorem asc_same (hL : IsL L) (hM : IsL M) (h : ∀ e, e ∈ L ↔ e ∈ M) : L = M := asc_eq hL.nd hM.nd hL.ascP hM.ascP (lookup_eq hL.nd hM.nd h)
theorem sort_perm {xs ys : List Str} (h : xs.Perm ys) : sortT xs = sortT ys := sorted_unique (sortT_sorted _) (sortT_sorted _) ((sortT_perm xs).trans (h.trans (sortT_perm ys).symm))
/-- sorted(prices.items()) -/
theorem sortI_ok (s : Sg S) (f : Full S L) {P : List (Str × Int) → Prop} (p : P (sortP L)) : sortI L P := by
  have l := good_len (f.good s)
  refine ⟨⟨fun e => by rw [e] at l; simp at l, by omega⟩, fun M pm asc => ?_⟩
  have nd : (M.map (·.1)).Nodup := (pm.map (·.1)).nodup_iff.mpr f.nd
  have : M = sortP L := asc_eq nd (sortP_nodup f.nd) asc (sortP_asc L) (lookup_eq nd (sortP_nodup f.nd) fun e => pm.mem_iff.trans (mem_sortP f.nd).symm)
  rw [this]
  exact p
/-- dict(..) of pairs that agree with f -/
theorem fold_vals {g : Str → Int} : ∀ (ks : List Str) (A : List (Str × Int)), (A.map (·.1)).Nodup → (∀ e ∈ A, e.2 = g e.1) → (((ks.map fun z => (z, g z)).foldl (fun L e => putD L e.1 e.2) A).map (·.1)).Nodup ∧ (∀ e ∈ (ks.map fun z => (z, g z)).foldl (fun L e => putD L e.1 e.2) A, e.2 = g e.1) ∧ ∀ z, z ∈ ((ks.map fun z => (z, g z)).foldl (fun L e => putD L e.1 e.2) A).map (·.1) ↔ z ∈ A.map (·.1) ∨ z ∈ ks
  | [], A, nd, h => ⟨nd, h, fun z => ⟨.inl, fun q => q.elim id fun m => nomatch m⟩⟩
  | k :: ks, A, nd, h => by
    have h2 : ∀ e ∈ putP A k (g k), e.2 = g e.1 := fun e m => by
      have n2 := nodup_putP (k := k) (v := g k) nd
      have l := Mr.lookup_nd n2 (z := e.1) (v := e.2) m
      rw [lookup_putP] at l
      by_cases q : e.1 = k
      · rw [if_pos q] at l
        rw [q]
        exact (Option.some.inj l).symm
      · rw [if_neg q] at l
        exact h (e.1, e.2) (Mr.lookup_some_mem l)
    obtain ⟨r1, r2, r3⟩ := fold_vals (g := g) ks (putP A k (g k)) (nodup_putP nd) h2
    refine ⟨r1, r2, fun z => (r3 z).trans ?_⟩
    rw [mem_putP, List.mem_cons]
    exact ⟨fun q => q.elim (fun q => q.elim (fun e => .inr (.inl e)) .inl) fun m => .inr (.inr m), fun q => q.elim (fun m => .inl (.inr m)) fun q => q.elim (fun e => .inl (.inl e)) .inr⟩
theorem merge_vals {g : Str → Int} (ks : List Str) : ((mergeD (ks.map fun z => (z, g z))).map (·.1)).Nodup ∧ (∀ e ∈ mergeD (ks.map fun z => (z, g z)), e.2 = g e.1) ∧ ∀ z, z ∈ (mergeD (ks.map fun z => (z, g z))).map (·.1) ↔ z ∈ ks := by
  obtain ⟨a, b, c⟩ := fold_vals (g := g) ks [] .nil (fun _ m => nomatch m)
  exact ⟨a, b, fun z => (c z).trans ⟨fun q => q.elim (fun m => nomatch m) id, .inr⟩⟩
/-- some pieces of a book with all its letters -/
theorem chosen (s : Sg S) (f : Full S L) {ks : List Str} (sub : ∀ z ∈ ks, z ∈ L.map (·.1)) (has : ∀ z ∈ S, z ∈ ks) : Some_ S L (mergeD (ks.map fun z => (z, (L.lookup z).getD 0))) ∧ ∀ e ∈ L, (e ∈ mergeD (ks.map fun z => (z, (L.lookup z).getD 0)) ↔ e.1 ∈ ks) := by
  obtain ⟨a, b, c⟩ := merge_vals (g := fun z => (L.lookup z).getD 0) ks
  have sb : ∀ e ∈ mergeD (ks.map fun z => (z, (L.lookup z).getD 0)), e ∈ L := fun e m => by
    have h1 := b e m
    obtain ⟨e', m', q⟩ := List.mem_map.mp (sub e.1 ((c e.1).mp (List.mem_map.mpr ⟨e, m, rfl⟩)))
    have := lookup_nodup f.nd e' m'
    rw [q] at this
    rw [this] at h1
    have : e = e' := Prod.ext q.symm h1
    rw [this]
    exact m'
  refine ⟨⟨⟨a, ?_, fun z m => (c z).mpr (has z m), fun z m => f.piece z (sub z ((c z).mp m)), fun e m => f.price e (sb e m)⟩, sb⟩, fun e m => ⟨fun q => (c e.1).mp (List.mem_map.mpr ⟨e, q, rfl⟩), fun q => ?_⟩⟩
  · have := nodup_le a (xs := L.map (·.1)) fun k m => sub k ((c k).mp m)
    rw [List.length_map, List.length_map] at this
    exact Nat.le_trans this f.len
  · obtain ⟨e', m', q'⟩ := List.mem_map.mp ((c e.1).mpr q)
    have h1 := lookup_nodup f.nd e' (sb e' m')
    have h2 := lookup_nodup f.nd e m
    rw [q', h2] at h1
    have : e' = e := Prod.ext q' (Option.some.inj h1).symm
    rw [← this]
    exact m'
theorem bare_least (s : Sg S) (f : Full S L) {z : Str} (o : Over S z) : leastP (subP L (ndl L)) z = leastP L z := by
  have g := f.bare s
  refine Int.le_antisymm ?_ (least_fewer f g (fun e m => (mem_subP.mp m).1) o)
  exact least_all (fun e m => bare_cheap s f e.1.length e m (Nat.le_refl _)) g.pos1 f.pos1 z.length z (Nat.le_refl _) (g.cov o) (f.cov o)
theorem pr_ints {H : Hp} : ∀ ns : List Int, Paired (Bv.rI.rep H) (ns.map V.int) ns
  | [] => .nil
  | _ :: ns => .cons rfl (pr_ints ns)
theorem law_end {K : PySem.W.Frag} {H : Hp} {a : Addr} {ns : List Int} (m : List Int × Unit → (Bool → Prop) → Prop) (hS : SqL K H a (ns.map V.int)) (h : m (ns, ()) fun b => b = true) : spA (rCons (rLK K Bv.rI) rNil) rB m [.ref a] H (fun v _ => v = .bl true) E0 :=
  ⟨H, (ns, ()), fun b => b = true, Sub.refl H, ⟨.ref a, [], rfl, ⟨a, _, rfl, hS, pr_ints ns⟩, rfl⟩, h, fun z v F' H' pz _ hv => by rw [show v = V.bl z from hv, pz]⟩
/-- some of a list, as tests may fall -/
theorem lcM_sub {α : Type} {t : α → (Bool → Prop) → Prop} {xs : List α} {P : List α → Prop} (h : ∀ x ∈ xs, ∀ Q : Bool → Prop, (∀ b, Q b) → t x Q) (p : ∀ zs, (∀ z ∈ zs, z ∈ xs) → zs.length ≤ xs.length → P zs) : lcM t (fun x Q => Q x) xs P := by
  induction xs generalizing P with
  | nil => exact p [] (fun _ m => nomatch m) (Nat.le_refl _)
  | cons x xs ih =>
    refine h x List.mem_cons_self _ fun b => ?_
    have step := fun (P' : List α → Prop) (p' : ∀ zs, (∀ z ∈ zs, z ∈ xs) → zs.length ≤ xs.length → P' zs) => ih (P := P') (fun y m => h y (List.mem_cons_of_mem _ m)) p'
    cases b with
    | true => exact step _ fun zs sub len => p (x :: zs) (fun z m => (List.mem_cons.mp m).elim (fun e => e ▸ List.mem_cons_self) fun m => List.mem_cons_of_mem _ (sub z m)) (by rw [List.length_cons, List.length_cons]; omega)
    | false => exact step _ fun zs sub len => p zs (fun z m => List.mem_cons_of_mem _ (sub z m)) (by rw [List.length_cons]; omega)
end Bl

/-! Ml4: what repr can show, by its parts -/
namespace Bl
open PySem PySem.Spec PyProof.Rows L2 Gd Bv Bk
structure Sw (d : PyData) (w p : Nat) : Prop where
  short : d.leavesShort 600 = true
  can : d.showable = true
  plain : d.hasDict = false
  few : d.weight ≤ w
  low : d.depth ≤ p
theorem Sw.sh {d : PyData} {w p : Nat} (h : Sw d w p) (hw : w ≤ 20000) (hp : p ≤ 60) : Sh d := ⟨h.short, h.can, h.plain, Nat.le_trans h.few hw, Nat.le_trans h.low hp⟩
theorem int_shown {i : Int} (h : i.natAbs < 10 ^ 61) : (PyData.int i).shown.length ≤ 600 := by
  simp only [PyData.shown]
  have e := int_text_length_le10 (k := 61) (by decide) h
  rw [PySem.ofString_length]
  omega
theorem int_log {i : Int} (h : i.natAbs < 10 ^ 61) : (if (i == 0) = true then 0 else i.natAbs.log2 + 1) ≤ 203 := by
  split
  · omega
  · have n0 : i.natAbs ≠ 0 := by
      rename_i q
      intro z
      exact q (beq_iff_eq.mpr (by omega))
    have : i.natAbs.log2 < 203 := (Nat.log2_lt n0).mpr (Nat.lt_trans h (by decide))
    omega
theorem int_log2 {i : Int} (h : i.natAbs < 10 ^ 61) : i.natAbs.log2 < 1920 := by
  by_cases n0 : i.natAbs = 0
  · rw [n0]; decide
  · exact (Nat.log2_lt n0).mpr (Nat.lt_trans h (Nat.lt_of_lt_of_le (m := 2 ^ 203) (by decide) (Nat.pow_le_pow_right (by decide) (by decide))))
theorem sw_int {i : Int} (h : i.natAbs < 10 ^ 61) : Sw (.int i) 203 0 :=
  ⟨by simp only [PyData.leavesShort]; exact decide_eq_true (int_shown h), by simp only [PyData.showable]; exact decide_eq_true (int_log2 h), by simp only [PyData.hasDict], by simp only [PyData.weight]; exact int_log h, by simp only [PyData.depth]; exact Nat.le_refl _⟩
theorem sw_bool (b : Bool) : Sw (.bool b) 0 0 := ⟨by simp only [PyData.leavesShort], by simp only [PyData.showable], by simp only [PyData.hasDict], by simp only [PyData.weight]; exact Nat.le_refl _, by simp only [PyData.depth]; exact Nat.le_refl _⟩
theorem sw_none : Sw .none 0 0 := ⟨by simp only [PyData.leavesShort], by simp only [PyData.showable], by simp only [PyData.hasDict], by simp only [PyData.weight]; exact Nat.le_refl _, by simp only [PyData.depth]; exact Nat.le_refl _⟩
theorem sw_str {z : Str} (h : ∀ c ∈ z.cps.toList, c < 128) : Sw (.str z) z.length 0 :=
  ⟨by simp only [PyData.leavesShort, List.all_eq_true]; exact fun c m => decide_eq_true (Nat.lt_of_lt_of_le (h c m) (by decide)), by simp only [PyData.showable], by simp only [PyData.hasDict], by simp only [PyData.weight]; exact Nat.le_refl _, by simp only [PyData.depth]; exact Nat.le_refl _⟩
theorem sw_all {w p : Nat} : ∀ {ds : List PyData}, (∀ d ∈ ds, Sw d w p) → PyData.leavesShortAll 600 ds = true ∧ PyData.showableAll ds = true ∧ PyData.hasDictAll ds = false ∧ PyData.weightAll ds ≤ (w + 1) * ds.length ∧ PyData.depthAll ds ≤ p
  | [], _ => by simp only [PyData.leavesShortAll, PyData.showableAll, PyData.hasDictAll, PyData.weightAll, PyData.depthAll, List.length_nil, Nat.mul_zero, Nat.le_refl, Nat.zero_le, and_self]
  | d :: ds, h => by
    obtain ⟨i1, i2, i3, i4, i5⟩ := sw_all (ds := ds) fun e m => h e (List.mem_cons_of_mem _ m)
    have k := h d List.mem_cons_self
    have k4 := k.few
    have k5 := k.low
    simp only [PyData.leavesShortAll, PyData.showableAll, PyData.hasDictAll, PyData.weightAll, PyData.depthAll, List.length_cons, k.short, k.can, k.plain, i1, i2, i3, Bool.and_self, Bool.or_self, true_and]
    rw [Nat.mul_succ]
    omega
theorem sw_list {w p : Nat} {ds : List PyData} (h : ∀ d ∈ ds, Sw d w p) : Sw (.list ds) ((w + 1) * ds.length) (p + 1) := by
  obtain ⟨i1, i2, i3, i4, i5⟩ := sw_all h
  exact ⟨by simp only [PyData.leavesShort]; exact i1, by simp only [PyData.showable]; exact i2, by simp only [PyData.hasDict]; exact i3, by simp only [PyData.weight]; exact i4, by simp only [PyData.depth]; omega⟩
theorem sw_tuple {w p : Nat} {ds : List PyData} (h : ∀ d ∈ ds, Sw d w p) : Sw (.tuple ds) ((w + 1) * ds.length) (p + 1) := by
  obtain ⟨i1, i2, i3, i4, i5⟩ := sw_all h
  exact ⟨by simp only [PyData.leavesShort]; exact i1, by simp only [PyData.showable]; exact i2, by simp only [PyData.hasDict]; exact i3, by simp only [PyData.weight]; exact i4, by simp only [PyData.depth]; omega⟩
theorem Sw.le {d : PyData} {w p v q : Nat} (h : Sw d w p) (hw : w ≤ v) (hp : p ≤ q) : Sw d v q := ⟨h.short, h.can, h.plain, Nat.le_trans h.few hw, Nat.le_trans h.low hp⟩
theorem sw_pair {d e : PyData} {w p : Nat} (h : Sw d w p) (k : Sw e w p) : Sw (.tuple [d, e]) ((w + 1) * 2) (p + 1) := sw_tuple (ds := [d, e]) fun x m => by
  rcases List.mem_cons.mp m with rfl | m
  · exact h
  · rw [List.mem_singleton.mp m]; exact k
theorem sw_ints {l : List Int} {n : Nat} (few : l.length ≤ n) (h : ∀ i ∈ l, i.natAbs < 10 ^ 61) : Sw (datT PyData.int l) (204 * n) 1 := by
  refine (sw_tuple (ds := l.map PyData.int) (w := 203) (p := 0) fun d m => ?_).le ?_ (Nat.le_refl _)
  · obtain ⟨i, mi, rfl⟩ := List.mem_map.mp m
    exact sw_int (h i mi)
  · rw [List.length_map]
    exact Nat.mul_le_mul_left _ few
theorem sw_kv : ∀ {L : List (Str × Int)}, (∀ e ∈ L, e.1.length ≤ 5 ∧ (∀ c ∈ e.1.cps.toList, c < 128) ∧ e.2.natAbs < 10 ^ 61) → PyData.leavesShortKv 600 (L.map fun e => (PyData.str e.1, PyData.int e.2)) = true ∧ PyData.showableKv (L.map fun e => (PyData.str e.1, PyData.int e.2)) = true ∧ PyData.weightKv (L.map fun e => (PyData.str e.1, PyData.int e.2)) ≤ 210 * L.length ∧ PyData.depthKv (L.map fun e => (PyData.str e.1, PyData.int e.2)) ≤ 0
  | [], _ => by simp only [List.map_nil, PyData.leavesShortKv, PyData.showableKv, PyData.weightKv, PyData.depthKv, List.length_nil, Nat.mul_zero, Nat.le_refl, Nat.zero_le, and_self]
  | e :: L, h => by
    obtain ⟨i1, i2, i4, i5⟩ := sw_kv (L := L) fun e m => h e (List.mem_cons_of_mem _ m)
    obtain ⟨h1, h2, h3⟩ := h e List.mem_cons_self
    have a := sw_str h2
    have b := sw_int h3
    have a4 := a.few
    have a5 := a.low
    have b4 := b.few
    have b5 := b.low
    simp only [List.map_cons, PyData.leavesShortKv, PyData.showableKv, PyData.weightKv, PyData.depthKv, List.length_cons, a.short, a.can, b.short, b.can, i1, i2, Bool.and_self, true_and]
    rw [Nat.mul_succ]
    omega
theorem shD_prices {L : List (Str × Int)} (few : L.length ≤ 12) (h : ∀ e ∈ L, e.1.length ≤ 5 ∧ (∀ c ∈ e.1.cps.toList, c < 128) ∧ e.2.natAbs < 10 ^ 61) : ShD (datD PyData.int L) := by
  obtain ⟨i1, i2, i4, i5⟩ := sw_kv h
  exact ⟨by unfold datD; simp only [PyData.leavesShort]; exact i1, by unfold datD; simp only [PyData.showable]; exact i2, by unfold datD; simp only [PyData.weight]; omega, by unfold datD; simp only [PyData.depth]; omega⟩
end Bl

namespace K05
open PySem PySem.Spec PyProof.Rows L2 L2.DX Gd Bv Bk Bl
def diceW (s : List Int) (i : Int) (P : Unit → Prop) : Prop := ((0 ≤ i ∧ i < 63) ∧ s.length ≤ 63) ∧ P ()
def m_law_scene  (P : (List (List (Str × Int))) → Prop) : Prop := rollW (4 : Int) fun r_2 => m_law_some_vT ("abcdefghijklmnopqrstuvwxyz" : Str) ((1 : Int) + r_2) fun r_3 => setV r_3 fun signs_4 => setV [] fun menu_5 => setV [] fun found_6 => rangeOk 0 (4 : Int) ∧ forN (fun turn_8 s_7 P => rollW (4 : Int) fun r_14 => rangeOk 0 ((2 : Int) + r_14) ∧ mapW (fun at_15 Q_17 => m_law_pick_vS signs_4 fun r_16 => Q_17 r_16) (rangeZ 0 ((2 : Int) + r_14)) fun l_18 => (("" : Str) = Str.ofString "" ∧ (l_18.map (·.length)).sum ≤ 16777216) ∧ setV (Txt.join (Str.ofString "") l_18) fun y_19 => s_7.length < 16777216 ∧ P (s_7 ++ [y_19])) (rangeZ 0 (4 : Int)) menu_5 (fun s_7 => rollW (2 : Int) fun r_20 => setV r_20 fun alike_21 => rangeOk 0 (3 : Int) ∧ forN (fun turn_23 s_22 P => lcM (fun sign_24 Q_34 => (fun Q_32 => atZ signs_4 (0 : Int) fun x_27 => (if (decide (sign_24 = x_27)) = true then Q_32 true else (fun Q_30 => (if (decide (alike_21 = (1 : Int))) = true then Q_30 true else rollW (2 : Int) fun r_29 => Q_30 (decide (r_29 = (0 : Int))))) fun b_31 => Q_32 b_31)) fun b_33 => Q_34 b_33) (fun sign_24 Q_34 => Q_34 sign_24) signs_4 fun l_35 => setV l_35 fun own_36 => setV (s_7.filter fun piece_37 => (eqB ((Bv.signs piece_37).filter fun sign_39 => (!decide (sign_39 ∈ own_36))) [])) fun fit_40 => rollW (3 : Int) fun r_42 => m_law_some_vS fit_40 r_42 fun r_43 => own_36.length + r_43.length ≤ 16777216 ∧ setV (own_36 ++ r_43) fun some_44 => mapW (fun piece_45 Q_47 => rollW (99 : Int) fun r_46 => Q_47 (piece_45, ((1 : Int) + r_46))) some_44 fun l_48 => setV (mergeD l_48) fun y_49 => s_22.length < 16777216 ∧ P (s_22 ++ [y_49])) (rangeZ 0 (3 : Int)) found_6 (fun s_22 => P s_22))
def m_law_or (one_ : (List (Str × Int))) (two_ : (List (Str × Int))) (P : (List (Str × Int)) → Prop) : Prop := setV (mergeD one_) fun found_1 => forN (fun piece_3 s_2 P => atD two_ piece_3 fun d_4 => setV (minZ d_4 ((s_2.lookup piece_3).getD (99 : Int))) fun y_5 => setV piece_3 fun z_6 => s_2.length < 16777216 ∧ P (putD s_2 z_6 y_5)) (two_.map (·.1)) found_1 (fun s_2 => P s_2)
def m_law_and (one_ : (List (Str × Int))) (two_ : (List (Str × Int))) (P : (List (Str × Int)) → Prop) : Prop := lcM (fun piece_1 Q_4 => Q_4 ((two_.lookup piece_1).isSome)) (fun piece_1 Q_4 => atD one_ piece_1 fun d_2 => atD two_ piece_1 fun d_3 => Q_4 (piece_1, (maxZ d_2 d_3))) (one_.map (·.1)) fun l_5 => P (mergeD l_5)
def m_law_has (book_ : BookD) (prices_ : (List (Str × Int))) (P : Bool → Prop) : Prop := m_Book_prices book_ fun r_4 => Sh ((datL (datP PyData.str PyData.int)) r_4) ∧ sortI prices_ fun m_5 => Sh ((datL (datP PyData.str PyData.int)) m_5) ∧ P (decide (((datL (datP PyData.str PyData.int)) r_4).shown = ((datL (datP PyData.str PyData.int)) m_5).shown))
def m_law_cheaper_right (one_ : BookD) (two_ : BookD) (P : Bool → Prop) : Prop := m_Book_alphabet one_ fun r_4 => m_Book_alphabet two_ fun r_5 => (if (!eqB r_4 r_5) = true then P true else m_Book__or one_ two_ fun r_11 => m_is_nowhere_dearer r_11 one_ fun r_12 => m_Book__or one_ two_ fun r_13 => m_is_nowhere_dearer r_13 two_ fun r_14 => setV [r_12, r_14] fun told_15 => m_Book__and one_ two_ fun r_28 => m_is_nowhere_dearer one_ r_28 fun r_29 => m_Book__and one_ two_ fun r_30 => m_is_nowhere_dearer two_ r_30 fun r_31 => told_15.length + [r_29, r_31].length ≤ 16777216 ∧ ((-(2 ^ 63) ≤ (4 : Int) ∧ (4 : Int) < 2 ^ 63) ∧ [true].length * ((4 : Int)).toNat ≤ 16777216) ∧ P (eqB (told_15 ++ [r_29, r_31]) (repL [true] (4 : Int))))
def m_law_right  (P : Bool → Prop) : Prop := m_law_scene fun r_1 => setV r_1 fun plain_2 => mapW (fun prices_3 Q_5 => m_Book__init prices_3 fun o_4 => Q_5 o_4) plain_2 fun l_6 => unp3 l_6 fun u_7 => setV u_7 fun t_8 => (fun Q_19 => m_Book__or t_8.1 t_8.2.1 fun r_9 => atZ plain_2 (0 : Int) fun x_10 => atZ plain_2 (1 : Int) fun x_11 => m_law_or x_10 x_11 fun r_12 => m_law_has r_9 r_12 fun r_13 => (if (!r_13) = true then Q_19 true else m_Book__and t_8.1 t_8.2.1 fun r_14 => atZ plain_2 (0 : Int) fun x_15 => atZ plain_2 (1 : Int) fun x_16 => m_law_and x_15 x_16 fun r_17 => m_law_has r_14 r_17 fun r_18 => Q_19 (!r_18))) fun b_20 => (if b_20 = true then P false else m_Book__or t_8.1 t_8.2.1 fun r_33 => m_Book__or t_8.2.1 t_8.1 fun r_32 => m_Book__eq r_33 r_32 fun c_34 => m_Book__and t_8.1 t_8.2.1 fun r_36 => m_Book__and t_8.2.1 t_8.1 fun r_35 => m_Book__eq r_36 r_35 fun c_37 => m_Book__or t_8.1 t_8.1 fun r_38 => m_Book__eq r_38 t_8.1 fun c_39 => m_Book__and t_8.1 t_8.1 fun r_40 => m_Book__eq r_40 t_8.1 fun c_41 => setV [c_34, c_37, c_39, c_41] fun told_42 => m_Book__or t_8.1 t_8.2.1 fun r_55 => m_Book__or r_55 t_8.2.2 fun r_56 => m_Book__or t_8.2.1 t_8.2.2 fun r_53 => m_Book__or t_8.1 r_53 fun r_54 => m_Book__eq r_56 r_54 fun c_57 => m_Book__and t_8.1 t_8.2.1 fun r_60 => m_Book__and r_60 t_8.2.2 fun r_61 => m_Book__and t_8.2.1 t_8.2.2 fun r_58 => m_Book__and t_8.1 r_58 fun r_59 => m_Book__eq r_61 r_59 fun c_62 => told_42.length + [c_57, c_62].length ≤ 16777216 ∧ setV (told_42 ++ [c_57, c_62]) fun told_63 => m_Book__and t_8.1 t_8.2.1 fun r_70 => m_Book__or t_8.1 r_70 fun r_71 => m_Book__eq r_71 t_8.1 fun c_72 => m_Book__or t_8.1 t_8.2.1 fun r_73 => m_Book__and t_8.1 r_73 fun r_74 => m_Book__eq r_74 t_8.1 fun c_75 => told_63.length + [c_72, c_75].length ≤ 16777216 ∧ setV (told_63 ++ [c_72, c_75]) fun told_76 => m_Book__or t_8.2.1 t_8.2.2 fun r_80 => m_Book__and t_8.1 r_80 fun r_81 => m_Book__and t_8.1 t_8.2.1 fun r_77 => m_Book__and t_8.1 t_8.2.2 fun r_78 => m_Book__or r_77 r_78 fun r_79 => m_Book__eq r_81 r_79 fun c_82 => setV c_82 fun y_83 => told_76.length < 16777216 ∧ m_Book__and t_8.2.1 t_8.2.2 fun r_87 => m_Book__or t_8.1 r_87 fun r_88 => m_Book__or t_8.1 t_8.2.1 fun r_84 => m_Book__or t_8.1 t_8.2.2 fun r_85 => m_Book__and r_84 r_85 fun r_86 => m_Book__eq r_88 r_86 fun c_89 => setV c_89 fun y_90 => (told_76 ++ [y_83]).length < 16777216 ∧ m_Book__or t_8.1 t_8.2.1 fun r_97 => m_Book__eq r_97 t_8.1 fun c_98 => m_Book__and t_8.1 t_8.2.1 fun r_99 => m_Book__eq r_99 t_8.2.1 fun c_100 => setV (decide (c_98 = c_100)) fun y_101 => ((told_76 ++ [y_83]) ++ [y_90]).length < 16777216 ∧ (fun Q_106 => ((-(2 ^ 63) ≤ (11 : Int) ∧ (11 : Int) < 2 ^ 63) ∧ [true].length * ((11 : Int)).toNat ≤ 16777216) ∧ (if (!eqB (((told_76 ++ [y_83]) ++ [y_90]) ++ [y_101]) (repL [true] (11 : Int))) = true then Q_106 true else (fun Q_104 => m_law_cheaper_right t_8.1 t_8.2.1 fun r_102 => (if (!r_102) = true then Q_104 true else m_law_cheaper_right t_8.2.1 t_8.2.2 fun r_103 => Q_104 (!r_103))) fun b_105 => Q_106 b_105)) fun b_107 => (if b_107 = true then P false else (fun Q_117 => atZ plain_2 (0 : Int) fun x_109 => m_law_has t_8.1 x_109 fun r_110 => (if r_110 = true then (fun Q_115 => atZ plain_2 (1 : Int) fun x_111 => m_law_has t_8.2.1 x_111 fun r_112 => (if r_112 = true then atZ plain_2 (2 : Int) fun x_113 => m_law_has t_8.2.2 x_113 fun r_114 => Q_115 r_114 else Q_115 false)) fun b_116 => Q_117 b_116 else Q_117 false)) fun b_118 => P b_118))
def m_law (script_ : (List Int)) (P : Bool → Prop) : Prop := rangeOk 0 (maxZ (1 : Int) (minZ (8 : Int) (script_.length : Int))) ∧ forL (fun spot_2 s_1 P => diceW script_ spot_2 fun r_3 => setV r_3 fun dice_4 => rangeOk 0 (2 : Int) ∧ forL (fun turn_6 s_5 P => m_law_right fun r_7 => (if (!r_7) = true then P (.rt (.rt false)) else P (.nx ()))) (rangeZ 0 (2 : Int)) () (Sum.elim (fun s_5 => P (.nx ())) P)) (rangeZ 0 (maxZ (1 : Int) (minZ (8 : Int) (script_.length : Int)))) () (Sum.elim (fun s_1 => P true) P)
end K05

namespace K05
open PySem PySem.Spec PyProof.Rows L2 L2.DX Gd Bv Bk Bl
local macro_rules | `(tactic| walk_at "rd") => `(tactic| simp only [tSeq, tPar, tNext, tIfS, tOr, tAnd, tNot, tB, tCB, tCons, tNil, tVar, tC, tRet, tRetN, tAsg, tDrop, gName, gSub, tOp, tUn, tTest, tOrV, tAndV, tNotV, tIf, tBM0, L2.tM1, L2.tM0, tChain, tCall, spKind, rIxL, tLst, tTup, tLstN, tTupN, tDNewN, tSl, tPart, tNoPart, rSlS, rIsB, rNotB, L2.start, L2.rEq, L2.rNe, L2.rI, L2.rI0, L2.rU, cx_K, cx_Kn,
  List.map_cons, List.map_nil, List.length_cons, List.length_nil, List.replicate_succ, List.replicate_zero, List.cons_append, List.nil_append, Nat.reduceAdd, Nat.reduceSub, Nat.zero_add, Nat.sub_self, Nat.reduceSubDiff, Nat.add_sub_cancel,
  List.getElem?_cons_zero, List.getElem?_cons_succ, List.set_cons_zero, List.set_cons_succ, Option.some.injEq, List.cons.injEq, V.bl.injEq, V.int.injEq, V.str.injEq, V.ref.injEq, V.ty.injEq, exists_eq_left, exists_eq_left', exists_eq_right, and_true, true_and, and_assoc, exists_and_left, exists_and_right, if_true, if_false, reduceIte, Bool.not_true, Bool.not_false, Bool.false_eq_true, decide_eq_true_eq, Bool.not_eq_true', Gd.len_str, Gd.tyV_str, reduceCtorEq])
local macro_rules | `(tactic| walk_at "rt") => `(tactic| try (walk_at "rd"))
local macro_rules | `(tactic| walk_at "side") => `(tactic| repeat (refine ⟨by (first | decide | decide +kernel | exact .inl ⟨by decide, by decide⟩ | exact .inr ⟨by decide, by decide⟩), ?_⟩))
local macro_rules | `(tactic| walk_at "up") => `(tactic| first | assumption | exact Same.refl _ | (refine same_at (by assumption) ?_; walk_at "up") | (refine same_go (by assumption) ?_; walk_at "up"))
def topS (i : Nat) : Stmt := PySem.Challenge.pw_cutbehind_k05_whole_books_put_together.main.body.getD i (.Pass ⟨0, 0, 0, 0⟩)
structure Tx (mg : Str → Option Value) : Prop where
  b_len : mg "len" = none
  b_range : mg "range" = none
  b_list : mg "list" = none
  b_min : mg "min" = none
  b_max : mg "max" = none
  b_sorted : mg "sorted" = none
  b_sum : mg "sum" = none
  b_isinstance : mg "isinstance" = none
  b_int : mg "int" = none
  b_abs : mg "abs" = none
  b_dict : mg "dict" = none
  b_tuple : mg "tuple" = none
  b_set : mg "set" = none
  b_all : mg "all" = none
  b_repr : mg "repr" = none
  b_str : mg "str" = none
  b_bool : mg "bool" = none
  b_iter : mg "iter" = none
  b_enumerate : mg "enumerate" = none
  b_zip : mg "zip" = none
  b_type : mg "type" = none
  c_MAX_SIGNS : ∃ t, mg "MAX_SIGNS" = some (.int 8000 t)
  c_MAX_LENGTH : ∃ t, mg "MAX_LENGTH" = some (.int 5 t)
  c_MAX_PIECES : ∃ t, mg "MAX_PIECES" = some (.int 12 t)
  c_MAX_ALPHABET : ∃ t, mg "MAX_ALPHABET" = some (.int 4 t)
  c_MAX_PRICE : ∃ t, mg "MAX_PRICE" = some (.int 99 t)
  c_TOO_GREAT : ∃ t, mg "TOO_GREAT" = some (.int (10 ^ 60) t)
section
variable {P : Program} {w : World} {K : PySem.W.Frag} {mg : Str → Option Value} {base : Heap}
abbrev s_law_roll : Stmt := topS 36
theorem sc_law_roll : FnScope ["dice", "upto", "found", "one", "two"] ["dice", "upto"] (defScope s_law_roll) := ⟨rfl, rfl, rfl, by decide +kernel, rfl, by decide +kernel, by decide +kernel⟩

theorem ok0_law_roll {f : Addr} {fd : FuncData} (F : Fun K "_law_roll" "_law_roll" s_law_roll f fd) (T : Tx mg) : FnG P w K mg base CX0 1 f fd ["dice", "upto"] spRoll := by
  refine roll_hidden (okG F sc_law_roll (fun vs H Q E h => ?_) (fun cdv A outer s H vs Q E hr hg h => ?_)) rfl
  · obtain ⟨a, n, x, y, z, rfl, _⟩ := h
    rfl
  · obtain ⟨a, n, x, y, z, rfl, ⟨hn, hn2⟩, h0, ha, q⟩ := h
    refine ⟨_, (pss_cons (ps_if (pt_cmpR op_gt (pe_ix ix_list (pv 0) pe_int (fun _ _ => rfl)) pe_int (nomark _)) (pss_cons (ps_set (i := 2) sc_law_roll.nd rfl (Or.inl rfl) (pe_op op_mod (pe_callTy call_intI (by rfl) T.b_int (by decide +kernel) (pa_cons (pe_ix ix_list (pv 0) pe_int (fun _ _ => rfl)) pa_nil)) (pv 1)))
    (pss_cons (ps_asg (pe_op op_fdiv (pe_ix ix_list (pv 0) pe_int (fun _ _ => rfl)) (pv 1)) (pg_sub (pv 0) pe_int set_list))
    (pss_one (ps_ret (pv 2))))) pss_nil)
    (pss_cons (ps_asg (pe_op op_add (pe_ix ix_list (pv 0) pe_int (fun _ _ => rfl)) pe_int) (pg_sub (pv 0) pe_int set_list))
    (pss_cons (ps_set (i := 3) sc_law_roll.nd rfl (Or.inl rfl) (pe_op op_mod (pe_callTy call_intI (by rfl) T.b_int (by decide +kernel) (pa_cons (pe_op op_add (pe_op op_mul (pe_ix ix_list (pv 0) pe_int (fun _ _ => rfl)) pe_int) (pe_op op_mul (pe_ix ix_list (pv 0) pe_int (fun _ _ => rfl)) pe_int)) pa_nil)) pe_int))
    (pss_cons (ps_set (i := 4) sc_law_roll.nd rfl (Or.inl rfl) (pe_op op_mod (pe_callTy call_intI (by rfl) T.b_int (by decide +kernel) (pa_cons (pe_op op_add (pe_op op_mul (pv 3) (pv 3)) (pe_op op_mul (pe_ix ix_list (pv 0) pe_int (fun _ _ => rfl)) pe_int)) pa_nil)) pe_int))
    (pss_one (ps_ret (pe_op op_mod (pe_callTy call_intI (by rfl) T.b_int (by decide +kernel) (pa_cons (pe_op op_fdiv (pe_op op_mod (pe_callTy call_intI (by rfl) T.b_int (by decide +kernel) (pa_cons (pe_op op_add (pe_op op_mul (pv 4) (pv 4)) (pv 3)) pa_nil)) pe_int) pe_int) pa_nil)) (pv 1)))))))), ?_⟩
    walk_at "rd"
    refine ⟨_, sq_lst ha, _, rfl, _, rfl, ?_⟩
    split
    · refine ⟨_, sq_lst ha, _, rfl, _, rfl, hn, _, sq_lst ha, _, rfl, _, rfl, ⟨hn, hn2⟩, a, _, 0, 0, rfl, rfl, ha, rfl, ?_⟩
      exact q (x % n) (x / n) y z (Int.emod_nonneg _ (by omega)) (Int.emod_lt_of_pos _ hn) (Int.ediv_nonneg h0 (by omega))
    · refine ⟨_, sq_lst ha, _, rfl, _, rfl, a, _, 2, 2, rfl, rfl, ha, rfl, ?_⟩
      have hb : (upd H a (.lst ([V.int x, V.int y, V.int z].set 2 (V.int (z + 1))))) a = some (three x y (z + 1)) := upd_same
      refine ⟨_, sq_lst hb, _, rfl, _, rfl, .inr ⟨by decide, by decide⟩, _, sq_lst hb, _, rfl, _, rfl, .inr ⟨by decide, by decide⟩, by decide, ?_⟩
      have m1 := Int.emod_nonneg (y * 25214903917 + (z + 1) * 40692) (show (2305843009213693951 : Int) ≠ 0 by decide)
      have m2 := Int.emod_lt_of_pos (y * 25214903917 + (z + 1) * 40692) (show (0 : Int) < 2305843009213693951 by decide)
      generalize (y * 25214903917 + (z + 1) * 40692) % 2305843009213693951 = one at m1 m2 ⊢
      refine ⟨.inl ⟨by omega, by omega⟩, _, sq_lst hb, _, rfl, _, rfl, .inr ⟨by decide, by decide⟩, by decide, ?_⟩
      have m3 := Int.emod_nonneg (one * one + (z + 1) * 69621) (show (1152921504606846883 : Int) ≠ 0 by decide)
      have m4 := Int.emod_lt_of_pos (one * one + (z + 1) * 69621) (show (0 : Int) < 1152921504606846883 by decide)
      generalize (one * one + (z + 1) * 69621) % 1152921504606846883 = two at m3 m4 ⊢
      refine ⟨.inl ⟨by omega, by omega⟩, by decide, ⟨by decide, by decide⟩, hn, ?_⟩
      exact q _ x y (z + 1) (Int.emod_nonneg _ (by omega)) (Int.emod_lt_of_pos _ hn) h0

abbrev s_law_dice : Stmt := topS 35
theorem sc_law_dice : FnScope ["script", "spot", "cell", "whole"] ["script", "spot"] (defScope s_law_dice) := ⟨rfl, rfl, rfl, by decide +kernel, rfl, by decide +kernel, by decide +kernel⟩

theorem ok0_law_dice {f : Addr} {fd : FuncData} (F : Fun K "_law_dice" "_law_dice" s_law_dice f fd) (T : Tx mg) : FnG P w K mg base CX0 1 f fd ["script", "spot"] (spDice K) := by
  refine dice_hidden (okG F sc_law_dice (fun vs H Q E h => ?_) (fun cdv A outer s H vs Q E hr hg h => ?_)) rfl
  · obtain ⟨a, ns, i, rfl, _⟩ := h
    rfl
  · obtain ⟨a, ns, i, rfl, ⟨hi, hi2⟩, hS, many, q⟩ := h
    refine ⟨_, (pss_cons (ps_set (i := 2) sc_law_dice.nd rfl (Or.inl rfl) (pe_ifExp (pt_cmpR op_lt (pv 1) (pe_callB call_len (by rfl) T.b_len (by decide +kernel) (pa_cons (pv 0) pa_nil)) (nomark _)) (pe_ix ix_list (pv 0) (pv 1) (fun _ _ => rfl)) (pe_op op_add (pe_op op_mul pe_int (pv 1)) pe_int)))
    (pss_cons (ps_set (i := 3) sc_law_dice.nd rfl (Or.inl rfl) (pe_op op_mod (pe_callTy call_intI (by rfl) T.b_int (by decide +kernel) (pa_cons (pe_callB call_abs (by rfl) T.b_abs (by decide +kernel) (pa_cons (pv 2) pa_nil)) pa_nil)) (pe_op op_powW (pe_op op_powW pe_int pe_int) pe_int)))
    (pss_one (ps_ret (pe_lst (pa_cons (pe_ifExp (pt_cmpR op_ge (pv 3) (pe_op op_powW pe_int pe_int) (nomark _)) (pv 3) pe_int) (pa_cons (pe_op op_add (pe_op op_add (pe_op op_add (pe_op op_mul pe_int (pv 3)) (pe_callTy call_intB (by rfl) T.b_int (by decide +kernel) (pa_cons (pe_cmpR op_lt (pv 2) pe_int (nomark _)) pa_nil))) (pe_op op_mul pe_int (pv 1))) pe_int) (pa_cons pe_int pa_nil)))))))), ?_⟩
    walk_at "rd"
    refine ⟨ns.length, .inl ⟨_, hS, by rw [List.length_map]⟩, ?_⟩
    have big : (0 : Int) < (10 ^ Int.toNat 57) ^ Int.toNat 11 := by decide +kernel
    have go : ∀ c : Int, 0 ≤ (if c < 0 then -c else c) % (10 ^ Int.toNat 57) ^ Int.toNat 11 := fun c => Int.emod_nonneg _ (by omega)
    split
    · next lt =>
      have lt' : i.toNat < ns.length := by omega
      refine ⟨_, hS, .int ns[i.toNat], ?_, _, rfl, by decide, by decide +kernel, by decide, by decide +kernel, big, by decide, by decide +kernel, ?_⟩
      · refine Eq.trans (congrArg _ (show i = (i.toNat : Int) by omega)) (atI_nat ?_)
        rw [List.getElem?_map, List.getElem?_eq_getElem (by omega)]
        rfl
      · refine ite2 (fun _ => ?_) (fun _ => ?_)
        · refine ⟨.inl ⟨by decide, by decide⟩, _, rfl, .inl ⟨by decide, by decide⟩, by decide, fun p hp => ?_⟩
          exact q p _ _ _ hp (go _)
        · refine ⟨.inl ⟨by decide, by decide⟩, _, rfl, .inl ⟨by decide, by decide⟩, by decide, fun p hp => ?_⟩
          exact q p _ _ _ hp (Int.le_refl 0)
    · refine ⟨.inl ⟨by decide, by decide⟩, by decide, by decide +kernel, by decide, by decide +kernel, big, by decide, by decide +kernel, ?_⟩
      refine ite2 (fun _ => ?_) (fun _ => ?_)
      · refine ⟨.inl ⟨by decide, by decide⟩, .inl ⟨by decide, by decide⟩, by decide, fun p hp => ?_⟩
        exact q p _ _ _ hp (go _)
      · refine ⟨.inl ⟨by decide, by decide⟩, .inl ⟨by decide, by decide⟩, by decide, fun p hp => ?_⟩
        exact q p _ _ _ hp (Int.le_refl 0)
theorem ok_law_roll {f : Addr} {fd : FuncData} (F : Fun K "_law_roll" "_law_roll" s_law_roll f fd) (T : Tx mg) : FnG P w K mg base CX0 1 f fd ["dice", "upto"] (spA (rCons rDice (rCons Bv.rI rNil)) Bv.rI (fun a => rollW a.2.1)) := spa_roll (ok0_law_roll F T)
theorem ok_law_dice {f : Addr} {fd : FuncData} (F : Fun K "_law_dice" "_law_dice" s_law_dice f fd) (T : Tx mg) : FnG P w K mg base CX0 1 f fd ["script", "spot"] (spA (rCons (rLK K Bv.rI) (rCons Bv.rI rNil)) rDice (fun a => diceW a.1 a.2.1)) := spa_dice (ok0_law_dice F T)
abbrev s_signs_in : Stmt := topS 19
theorem sc_signs_in : FnScope ["pieces"] ["pieces"] (defScope s_signs_in) := ⟨rfl, rfl, rfl, by decide +kernel, rfl, by decide +kernel, by decide +kernel⟩
theorem ok_signs_in {f : Addr} {fd : FuncData} (F : Fun K "_signs_in" "_signs_in" s_signs_in f fd) (T : Tx mg) {CB : Addr} (BB : ClsF K CB ["_prices", "_pieces", "_alphabet", "_longest", "_dearest", "ending", "heading", "kept"]) (BK : BookK K mg CB)  : FnOk P w K mg base CX0 1 f fd ["pieces"] (spA (rCons (rT K rS) rNil) (rT K rS) (fun a => m_signs_in a.1)) := by
  refine okB F sc_signs_in (at_cons at_nil) (len_cons len_nil) (fun cdv A outer s H E hm y => ?_)
  obtain ⟨pieces_, ⟨⟩⟩ := y
  exact XB.cast (Γ := [.im (rT K rS) pieces_]) (xb_ret (g := fun x_1 => x_1) (xe_callTy call_tuple_of (s_tupL (K := K)) (by rfl) T.b_tuple (by decide +kernel) (xa_cons (xv_e K (xe_callB (cr_sortedTx rfl) (s_sortedU (w := w)) (by rfl) T.b_sorted (by decide +kernel) (xa_cons (xe_callTy (call_setT rfl) (s_setS (K := K) (w := w)) (by rfl) T.b_set (by decide +kernel) (xa_cons (xe_bm PySem.F.plainAttrs_str PySem.F.slot_str_join PySem.F.type_str_join mt_join rfl (s_joinT (K := K)) (xe_str (by decide +kernel)) (xa_cons (xe_v 0) xa_nil)) xa_nil)) xa_nil))) xa_nil)) (fun x F v h => h)) (fun P h => by
    unfold m_signs_in at h
    try dsimp only at h
    try dsimp only
    exact h)
abbrev s_longer_pieces : Stmt := topS 20
theorem sc_longer_pieces : FnScope ["prices", "alphabet", "place", "longer", "piece", "price", "sign", "entry"] ["prices", "alphabet", "place"] (defScope s_longer_pieces) := ⟨rfl, rfl, rfl, by decide +kernel, rfl, by decide +kernel, by decide +kernel⟩
theorem ok_longer_pieces {f : Addr} {fd : FuncData} (F : Fun K "_longer_pieces" "_longer_pieces" s_longer_pieces f fd) (T : Tx mg) {CB : Addr} (BB : ClsF K CB ["_prices", "_pieces", "_alphabet", "_longest", "_dearest", "ending", "heading", "kept"]) (BK : BookK K mg CB)  : FnOk P w K mg base CX0 1 f fd ["prices", "alphabet", "place"] (spA (rCons (rD Bv.rI) (rCons (rT K rS) (rCons Bv.rI rNil))) (rD (rL K (rP3 K rS Bv.rI Bv.rI))) (fun a => m_longer_pieces a.1 a.2.1 a.2.2.1)) := by
  refine okB F sc_longer_pieces (at_cons (at_cons (at_cons at_nil))) (len_cons (len_cons (len_cons len_nil))) (fun cdv A outer s H E hm y => ?_)
  obtain ⟨prices_, alphabet_, place_, ⟨⟩⟩ := y
  exact XB.cast (Γ := [.im (rD Bv.rI) prices_, .im (rT K rS) alphabet_, .im Bv.rI place_, .no, .no, .no, .no, .no]) (xb_set (i := 3) sc_longer_pieces.nd rfl (Or.inr rfl) (xv_e K (xv_lcP (xe_lcD (Γw := [.im (rD Bv.rI) prices_, .im (rT K rS) alphabet_, .im Bv.rI place_, .no, .no, .no, .no, .no]) rfl sc_longer_pieces.nd (xl_items K (xd_v 0)) (blkOk_by (own := [("piece", 4), ("price", 5)]) (N := ["prices", "alphabet", "place", "longer", "piece", "price", "sign", "entry"]) (sc := defScope s_longer_pieces) (by decide +kernel)) (Le.eq (Le.eq (Le.eq (Le.no (Le.no (Le.no (Le.no (Le.no Le.nil)))))))) (hw2 rfl rfl) (fun _ h => h) (fun _ _ _ _ _ => (xg_pair (K := K) rfl rfl (xg_name (i := 4) sc_longer_pieces.nd rfl (Or.inl rfl)) (xg_name (i := 5) sc_longer_pieces.nd rfl (Or.inl rfl)))) (fun it_1 _ _ _ _ _ => (xts_one (xt_p (xt_cmp op_gt s_IB (xe_callB call_len_str s_lenS (by rfl) T.b_len (by decide +kernel) (xa_cons (xe_v 4) xa_nil)) xe_int (nobehind _ (by decide) (by decide)))))) (fun it_1 _ _ _ _ _ => (xe_p (xe_triple (xe_v 4) (xe_callB call_len_str s_lenS (by rfl) T.b_len (by decide +kernel) (xa_cons (xe_v 4) xa_nil)) (xe_v 5))))))) (fun longer_2 => (xb_ret (g := fun x_11 => x_11) (xv_d (xe_dc (Γw := [.im (rD Bv.rI) prices_, .im (rT K rS) alphabet_, .im Bv.rI place_, .im (rL K (rP3 K rS Bv.rI Bv.rI)) longer_2, .no, .no, .no, .no]) rfl sc_longer_pieces.nd (xi_tup (K := K) rfl (xe_v 1)) (blkOk_by (own := [("sign", 6)]) (N := ["prices", "alphabet", "place", "longer", "piece", "price", "sign", "entry"]) (sc := defScope s_longer_pieces) (by decide +kernel)) (Le.eq (Le.eq (Le.eq (Le.eq (Le.no (Le.no (Le.no (Le.no Le.nil)))))))) (hw1 rfl) (fun _ h => h) (fun _ _ _ _ _ => (xg_name (i := 6) sc_longer_pieces.nd rfl (Or.inr rfl))) (fun sign_3 _ _ _ _ _ => xts_nil) (fun sign_3 _ _ _ _ _ => (xe_v 6)) (fun sign_3 _ _ _ _ _ => (xv_e K (xe_lc (Γw := [.im (rD Bv.rI) prices_, .im (rT K rS) alphabet_, .im Bv.rI place_, .im (rL K (rP3 K rS Bv.rI Bv.rI)) longer_2, .no, .no, .im rS sign_3, .no]) rfl sc_longer_pieces.nd (xi_list (K := K) rfl (xe_v 3)) (blkOk_by (own := [("entry", 7)]) (by rfl)) (Le.eq (Le.eq (Le.eq (Le.eq (Le.no (Le.no (Le.eq (Le.no Le.nil)))))))) (hw1 rfl) (fun _ h => h) (fun _ _ _ _ _ => (xg_name (i := 7) sc_longer_pieces.nd rfl (Or.inl rfl))) (fun entry_4 _ _ _ _ _ => (xts_one (xt_cmp op_eq s_eqS (xe_ix ix_str s_ixS (xe_ix ix_tup (s_30 (K := K)) (xe_v 7) xe_int (fun _ _ => rfl)) (xe_v 2) (fun _ _ => rfl)) (xe_v 6) (nobehind _ (by decide) (by decide))))) (fun entry_4 _ _ _ _ _ => (xe_p (xe_v 7)))))))) (fun x F v h => h)))) (fun P h => by
    unfold m_longer_pieces at h
    try dsimp only at h
    try dsimp only
    exact h)
abbrev s_is_text : Stmt := topS 6
theorem sc_is_text : FnScope ["value"] ["value"] (defScope s_is_text) := ⟨rfl, rfl, rfl, by decide +kernel, rfl, by decide +kernel, by decide +kernel⟩
theorem ok_is_text {f : Addr} {fd : FuncData} (F : Fun K "is_text" "is_text" s_is_text f fd) (T : Tx mg) {CB : Addr} (BB : ClsF K CB ["_prices", "_pieces", "_alphabet", "_longest", "_dearest", "ending", "heading", "kept"]) (BK : BookK K mg CB)  : FnOk P w K mg base CX0 1 f fd ["value"] (spA (rCons rS rNil) rB (fun a => m_is_text a.1)) := by
  refine okB F sc_is_text (at_cons at_nil) (len_cons len_nil) (fun cdv A outer s H E hm y => ?_)
  obtain ⟨value_, ⟨⟩⟩ := y
  exact XB.cast (Γ := [.im rS value_]) (xb_ifR (xw_t (xw_orP (xt_p (xt_not (xt_val (xe_isiT (n' := "str") (bb := true) (by rfl) T.b_isinstance ty_rS (by rfl) T.b_str (by decide +kernel) (by decide +kernel) (xe_v 0))))) (xw_or1 (xt_p (xt_cmp op_gt s_IB (xe_callB call_len_str s_lenS (by rfl) T.b_len (by decide +kernel) (xa_cons (xe_v 0) xa_nil)) (xe_gI (by rfl) T.c_MAX_SIGNS) (nobehind _ (by decide) (by decide))))))) (xb_ret (g := fun x_1 => x_1) xe_bl (fun x F v h => h)) (xb_ret (g := fun x_2 => x_2) (xe_orP (xe_p (xe_cmp op_eq s_eqS (xe_v 0) (xe_str (by decide +kernel)) (nobehind _ (by decide) (by decide)))) (xe_one (xe_p (xe_andP (xe_p (xe_bm0 PySem.F.plainAttrs_str PySem.F.slot_str_isascii PySem.F.type_str_isascii mt_isascii rfl (s_str0 (K := K)) (xe_v 0))) (xe_andP (xe_p (xe_bm0 PySem.F.plainAttrs_str PySem.F.slot_str_isalpha PySem.F.type_str_isalpha mt_isalpha rfl (s_str0 (K := K)) (xe_v 0))) (xe_one (xe_p (xe_bm0 PySem.F.plainAttrs_str PySem.F.slot_str_islower PySem.F.type_str_islower mt_islower rfl (s_str0 (K := K)) (xe_v 0))))))))) (fun x F v h => h))) (fun P h => by
    unfold m_is_text at h
    try dsimp only at h
    try dsimp only
    exact h)
abbrev s_is_piece : Stmt := topS 7
theorem sc_is_piece : FnScope ["value"] ["value"] (defScope s_is_piece) := ⟨rfl, rfl, rfl, by decide +kernel, rfl, by decide +kernel, by decide +kernel⟩
theorem ok_is_piece {f : Addr} {fd : FuncData} (F : Fun K "is_piece" "is_piece" s_is_piece f fd) (T : Tx mg) {CB : Addr} (BB : ClsF K CB ["_prices", "_pieces", "_alphabet", "_longest", "_dearest", "ending", "heading", "kept"]) (BK : BookK K mg CB) (G_is_text : Dn P w K mg base 1 "is_text" ["value"] (spA (rCons rS rNil) rB (fun a => m_is_text a.1))) : FnOk P w K mg base CX0 2 f fd ["value"] (spA (rCons rS rNil) rB (fun a => m_is_piece a.1)) := by
  refine okB F sc_is_piece (at_cons at_nil) (len_cons len_nil) (fun cdv A outer s H E hm y => ?_)
  obtain ⟨value_, ⟨⟩⟩ := y
  exact XB.cast (Γ := [.im rS value_]) (xb_ret (g := fun x_4 => x_4) (xe_and (xe_callN G_is_text (hm.mono (by decide)) (by rfl) (xa_cons (xe_v 0) xa_nil)) (xe_one (xe_p (xe_chain op_le op_le s_IB s_IB xe_int (xe_p (xe_callB call_len_str s_lenS (by rfl) T.b_len (by decide +kernel) (xa_cons (xe_v 0) xa_nil))) (xe_p (xe_gI (by rfl) T.c_MAX_LENGTH)))))) (fun x F v h => h)) (fun P h => by
    unfold m_is_piece at h
    try dsimp only at h
    try dsimp only
    exact h)
abbrev s_is_integer : Stmt := topS 5
theorem sc_is_integer : FnScope ["value"] ["value"] (defScope s_is_integer) := ⟨rfl, rfl, rfl, by decide +kernel, rfl, by decide +kernel, by decide +kernel⟩
theorem ok_is_integer {f : Addr} {fd : FuncData} (F : Fun K "is_integer" "is_integer" s_is_integer f fd) (T : Tx mg) {CB : Addr} (BB : ClsF K CB ["_prices", "_pieces", "_alphabet", "_longest", "_dearest", "ending", "heading", "kept"]) (BK : BookK K mg CB)  : FnOk P w K mg base CX0 1 f fd ["value"] (spA (rCons Bv.rI rNil) rB (fun a => m_is_integer a.1)) := by
  refine okB F sc_is_integer (at_cons at_nil) (len_cons len_nil) (fun cdv A outer s H E hm y => ?_)
  obtain ⟨value_, ⟨⟩⟩ := y
  exact XB.cast (Γ := [.im Bv.rI value_]) (xb_ret (g := fun x_1 => x_1) (xe_andP (xe_p (xe_isiT (n' := "int") (bb := true) (by rfl) T.b_isinstance ty_rI (by rfl) T.b_int (by decide +kernel) (by decide +kernel) (xe_v 0))) (xe_andP (xe_p (xe_not (xe_isiT (n' := "bool") (bb := false) (by rfl) T.b_isinstance ty_rI (by rfl) T.b_bool (by decide +kernel) (by decide +kernel) (xe_v 0)))) (xe_one (xe_p (xe_chain op_lt op_lt s_IB s_IB (xe_un un_neg s_U (xe_gI (by rfl) T.c_TOO_GREAT)) (xe_p (xe_v 0)) (xe_p (xe_gI (by rfl) T.c_TOO_GREAT))))))) (fun x F v h => h)) (fun P h => by
    unfold m_is_integer at h
    try dsimp only at h
    try dsimp only
    exact h)
abbrev s_is_price : Stmt := topS 17
theorem sc_is_price : FnScope ["value"] ["value"] (defScope s_is_price) := ⟨rfl, rfl, rfl, by decide +kernel, rfl, by decide +kernel, by decide +kernel⟩
theorem ok_is_price {f : Addr} {fd : FuncData} (F : Fun K "is_price" "is_price" s_is_price f fd) (T : Tx mg) {CB : Addr} (BB : ClsF K CB ["_prices", "_pieces", "_alphabet", "_longest", "_dearest", "ending", "heading", "kept"]) (BK : BookK K mg CB) (G_is_integer : Dn P w K mg base 1 "is_integer" ["value"] (spA (rCons Bv.rI rNil) rB (fun a => m_is_integer a.1))) : FnOk P w K mg base CX0 2 f fd ["value"] (spA (rCons Bv.rI rNil) rB (fun a => m_is_price a.1)) := by
  refine okB F sc_is_price (at_cons at_nil) (len_cons len_nil) (fun cdv A outer s H E hm y => ?_)
  obtain ⟨value_, ⟨⟩⟩ := y
  exact XB.cast (Γ := [.im Bv.rI value_]) (xb_ret (g := fun x_4 => x_4) (xe_and (xe_callN G_is_integer (hm.mono (by decide)) (by rfl) (xa_cons (xe_v 0) xa_nil)) (xe_one (xe_p (xe_chain op_le op_le s_IB s_IB xe_int (xe_p (xe_v 0)) (xe_p (xe_gI (by rfl) T.c_MAX_PRICE)))))) (fun x F v h => h)) (fun P h => by
    unfold m_is_price at h
    try dsimp only at h
    try dsimp only
    exact h)
theorem ok_signs_in_vL {f : Addr} {fd : FuncData} (F : Fun K "_signs_in" "_signs_in" s_signs_in f fd) (T : Tx mg) {CB : Addr} (BB : ClsF K CB ["_prices", "_pieces", "_alphabet", "_longest", "_dearest", "ending", "heading", "kept"]) (BK : BookK K mg CB)  : FnOk P w K mg base CX0 1 f fd ["pieces"] (spA (rCons (rL K rS) rNil) (rT K rS) (fun a => m_signs_in_vL a.1)) := by
  refine okB F sc_signs_in (at_cons at_nil) (len_cons len_nil) (fun cdv A outer s H E hm y => ?_)
  obtain ⟨pieces_, ⟨⟩⟩ := y
  exact XB.cast (Γ := [.im (rL K rS) pieces_]) (xb_ret (g := fun x_1 => x_1) (xe_callTy call_tuple_of (s_tupL (K := K)) (by rfl) T.b_tuple (by decide +kernel) (xa_cons (xv_e K (xe_callB (cr_sortedTx rfl) (s_sortedU (w := w)) (by rfl) T.b_sorted (by decide +kernel) (xa_cons (xe_callTy (call_setT rfl) (s_setS (K := K) (w := w)) (by rfl) T.b_set (by decide +kernel) (xa_cons (xe_bm PySem.F.plainAttrs_str PySem.F.slot_str_join PySem.F.type_str_join mt_join rfl (s_join (K := K)) (xe_str (by decide +kernel)) (xa_cons (xe_v 0) xa_nil)) xa_nil)) xa_nil))) xa_nil)) (fun x F v h => h)) (fun P h => by
    unfold m_signs_in_vL at h
    try dsimp only at h
    try dsimp only
    exact h)
abbrev s_are_prices : Stmt := topS 21
theorem sc_are_prices : FnScope ["value", "alphabet", "piece", "price", "sign"] ["value"] (defScope s_are_prices) := ⟨rfl, rfl, rfl, by decide +kernel, rfl, by decide +kernel, by decide +kernel⟩
theorem ok_are_prices {f : Addr} {fd : FuncData} (F : Fun K "_are_prices" "_are_prices" s_are_prices f fd) (T : Tx mg) {CB : Addr} (BB : ClsF K CB ["_prices", "_pieces", "_alphabet", "_longest", "_dearest", "ending", "heading", "kept"]) (BK : BookK K mg CB) (G_is_piece : Dn P w K mg base 2 "is_piece" ["value"] (spA (rCons rS rNil) rB (fun a => m_is_piece a.1))) (G_is_price : Dn P w K mg base 2 "is_price" ["value"] (spA (rCons Bv.rI rNil) rB (fun a => m_is_price a.1))) (G_signs_in_vL : Dn P w K mg base 1 "_signs_in" ["pieces"] (spA (rCons (rL K rS) rNil) (rT K rS) (fun a => m_signs_in_vL a.1))) : FnOk P w K mg base CX0 3 f fd ["value"] (spA (rCons (rD Bv.rI) rNil) rB (fun a => m_are_prices a.1)) := by
  refine okB F sc_are_prices (at_cons at_nil) (len_cons len_nil) (fun cdv A outer s H E hm y => ?_)
  obtain ⟨value_, ⟨⟩⟩ := y
  exact XB.cast (Γ := [.im (rD Bv.rI) value_, .no, .no, .no, .no]) (xb_ifR (xw_t (xw_orP (xt_p (xt_not (xt_val (xe_isiT (n' := "dict") (bb := true) (by rfl) T.b_isinstance ty_rD (by rfl) T.b_dict (by decide +kernel) (by decide +kernel) (xe_v 0))))) (xw_or1 (xt_p (xt_not (xt_chain op_le op_le s_IB s_IB xe_int (xe_p (xe_callB call_lenDR s_lenD (by rfl) T.b_len (by decide +kernel) (xa_cons (xe_v 0) xa_nil))) (xe_p (xe_gI (by rfl) T.c_MAX_PIECES)))))))) (xb_ret (g := fun x_1 => x_1) xe_bl (fun x F v h => h)) (xb_ifR (xt_not (xt_val (xe_callB (cr_all rfl) (s_all (K := K)) (by rfl) T.b_all (by decide +kernel) (xa_cons (xv_e K (xv_lcA (xe_lcD (Γw := [.im (rD Bv.rI) value_, .no, .no, .no, .no]) rfl sc_are_prices.nd (xl_items K (xd_v 0)) (blkOk_by (own := [("piece", 2), ("price", 3)]) (N := ["value", "alphabet", "piece", "price", "sign"]) (sc := defScope s_are_prices) (by decide +kernel)) (Le.eq (Le.no (Le.no (Le.no (Le.no Le.nil))))) (hw2 rfl rfl) (fun _ h => h) (fun _ _ _ _ _ => (xg_pair (K := K) rfl rfl (xg_name (i := 2) sc_are_prices.nd rfl (Or.inl rfl)) (xg_name (i := 3) sc_are_prices.nd rfl (Or.inl rfl)))) (fun it_2 _ _ _ _ _ => xts_nil) (fun it_2 _ _ _ _ _ => (xe_and (xe_callN G_is_piece (hm.mono (by decide)) (by rfl) (xa_cons (xe_v 2) xa_nil)) (xe_one (xe_callN G_is_price (hm.mono (by decide)) (by rfl) (xa_cons (xe_v 3) xa_nil)))))))) xa_nil)))) (xb_ret (g := fun x_9 => x_9) xe_bl (fun x F v h => h)) (xb_set (i := 1) sc_are_prices.nd rfl (Or.inl rfl) (xe_callN G_signs_in_vL (hm.mono (by decide)) (by rfl) (xa_cons (xv_e K (xe_callTy (call_listDK rfl) s_listDK (by rfl) T.b_list (by decide +kernel) (xa_cons (xe_v 0) xa_nil))) xa_nil)) (fun alphabet_11 => (xb_ret (g := fun x_13 => x_13) (xe_andP (xe_p (xe_cmp op_le s_IB (xe_callB call_len (s_lenT (K := K)) (by rfl) T.b_len (by decide +kernel) (xa_cons (xe_v 1) xa_nil)) (xe_gI (by rfl) T.c_MAX_ALPHABET) (nobehind _ (by decide) (by decide)))) (xe_one (xe_p (xe_callB (cr_all rfl) (s_all (K := K)) (by rfl) T.b_all (by decide +kernel) (xa_cons (xv_e K (xv_lcAP (xe_lc (Γw := [.im (rD Bv.rI) value_, .im (rT K rS) alphabet_11, .no, .no, .no]) rfl sc_are_prices.nd (xi_tup (K := K) rfl (xe_v 1)) (blkOk_by (own := [("sign", 4)]) (N := ["value", "alphabet", "piece", "price", "sign"]) (sc := defScope s_are_prices) (by decide +kernel)) (Le.eq (Le.eq (Le.no (Le.no (Le.no Le.nil))))) (hw1 rfl) (fun _ h => h) (fun _ _ _ _ _ => (xg_name (i := 4) sc_are_prices.nd rfl (Or.inl rfl))) (fun sign_12 _ _ _ _ _ => xts_nil) (fun sign_12 _ _ _ _ _ => (xe_p (xe_din (hu_of hm) (xe_v 4) (xe_v 0))))))) xa_nil))))) (fun x F v h => h)))))) (fun P h => by
    unfold m_are_prices at h
    try dsimp only at h
    try dsimp only
    exact h)
abbrev s_Book__init : Stmt := inClass (topS 24) 0
theorem sc_Book__init : FnScope ["self", "prices", "piece"] ["self", "prices"] (defScope s_Book__init) := ⟨rfl, rfl, rfl, by decide +kernel, rfl, by decide +kernel, by decide +kernel⟩
theorem ok_Book__init {f : Addr} {fd : FuncData} (F : Fun K "__init__" "Book.__init__" s_Book__init f fd) (T : Tx mg) {CB : Addr} (BB : ClsF K CB ["_prices", "_pieces", "_alphabet", "_longest", "_dearest", "ending", "heading", "kept"]) (BK : BookK K mg CB) (G_signs_in : Dn P w K mg base 1 "_signs_in" ["pieces"] (spA (rCons (rT K rS) rNil) (rT K rS) (fun a => m_signs_in a.1))) (G_longer_pieces : Dn P w K mg base 1 "_longer_pieces" ["prices", "alphabet", "place"] (spA (rCons (rD Bv.rI) (rCons (rT K rS) (rCons Bv.rI rNil))) (rD (rL K (rP3 K rS Bv.rI Bv.rI))) (fun a => m_longer_pieces a.1 a.2.1 a.2.2.1))) (G_are_prices : Dn P w K mg base 3 "_are_prices" ["value"] (spA (rCons (rD Bv.rI) rNil) rB (fun a => m_are_prices a.1))) : FnOk P w K mg base CX0 4 f fd ["self", "prices"] (spI CB (rCons (rD Bv.rI) rNil) (fsBook K) (fun a => m_Book__init a.1)) := by
  refine okIB F sc_Book__init (at_cons at_nil) rfl (lenI (len_cons len_nil)) (fun cdv A outer s H E hm b y => ?_)
  obtain ⟨prices_, ⟨⟩⟩ := y
  exact XB.cast (Γ := [.oi CB b [], .im (rD Bv.rI) prices_, .no]) (xb_ifR (xt_not (xt_val (xe_callN G_are_prices (hm.mono (by decide)) (by rfl) (xa_cons (xe_v 1) xa_nil)))) xb_never (xb_fld (i := 0) BB.cl (BB.no (by decide +kernel)) rfl rfl rfl (Or.inl rfl) (xv_d (xe_dc (Γw := [.oi CB b [], .im (rD Bv.rI) prices_, .no]) rfl sc_Book__init.nd (xi_list (K := K) rfl (xv_e K (xe_callB (call_sortedDK rfl) s_sortedDK (by rfl) T.b_sorted (by decide +kernel) (xa_cons (xe_v 1) xa_nil)))) (blkOk_by (own := [("piece", 2)]) (N := ["self", "prices", "piece"]) (sc := defScope s_Book__init) (by decide +kernel)) (Le.eq (Le.eq (Le.no Le.nil))) (hw1 rfl) (fun _ h => h) (fun _ _ _ _ _ => (xg_name (i := 2) sc_Book__init.nd rfl (Or.inl rfl))) (fun piece_2 _ _ _ _ _ => xts_nil) (fun piece_2 _ _ _ _ _ => (xe_v 2)) (fun piece_2 _ _ _ _ _ => (xe_dget (hu_of hm) (xe_v 1) (xe_v 2) (by intro _ _; rfl))))) rfl rfl (fun prices_6 => (xb_fld (i := 0) BB.cl (BB.no (by decide +kernel)) rfl rfl rfl (Or.inl rfl) (xe_callTy (call_tupD rfl) (s_tupD (K := K)) (by rfl) T.b_tuple (by decide +kernel) (xa_cons (xe_fldO (i := 0) BB.cl (BB.no (by decide +kernel)) rfl rfl rfl (Or.inl rfl) rfl) xa_nil)) rfl rfl (fun pieces_7 => (xb_fld (i := 0) BB.cl (BB.no (by decide +kernel)) rfl rfl rfl (Or.inl rfl) (xe_callN G_signs_in (hm.mono (by decide)) (by rfl) (xa_cons (xe_fldO (i := 0) BB.cl (BB.no (by decide +kernel)) rfl rfl rfl (Or.inl rfl) rfl) xa_nil)) rfl rfl (fun alphabet_9 => (xb_fld (i := 0) BB.cl (BB.no (by decide +kernel)) rfl rfl rfl (Or.inl rfl) (xe_callB (cr_max rfl) (s_maxL (K := K)) (by rfl) T.b_max (by decide +kernel) (xa_cons (xv_e K (xv_lcAP (xe_lc (Γw := [.oi CB b [("_prices", ⟨(rD Bv.rI), prices_6⟩), ("_pieces", ⟨(rT K rS), pieces_7⟩), ("_alphabet", ⟨(rT K rS), alphabet_9⟩)], .im (rD Bv.rI) prices_, .no]) rfl sc_Book__init.nd (xi_tup (K := K) rfl (xe_fldO (i := 0) BB.cl (BB.no (by decide +kernel)) rfl rfl rfl (Or.inl rfl) rfl)) (blkOk_by (own := [("piece", 2)]) (N := ["self", "prices", "piece"]) (sc := defScope s_Book__init) (by decide +kernel)) (Le.eq (Le.eq (Le.no Le.nil))) (hw1 rfl) (fun _ h => h) (fun _ _ _ _ _ => (xg_name (i := 2) sc_Book__init.nd rfl (Or.inl rfl))) (fun piece_11 _ _ _ _ _ => xts_nil) (fun piece_11 _ _ _ _ _ => (xe_p (xe_callB call_len_str s_lenS (by rfl) T.b_len (by decide +kernel) (xa_cons (xe_v 2) xa_nil))))))) xa_nil)) rfl rfl (fun longest_13 => (xb_fld (i := 0) BB.cl (BB.no (by decide +kernel)) rfl rfl rfl (Or.inl rfl) (xe_callB (call_maxV rfl) s_maxV (by rfl) T.b_max (by decide +kernel) (xa_cons (xe_values (xe_fldO (i := 0) BB.cl (BB.no (by decide +kernel)) rfl rfl rfl (Or.inl rfl) rfl)) xa_nil)) rfl rfl (fun dearest_15 => (xb_fld (i := 0) BB.cl (BB.no (by decide +kernel)) rfl rfl rfl (Or.inl rfl) (xe_callN G_longer_pieces (hm.mono (by decide)) (by rfl) (xa_cons (xe_fldO (i := 0) BB.cl (BB.no (by decide +kernel)) rfl rfl rfl (Or.inl rfl) rfl) (xa_cons (xe_fldO (i := 0) BB.cl (BB.no (by decide +kernel)) rfl rfl rfl (Or.inl rfl) rfl) (xa_cons (xe_un un_neg s_U xe_int) xa_nil)))) rfl rfl (fun ending_17 => (xb_fld (i := 0) BB.cl (BB.no (by decide +kernel)) rfl rfl rfl (Or.inl rfl) (xe_callN G_longer_pieces (hm.mono (by decide)) (by rfl) (xa_cons (xe_fldO (i := 0) BB.cl (BB.no (by decide +kernel)) rfl rfl rfl (Or.inl rfl) rfl) (xa_cons (xe_fldO (i := 0) BB.cl (BB.no (by decide +kernel)) rfl rfl rfl (Or.inl rfl) rfl) (xa_cons xe_int xa_nil)))) rfl rfl (fun heading_19 => (xb_fld (i := 0) BB.cl (BB.no (by decide +kernel)) rfl rfl rfl (Or.inl rfl) (xe_any (xe_dnew (r := rN))) rfl rfl (fun kept_20 => (xb_nil (o := (⟨prices_6, pieces_7, alphabet_9, longest_13, dearest_15, ending_17, heading_19⟩ : BookD)) ⟨_, rfl, rfl⟩)))))))))))))))))) (fun P h => by
    unfold m_Book__init at h
    try dsimp only at h
    try dsimp only
    exact h)
abbrev s_Book__eq : Stmt := inClass (topS 24) 11
theorem sc_Book__eq : FnScope ["self", "other"] ["self", "other"] (defScope s_Book__eq) := ⟨rfl, rfl, rfl, by decide +kernel, rfl, by decide +kernel, by decide +kernel⟩
theorem ok_Book__eq {f : Addr} {fd : FuncData} (F : Fun K "__eq__" "Book.__eq__" s_Book__eq f fd) (T : Tx mg) {CB : Addr} (BB : ClsF K CB ["_prices", "_pieces", "_alphabet", "_longest", "_dearest", "ending", "heading", "kept"]) (BK : BookK K mg CB)  : FnOk P w K mg base CX0 1 f fd ["self", "other"] (spA (rCons (rBook K CB) (rCons (rBook K CB) rNil)) rB (fun a => m_Book__eq a.1 a.2.1)) := by
  refine okB F sc_Book__eq (at_cons (at_cons at_nil)) (len_cons (len_cons len_nil)) (fun cdv A outer s H E hm y => ?_)
  obtain ⟨self_, other_, ⟨⟩⟩ := y
  exact XB.cast (Γ := [.im (rBook K CB) self_, .im (rBook K CB) other_]) (xb_ret (g := fun x_1 => x_1) (xe_andP (xe_p (xe_isiC (by rfl) T.b_isinstance BB.ins (by rfl) BK.mg (xe_v 1))) (xe_one (xe_p (xe_cmp (op_eqDD dt_I (by exact Nat.le_of_ble_eq_true rfl) (hu66 hm)) s_eqDD (xe_fld BB.cl (BB.no (by decide +kernel)) rfl (xe_v 0) (fun _ => rfl)) (xe_fld BB.cl (BB.no (by decide +kernel)) rfl (xe_v 1) (fun _ => rfl)) (nobehind _ (by decide) (by decide)))))) (fun x F v h => h)) (fun P h => by
    unfold m_Book__eq at h
    try dsimp only at h
    try dsimp only
    exact h)
abbrev s_result : Stmt := topS 23
theorem sc_result : FnScope ["prices"] ["prices"] (defScope s_result) := ⟨rfl, rfl, rfl, by decide +kernel, rfl, by decide +kernel, by decide +kernel⟩
theorem ok_result {f : Addr} {fd : FuncData} (F : Fun K "_result" "_result" s_result f fd) (T : Tx mg) {CB : Addr} (BB : ClsF K CB ["_prices", "_pieces", "_alphabet", "_longest", "_dearest", "ending", "heading", "kept"]) (BK : BookK K mg CB) (G_are_prices : Dn P w K mg base 3 "_are_prices" ["value"] (spA (rCons (rD Bv.rI) rNil) rB (fun a => m_are_prices a.1))) (G_Book__init : MakeD P w K mg base 4 CB "Book" (spI CB (rCons (rD Bv.rI) rNil) (fsBook K) (fun a => m_Book__init a.1))) : FnOk P w K mg base CX0 6 f fd ["prices"] (spA (rCons (rD Bv.rI) rNil) (rBook K CB) (fun a => m_result a.1)) := by
  refine okB F sc_result (at_cons at_nil) (len_cons len_nil) (fun cdv A outer s H E hm y => ?_)
  obtain ⟨prices_, ⟨⟩⟩ := y
  exact XB.cast (Γ := [.im (rD Bv.rI) prices_]) (xb_ifR (xt_not (xt_val (xe_callN G_are_prices (hm.mono (by decide)) (by rfl) (xa_cons (xe_v 0) xa_nil)))) xb_never (xb_ret (g := fun x_3 => x_3) (xe_makeD G_Book__init (hm.mono (by decide)) (by rfl) (xa_cons (xe_v 0) xa_nil)) (fun x F v h => h))) (fun P h => by
    unfold m_result at h
    try dsimp only at h
    try dsimp only
    exact h)
abbrev s_Book__or : Stmt := inClass (topS 24) 16
theorem sc_Book__or : FnScope ["self", "other", "prices", "piece", "price"] ["self", "other"] (defScope s_Book__or) := ⟨rfl, rfl, rfl, by decide +kernel, rfl, by decide +kernel, by decide +kernel⟩
theorem ok_Book__or {f : Addr} {fd : FuncData} (F : Fun K "__or__" "Book.__or__" s_Book__or f fd) (T : Tx mg) {CB : Addr} (BB : ClsF K CB ["_prices", "_pieces", "_alphabet", "_longest", "_dearest", "ending", "heading", "kept"]) (BK : BookK K mg CB) (G_result : Dn P w K mg base 6 "_result" ["prices"] (spA (rCons (rD Bv.rI) rNil) (rBook K CB) (fun a => m_result a.1))) : FnOk P w K mg base CX0 7 f fd ["self", "other"] (spA (rCons (rBook K CB) (rCons (rBook K CB) rNil)) (rBook K CB) (fun a => m_Book__or a.1 a.2.1)) := by
  refine okB F sc_Book__or (at_cons (at_cons at_nil)) (len_cons (len_cons len_nil)) (fun cdv A outer s H E hm y => ?_)
  obtain ⟨self_, other_, ⟨⟩⟩ := y
  exact XB.cast (Γ := [.im (rBook K CB) self_, .im (rBook K CB) other_, .no, .no, .no]) (xb_ifR (xt_not (xt_val (xe_isiC (by rfl) T.b_isinstance BB.ins (by rfl) BK.mg (xe_v 1)))) xb_never (xb_set (i := 2) sc_Book__or.nd rfl (Or.inl rfl) (xe_callTy call_dictC s_dictC (by rfl) T.b_dict (by decide +kernel) (xa_cons (xe_fld BB.cl (BB.no (by decide +kernel)) rfl (xe_v 0) (fun _ => rfl)) xa_nil)) (fun prices_1 => (xb_forDN (fun s_2 : (List (Str × Int)) => [.im (rBook K CB) self_, .im (rBook K CB) other_, .od Bv.rI s_2, .no, .no]) prices_1 PassesOwn.never rfl (Le.eq (Le.eq (Le.eq (Le.no (Le.no Le.nil))))) (xl_items K (xd_fld (i := 1) BB.cl (BB.no (by decide +kernel)) rfl rfl rfl (Or.inl rfl) (fun _ => rfl))) (xg_pair (K := K) rfl rfl (xg_name (i := 3) sc_Book__or.nd rfl (Or.inl rfl)) (xg_name (i := 4) sc_Book__or.nd rfl (Or.inl rfl))) (fun it_3 s_2 => (xb_dput (hu_of hm) (i := 2) rfl rfl (Or.inl rfl) (xe_thD (i := 2) rfl flat_I (xe_callB (call_min2 rfl) s_min2 (by rfl) T.b_min (by decide +kernel) (xa_cons (xe_v 4) (xa_cons (xe_dget2 (hu_of hm) (xe_v 2) (xe_v 3) (xe_v 4) ⟨by rfl, by rfl, by rfl, by rfl⟩) xa_nil)))) (xe_v 3) (fun y_4 z_5 => (xb_nil (o := (putD s_2 z_5 y_4)) ⟨(putD s_2 z_5 y_4), (Le.eq (Le.eq (Le.eq (Le.no (Le.no Le.nil))))), rfl⟩)))) (fun s_2 => (xb_freezeD (i := 2) rfl (xb_ret (g := fun x_8 => x_8) (xe_callN G_result (hm.mono (by decide)) (by rfl) (xa_cons (xe_v 2) xa_nil)) (fun x F v h => h)))))))) (fun P h => by
    unfold m_Book__or at h
    try dsimp only at h
    try dsimp only
    exact h)
abbrev s_Book__contains : Stmt := inClass (topS 24) 8
theorem sc_Book__contains : FnScope ["self", "value"] ["self", "value"] (defScope s_Book__contains) := ⟨rfl, rfl, rfl, by decide +kernel, rfl, by decide +kernel, by decide +kernel⟩
theorem ok_Book__contains {f : Addr} {fd : FuncData} (F : Fun K "__contains__" "Book.__contains__" s_Book__contains f fd) (T : Tx mg) {CB : Addr} (BB : ClsF K CB ["_prices", "_pieces", "_alphabet", "_longest", "_dearest", "ending", "heading", "kept"]) (BK : BookK K mg CB)  : FnOk P w K mg base CX0 1 f fd ["self", "value"] (spA (rCons (rBook K CB) (rCons rS rNil)) rB (fun a => m_Book__contains a.1 a.2.1)) := by
  refine okB F sc_Book__contains (at_cons (at_cons at_nil)) (len_cons (len_cons len_nil)) (fun cdv A outer s H E hm y => ?_)
  obtain ⟨self_, value_, ⟨⟩⟩ := y
  exact XB.cast (Γ := [.im (rBook K CB) self_, .im rS value_]) (xb_ret (g := fun x_1 => x_1) (xe_andP (xe_p (xe_isiT (n' := "str") (bb := true) (by rfl) T.b_isinstance ty_rS (by rfl) T.b_str (by decide +kernel) (by decide +kernel) (xe_v 1))) (xe_one (xe_p (xe_din (hu_of hm) (xe_v 1) (xe_fld BB.cl (BB.no (by decide +kernel)) rfl (xe_v 0) (fun _ => rfl)))))) (fun x F v h => h)) (fun P h => by
    unfold m_Book__contains at h
    try dsimp only at h
    try dsimp only
    exact h)
abbrev s_Book__and : Stmt := inClass (topS 24) 17
theorem sc_Book__and : FnScope ["self", "other", "shared", "piece"] ["self", "other"] (defScope s_Book__and) := ⟨rfl, rfl, rfl, by decide +kernel, rfl, by decide +kernel, by decide +kernel⟩
theorem ok_Book__and {f : Addr} {fd : FuncData} (F : Fun K "__and__" "Book.__and__" s_Book__and f fd) (T : Tx mg) {CB : Addr} (BB : ClsF K CB ["_prices", "_pieces", "_alphabet", "_longest", "_dearest", "ending", "heading", "kept"]) (BK : BookK K mg CB) (G_result : Dn P w K mg base 6 "_result" ["prices"] (spA (rCons (rD Bv.rI) rNil) (rBook K CB) (fun a => m_result a.1))) (G_Book__contains : OwnD P w K mg base 1 CB "__contains__" (spA (rCons (rBook K CB) (rCons rS rNil)) rB (fun a => m_Book__contains a.1 a.2.1))) : FnOk P w K mg base CX0 7 f fd ["self", "other"] (spA (rCons (rBook K CB) (rCons (rBook K CB) rNil)) (rBook K CB) (fun a => m_Book__and a.1 a.2.1)) := by
  refine okB F sc_Book__and (at_cons (at_cons at_nil)) (len_cons (len_cons len_nil)) (fun cdv A outer s H E hm y => ?_)
  obtain ⟨self_, other_, ⟨⟩⟩ := y
  exact XB.cast (Γ := [.im (rBook K CB) self_, .im (rBook K CB) other_, .no, .no]) (xb_ifR (xt_not (xt_val (xe_isiC (by rfl) T.b_isinstance BB.ins (by rfl) BK.mg (xe_v 1)))) xb_never (xb_xs (i := 2) (xs_e K (xs_lc (Γw := [.im (rBook K CB) self_, .im (rBook K CB) other_, .no, .no]) rfl sc_Book__and.nd (xi_tup (K := K) rfl (xe_fld BB.cl (BB.no (by decide +kernel)) rfl (xe_v 0) (fun _ => rfl))) (blkOk_by (own := [("piece", 3)]) (N := ["self", "other", "shared", "piece"]) (sc := defScope s_Book__and) (by decide +kernel)) (Le.eq (Le.eq (Le.no (Le.no Le.nil)))) (hw1 rfl) (fun _ h => h) (fun _ _ _ _ _ => (xg_name (i := 3) sc_Book__and.nd rfl (Or.inl rfl))) (fun piece_1 _ _ _ _ _ => (xts_one (xt_inOwnD G_Book__contains (hm.mono (by decide)) (xe_v 3) (xe_v 1)))) (fun piece_1 _ _ _ _ _ => (xe_p (xe_v 3))))) (fun shared_5 => (xb_ret (g := fun x_12 => x_12) (xe_callN G_result (hm.mono (by decide)) (by rfl) (xa_cons (xv_d (xe_dc (Γw := [.im (rBook K CB) self_, .im (rBook K CB) other_, .im (rL K rS) shared_5, .no]) rfl sc_Book__and.nd (xi_list (K := K) rfl (xe_v 2)) (blkOk_by (own := [("piece", 3)]) (N := ["self", "other", "shared", "piece"]) (sc := defScope s_Book__and) (by decide +kernel)) (Le.eq (Le.eq (Le.eq (Le.no Le.nil)))) (hw1 rfl) (fun _ h => h) (fun _ _ _ _ _ => (xg_name (i := 3) sc_Book__and.nd rfl (Or.inl rfl))) (fun piece_6 _ _ _ _ _ => xts_nil) (fun piece_6 _ _ _ _ _ => (xe_v 3)) (fun piece_6 _ _ _ _ _ => (xe_callB (call_max2 rfl) s_max2 (by rfl) T.b_max (by decide +kernel) (xa_cons (xe_dget (hu_of hm) (xe_fld BB.cl (BB.no (by decide +kernel)) rfl (xe_v 0) (fun _ => rfl)) (xe_v 3) (by intro _ _; rfl)) (xa_cons (xe_dget (hu_of hm) (xe_fld BB.cl (BB.no (by decide +kernel)) rfl (xe_v 1) (fun _ => rfl)) (xe_v 3) (by intro _ _; rfl)) xa_nil)))))) xa_nil)) (fun x F v h => h))))) (fun P h => by
    unfold m_Book__and at h
    try dsimp only at h
    try dsimp only
    exact h)
abbrev s_law_pick : Stmt := topS 37
theorem sc_law_pick : FnScope ["dice", "items"] ["dice", "items"] (defScope s_law_pick) := ⟨rfl, rfl, rfl, by decide +kernel, rfl, by decide +kernel, by decide +kernel⟩
theorem ok_law_pick_vS {f : Addr} {fd : FuncData} (F : Fun K "_law_pick" "_law_pick" s_law_pick f fd) (T : Tx mg) {CB : Addr} (BB : ClsF K CB ["_prices", "_pieces", "_alphabet", "_longest", "_dearest", "ending", "heading", "kept"]) (BK : BookK K mg CB) (G_law_roll : Df P w K mg base 1 "_law_roll" ["dice", "upto"] (spA (rCons rDice (rCons Bv.rI rNil)) Bv.rI (fun a => rollW a.2.1))) : FnG P w K mg base CX0 2 f fd ["dice", "items"] (spA (rCons rDice (rCons (rL K rS) rNil)) rS (fun a => m_law_pick_vS a.2.1)) := by
  refine okGB F sc_law_pick (at_cons (at_cons at_nil)) (len_cons (len_cons len_nil)) (fun cdv A outer s H E hm y => ?_)
  obtain ⟨⟨⟩, items_, ⟨⟩⟩ := y
  exact XB.cast (Γ := [.im rDice (), .im (rL K rS) items_]) (xb_ret (g := fun x_3 => x_3) (xe_ix ix_list (s_ixL (K := K)) (xe_v 1) (xe_callG G_law_roll (hm.mono (by decide)) (by rfl) (xa_cons (xe_v 0) (xa_cons (xe_callB call_len (s_lenL (K := K)) (by rfl) T.b_len (by decide +kernel) (xa_cons (xe_v 1) xa_nil)) xa_nil))) (fun _ _ => rfl)) (fun x F v h => h)) (fun P h => by
    unfold m_law_pick_vS at h
    try dsimp only at h
    try dsimp only
    exact h)
abbrev s_law_some : Stmt := topS 38
theorem sc_law_some : FnScope ["dice", "items", "many", "left", "found", "turn"] ["dice", "items", "many"] (defScope s_law_some) := ⟨rfl, rfl, rfl, by decide +kernel, rfl, by decide +kernel, by decide +kernel⟩
theorem ok_law_some_vS {f : Addr} {fd : FuncData} (F : Fun K "_law_some" "_law_some" s_law_some f fd) (T : Tx mg) {CB : Addr} (BB : ClsF K CB ["_prices", "_pieces", "_alphabet", "_longest", "_dearest", "ending", "heading", "kept"]) (BK : BookK K mg CB) (G_law_roll : Df P w K mg base 1 "_law_roll" ["dice", "upto"] (spA (rCons rDice (rCons Bv.rI rNil)) Bv.rI (fun a => rollW a.2.1))) : FnG P w K mg base CX0 2 f fd ["dice", "items", "many"] (spA (rCons rDice (rCons (rL K rS) (rCons Bv.rI rNil))) (rL K rS) (fun a => m_law_some_vS a.2.1 a.2.2.1)) := by
  refine okGB F sc_law_some (at_cons (at_cons (at_cons at_nil))) (len_cons (len_cons (len_cons len_nil))) (fun cdv A outer s H E hm y => ?_)
  obtain ⟨⟨⟩, items_, many_, ⟨⟩⟩ := y
  exact XB.cast (Γ := [.im rDice (), .im (rL K rS) items_, .im Bv.rI many_, .no, .no, .no]) (xb_par (i := 3) (j := 4) rfl sc_law_some.nd rfl rfl (by decide) rfl rfl (xe_callTy call_list_of (s_listL (K := K)) (by rfl) T.b_list (by decide +kernel) (xa_cons (xe_v 1) xa_nil)) (xe_lst (r := rS) xas_nil (by decide +kernel)) (by rfl) (fun left_1 found_2 => (xb_forN (fun s_3 : (List Str) × (List Str) => [.im rDice (), .im (rL K rS) items_, .im Bv.rI many_, .ol rS s_3.1, .ol rS s_3.2, .no]) (left_1, found_2) PassesOwn.never rfl (Le.eq (Le.eq (Le.eq (Le.eq (Le.eq (Le.no Le.nil)))))) (xi_range1 (by rfl) T.b_range (xe_th (i := 3) K rfl flat_I (xe_callB (call_min2 rfl) s_min2 (by rfl) T.b_min (by decide +kernel) (xa_cons (xe_v 2) (xa_cons (xe_callB call_len (s_lenL (K := K)) (by rfl) T.b_len (by decide +kernel) (xa_cons (xe_v 3) xa_nil)) xa_nil))))) (xg_name (i := 5) sc_law_some.nd rfl (Or.inl rfl)) (fun turn_4 s_3 => (xb_append_pop (K := K) (i := 4) (j := 3) rfl rfl rfl (by decide) rfl (Or.inl rfl) rfl (Or.inl rfl) (xe_th (i := 3) K rfl flat_I (xe_callG G_law_roll (hm.mono (by decide)) (by rfl) (xa_cons (xe_v 0) (xa_cons (xe_callB call_len (s_lenL (K := K)) (by rfl) T.b_len (by decide +kernel) (xa_cons (xe_v 3) xa_nil)) xa_nil)))) (fun z_6 zs_7 => (xb_nil (o := (zs_7, (s_3.2 ++ [z_6]))) ⟨(zs_7, (s_3.2 ++ [z_6])), (Le.eq (Le.eq (Le.eq (Le.eq (Le.eq (Le.no Le.nil)))))), rfl⟩)))) (fun s_3 => (xb_freeze (i := 4) K rfl (xb_ret (g := fun x_8 => x_8) (xe_v 4) (fun x F v h => h))))))) (fun P h => by
    unfold m_law_some_vS at h
    try dsimp only at h
    try dsimp only
    exact h)
theorem ok_law_some_vT {f : Addr} {fd : FuncData} (F : Fun K "_law_some" "_law_some" s_law_some f fd) (T : Tx mg) {CB : Addr} (BB : ClsF K CB ["_prices", "_pieces", "_alphabet", "_longest", "_dearest", "ending", "heading", "kept"]) (BK : BookK K mg CB) (G_law_roll : Df P w K mg base 1 "_law_roll" ["dice", "upto"] (spA (rCons rDice (rCons Bv.rI rNil)) Bv.rI (fun a => rollW a.2.1))) : FnG P w K mg base CX0 2 f fd ["dice", "items", "many"] (spA (rCons rDice (rCons rS (rCons Bv.rI rNil))) (rL K rS) (fun a => m_law_some_vT a.2.1 a.2.2.1)) := by
  refine okGB F sc_law_some (at_cons (at_cons (at_cons at_nil))) (len_cons (len_cons (len_cons len_nil))) (fun cdv A outer s H E hm y => ?_)
  obtain ⟨⟨⟩, items_, many_, ⟨⟩⟩ := y
  exact XB.cast (Γ := [.im rDice (), .im rS items_, .im Bv.rI many_, .no, .no, .no]) (xb_par (i := 3) (j := 4) rfl sc_law_some.nd rfl rfl (by decide) rfl rfl (xe_callTy (call_listStr rfl) s_listS (by rfl) T.b_list (by decide +kernel) (xa_cons (xe_v 1) xa_nil)) (xe_lst (r := rS) xas_nil (by decide +kernel)) (by rfl) (fun left_1 found_2 => (xb_forN (fun s_3 : (List Str) × (List Str) => [.im rDice (), .im rS items_, .im Bv.rI many_, .ol rS s_3.1, .ol rS s_3.2, .no]) (left_1, found_2) PassesOwn.never rfl (Le.eq (Le.eq (Le.eq (Le.eq (Le.eq (Le.no Le.nil)))))) (xi_range1 (by rfl) T.b_range (xe_th (i := 3) K rfl flat_I (xe_callB (call_min2 rfl) s_min2 (by rfl) T.b_min (by decide +kernel) (xa_cons (xe_v 2) (xa_cons (xe_callB call_len (s_lenL (K := K)) (by rfl) T.b_len (by decide +kernel) (xa_cons (xe_v 3) xa_nil)) xa_nil))))) (xg_name (i := 5) sc_law_some.nd rfl (Or.inl rfl)) (fun turn_4 s_3 => (xb_append_pop (K := K) (i := 4) (j := 3) rfl rfl rfl (by decide) rfl (Or.inl rfl) rfl (Or.inl rfl) (xe_th (i := 3) K rfl flat_I (xe_callG G_law_roll (hm.mono (by decide)) (by rfl) (xa_cons (xe_v 0) (xa_cons (xe_callB call_len (s_lenL (K := K)) (by rfl) T.b_len (by decide +kernel) (xa_cons (xe_v 3) xa_nil)) xa_nil)))) (fun z_6 zs_7 => (xb_nil (o := (zs_7, (s_3.2 ++ [z_6]))) ⟨(zs_7, (s_3.2 ++ [z_6])), (Le.eq (Le.eq (Le.eq (Le.eq (Le.eq (Le.no Le.nil)))))), rfl⟩)))) (fun s_3 => (xb_freeze (i := 4) K rfl (xb_ret (g := fun x_8 => x_8) (xe_v 4) (fun x F v h => h))))))) (fun P h => by
    unfold m_law_some_vT at h
    try dsimp only at h
    try dsimp only
    exact h)
abbrev s_law_scene : Stmt := topS 39
theorem sc_law_scene : FnScope ["dice", "signs", "menu", "found", "turn", "alike", "own", "fit", "some", "at", "sign", "piece"] ["dice"] (defScope s_law_scene) := ⟨rfl, rfl, rfl, by decide +kernel, rfl, by decide +kernel, by decide +kernel⟩
theorem ok_law_scene {f : Addr} {fd : FuncData} (F : Fun K "_law_scene" "_law_scene" s_law_scene f fd) (T : Tx mg) {CB : Addr} (BB : ClsF K CB ["_prices", "_pieces", "_alphabet", "_longest", "_dearest", "ending", "heading", "kept"]) (BK : BookK K mg CB) (G_law_roll : Df P w K mg base 1 "_law_roll" ["dice", "upto"] (spA (rCons rDice (rCons Bv.rI rNil)) Bv.rI (fun a => rollW a.2.1))) (G_law_pick_vS : Df P w K mg base 2 "_law_pick" ["dice", "items"] (spA (rCons rDice (rCons (rL K rS) rNil)) rS (fun a => m_law_pick_vS a.2.1))) (G_law_some_vS : Df P w K mg base 2 "_law_some" ["dice", "items", "many"] (spA (rCons rDice (rCons (rL K rS) (rCons Bv.rI rNil))) (rL K rS) (fun a => m_law_some_vS a.2.1 a.2.2.1))) (G_law_some_vT : Df P w K mg base 2 "_law_some" ["dice", "items", "many"] (spA (rCons rDice (rCons rS (rCons Bv.rI rNil))) (rL K rS) (fun a => m_law_some_vT a.2.1 a.2.2.1))) : FnG P w K mg base CX0 3 f fd ["dice"] (spA (rCons rDice rNil) (rL K (rD Bv.rI)) (fun a => m_law_scene)) := by
  refine okGB F sc_law_scene (at_cons at_nil) (len_cons len_nil) (fun cdv A outer s H E hm y => ?_)
  obtain ⟨⟨⟩, ⟨⟩⟩ := y
  exact XB.cast (Γ := [.im rDice (), .no, .no, .no, .no, .no, .no, .no, .no, .no, .no, .no]) (xb_set (i := 1) sc_law_scene.nd rfl (Or.inr rfl) (xe_callG G_law_some_vT (hm.mono (by decide)) (by rfl) (xa_cons (xe_v 0) (xa_cons (xe_str (by decide +kernel)) (xa_cons (xe_op op_add s_I0 xe_int (xe_callG G_law_roll (hm.mono (by decide)) (by rfl) (xa_cons (xe_v 0) (xa_cons xe_int xa_nil)))) xa_nil)))) (fun signs_4 => (xb_par (i := 2) (j := 3) rfl sc_law_scene.nd rfl rfl (by decide) rfl rfl (xe_lst (r := rS) xas_nil (by decide +kernel)) (xe_lst (r := (rD Bv.rI)) xas_nil (by decide +kernel)) (by rfl) (fun menu_5 found_6 => (xb_forN (fun s_7 : (List Str) => [.im rDice (), .im (rL K rS) signs_4, .ol rS s_7, .ol (rD Bv.rI) found_6, .no, .no, .no, .no, .no, .no, .no, .no]) menu_5 PassesOwn.never rfl (Le.eq (Le.eq (Le.eq (Le.eq (Le.no (Le.no (Le.no (Le.no (Le.no (Le.no (Le.no (Le.no Le.nil)))))))))))) (xi_range1 (by rfl) T.b_range xe_int) (xg_name (i := 4) sc_law_scene.nd rfl (Or.inl rfl)) (fun turn_8 s_7 => (xb_append (K := K) (i := 2) rfl rfl rfl (Or.inl rfl) (xe_bm PySem.F.plainAttrs_str PySem.F.slot_str_join PySem.F.type_str_join mt_join rfl (s_join (K := K)) (xe_str (by decide +kernel)) (xa_cons (xv_e K (xv_lcA (xe_lc (Γw := [.im rDice (), .im (rL K rS) signs_4, .ol rS s_7, .ol (rD Bv.rI) found_6, .im Bv.rI turn_8, .no, .no, .no, .no, .no, .no, .no]) rfl sc_law_scene.nd (xi_range1 (by rfl) T.b_range (xe_op op_add s_I0 xe_int (xe_callG G_law_roll (hm.mono (by decide)) (by rfl) (xa_cons (xe_v 0) (xa_cons xe_int xa_nil))))) (blkOk_by (own := [("at", 9)]) (N := ["dice", "signs", "menu", "found", "turn", "alike", "own", "fit", "some", "at", "sign", "piece"]) (sc := defScope s_law_scene) (by decide +kernel)) (Le.eq (Le.eq (Le.eq (Le.eq (Le.eq (Le.no (Le.no (Le.no (Le.no (Le.no (Le.no (Le.no Le.nil)))))))))))) (hw1 rfl) (fun _ h => h) (fun _ _ _ _ _ => (xg_name (i := 9) sc_law_scene.nd rfl (Or.inl rfl))) (fun at_15 _ _ _ _ _ => xts_nil) (fun at_15 _ _ _ _ _ => (xe_callG G_law_pick_vS (hm.mono (by decide)) (by rfl) (xa_cons (xe_v 0) (xa_cons (xe_v 1) xa_nil))))))) xa_nil)) (fun y_19 => (xb_nil (o := (s_7 ++ [y_19])) ⟨(s_7 ++ [y_19]), (Le.eq (Le.eq (Le.eq (Le.eq (Le.no (Le.no (Le.no (Le.no (Le.no (Le.no (Le.no (Le.no Le.nil)))))))))))), rfl⟩)))) (fun s_7 => (xb_set (i := 5) sc_law_scene.nd rfl (Or.inr rfl) (xe_callG G_law_roll (hm.mono (by decide)) (by rfl) (xa_cons (xe_v 0) (xa_cons xe_int xa_nil))) (fun alike_21 => (xb_freeze (i := 2) K rfl (xb_forN (fun s_22 : (List (List (Str × Int))) => [.im rDice (), .im (rL K rS) signs_4, .im (rL K rS) s_7, .ol (rD Bv.rI) s_22, .no, .im Bv.rI alike_21, .no, .no, .no, .no, .no, .no]) found_6 PassesOwn.never rfl (Le.eq (Le.eq (Le.eq (Le.eq (Le.no (Le.eq (Le.no (Le.no (Le.no (Le.no (Le.no (Le.no Le.nil)))))))))))) (xi_range1 (by rfl) T.b_range xe_int) (xg_name (i := 4) sc_law_scene.nd rfl (Or.inl rfl)) (fun turn_23 s_22 => (xb_set (i := 6) sc_law_scene.nd rfl (Or.inr rfl) (xv_e K (xe_lc (Γw := [.im rDice (), .im (rL K rS) signs_4, .im (rL K rS) s_7, .ol (rD Bv.rI) s_22, .im Bv.rI turn_23, .im Bv.rI alike_21, .no, .no, .no, .no, .no, .no]) rfl sc_law_scene.nd (xi_list (K := K) rfl (xe_v 1)) (blkOk_by (own := [("sign", 10)]) (N := ["dice", "signs", "menu", "found", "turn", "alike", "own", "fit", "some", "at", "sign", "piece"]) (sc := defScope s_law_scene) (by decide +kernel)) (Le.eq (Le.eq (Le.eq (Le.eq (Le.eq (Le.eq (Le.no (Le.no (Le.no (Le.no (Le.no (Le.no Le.nil)))))))))))) (hw1 rfl) (fun _ h => h) (fun _ _ _ _ _ => (xg_name (i := 10) sc_law_scene.nd rfl (Or.inl rfl))) (fun sign_24 _ _ _ _ _ => (xts_one (xw_t (xw_or (xt_cmp op_eq s_eqS (xe_v 10) (xe_ix ix_list (s_ixL (K := K)) (xe_v 1) xe_int (fun _ _ => rfl)) (nobehind _ (by decide) (by decide))) (xw_or (xt_cmp op_eq s_eqI (xe_v 5) xe_int (nobehind _ (by decide) (by decide))) (xw_or1 (xt_cmp op_eq s_eqI (xe_callG G_law_roll (hm.mono (by decide)) (by rfl) (xa_cons (xe_v 0) (xa_cons xe_int xa_nil))) xe_int (nobehind _ (by decide) (by decide))))))))) (fun sign_24 _ _ _ _ _ => (xe_p (xe_v 10))))) (fun own_36 => (xb_xs (i := 7) (xs_e K (xs_lcF (xs_lc (Γw := [.im rDice (), .im (rL K rS) signs_4, .im (rL K rS) s_7, .ol (rD Bv.rI) s_22, .im Bv.rI turn_23, .im Bv.rI alike_21, .im (rL K rS) own_36, .no, .no, .no, .no, .no]) rfl sc_law_scene.nd (xi_list (K := K) rfl (xe_v 2)) (blkOk_by (own := [("piece", 11)]) (N := ["dice", "signs", "menu", "found", "turn", "alike", "own", "fit", "some", "at", "sign", "piece"]) (sc := defScope s_law_scene) (by decide +kernel)) (Le.eq (Le.eq (Le.eq (Le.eq (Le.eq (Le.eq (Le.eq (Le.no (Le.no (Le.no (Le.no (Le.no Le.nil)))))))))))) (hw1 rfl) (fun _ h => h) (fun _ _ _ _ _ => (xg_name (i := 11) sc_law_scene.nd rfl (Or.inl rfl))) (fun piece_37 _ _ _ _ _ => (xts_one (xt_p (xt_cmp (op_eqD (hu64 hm.room)) (s_eqD (dt_L dt_S)) (xv_e K (xv_lcF (xe_lc (Γw := [.im rDice (), .im (rL K rS) signs_4, .im (rL K rS) s_7, .ol (rD Bv.rI) s_22, .im Bv.rI turn_23, .im Bv.rI alike_21, .im (rL K rS) own_36, .no, .no, .no, .no, .im rS piece_37]) rfl sc_law_scene.nd (xi_str (xe_v 11)) (blkOk_by (own := [("sign", 10)]) (by rfl)) (Le.eq (Le.eq (Le.eq (Le.eq (Le.eq (Le.eq (Le.eq (Le.no (Le.no (Le.no (Le.no (Le.eq Le.nil)))))))))))) (hw1 rfl) (fun _ h => h) (fun _ _ _ _ _ => (xg_name (i := 10) sc_law_scene.nd rfl (Or.inl rfl))) (fun sign_39 _ _ _ _ _ => (xts_one (xt_p (xt_cmp op_notIn_seq (s_ninSL (K := K)) (xe_v 10) (xe_v 6) (by rfl))))) (fun sign_39 _ _ _ _ _ => (xe_p (xe_v 10)))))) (xv_e K (xe_lst (r := rS) xas_nil (by decide +kernel))) (nobehind _ (by decide) (by decide)))))) (fun piece_37 _ _ _ _ _ => (xe_p (xe_v 11)))))) (fun fit_40 => (xb_set (i := 8) sc_law_scene.nd rfl (Or.inl rfl) (xv_e K (xe_op op_catR (s_catL (K := K)) (xe_v 6) (xe_callG G_law_some_vS (hm.mono (by decide)) (by rfl) (xa_cons (xe_v 0) (xa_cons (xe_v 7) (xa_cons (xe_callG G_law_roll (hm.mono (by decide)) (by rfl) (xa_cons (xe_v 0) (xa_cons xe_int xa_nil))) xa_nil)))))) (fun some_44 => (xb_append (K := K) (i := 3) rfl rfl rfl (Or.inl rfl) (xv_d (xe_callTy (call_dictKV (K := K) rfl rfl) (s_dictPairs (K := K)) (by rfl) T.b_dict (by decide +kernel) (xa_cons (xv_e K (xv_lcA (xe_lc (Γw := [.im rDice (), .im (rL K rS) signs_4, .im (rL K rS) s_7, .ol (rD Bv.rI) s_22, .im Bv.rI turn_23, .im Bv.rI alike_21, .im (rL K rS) own_36, .im (rL K rS) fit_40, .im (rL K rS) some_44, .no, .no, .no]) rfl sc_law_scene.nd (xi_list (K := K) rfl (xe_v 8)) (blkOk_by (own := [("piece", 11)]) (N := ["dice", "signs", "menu", "found", "turn", "alike", "own", "fit", "some", "at", "sign", "piece"]) (sc := defScope s_law_scene) (by decide +kernel)) (Le.eq (Le.eq (Le.eq (Le.eq (Le.eq (Le.eq (Le.eq (Le.eq (Le.eq (Le.no (Le.no (Le.no Le.nil)))))))))))) (hw1 rfl) (fun _ h => h) (fun _ _ _ _ _ => (xg_name (i := 11) sc_law_scene.nd rfl (Or.inl rfl))) (fun piece_45 _ _ _ _ _ => xts_nil) (fun piece_45 _ _ _ _ _ => (xe_pair (xe_v 11) (xe_op op_add s_I0 xe_int (xe_callG G_law_roll (hm.mono (by decide)) (by rfl) (xa_cons (xe_v 0) (xa_cons xe_int xa_nil))))))))) xa_nil))) (fun y_49 => (xb_nil (o := (s_22 ++ [y_49])) ⟨(s_22 ++ [y_49]), (Le.eq (Le.eq (Le.eq (Le.eq (Le.no (Le.eq (Le.no (Le.no (Le.no (Le.no (Le.no (Le.no Le.nil)))))))))))), rfl⟩)))))))))) (fun s_22 => (xb_freeze (i := 3) K rfl (xb_ret (g := fun x_50 => x_50) (xe_v 3) (fun x F v h => h)))))))))))))) (fun P h => by
    unfold m_law_scene at h
    try dsimp only at h
    try dsimp only
    exact h)
abbrev s_law_or : Stmt := topS 40
theorem sc_law_or : FnScope ["one", "two", "found", "piece"] ["one", "two"] (defScope s_law_or) := ⟨rfl, rfl, rfl, by decide +kernel, rfl, by decide +kernel, by decide +kernel⟩
theorem ok_law_or {f : Addr} {fd : FuncData} (F : Fun K "_law_or" "_law_or" s_law_or f fd) (T : Tx mg) {CB : Addr} (BB : ClsF K CB ["_prices", "_pieces", "_alphabet", "_longest", "_dearest", "ending", "heading", "kept"]) (BK : BookK K mg CB)  : FnG P w K mg base CX0 1 f fd ["one", "two"] (spA (rCons (rD Bv.rI) (rCons (rD Bv.rI) rNil)) (rD Bv.rI) (fun a => m_law_or a.1 a.2.1)) := by
  refine okGB F sc_law_or (at_cons (at_cons at_nil)) (len_cons (len_cons len_nil)) (fun cdv A outer s H E hm y => ?_)
  obtain ⟨one_, two_, ⟨⟩⟩ := y
  exact XB.cast (Γ := [.im (rD Bv.rI) one_, .im (rD Bv.rI) two_, .no, .no]) (xb_set (i := 2) sc_law_or.nd rfl (Or.inl rfl) (xe_callTy (call_dictKV (K := K) rfl rfl) (s_dictPairs (K := K)) (by rfl) T.b_dict (by decide +kernel) (xa_cons (xv_e K (xe_callTy (call_listKV rfl) (s_listItems (K := K)) (by rfl) T.b_list (by decide +kernel) (xa_cons (xe_items (xe_v 0)) xa_nil))) xa_nil)) (fun found_1 => (xb_forDN (fun s_2 : (List (Str × Int)) => [.im (rD Bv.rI) one_, .im (rD Bv.rI) two_, .od Bv.rI s_2, .no]) found_1 PassesOwn.never rfl (Le.eq (Le.eq (Le.eq (Le.no Le.nil)))) (xl_keys (xd_v 1)) (xg_name (i := 3) sc_law_or.nd rfl (Or.inl rfl)) (fun piece_3 s_2 => (xb_dput (hu_of hm.room) (i := 2) rfl rfl (Or.inl rfl) (xe_thD (i := 2) rfl flat_I (xe_callB (call_min2 rfl) s_min2 (by rfl) T.b_min (by decide +kernel) (xa_cons (xe_dget (hu_of hm.room) (xe_v 1) (xe_v 3) (by intro _ _; rfl)) (xa_cons (xe_dget2 (hu_of hm.room) (xe_v 2) (xe_v 3) xe_int ⟨by rfl, by rfl, by rfl, by rfl⟩) xa_nil)))) (xe_v 3) (fun y_5 z_6 => (xb_nil (o := (putD s_2 z_6 y_5)) ⟨(putD s_2 z_6 y_5), (Le.eq (Le.eq (Le.eq (Le.no Le.nil)))), rfl⟩)))) (fun s_2 => (xb_freezeD (i := 2) rfl (xb_ret (g := fun x_8 => x_8) (xe_v 2) (fun x F v h => h))))))) (fun P h => by
    unfold m_law_or at h
    try dsimp only at h
    try dsimp only
    exact h)
abbrev s_law_and : Stmt := topS 41
theorem sc_law_and : FnScope ["one", "two", "piece"] ["one", "two"] (defScope s_law_and) := ⟨rfl, rfl, rfl, by decide +kernel, rfl, by decide +kernel, by decide +kernel⟩
theorem ok_law_and {f : Addr} {fd : FuncData} (F : Fun K "_law_and" "_law_and" s_law_and f fd) (T : Tx mg) {CB : Addr} (BB : ClsF K CB ["_prices", "_pieces", "_alphabet", "_longest", "_dearest", "ending", "heading", "kept"]) (BK : BookK K mg CB)  : FnG P w K mg base CX0 1 f fd ["one", "two"] (spA (rCons (rD Bv.rI) (rCons (rD Bv.rI) rNil)) (rD Bv.rI) (fun a => m_law_and a.1 a.2.1)) := by
  refine okGB F sc_law_and (at_cons (at_cons at_nil)) (len_cons (len_cons len_nil)) (fun cdv A outer s H E hm y => ?_)
  obtain ⟨one_, two_, ⟨⟩⟩ := y
  exact XB.cast (Γ := [.im (rD Bv.rI) one_, .im (rD Bv.rI) two_, .no]) (xb_ret (g := fun x_6 => x_6) (xv_d (xe_callTy (call_dictKV (K := K) rfl rfl) (s_dictPairs (K := K)) (by rfl) T.b_dict (by decide +kernel) (xa_cons (xv_e K (xe_lcD (Γw := [.im (rD Bv.rI) one_, .im (rD Bv.rI) two_, .no]) rfl sc_law_and.nd (xl_keys (xd_v 0)) (blkOk_by (own := [("piece", 2)]) (N := ["one", "two", "piece"]) (sc := defScope s_law_and) (by decide +kernel)) (Le.eq (Le.eq (Le.no Le.nil))) (hw1 rfl) (fun _ h => h) (fun _ _ _ _ _ => (xg_name (i := 2) sc_law_and.nd rfl (Or.inl rfl))) (fun piece_1 _ _ _ _ _ => (xts_one (xt_p (xt_din (hu_of hm.room) (xe_v 2) (xe_v 1))))) (fun piece_1 _ _ _ _ _ => (xe_pair (xe_v 2) (xe_callB (call_max2 rfl) s_max2 (by rfl) T.b_max (by decide +kernel) (xa_cons (xe_dget (hu_of hm.room) (xe_v 0) (xe_v 2) (by intro _ _; rfl)) (xa_cons (xe_dget (hu_of hm.room) (xe_v 1) (xe_v 2) (by intro _ _; rfl)) xa_nil))))))) xa_nil))) (fun x F v h => h)) (fun P h => by
    unfold m_law_and at h
    try dsimp only at h
    try dsimp only
    exact h)
abbrev s_Book_prices : Stmt := inClass (topS 24) 2
theorem sc_Book_prices : FnScope ["self"] ["self"] (defScope s_Book_prices) := ⟨rfl, rfl, rfl, by decide +kernel, rfl, by decide +kernel, by decide +kernel⟩
theorem ok_Book_prices {f : Addr} {fd : FuncData} (F : Fun K "prices" "Book.prices" s_Book_prices f fd) (T : Tx mg) {CB : Addr} (BB : ClsF K CB ["_prices", "_pieces", "_alphabet", "_longest", "_dearest", "ending", "heading", "kept"]) (BK : BookK K mg CB)  : FnOk P w K mg base CX0 1 f fd ["self"] (spA (rCons (rBook K CB) rNil) (rD Bv.rI) (fun a => m_Book_prices a.1)) := by
  refine okB F sc_Book_prices (at_cons at_nil) (len_cons len_nil) (fun cdv A outer s H E hm y => ?_)
  obtain ⟨self_, ⟨⟩⟩ := y
  exact XB.cast (Γ := [.im (rBook K CB) self_]) (xb_ret (g := fun x_1 => x_1) (xv_d (xe_callTy call_dictC s_dictC (by rfl) T.b_dict (by decide +kernel) (xa_cons (xe_fld BB.cl (BB.no (by decide +kernel)) rfl (xe_v 0) (fun _ => rfl)) xa_nil))) (fun x F v h => h)) (fun P h => by
    unfold m_Book_prices at h
    try dsimp only at h
    try dsimp only
    exact h)
abbrev s_law_has : Stmt := topS 42
theorem sc_law_has : FnScope ["book", "prices"] ["book", "prices"] (defScope s_law_has) := ⟨rfl, rfl, rfl, by decide +kernel, rfl, by decide +kernel, by decide +kernel⟩
theorem ok_law_has {f : Addr} {fd : FuncData} (F : Fun K "_law_has" "_law_has" s_law_has f fd) (T : Tx mg) {CB : Addr} (BB : ClsF K CB ["_prices", "_pieces", "_alphabet", "_longest", "_dearest", "ending", "heading", "kept"]) (BK : BookK K mg CB) (G_Book_prices : PropD P w K mg base 1 CB "prices" (spA (rCons (rBook K CB) rNil) (rD Bv.rI) (fun a => m_Book_prices a.1))) : FnG P w K mg base CX0 3 f fd ["book", "prices"] (spA (rCons (rBook K CB) (rCons (rD Bv.rI) rNil)) rB (fun a => m_law_has a.1 a.2.1)) := by
  refine okGB F sc_law_has (at_cons (at_cons at_nil)) (len_cons (len_cons len_nil)) (fun cdv A outer s H E hm y => ?_)
  obtain ⟨book_, prices_, ⟨⟩⟩ := y
  exact XB.cast (Γ := [.im (rBook K CB) book_, .im (rD Bv.rI) prices_]) (xb_ret (g := fun x_6 => x_6) (xe_cmp op_eq s_eqR (xe_callB (call_repr hm) (s_repr (dt_L (dt_P dt_S dt_I))) (by rfl) T.b_repr (by decide +kernel) (xa_cons (xv_e K (xe_callTy (call_listKV rfl) (s_listItems (K := K)) (by rfl) T.b_list (by decide +kernel) (xa_cons (xe_items (xe_propD BB G_Book_prices (hm.room.mono (by decide)) (xe_v 0))) xa_nil))) xa_nil)) (xe_callB (call_repr hm) (s_repr (dt_L (dt_P dt_S dt_I))) (by rfl) T.b_repr (by decide +kernel) (xa_cons (xv_e K (xe_callB (cr_sortedI rfl) (s_sortI (K := K)) (by rfl) T.b_sorted (by decide +kernel) (xa_cons (xe_items (xe_v 1)) xa_nil))) xa_nil)) (nobehind _ (by decide) (by decide))) (fun x F v h => h)) (fun P h => by
    unfold m_law_has at h
    try dsimp only at h
    try dsimp only
    exact h)
abbrev s_Book_alphabet : Stmt := inClass (topS 24) 4
theorem sc_Book_alphabet : FnScope ["self"] ["self"] (defScope s_Book_alphabet) := ⟨rfl, rfl, rfl, by decide +kernel, rfl, by decide +kernel, by decide +kernel⟩
theorem ok_Book_alphabet {f : Addr} {fd : FuncData} (F : Fun K "alphabet" "Book.alphabet" s_Book_alphabet f fd) (T : Tx mg) {CB : Addr} (BB : ClsF K CB ["_prices", "_pieces", "_alphabet", "_longest", "_dearest", "ending", "heading", "kept"]) (BK : BookK K mg CB)  : FnOk P w K mg base CX0 1 f fd ["self"] (spA (rCons (rBook K CB) rNil) (rT K rS) (fun a => m_Book_alphabet a.1)) := by
  refine okB F sc_Book_alphabet (at_cons at_nil) (len_cons len_nil) (fun cdv A outer s H E hm y => ?_)
  obtain ⟨self_, ⟨⟩⟩ := y
  exact XB.cast (Γ := [.im (rBook K CB) self_]) (xb_ret (g := fun x_1 => x_1) (xe_fld BB.cl (BB.no (by decide +kernel)) rfl (xe_v 0) (fun _ => rfl)) (fun x F v h => h)) (fun P h => by
    unfold m_Book_alphabet at h
    try dsimp only at h
    try dsimp only
    exact h)
abbrev s_Book__getitem : Stmt := inClass (topS 24) 7
theorem sc_Book__getitem : FnScope ["self", "piece"] ["self", "piece"] (defScope s_Book__getitem) := ⟨rfl, rfl, rfl, by decide +kernel, rfl, by decide +kernel, by decide +kernel⟩
theorem ok_Book__getitem {f : Addr} {fd : FuncData} (F : Fun K "__getitem__" "Book.__getitem__" s_Book__getitem f fd) (T : Tx mg) {CB : Addr} (BB : ClsF K CB ["_prices", "_pieces", "_alphabet", "_longest", "_dearest", "ending", "heading", "kept"]) (BK : BookK K mg CB) (G_Book__contains : OwnD P w K mg base 1 CB "__contains__" (spA (rCons (rBook K CB) (rCons rS rNil)) rB (fun a => m_Book__contains a.1 a.2.1))) : FnOk P w K mg base CX0 2 f fd ["self", "piece"] (spA (rCons (rBook K CB) (rCons rS rNil)) Bv.rI (fun a => m_Book__getitem a.1 a.2.1)) := by
  refine okB F sc_Book__getitem (at_cons (at_cons at_nil)) (len_cons (len_cons len_nil)) (fun cdv A outer s H E hm y => ?_)
  obtain ⟨self_, piece_, ⟨⟩⟩ := y
  exact XB.cast (Γ := [.im (rBook K CB) self_, .im rS piece_]) (xb_ifR (xt_notinOwnD G_Book__contains (hm.mono (by decide)) (xe_v 1) (xe_v 0)) xb_never (xb_ret (g := fun x_3 => x_3) (xe_dget (hu_of hm) (xe_fld BB.cl (BB.no (by decide +kernel)) rfl (xe_v 0) (fun _ => rfl)) (xe_v 1) (by intro _ _; rfl)) (fun x F v h => h))) (fun P h => by
    unfold m_Book__getitem at h
    try dsimp only at h
    try dsimp only
    exact h)
abbrev s_Book__iter : Stmt := inClass (topS 24) 9
theorem sc_Book__iter : FnScope ["self"] ["self"] (defScope s_Book__iter) := ⟨rfl, rfl, rfl, by decide +kernel, rfl, by decide +kernel, by decide +kernel⟩
theorem ok_Book__iter {f : Addr} {fd : FuncData} (F : Fun K "__iter__" "Book.__iter__" s_Book__iter f fd) (T : Tx mg) {CB : Addr} (BB : ClsF K CB ["_prices", "_pieces", "_alphabet", "_longest", "_dearest", "ending", "heading", "kept"]) (BK : BookK K mg CB) : FnS P w K mg base CX0 1 f fd ["self"] (spIter K CB "_pieces") := by
  obtain ⟨oc, od, kV, doc, pm, an, cdv, ct, osl, rfl, lk, hcd⟩ := F.ex
  refine fn_ofS lk hcd sc_Book__iter (fun n vs H Q E h => ?_) (fun A outer s H vs Q E hm h => ?_)
  · obtain ⟨a, dx, fs, t, zs, rfl, _⟩ := h
    rfl
  · obtain ⟨a, dx, fs, t, zs, rfl, ha, lk, tp, q⟩ := h
    refine ⟨_, (pss_one (ps_ret (pe_callB call_iterU (by rfl) T.b_iter (by decide +kernel) (pa_cons (pe_fld (pv 0) rfl) pa_nil)))), ?_⟩
    exact ⟨.ref a, rfl, a, CB, dx, fs, .ref t, rfl, ha, BB.cl, (BB.no (by decide +kernel)), lk, t, zs, rfl, tp, fun it hit le => q it hit le⟩
abbrev s_prices_of_beginnings : Stmt := topS 28
theorem sc_prices_of_beginnings : FnScope ["book", "text", "prices", "least", "place", "sign", "end", "best", "piece", "many", "price"] ["book", "text"] (defScope s_prices_of_beginnings) := ⟨rfl, rfl, rfl, by decide +kernel, rfl, by decide +kernel, by decide +kernel⟩
theorem ok_prices_of_beginnings {f : Addr} {fd : FuncData} (F : Fun K "prices_of_beginnings" "prices_of_beginnings" s_prices_of_beginnings f fd) (T : Tx mg) {CB : Addr} (BB : ClsF K CB ["_prices", "_pieces", "_alphabet", "_longest", "_dearest", "ending", "heading", "kept"]) (BK : BookK K mg CB) (G_Book_prices : PropD P w K mg base 1 CB "prices" (spA (rCons (rBook K CB) rNil) (rD Bv.rI) (fun a => m_Book_prices a.1))) : FnOk P w K mg base CX0 3 f fd ["book", "text"] (spA (rCons (rBook K CB) (rCons rS rNil)) (rL K Bv.rI) (fun a => m_prices_of_beginnings a.1 a.2.1)) := by
  refine okB F sc_prices_of_beginnings (at_cons (at_cons at_nil)) (len_cons (len_cons len_nil)) (fun cdv A outer s H E hm y => ?_)
  obtain ⟨book_, text_, ⟨⟩⟩ := y
  exact XB.cast (Γ := [.im (rBook K CB) book_, .im rS text_, .no, .no, .no, .no, .no, .no, .no, .no, .no]) (xb_set (i := 2) sc_prices_of_beginnings.nd rfl (Or.inl rfl) (xe_propD BB G_Book_prices (hm.mono (by decide)) (xe_v 0)) (fun prices_2 => (xb_set (i := 3) sc_prices_of_beginnings.nd rfl (Or.inl rfl) (xe_lst (xas_cons xe_int xas_nil) (by decide +kernel)) (fun least_3 => (xb_forN (fun s_4 : (List Int) => [.im (rBook K CB) book_, .im rS text_, .im (rD Bv.rI) prices_2, .ol Bv.rI s_4, .no, .no, .no, .no, .no, .no, .no]) least_3 PassesOwn.never rfl (Le.eq (Le.eq (Le.eq (Le.eq (Le.no (Le.no (Le.no (Le.no (Le.no (Le.no (Le.no Le.nil))))))))))) (xi_enumS (K := K) rfl (by rfl) T.b_enumerate (xe_v 1)) (xg_pair (K := K) rfl rfl (xg_name (i := 4) sc_prices_of_beginnings.nd rfl (Or.inl rfl)) (xg_name (i := 5) sc_prices_of_beginnings.nd rfl (Or.inl rfl))) (fun it_5 s_4 => (xb_set (i := 6) sc_prices_of_beginnings.nd rfl (Or.inl rfl) (xe_op op_add s_I0 (xe_v 4) xe_int) (fun end_6 => (xb_set (i := 7) sc_prices_of_beginnings.nd rfl (Or.inl rfl) (xe_th (i := 3) K rfl flat_I (xe_op op_add s_I0 (xe_ix ix_list (s_ixL (K := K)) (xe_v 3) (xe_v 4) (fun _ _ => rfl)) (xe_dget (hu_of hm) (xe_v 2) (xe_v 5) (by intro _ _; rfl)))) (fun best_10 => (xb_forN (fun s_12 : Int => [.im (rBook K CB) book_, .im rS text_, .im (rD Bv.rI) prices_2, .ol Bv.rI s_4, .im Bv.rI it_5.1, .im rS it_5.2, .im Bv.rI end_6, .im Bv.rI s_12, .no, .no, .no]) best_10 PassesOwn.never rfl (Le.eq (Le.eq (Le.eq (Le.eq (Le.eq (Le.eq (Le.eq (Le.eq (Le.no (Le.no (Le.no Le.nil))))))))))) (xi_list (K := K) rfl (xe_dget (hu_of hm) (xe_fld BB.cl (BB.no (by decide +kernel)) rfl (xe_v 0) (fun _ => rfl)) (xe_v 5) (by intro _ _; rfl))) (xg_triple (K := K) rfl rfl (xg_name (i := 8) sc_prices_of_beginnings.nd rfl (Or.inl rfl)) (xg_name (i := 9) sc_prices_of_beginnings.nd rfl (Or.inl rfl)) (xg_name (i := 10) sc_prices_of_beginnings.nd rfl (Or.inl rfl))) (fun it_13 s_12 => (xb_ifT (xt_th (i := 3) K rfl (xw_t (xw_and (xt_val (xe_bm PySem.F.plainAttrs_str PySem.F.slot_str_endswith PySem.F.type_str_endswith mt_endswith4 rfl (s_ends4 (K := K)) (xe_v 1) (xa_cons (xe_v 8) (xa_cons xe_int (xa_cons (xe_v 6) xa_nil))))) (xw_and1 (xt_cmp op_lt s_IB (xe_op op_add s_I0 (xe_ix ix_list (s_ixL (K := K)) (xe_v 3) (xe_op op_sub s_I0 (xe_v 6) (xe_v 9)) (fun _ _ => rfl)) (xe_v 10)) (xe_v 7) (nobehind _ (by decide) (by decide))))))) (xb_set (i := 7) sc_prices_of_beginnings.nd rfl (Or.inl rfl) (xe_th (i := 3) K rfl flat_I (xe_op op_add s_I0 (xe_ix ix_list (s_ixL (K := K)) (xe_v 3) (xe_op op_sub s_I0 (xe_v 6) (xe_v 9)) (fun _ _ => rfl)) (xe_v 10))) (fun best_20 => (xb_nil (o := best_20) ⟨best_20, (Le.eq (Le.eq (Le.eq (Le.eq (Le.eq (Le.eq (Le.eq (Le.eq (Le.no (Le.no (Le.no Le.nil))))))))))), rfl⟩))) (xb_nil (o := s_12) ⟨s_12, (Le.eq (Le.eq (Le.eq (Le.eq (Le.eq (Le.eq (Le.eq (Le.eq (Le.no (Le.no (Le.no Le.nil))))))))))), rfl⟩))) (fun s_12 => (xb_append (K := K) (i := 3) rfl rfl rfl (Or.inl rfl) (xe_v 7) (fun y_21 => (xb_nil (o := (s_4 ++ [y_21])) ⟨(s_4 ++ [y_21]), (Le.eq (Le.eq (Le.eq (Le.eq (Le.no (Le.no (Le.no (Le.no (Le.no (Le.no (Le.no Le.nil))))))))))), rfl⟩)))))))))) (fun s_4 => (xb_freeze (i := 3) K rfl (xb_ret (g := fun x_22 => x_22) (xe_v 3) (fun x F v h => h))))))))) (fun P h => by
    unfold m_prices_of_beginnings at h
    try dsimp only at h
    try dsimp only
    exact h)
abbrev s_least_price : Stmt := topS 30
theorem sc_least_price : FnScope ["book", "text"] ["book", "text"] (defScope s_least_price) := ⟨rfl, rfl, rfl, by decide +kernel, rfl, by decide +kernel, by decide +kernel⟩
theorem ok_least_price {f : Addr} {fd : FuncData} (F : Fun K "_least_price" "_least_price" s_least_price f fd) (T : Tx mg) {CB : Addr} (BB : ClsF K CB ["_prices", "_pieces", "_alphabet", "_longest", "_dearest", "ending", "heading", "kept"]) (BK : BookK K mg CB) (G_prices_of_beginnings : Dn P w K mg base 3 "prices_of_beginnings" ["book", "text"] (spA (rCons (rBook K CB) (rCons rS rNil)) (rL K Bv.rI) (fun a => m_prices_of_beginnings a.1 a.2.1))) : FnOk P w K mg base CX0 4 f fd ["book", "text"] (spA (rCons (rBook K CB) (rCons rS rNil)) Bv.rI (fun a => m_least_price a.1 a.2.1)) := by
  refine okB F sc_least_price (at_cons (at_cons at_nil)) (len_cons (len_cons len_nil)) (fun cdv A outer s H E hm y => ?_)
  obtain ⟨book_, text_, ⟨⟩⟩ := y
  exact XB.cast (Γ := [.im (rBook K CB) book_, .im rS text_]) (xb_ret (g := fun x_4 => x_4) (xe_ix ix_list (s_ixL (K := K)) (xe_callN G_prices_of_beginnings (hm.mono (by decide)) (by rfl) (xa_cons (xe_v 0) (xa_cons (xe_v 1) xa_nil))) (xe_un un_neg s_U xe_int) (fun _ _ => rfl)) (fun x F v h => h)) (fun P h => by
    unfold m_least_price at h
    try dsimp only at h
    try dsimp only
    exact h)
abbrev s_check_book : Stmt := topS 26
theorem sc_check_book : FnScope ["book"] ["book"] (defScope s_check_book) := ⟨rfl, rfl, rfl, by decide +kernel, rfl, by decide +kernel, by decide +kernel⟩
theorem ok_check_book {f : Addr} {fd : FuncData} (F : Fun K "check_book" "check_book" s_check_book f fd) (T : Tx mg) {CB : Addr} (BB : ClsF K CB ["_prices", "_pieces", "_alphabet", "_longest", "_dearest", "ending", "heading", "kept"]) (BK : BookK K mg CB)  : FnOk P w K mg base CX0 1 f fd ["book"] (spA (rCons (rBook K CB) rNil) rN (fun a => m_check_book a.1)) := by
  refine okB F sc_check_book (at_cons at_nil) (len_cons len_nil) (fun cdv A outer s H E hm y => ?_)
  obtain ⟨book_, ⟨⟩⟩ := y
  exact XB.cast (Γ := [.im (rBook K CB) book_]) (xb_ifT (xt_not (xt_val (xe_isiC (by rfl) T.b_isinstance BB.ins (by rfl) BK.mg (xe_v 0)))) xb_never (xb_nil (o := ()) (fun _ => rfl))) (fun P h => by
    unfold m_check_book at h
    try dsimp only at h
    try dsimp only
    exact h)
abbrev s_check_books : Stmt := topS 31
theorem sc_check_books : FnScope ["book", "other"] ["book", "other"] (defScope s_check_books) := ⟨rfl, rfl, rfl, by decide +kernel, rfl, by decide +kernel, by decide +kernel⟩
theorem ok_check_books {f : Addr} {fd : FuncData} (F : Fun K "_check_books" "_check_books" s_check_books f fd) (T : Tx mg) {CB : Addr} (BB : ClsF K CB ["_prices", "_pieces", "_alphabet", "_longest", "_dearest", "ending", "heading", "kept"]) (BK : BookK K mg CB) (G_Book_alphabet : PropD P w K mg base 1 CB "alphabet" (spA (rCons (rBook K CB) rNil) (rT K rS) (fun a => m_Book_alphabet a.1))) (G_check_book : Dn P w K mg base 1 "check_book" ["book"] (spA (rCons (rBook K CB) rNil) rN (fun a => m_check_book a.1))) : FnOk P w K mg base CX0 3 f fd ["book", "other"] (spA (rCons (rBook K CB) (rCons (rBook K CB) rNil)) rN (fun a => m_check_books a.1 a.2.1)) := by
  refine okB F sc_check_books (at_cons (at_cons at_nil)) (len_cons (len_cons len_nil)) (fun cdv A outer s H E hm y => ?_)
  obtain ⟨book_, other_, ⟨⟩⟩ := y
  exact XB.cast (Γ := [.im (rBook K CB) book_, .im (rBook K CB) other_]) (xb_expr (xe_callN G_check_book (hm.mono (by decide)) (by rfl) (xa_cons (xe_v 0) xa_nil)) (fun u_9 => (xb_expr (xe_callN G_check_book (hm.mono (by decide)) (by rfl) (xa_cons (xe_v 1) xa_nil)) (fun u_8 => (xb_ifT (xt_cmp (op_neD (hu64 hm)) (s_neD (dt_T dt_S)) (xe_propD BB G_Book_alphabet (hm.mono (by decide)) (xe_v 0)) (xe_propD BB G_Book_alphabet (hm.mono (by decide)) (xe_v 1)) (nobehind _ (by decide) (by decide))) xb_never (xb_nil (o := ()) (fun _ => rfl))))))) (fun P h => by
    unfold m_check_books at h
    try dsimp only at h
    try dsimp only
    exact h)
abbrev s_dearer_piece : Stmt := topS 33
theorem sc_dearer_piece : FnScope ["book", "other", "piece"] ["book", "other"] (defScope s_dearer_piece) := ⟨rfl, rfl, rfl, by decide +kernel, rfl, by decide +kernel, by decide +kernel⟩
theorem ok_dearer_piece {f : Addr} {fd : FuncData} (F : Fun K "dearer_piece" "dearer_piece" s_dearer_piece f fd) (T : Tx mg) {CB : Addr} (BB : ClsF K CB ["_prices", "_pieces", "_alphabet", "_longest", "_dearest", "ending", "heading", "kept"]) (BK : BookK K mg CB) (G_Book__getitem : OwnD P w K mg base 2 CB "__getitem__" (spA (rCons (rBook K CB) (rCons rS rNil)) Bv.rI (fun a => m_Book__getitem a.1 a.2.1))) (G_Book__iter : IterD P w K mg base 1 CB "_pieces") (G_least_price : Dn P w K mg base 4 "_least_price" ["book", "text"] (spA (rCons (rBook K CB) (rCons rS rNil)) Bv.rI (fun a => m_least_price a.1 a.2.1))) (G_check_books : Dn P w K mg base 3 "_check_books" ["book", "other"] (spA (rCons (rBook K CB) (rCons (rBook K CB) rNil)) rN (fun a => m_check_books a.1 a.2.1))) : FnOk P w K mg base CX0 5 f fd ["book", "other"] (spA (rCons (rBook K CB) (rCons (rBook K CB) rNil)) (rO K rS) (fun a => m_dearer_piece a.1 a.2.1)) := by
  refine okB F sc_dearer_piece (at_cons (at_cons at_nil)) (len_cons (len_cons len_nil)) (fun cdv A outer s H E hm y => ?_)
  obtain ⟨book_, other_, ⟨⟩⟩ := y
  exact XB.cast (Γ := [.im (rBook K CB) book_, .im (rBook K CB) other_, .no]) (xb_expr (xe_callN G_check_books (hm.mono (by decide)) (by rfl) (xa_cons (xe_v 0) (xa_cons (xe_v 1) xa_nil))) (fun u_8 => (xb_for (fun s_2 : Unit => [.im (rBook K CB) book_, .im (rBook K CB) other_, .no]) () PassesOwn.never rfl (Le.eq (Le.eq (Le.no Le.nil))) (xi_ownD (K := K) rfl G_Book__iter (hm.mono (by decide)) (xe_v 1) (fun _ => rfl)) (xg_name (i := 2) sc_dearer_piece.nd rfl (Or.inl rfl)) (fun piece_3 s_2 => (xb_ifT (xt_cmp op_gt s_IB (xe_callN G_least_price (hm.mono (by decide)) (by rfl) (xa_cons (xe_v 0) (xa_cons (xe_v 2) xa_nil))) (xe_ixOwnD G_Book__getitem (hm.mono (by decide)) (xe_v 1) (xe_v 2)) (nobehind _ (by decide) (by decide))) (xb_ret (g := fun x_6 => (.rt x_6)) (xo_yes (K := K) (xe_v 2)) (fun x F v h => ⟨_, h, rfl⟩)) (xb_nil (o := .nx ()) ⟨(), (Le.eq (Le.eq (Le.no Le.nil))), rfl⟩))) (fun s_2 => (xb_ret (g := fun x_7 => x_7) (xo_non (K := K) xe_non) (fun x F v h => h)))))) (fun P h => by
    unfold m_dearer_piece at h
    try dsimp only at h
    try dsimp only
    exact h)
abbrev s_is_nowhere_dearer : Stmt := topS 32
theorem sc_is_nowhere_dearer : FnScope ["book", "other"] ["book", "other"] (defScope s_is_nowhere_dearer) := ⟨rfl, rfl, rfl, by decide +kernel, rfl, by decide +kernel, by decide +kernel⟩
theorem ok_is_nowhere_dearer {f : Addr} {fd : FuncData} (F : Fun K "is_nowhere_dearer" "is_nowhere_dearer" s_is_nowhere_dearer f fd) (T : Tx mg) {CB : Addr} (BB : ClsF K CB ["_prices", "_pieces", "_alphabet", "_longest", "_dearest", "ending", "heading", "kept"]) (BK : BookK K mg CB) (G_dearer_piece : Dn P w K mg base 5 "dearer_piece" ["book", "other"] (spA (rCons (rBook K CB) (rCons (rBook K CB) rNil)) (rO K rS) (fun a => m_dearer_piece a.1 a.2.1))) : FnOk P w K mg base CX0 6 f fd ["book", "other"] (spA (rCons (rBook K CB) (rCons (rBook K CB) rNil)) rB (fun a => m_is_nowhere_dearer a.1 a.2.1)) := by
  refine okB F sc_is_nowhere_dearer (at_cons (at_cons at_nil)) (len_cons (len_cons len_nil)) (fun cdv A outer s H E hm y => ?_)
  obtain ⟨book_, other_, ⟨⟩⟩ := y
  exact XB.cast (Γ := [.im (rBook K CB) book_, .im (rBook K CB) other_]) (xb_ret (g := fun x_2 => x_2) (xe_isNone nn_S (xe_callN G_dearer_piece (hm.mono (by decide)) (by rfl) (xa_cons (xe_v 0) (xa_cons (xe_v 1) xa_nil)))) (fun x F v h => h)) (fun P h => by
    unfold m_is_nowhere_dearer at h
    try dsimp only at h
    try dsimp only
    exact h)
abbrev s_law_cheaper_right : Stmt := topS 43
theorem sc_law_cheaper_right : FnScope ["one", "two", "told"] ["one", "two"] (defScope s_law_cheaper_right) := ⟨rfl, rfl, rfl, by decide +kernel, rfl, by decide +kernel, by decide +kernel⟩
theorem ok_law_cheaper_right {f : Addr} {fd : FuncData} (F : Fun K "_law_cheaper_right" "_law_cheaper_right" s_law_cheaper_right f fd) (T : Tx mg) {CB : Addr} (BB : ClsF K CB ["_prices", "_pieces", "_alphabet", "_longest", "_dearest", "ending", "heading", "kept"]) (BK : BookK K mg CB) (G_Book_alphabet : PropD P w K mg base 1 CB "alphabet" (spA (rCons (rBook K CB) rNil) (rT K rS) (fun a => m_Book_alphabet a.1))) (G_Book__or : OwnD P w K mg base 7 CB (PySem.dunder (Operator.info .BitOr).2) (spA (rCons (rBook K CB) (rCons (rBook K CB) rNil)) (rBook K CB) (fun a => m_Book__or a.1 a.2.1))) (G_Book__and : OwnD P w K mg base 7 CB (PySem.dunder (Operator.info .BitAnd).2) (spA (rCons (rBook K CB) (rCons (rBook K CB) rNil)) (rBook K CB) (fun a => m_Book__and a.1 a.2.1))) (G_is_nowhere_dearer : Dn P w K mg base 6 "is_nowhere_dearer" ["book", "other"] (spA (rCons (rBook K CB) (rCons (rBook K CB) rNil)) rB (fun a => m_is_nowhere_dearer a.1 a.2.1))) : FnG P w K mg base CX0 8 f fd ["one", "two"] (spA (rCons (rBook K CB) (rCons (rBook K CB) rNil)) rB (fun a => m_law_cheaper_right a.1 a.2.1)) := by
  refine okGB F sc_law_cheaper_right (at_cons (at_cons at_nil)) (len_cons (len_cons len_nil)) (fun cdv A outer s H E hm y => ?_)
  obtain ⟨one_, two_, ⟨⟩⟩ := y
  exact XB.cast (Γ := [.im (rBook K CB) one_, .im (rBook K CB) two_, .no]) (xb_ifR (xt_cmp (op_neD (hu64 hm.room)) (s_neD (dt_T dt_S)) (xe_propD BB G_Book_alphabet (hm.room.mono (by decide)) (xe_v 0)) (xe_propD BB G_Book_alphabet (hm.room.mono (by decide)) (xe_v 1)) (nobehind _ (by decide) (by decide))) (xb_ret (g := fun x_6 => x_6) xe_bl (fun x F v h => h)) (xb_set (i := 2) sc_law_cheaper_right.nd rfl (Or.inl rfl) (xv_e K (xe_lst (xas_cons (xe_callN G_is_nowhere_dearer (hm.room.mono (by decide)) (by rfl) (xa_cons (xe_binOwnD BK.sf G_Book__or (hm.room.mono (by decide)) (xe_v 0) (xe_v 1)) (xa_cons (xe_v 0) xa_nil))) (xas_cons (xe_callN G_is_nowhere_dearer (hm.room.mono (by decide)) (by rfl) (xa_cons (xe_binOwnD BK.sf G_Book__or (hm.room.mono (by decide)) (xe_v 0) (xe_v 1)) (xa_cons (xe_v 1) xa_nil))) xas_nil)) (by decide +kernel))) (fun told_15 => (xb_ret (g := fun x_32 => x_32) (xe_cmp (op_eqD (hu64 hm.room)) (s_eqD (dt_L dt_B)) (xv_e K (xe_op op_catR (s_catL (K := K)) (xe_v 2) (xv_e K (xe_lst (xas_cons (xe_callN G_is_nowhere_dearer (hm.room.mono (by decide)) (by rfl) (xa_cons (xe_v 0) (xa_cons (xe_binOwnD BK.sf G_Book__and (hm.room.mono (by decide)) (xe_v 0) (xe_v 1)) xa_nil))) (xas_cons (xe_callN G_is_nowhere_dearer (hm.room.mono (by decide)) (by rfl) (xa_cons (xe_v 1) (xa_cons (xe_binOwnD BK.sf G_Book__and (hm.room.mono (by decide)) (xe_v 0) (xe_v 1)) xa_nil))) xas_nil)) (by decide +kernel))))) (xv_e K (xe_op op_repR (s_repL (K := K)) (xv_e K (xe_lst (xas_cons xe_bl xas_nil) (by decide +kernel))) xe_int)) (nobehind _ (by decide) (by decide))) (fun x F v h => h))))) (fun P h => by
    unfold m_law_cheaper_right at h
    try dsimp only at h
    try dsimp only
    exact h)
abbrev s_law_right : Stmt := topS 44
theorem sc_law_right : FnScope ["dice", "plain", "one", "two", "three", "told", "prices"] ["dice"] (defScope s_law_right) := ⟨rfl, rfl, rfl, by decide +kernel, rfl, by decide +kernel, by decide +kernel⟩
theorem ok_law_right {f : Addr} {fd : FuncData} (F : Fun K "_law_right" "_law_right" s_law_right f fd) (T : Tx mg) {CB : Addr} (BB : ClsF K CB ["_prices", "_pieces", "_alphabet", "_longest", "_dearest", "ending", "heading", "kept"]) (BK : BookK K mg CB) (G_Book__init : MakeD P w K mg base 4 CB "Book" (spI CB (rCons (rD Bv.rI) rNil) (fsBook K) (fun a => m_Book__init a.1))) (G_Book__eq : OwnD P w K mg base 1 CB "__eq__" (spA (rCons (rBook K CB) (rCons (rBook K CB) rNil)) rB (fun a => m_Book__eq a.1 a.2.1))) (G_Book__or : OwnD P w K mg base 7 CB (PySem.dunder (Operator.info .BitOr).2) (spA (rCons (rBook K CB) (rCons (rBook K CB) rNil)) (rBook K CB) (fun a => m_Book__or a.1 a.2.1))) (G_Book__and : OwnD P w K mg base 7 CB (PySem.dunder (Operator.info .BitAnd).2) (spA (rCons (rBook K CB) (rCons (rBook K CB) rNil)) (rBook K CB) (fun a => m_Book__and a.1 a.2.1))) (G_law_scene : Df P w K mg base 3 "_law_scene" ["dice"] (spA (rCons rDice rNil) (rL K (rD Bv.rI)) (fun a => m_law_scene))) (G_law_or : Df P w K mg base 1 "_law_or" ["one", "two"] (spA (rCons (rD Bv.rI) (rCons (rD Bv.rI) rNil)) (rD Bv.rI) (fun a => m_law_or a.1 a.2.1))) (G_law_and : Df P w K mg base 1 "_law_and" ["one", "two"] (spA (rCons (rD Bv.rI) (rCons (rD Bv.rI) rNil)) (rD Bv.rI) (fun a => m_law_and a.1 a.2.1))) (G_law_has : Df P w K mg base 3 "_law_has" ["book", "prices"] (spA (rCons (rBook K CB) (rCons (rD Bv.rI) rNil)) rB (fun a => m_law_has a.1 a.2.1))) (G_law_cheaper_right : Df P w K mg base 8 "_law_cheaper_right" ["one", "two"] (spA (rCons (rBook K CB) (rCons (rBook K CB) rNil)) rB (fun a => m_law_cheaper_right a.1 a.2.1))) : FnG P w K mg base CX0 9 f fd ["dice"] (spA (rCons rDice rNil) rB (fun a => m_law_right)) := by
  refine okGB F sc_law_right (at_cons at_nil) (len_cons len_nil) (fun cdv A outer s H E hm y => ?_)
  obtain ⟨⟨⟩, ⟨⟩⟩ := y
  exact XB.cast (Γ := [.im rDice (), .no, .no, .no, .no, .no, .no]) (xb_set (i := 1) sc_law_right.nd rfl (Or.inl rfl) (xe_callG G_law_scene (hm.mono (by decide)) (by rfl) (xa_cons (xe_v 0) xa_nil)) (fun plain_2 => (xb_asg (xe_unp3 (K := K) (xv_e K (xv_lcA (xe_lc (Γw := [.im rDice (), .im (rL K (rD Bv.rI)) plain_2, .no, .no, .no, .no, .no]) rfl sc_law_right.nd (xi_list (K := K) rfl (xe_v 1)) (blkOk_by (own := [("prices", 6)]) (N := ["dice", "plain", "one", "two", "three", "told", "prices"]) (sc := defScope s_law_right) (by decide +kernel)) (Le.eq (Le.eq (Le.no (Le.no (Le.no (Le.no (Le.no Le.nil))))))) (hw1 rfl) (fun _ h => h) (fun _ _ _ _ _ => (xg_name (i := 6) sc_law_right.nd rfl (Or.inl rfl))) (fun prices_3 _ _ _ _ _ => xts_nil) (fun prices_3 _ _ _ _ _ => (xe_makeD G_Book__init (hm.room.mono (by decide)) (by rfl) (xa_cons (xe_v 6) xa_nil))))))) (xg_unp3 (K := K) rfl rfl (xg_name (i := 2) sc_law_right.nd rfl (Or.inl rfl)) (xg_name (i := 3) sc_law_right.nd rfl (Or.inl rfl)) (xg_name (i := 4) sc_law_right.nd rfl (Or.inl rfl))) (fun t_8 => (xb_ifR (xw_t (xw_or (xt_not (xt_val (xe_callG G_law_has (hm.mono (by decide)) (by rfl) (xa_cons (xe_binOwnD BK.sf G_Book__or (hm.room.mono (by decide)) (xe_v 2) (xe_v 3)) (xa_cons (xe_callG G_law_or (hm.mono (by decide)) (by rfl) (xa_cons (xe_ix ix_list (s_ixL (K := K)) (xe_v 1) xe_int (fun _ _ => rfl)) (xa_cons (xe_ix ix_list (s_ixL (K := K)) (xe_v 1) xe_int (fun _ _ => rfl)) xa_nil))) xa_nil))))) (xw_or1 (xt_not (xt_val (xe_callG G_law_has (hm.mono (by decide)) (by rfl) (xa_cons (xe_binOwnD BK.sf G_Book__and (hm.room.mono (by decide)) (xe_v 2) (xe_v 3)) (xa_cons (xe_callG G_law_and (hm.mono (by decide)) (by rfl) (xa_cons (xe_ix ix_list (s_ixL (K := K)) (xe_v 1) xe_int (fun _ _ => rfl)) (xa_cons (xe_ix ix_list (s_ixL (K := K)) (xe_v 1) xe_int (fun _ _ => rfl)) xa_nil))) xa_nil)))))))) (xb_ret (g := fun x_21 => x_21) xe_bl (fun x F v h => h)) (xb_set (i := 5) sc_law_right.nd rfl (Or.inl rfl) (xe_lst (xas_cons (xe_eqOwnD G_Book__eq (hm.room.mono (by decide)) (xe_binOwnD BK.sf G_Book__or (hm.room.mono (by decide)) (xe_v 2) (xe_v 3)) (xe_binOwnD BK.sf G_Book__or (hm.room.mono (by decide)) (xe_v 3) (xe_v 2))) (xas_cons (xe_eqOwnD G_Book__eq (hm.room.mono (by decide)) (xe_binOwnD BK.sf G_Book__and (hm.room.mono (by decide)) (xe_v 2) (xe_v 3)) (xe_binOwnD BK.sf G_Book__and (hm.room.mono (by decide)) (xe_v 3) (xe_v 2))) (xas_cons (xe_eqOwnD G_Book__eq (hm.room.mono (by decide)) (xe_binOwnD BK.sf G_Book__or (hm.room.mono (by decide)) (xe_v 2) (xe_v 2)) (xe_v 2)) (xas_cons (xe_eqOwnD G_Book__eq (hm.room.mono (by decide)) (xe_binOwnD BK.sf G_Book__and (hm.room.mono (by decide)) (xe_v 2) (xe_v 2)) (xe_v 2)) xas_nil)))) (by decide +kernel)) (fun told_42 => (xb_freeze (i := 5) K rfl (xb_set (i := 5) sc_law_right.nd rfl (Or.inl rfl) (xe_op op_catR (s_catL (K := K)) (xe_v 5) (xv_e K (xe_lst (xas_cons (xe_eqOwnD G_Book__eq (hm.room.mono (by decide)) (xe_binOwnD BK.sf G_Book__or (hm.room.mono (by decide)) (xe_binOwnD BK.sf G_Book__or (hm.room.mono (by decide)) (xe_v 2) (xe_v 3)) (xe_v 4)) (xe_binOwnD BK.sf G_Book__or (hm.room.mono (by decide)) (xe_v 2) (xe_binOwnD BK.sf G_Book__or (hm.room.mono (by decide)) (xe_v 3) (xe_v 4)))) (xas_cons (xe_eqOwnD G_Book__eq (hm.room.mono (by decide)) (xe_binOwnD BK.sf G_Book__and (hm.room.mono (by decide)) (xe_binOwnD BK.sf G_Book__and (hm.room.mono (by decide)) (xe_v 2) (xe_v 3)) (xe_v 4)) (xe_binOwnD BK.sf G_Book__and (hm.room.mono (by decide)) (xe_v 2) (xe_binOwnD BK.sf G_Book__and (hm.room.mono (by decide)) (xe_v 3) (xe_v 4)))) xas_nil)) (by decide +kernel)))) (fun told_63 => (xb_freeze (i := 5) K rfl (xb_set (i := 5) sc_law_right.nd rfl (Or.inl rfl) (xe_op op_catR (s_catL (K := K)) (xe_v 5) (xv_e K (xe_lst (xas_cons (xe_eqOwnD G_Book__eq (hm.room.mono (by decide)) (xe_binOwnD BK.sf G_Book__or (hm.room.mono (by decide)) (xe_v 2) (xe_binOwnD BK.sf G_Book__and (hm.room.mono (by decide)) (xe_v 2) (xe_v 3))) (xe_v 2)) (xas_cons (xe_eqOwnD G_Book__eq (hm.room.mono (by decide)) (xe_binOwnD BK.sf G_Book__and (hm.room.mono (by decide)) (xe_v 2) (xe_binOwnD BK.sf G_Book__or (hm.room.mono (by decide)) (xe_v 2) (xe_v 3))) (xe_v 2)) xas_nil)) (by decide +kernel)))) (fun told_76 => (xb_append (K := K) (i := 5) rfl rfl rfl (Or.inl rfl) (xe_eqOwnD G_Book__eq (hm.room.mono (by decide)) (xe_binOwnD BK.sf G_Book__and (hm.room.mono (by decide)) (xe_v 2) (xe_binOwnD BK.sf G_Book__or (hm.room.mono (by decide)) (xe_v 3) (xe_v 4))) (xe_binOwnD BK.sf G_Book__or (hm.room.mono (by decide)) (xe_binOwnD BK.sf G_Book__and (hm.room.mono (by decide)) (xe_v 2) (xe_v 3)) (xe_binOwnD BK.sf G_Book__and (hm.room.mono (by decide)) (xe_v 2) (xe_v 4)))) (fun y_83 => (xb_append (K := K) (i := 5) rfl rfl rfl (Or.inl rfl) (xe_eqOwnD G_Book__eq (hm.room.mono (by decide)) (xe_binOwnD BK.sf G_Book__or (hm.room.mono (by decide)) (xe_v 2) (xe_binOwnD BK.sf G_Book__and (hm.room.mono (by decide)) (xe_v 3) (xe_v 4))) (xe_binOwnD BK.sf G_Book__and (hm.room.mono (by decide)) (xe_binOwnD BK.sf G_Book__or (hm.room.mono (by decide)) (xe_v 2) (xe_v 3)) (xe_binOwnD BK.sf G_Book__or (hm.room.mono (by decide)) (xe_v 2) (xe_v 4)))) (fun y_90 => (xb_append (K := K) (i := 5) rfl rfl rfl (Or.inl rfl) (xe_cmp op_eq s_eqB (xe_eqOwnD G_Book__eq (hm.room.mono (by decide)) (xe_binOwnD BK.sf G_Book__or (hm.room.mono (by decide)) (xe_v 2) (xe_v 3)) (xe_v 2)) (xe_eqOwnD G_Book__eq (hm.room.mono (by decide)) (xe_binOwnD BK.sf G_Book__and (hm.room.mono (by decide)) (xe_v 2) (xe_v 3)) (xe_v 3)) (nobehind _ (by decide) (by decide))) (fun y_101 => (xb_ifR (xt_th (i := 5) K rfl (xw_t (xw_or (xt_cmp (op_neD (hu64 hm.room)) (s_neD (dt_L dt_B)) (xe_v 5) (xv_e K (xe_op op_repR (s_repL (K := K)) (xv_e K (xe_lst (xas_cons xe_bl xas_nil) (by decide +kernel))) xe_int)) (nobehind _ (by decide) (by decide))) (xw_or (xt_not (xt_val (xe_callG G_law_cheaper_right (hm.mono (by decide)) (by rfl) (xa_cons (xe_v 2) (xa_cons (xe_v 3) xa_nil))))) (xw_or1 (xt_not (xt_val (xe_callG G_law_cheaper_right (hm.mono (by decide)) (by rfl) (xa_cons (xe_v 3) (xa_cons (xe_v 4) xa_nil)))))))))) (xb_ret (g := fun x_108 => x_108) xe_bl (fun x F v h => h)) (xb_ret (g := fun x_119 => x_119) (xe_and (xe_callG G_law_has (hm.mono (by decide)) (by rfl) (xa_cons (xe_v 2) (xa_cons (xe_ix ix_list (s_ixL (K := K)) (xe_v 1) xe_int (fun _ _ => rfl)) xa_nil))) (xe_and (xe_callG G_law_has (hm.mono (by decide)) (by rfl) (xa_cons (xe_v 3) (xa_cons (xe_ix ix_list (s_ixL (K := K)) (xe_v 1) xe_int (fun _ _ => rfl)) xa_nil))) (xe_one (xe_callG G_law_has (hm.mono (by decide)) (by rfl) (xa_cons (xe_v 4) (xa_cons (xe_ix ix_list (s_ixL (K := K)) (xe_v 1) xe_int (fun _ _ => rfl)) xa_nil)))))) (fun x F v h => h)))))))))))))))))))))) (fun P h => by
    unfold m_law_right at h
    try dsimp only at h
    try dsimp only
    exact h)
abbrev s_law : Stmt := topS 45
theorem sc_law : FnScope ["script", "spot", "dice", "turn"] ["script"] (defScope s_law) := ⟨rfl, rfl, rfl, by decide +kernel, rfl, by decide +kernel, by decide +kernel⟩
theorem ok_law {f : Addr} {fd : FuncData} (F : Fun K "law" "law" s_law f fd) (T : Tx mg) {CB : Addr} (BB : ClsF K CB ["_prices", "_pieces", "_alphabet", "_longest", "_dearest", "ending", "heading", "kept"]) (BK : BookK K mg CB) (G_law_dice : Df P w K mg base 1 "_law_dice" ["script", "spot"] (spA (rCons (rLK K Bv.rI) (rCons Bv.rI rNil)) rDice (fun a => diceW a.1 a.2.1))) (G_law_right : Df P w K mg base 9 "_law_right" ["dice"] (spA (rCons rDice rNil) rB (fun a => m_law_right))) : FnG P w K mg base CX0 10 f fd ["script"] (spA (rCons (rLK K Bv.rI) rNil) rB (fun a => m_law a.1)) := by
  refine okGB F sc_law (at_cons at_nil) (len_cons len_nil) (fun cdv A outer s H E hm y => ?_)
  obtain ⟨script_, ⟨⟩⟩ := y
  exact XB.cast (Γ := [.im (rLK K Bv.rI) script_, .no, .no, .no]) (xb_for (fun s_1 : Unit => [.im (rLK K Bv.rI) script_, .no, .no, .no]) () PassesOwn.never rfl (Le.eq (Le.no (Le.no (Le.no Le.nil)))) (xi_range1 (by rfl) T.b_range (xe_callB (call_max2 rfl) s_max2 (by rfl) T.b_max (by decide +kernel) (xa_cons xe_int (xa_cons (xe_callB (call_min2 rfl) s_min2 (by rfl) T.b_min (by decide +kernel) (xa_cons xe_int (xa_cons (xe_callB call_len (s_lenZ (K := K)) (by rfl) T.b_len (by decide +kernel) (xa_cons (xe_v 0) xa_nil)) xa_nil))) xa_nil)))) (xg_name (i := 1) sc_law.nd rfl (Or.inl rfl)) (fun spot_2 s_1 => (xb_set (i := 2) sc_law.nd rfl (Or.inl rfl) (xe_callG G_law_dice (hm.mono (by decide)) (by rfl) (xa_cons (xe_v 0) (xa_cons (xe_v 1) xa_nil))) (fun dice_4 => (xb_for (fun s_5 : Unit => [.im (rLK K Bv.rI) script_, .im Bv.rI spot_2, .im rDice dice_4, .no]) () PassesOwn.never rfl (Le.eq (Le.eq (Le.eq (Le.no Le.nil)))) (xi_range1 (by rfl) T.b_range xe_int) (xg_name (i := 3) sc_law.nd rfl (Or.inl rfl)) (fun turn_6 s_5 => (xb_ifT (xt_not (xt_val (xe_callG G_law_right (hm.mono (by decide)) (by rfl) (xa_cons (xe_v 2) xa_nil)))) (xb_ret (g := fun x_8 => (.rt (.rt x_8))) xe_bl (fun x F v h => ⟨_, ⟨_, h, rfl⟩, rfl⟩)) (xb_nil (o := .nx ()) ⟨(), (Le.eq (Le.eq (Le.eq (Le.no Le.nil)))), rfl⟩))) (fun s_5 => (xb_nil (o := .nx ()) ⟨(), (Le.eq (Le.no (Le.no (Le.no Le.nil)))), rfl⟩)))))) (fun s_1 => (xb_ret (g := fun x_9 => x_9) xe_bl (fun x F v h => h)))) (fun P h => by
    unfold m_law at h
    try dsimp only at h
    try dsimp only
    exact h)
end
end K05

namespace K05
open PySem PySem.Spec PyProof.Rows L2 Gd Bv Bk Bl
open Mr (forN_inv forN_fn forL_inv whileN_inv mapW_fn mapW_rel lcM_fn dcM_fn fold_new atZ_nat atZ_last atD_i minP_i maxP_i)
variable {S N : List Str} {s : Str} {L M O A B : List (Str × Int)}
/-- sorted prices of the scene -/
structure Pn (S N : List Str) (s : Str) (L : List (Str × Int)) : Prop where
  menu : Menu S N
  plain : Plain S N s L
  asc : sortP L = L
theorem Pn.isL (p : Pn S N s L) : IsL L := ⟨p.plain.nd, p.asc, p.plain.good p.menu⟩
theorem Pn.of (m : Menu S N) (p : Plain S N s L) : Pn S N s (sortP L) := ⟨m, p.sort, sortP_id (sortP_asc L) (sortP_nodup p.nd)⟩
def U (L M : List (Str × Int)) : List (Str × Int) := sortP (orP L M)
def I (L M : List (Str × Int)) : List (Str × Int) := sortP (andP L M)
theorem Pn.or (p : Pn S N s L) (q : Pn S N s M) : Pn S N s (U L M) := Pn.of p.menu (p.plain.or q.plain)
theorem Pn.and (p : Pn S N s L) (q : Pn S N s M) : Pn S N s (I L M) := Pn.of p.menu (p.plain.and q.plain)
theorem Pn.lkO (p : Pn S N s L) (q : Pn S N s M) (z : Str) : (U L M).lookup z = orO (L.lookup z) (M.lookup z) := Gd.lkO p.plain q.plain z
theorem Pn.lkA (p : Pn S N s L) (q : Pn S N s M) (z : Str) : (I L M).lookup z = andO (L.lookup z) (M.lookup z) := Gd.lkA p.plain q.plain z
theorem Pn.ext (p : Pn S N s L) (q : Pn S N s M) (h : ∀ z, L.lookup z = M.lookup z) : L = M := asc_eq p.plain.nd q.plain.nd p.isL.ascP q.isL.ascP h
theorem bo (p : Pn S N s L) (q : Pn S N s M) {P : BookD → Prop} (k : P (bookD (U L M))) : m_Book__or (bookD L) (bookD M) P :=
  or_ok p.isL q.isL (p.plain.or q.plain).nd ((p.plain.or q.plain).good p.menu) k
theorem ba (p : Pn S N s L) (q : Pn S N s M) {P : BookD → Prop} (k : P (bookD (I L M))) : m_Book__and (bookD L) (bookD M) P :=
  and_ok p.isL q.isL (p.plain.and q.plain).nd ((p.plain.and q.plain).good p.menu) k
theorem be (p : Pn S N s L) (q : Pn S N s M) (e : L = M) {P : Bool → Prop} (k : P true) : m_Book__eq (bookD L) (bookD M) P := eq_ok p.isL q.isL (by rw [decide_eq_true e]; exact k)
theorem or_is (p : Pn S N s L) (q : Pn S N s M) : (U L M = L) ↔ (I L M = M) := by
  constructor
  · intro h
    refine (p.and q).ext q fun z => ?_
    rw [p.lkA q]
    refine (or_and _ _).mp ?_
    rw [← p.lkO q, h]
  · intro h
    refine (p.or q).ext p fun z => ?_
    rw [p.lkO q]
    refine (or_and _ _).mpr ?_
    rw [← p.lkA q, h]
/-! ### the law's own | and & -/
theorem lawor_ok (nA : (A.map (·.1)).Nodup) (nB : (B.map (·.1)).Nodup) (lA : A.length ≤ 100) (lB : B.length ≤ 100) (pB : ∀ e ∈ B, e.2 ≤ 99) {P : List (Str × Int) → Prop} (p : P (orP A B)) : m_law_or A B P := by
  unfold m_law_or
  rw [mergeD_nd nA]
  show forN _ (B.map (·.1)) A _
  refine forN_inv (fun pre s => ∃ pre2, pre2.map (·.1) = pre ∧ (∃ post2, B = pre2 ++ post2) ∧ s = orP A pre2) ⟨[], rfl, ⟨B, rfl⟩, rfl⟩ (fun pre x post s e i Q q => ?_) (fun s i => ?_)
  · obtain ⟨pre2, e1, ⟨post2, e2⟩, i1⟩ := i
    rw [e2, List.map_append, e1] at e
    have e3 := List.append_cancel_left e
    match post2, e3, e2 with
    | y :: r, e3, e2 =>
      rw [List.map_cons] at e3
      obtain ⟨ex, er⟩ := List.cons.inj e3
      subst ex
      have my : y ∈ B := by rw [e2]; exact List.mem_append_right _ List.mem_cons_self
      have hy := lookup_nodup nB y my
      have l3 := orP_len pre2 A
      have l4 := congrArg List.length e2
      rw [List.length_append] at l4
      refine atD_i hy ⟨by rw [i1]; omega, q _ ⟨pre2 ++ [y], by rw [List.map_append, e1]; rfl, ⟨r, by rw [List.append_assoc]; exact e2⟩, ?_⟩⟩
      rw [orP_snoc, ← i1, putD_int]
      have : minZ y.2 ((s.lookup y.1).getD 99) = lesser y.2 ((s.lookup y.1).getD y.2) := by
        have := pB y my
        cases s.lookup y.1 with
        | none => unfold minZ lesser; simp only [Option.getD_none]; split <;> split <;> omega
        | some v => rfl
      rw [this]
  · obtain ⟨pre2, e1, ⟨post2, e2⟩, i1⟩ := i
    have : post2 = [] := by
      have := congrArg List.length e1
      rw [List.length_map, List.length_map, e2, List.length_append] at this
      exact List.length_eq_zero_iff.mp (by omega)
    subst this
    rw [List.append_nil] at e2
    rw [i1, ← e2]
    exact p
theorem lawand_ok (nA : (A.map (·.1)).Nodup) {P : List (Str × Int) → Prop} (p : P (andP A B)) : m_law_and A B P := by
  unfold m_law_and
  refine lcM_fn (tb := fun z => (B.lookup z).isSome) (g := fun z => (z, greater ((A.lookup z).getD 0) ((B.lookup z).getD 0))) (fun z _ Q q => q) (fun z mz t Q q => ?_) ?_
  · obtain ⟨e, me, rfl⟩ := List.mem_map.mp mz
    have h1 := lookup_nodup nA e me
    obtain ⟨v, h2⟩ := Option.isSome_iff_exists.mp t
    rw [h1, h2] at q
    exact atD_i h1 (atD_i h2 q)
  · show P (mergeD (andP A B))
    rw [mergeD_nd (andP_nodup nA)]
    exact p
/-! ### what books show -/
theorem Pn.keys (p : Pn S N s L) : ∀ z ∈ L.map (·.1), (1 ≤ z.length ∧ z.length ≤ 5) ∧ ∀ c ∈ z.cps.toList, low c = true := fun z mz => by
  obtain ⟨h1, h2⟩ := p.menu.all (p.plain.key z mz)
  refine ⟨piece_len h1, fun c mc => ?_⟩
  have ms := h2 c mc
  obtain ⟨d, hd, e⟩ := p.menu.sign _ ms
  have : c = d := by simpa [sg] using e
  rw [this]
  exact hd
theorem Pn.shows (p : Pn S N s L) : Sh (datL (datP PyData.str PyData.int) L) := sh_pairs (by have := good_len p.isL.good; omega) fun e me => by
  have h := p.keys e.1 (List.mem_map.mpr ⟨e, me, rfl⟩)
  have q := p.plain.price e me
  exact ⟨⟨h.1.2, h.2⟩, by omega⟩
theorem sortP_ok (m : Menu S N) (q : Plain S N s A) {P : List (Str × Int) → Prop} (p : P (sortP A)) : sortI A P := by
  have l := good_len (q.good m)
  refine ⟨⟨fun e => by rw [e] at l; simp at l, by omega⟩, fun M pm asc => ?_⟩
  have nd : (M.map (·.1)).Nodup := (pm.map (·.1)).nodup_iff.mpr q.nd
  have : M = sortP A := asc_eq nd (sortP_nodup q.nd) asc (sortP_asc A) (lookup_eq nd (sortP_nodup q.nd) fun e => pm.mem_iff.trans (mem_sortP q.nd).symm)
  rw [this]
  exact p
theorem has_ok (p : Pn S N s L) (q : Plain S N s A) (e : sortP A = L) {P : Bool → Prop} (k : P true) : m_law_has (bookD L) A P := by
  unfold m_law_has m_Book_prices
  refine ⟨p.shows, sortP_ok p.menu q ?_⟩
  rw [e]
  refine ⟨p.shows, ?_⟩
  show P (decide ((datL (datP PyData.str PyData.int) L).shown = (datL (datP PyData.str PyData.int) L).shown))
  rw [decide_eq_true rfl]
  exact k
theorem none_of (h : dearer L M = .non) : (dearO L M).isNone = true := dearO_isNone.mpr h
theorem cheaper_ok (p : Pn S N s L) (q : Pn S N s M) {P : Bool → Prop} (k : P true) : m_law_cheaper_right (bookD L) (bookD M) P := by
  unfold m_law_cheaper_right m_Book_alphabet
  show (if (!eqB (sigsP L) (sigsP M)) = true then _ else _)
  refine Mr.ite2 (fun _ => k) (fun h => ?_)
  have same : sigsP L = sigsP M := by
    refine eqB_i.mp ?_
    cases e : eqB (sigsP L) (sigsP M) with
    | true => rfl
    | false => rw [e] at h; exact absurd rfl h
  have su : sigsP (U L M) = sigsP L := by
    unfold U
    rw [sigs_sort, sigs_or q.plain.nd same]
  have si : sigsP (I L M) = sigsP L := by
    unfold I
    rw [sigs_sort, sigs_and p.plain q.plain same]
  have lp : ∀ z ∈ L.map (·.1), 1 ≤ z.length := fun z m => (p.keys z m).1.1
  have lq : ∀ z ∈ M.map (·.1), 1 ≤ z.length := fun z m => (q.keys z m).1.1
  refine bo p q (nowhere_ok (p.or q).isL p.isL su ?_)
  rw [show (dearO (U L M) L).isNone = true from none_of (or_left p.plain.nd q.plain.nd lp)]
  refine bo p q (nowhere_ok (p.or q).isL q.isL (su.trans same) ?_)
  rw [show (dearO (U L M) M).isNone = true from none_of (or_right p.plain.nd q.plain.nd lq)]
  refine ba p q (nowhere_ok p.isL (p.and q).isL si.symm ?_)
  rw [show (dearO L (I L M)).isNone = true from none_of (and_left p.plain.nd lp)]
  refine ba p q (nowhere_ok q.isL (p.and q).isL (same.symm.trans si.symm) ?_)
  rw [show (dearO M (I L M)).isNone = true from none_of (and_right p.plain.nd lp)]
  exact ⟨by decide, by decide, k⟩
/-! ### the scene -/
theorem lcM_keep {α : Type} {t : α → (Bool → Prop) → Prop} {x0 : α} {xs : List α} {P : List α → Prop} (h : ∀ x ∈ xs, ∀ Q : Bool → Prop, (∀ b, (x = x0 → b = true) → Q b) → t x Q) (p : ∀ zs, (∀ z ∈ zs, z ∈ xs) → (x0 ∈ xs → x0 ∈ zs) → zs.length ≤ xs.length → P zs) : lcM t (fun x Q => Q x) xs P := by
  induction xs generalizing P with
  | nil => exact p [] (fun _ m => nomatch m) (fun m => nomatch m) (Nat.le_refl _)
  | cons x xs ih =>
    refine h x List.mem_cons_self _ fun b hb => ?_
    have step := fun (P' : List α → Prop) (p' : ∀ zs, (∀ z ∈ zs, z ∈ xs) → (x0 ∈ xs → x0 ∈ zs) → zs.length ≤ xs.length → P' zs) => ih (P := P') (fun y m => h y (List.mem_cons_of_mem _ m)) p'
    cases b with
    | true => exact step _ fun zs sub has len => p (x :: zs) (fun z m => (List.mem_cons.mp m).elim (fun e => e ▸ List.mem_cons_self) fun m => List.mem_cons_of_mem _ (sub z m)) (fun m => (List.mem_cons.mp m).elim (fun e => e ▸ List.mem_cons_self) fun m => List.mem_cons_of_mem _ (has m)) (by rw [List.length_cons, List.length_cons]; omega)
    | false => exact step _ fun zs sub has len => p zs (fun z m => List.mem_cons_of_mem _ (sub z m)) (fun m => (List.mem_cons.mp m).elim (fun e => absurd (hb e.symm) Bool.false_ne_true) has) (by rw [List.length_cons]; omega)
theorem base_keys : ∀ {xs : List Str} {ys : List (Str × Int)}, Paired (fun x (y : Str × Int) => y.1 = x ∧ 1 ≤ y.2 ∧ y.2 ≤ 99) xs ys → ys.map (·.1) = xs ∧ ∀ e ∈ ys, 1 ≤ e.2 ∧ e.2 ≤ 99
  | _, _, .nil => ⟨rfl, fun _ m => nomatch m⟩
  | _, _, .cons r t => ⟨by rw [List.map_cons, r.1, (base_keys t).1], fun e m => (List.mem_cons.mp m).elim (fun h => h ▸ r.2) ((base_keys t).2 e)⟩
theorem scene_ok {P : List (List (Str × Int)) → Prop} (p : ∀ S N s A B C, Menu S N → Plain S N s A → Plain S N s B → Plain S N s C → P [A, B, C]) : m_law_scene P := by
  unfold m_law_scene
  refine ⟨by decide, fun r r0 r1 => letters_i (by omega) (by omega) fun S s ls => ?_⟩
  refine ⟨rok (by decide) (by decide) (by decide), ?_⟩
  refine forN_inv (fun pre (N : List Str) => N.length = pre.length ∧ ∀ z ∈ N, isPiece (.str z) = true ∧ Over S z) ⟨rfl, fun _ m => nomatch m⟩ (fun pre x post N e ⟨i1, i2⟩ Q q => ?_) (fun N ⟨i1, i2⟩ => ?_)
  · obtain ⟨_, lt⟩ := rangeZ_split e
    refine ⟨by decide, fun k k0 k1 => joined s (lo := 2 + k) (P := fun z => N.length < 16777216 ∧ Q (N ++ [z])) (by omega) fun z lz oz => ⟨by omega, q _ ⟨?_, fun y my => ?_⟩⟩⟩
    · rw [List.length_append, List.length_append, i1]
      rfl
    · rcases List.mem_append.mp my with h | h
      · exact i2 y h
      · rw [List.mem_singleton.mp h]
        exact ⟨over_piece s oz (by omega) (by omega), oz⟩
  · rw [len_rangeZ] at i1
    have menu : Menu S N := ⟨s.few.2, s.sign, by omega, i2⟩
    have pos : 0 < S.length := by have := s.few; omega
    have m0 : S[0] ∈ S := List.getElem_mem pos
    have h0 : S[0]? = some S[0] := List.getElem?_eq_getElem pos
    refine ⟨by decide, fun alike a0 a1 => ⟨rok (by decide) (by decide) (by decide), ?_⟩⟩
    refine forN_inv (fun pre (F : List (List (Str × Int))) => F.length = pre.length ∧ ∀ A ∈ F, Plain S N S[0] A) ⟨rfl, fun _ m => nomatch m⟩ (fun pre x post F e ⟨j1, j2⟩ Q q => ?_) (fun F ⟨j1, j2⟩ => ?_)
    · obtain ⟨_, lt⟩ := rangeZ_split e
      refine lcM_keep (x0 := S[0]) (fun x mx Q q => ?_) fun own sub has lo => ?_
      · refine atZ_nat (j := 0) h0 ?_
        refine Mr.ite2 (fun _ => q true fun _ => rfl) (fun c => ?_)
        have no : x = S[0] → False := fun e => c (decide_eq_true e)
        refine Mr.ite2 (fun _ => q true fun _ => rfl) (fun _ => ⟨by decide, fun k _ _ => q _ fun e => (no e).elim⟩)
      · have so := has m0
        refine ⟨by decide, fun k k0 k1 => ?_⟩
        refine someS_ok (by have := List.length_filter_le (fun piece => eqB ((Bv.signs piece).filter fun sign => !decide (sign ∈ own)) []) N; show (List.filter _ N).length ≤ _; omega) k0 fun ys rest pm ly => ?_
        have hl := pm.length_eq
        rw [List.length_append] at hl
        have hf := List.length_filter_le (fun piece => eqB ((Bv.signs piece).filter fun sign => !decide (sign ∈ own)) []) N
        have fw := s.few
        refine ⟨by omega, ?_⟩
        refine mapW_rel (fun x (y : Str × Int) => y.1 = x ∧ 1 ≤ y.2 ∧ y.2 ≤ 99) (fun x mx Q q => ⟨by decide, fun v v0 v1 => q _ ⟨rfl, by show 1 ≤ 1 + v; omega, by show 1 + v ≤ 99; omega⟩⟩) fun l pl => ?_
        obtain ⟨b1, b2⟩ := base_keys pl
        refine ⟨by omega, q _ ⟨by rw [List.length_append, List.length_append, j1]; rfl, fun A mA => ?_⟩⟩
        rcases List.mem_append.mp mA with h | h
        · exact j2 A h
        · rw [List.mem_singleton.mp h]
          refine plain_of (S := S) (M := N) (O := own) (Y := ys) s.sign sub so (fun z mz => ?_) b1 b2
          obtain ⟨m1, m2⟩ := List.mem_filter.mp (pm.mem_iff.mp (List.mem_append_left _ mz))
          refine ⟨m1, List.all_eq_true.mpr fun c mc => ?_⟩
          have m2 := List.filter_eq_nil_iff.mp (eqB_i.mp m2) (sg c) (List.mem_map.mpr ⟨c, mc, rfl⟩)
          by_cases q2 : sg c ∈ own
          · exact decide_eq_true q2
          · rw [decide_eq_false q2] at m2
            exact absurd rfl m2
    · rw [len_rangeZ] at j1
      match F, j1, j2 with
      | [A, B, C], _, j2 => exact p S N S[0] A B C menu (j2 A (by simp)) (j2 B (by simp)) (j2 C (by simp))
/-! ### the law -/
theorem or_sort (m : Menu S N) (p : Plain S N s A) (q : Plain S N s B) : sortP (orP A B) = U (sortP A) (sortP B) :=
  (Pn.of m (p.or q)).ext ((Pn.of m p).or (Pn.of m q)) fun z => by
    rw [(Pn.of m p).lkO (Pn.of m q), lookup_sortP (orP_nodup B A p.nd), lookup_orP q.nd, lookup_sortP p.nd, lookup_sortP q.nd]
theorem and_sort (m : Menu S N) (p : Plain S N s A) (q : Plain S N s B) : sortP (andP A B) = I (sortP A) (sortP B) :=
  (Pn.of m (p.and q)).ext ((Pn.of m p).and (Pn.of m q)) fun z => by
    rw [(Pn.of m p).lkA (Pn.of m q), lookup_sortP (andP_nodup p.nd), lookup_andP, lookup_sortP p.nd, lookup_sortP q.nd]
theorem told_eq : eqB (((([true, true, true, true] ++ [true, true]) ++ [true, true] ++ [true]) ++ [true]) ++ [true]) (repL [true] (11 : Int)) = true := by decide +kernel
theorem right_ok {P : Bool → Prop} (k : P true) : m_law_right P := by
  unfold m_law_right
  refine scene_ok fun S N s A B C m qa qb qc => ?_
  have pa := Pn.of m qa
  have pb := Pn.of m qb
  have pc := Pn.of m qc
  have la := good_len (qa.good m)
  have lb := good_len (qb.good m)
  refine mapW_fn (g := fun A => bookD (sortP A)) (fun D mD Q q => ?_) ?_
  · have pd : Plain S N s D := by
      rcases List.mem_cons.mp mD with rfl | mD
      · exact qa
      · rcases List.mem_cons.mp mD with rfl | mD
        · exact qb
        · rw [List.mem_singleton.mp mD]; exact qc
    exact init_ok pd.nd (pd.good m) q
  · refine ⟨_, _, _, rfl, ?_⟩
    refine bo pa pb ?_
    refine atZ_nat (j := 0) rfl (atZ_nat (j := 1) rfl ?_)
    refine lawor_ok qa.nd qb.nd (by omega) (by omega) (fun e me => (qb.price e me).2) ?_
    refine has_ok (pa.or pb) (qa.or qb) (or_sort m qa qb) ?_
    refine Mr.iteF (by decide) ?_
    refine ba pa pb ?_
    refine atZ_nat (j := 0) rfl (atZ_nat (j := 1) rfl ?_)
    refine lawand_ok qa.nd ?_
    refine has_ok (pa.and pb) (qa.and qb) (and_sort m qa qb) ?_
    refine Mr.iteF (by decide) ?_
    refine bo pa pb (bo pb pa (be (pa.or pb) (pb.or pa) ((pa.or pb).ext (pb.or pa) fun z => by rw [pa.lkO pb, pb.lkO pa, orO_comm]) ?_))
    refine ba pa pb (ba pb pa (be (pa.and pb) (pb.and pa) ((pa.and pb).ext (pb.and pa) fun z => by rw [pa.lkA pb, pb.lkA pa, andO_comm]) ?_))
    refine bo pa pa (be (pa.or pa) pa ((pa.or pa).ext pa fun z => by rw [pa.lkO pa, orO_idem]) ?_)
    refine ba pa pa (be (pa.and pa) pa ((pa.and pa).ext pa fun z => by rw [pa.lkA pa, andO_idem]) ?_)
    refine bo pa pb (bo (pa.or pb) pc (bo pb pc (bo pa (pb.or pc) (be ((pa.or pb).or pc) (pa.or (pb.or pc)) (((pa.or pb).or pc).ext (pa.or (pb.or pc)) fun z => by rw [(pa.or pb).lkO pc, pa.lkO pb, pa.lkO (pb.or pc), pb.lkO pc, orO_assoc]) ?_))))
    refine ba pa pb (ba (pa.and pb) pc (ba pb pc (ba pa (pb.and pc) (be ((pa.and pb).and pc) (pa.and (pb.and pc)) (((pa.and pb).and pc).ext (pa.and (pb.and pc)) fun z => by rw [(pa.and pb).lkA pc, pa.lkA pb, pa.lkA (pb.and pc), pb.lkA pc, andO_assoc]) ?_))))
    refine ⟨by decide, ?_⟩
    refine ba pa pb (bo pa (pa.and pb) (be (pa.or (pa.and pb)) pa ((pa.or (pa.and pb)).ext pa fun z => by rw [pa.lkO (pa.and pb), pa.lkA pb, abs1]) ?_))
    refine bo pa pb (ba pa (pa.or pb) (be (pa.and (pa.or pb)) pa ((pa.and (pa.or pb)).ext pa fun z => by rw [pa.lkA (pa.or pb), pa.lkO pb, abs2]) ?_))
    refine ⟨by decide, ?_⟩
    refine bo pb pc (ba pa (pb.or pc) (ba pa pb (ba pa pc (bo (pa.and pb) (pa.and pc) (be (pa.and (pb.or pc)) ((pa.and pb).or (pa.and pc)) ((pa.and (pb.or pc)).ext ((pa.and pb).or (pa.and pc)) fun z => by rw [pa.lkA (pb.or pc), pb.lkO pc, (pa.and pb).lkO (pa.and pc), pa.lkA pb, pa.lkA pc, dist1]) ?_)))))
    refine ⟨by decide, ?_⟩
    refine ba pb pc (bo pa (pb.and pc) (bo pa pb (bo pa pc (ba (pa.or pb) (pa.or pc) (be (pa.or (pb.and pc)) ((pa.or pb).and (pa.or pc)) ((pa.or (pb.and pc)).ext ((pa.or pb).and (pa.or pc)) fun z => by rw [pa.lkO (pb.and pc), pb.lkA pc, (pa.or pb).lkA (pa.or pc), pa.lkO pb, pa.lkO pc, dist2]) ?_)))))
    refine ⟨by decide, ?_⟩
    refine bo pa pb (eq_ok (pa.or pb).isL pa.isL (ba pa pb (eq_ok (pa.and pb).isL pb.isL ?_)))
    have two : decide (decide (U (sortP A) (sortP B) = sortP A) = decide (I (sortP A) (sortP B) = sortP B)) = true := decide_eq_true (decide_eq_decide.mpr (or_is pa pb))
    rw [two]
    refine ⟨by decide, ⟨by decide, by decide⟩, ?_⟩
    refine ifno told_eq ?_
    refine cheaper_ok pa pb (Mr.iteF (by decide) (cheaper_ok pb pc ?_))
    refine Mr.iteF (by decide) ?_
    refine atZ_nat (j := 0) rfl (has_ok pa qa rfl (Mr.iteT rfl ?_))
    refine atZ_nat (j := 1) rfl (has_ok pb qb rfl (Mr.iteT rfl ?_))
    exact atZ_nat (j := 2) rfl (has_ok pc qc rfl k)
theorem law_true {ns : List Int} (h : ns.length ≤ 63) : m_law ns (fun b => b = true) := by
  unfold m_law
  have mn : maxZ (1 : Int) (minZ 8 ns.length) ≤ 8 ∧ 1 ≤ maxZ (1 : Int) (minZ 8 ns.length) := by unfold maxZ minZ; split <;> split <;> omega
  refine ⟨rok (by omega) (by omega) (by omega), ?_⟩
  refine forL_inv (fun _ _ => True) (fun _ => False) (fun _ => False) trivial (fun pre spot post _ e _ Q q _ _ => ?_) (fun _ _ => rfl) (fun _ q => q.elim) (fun _ q => q.elim)
  obtain ⟨ex, lt⟩ := rangeZ_split e
  refine ⟨⟨by omega, h⟩, ⟨rok (by decide) (by decide) (by decide), ?_⟩⟩
  refine forL_inv (fun _ _ => True) (fun _ => False) (fun _ => False) trivial (fun pre2 turn post2 _ e2 _ Q2 q2 _ _ => ?_) (fun _ _ => q () trivial) (fun _ q => q.elim) (fun _ q => q.elim)
  refine right_ok ?_
  exact Mr.iteF (by decide) (q2 () trivial)
end K05

namespace K05
open PySem PySem.Spec PyProof.Rows L2 L2.DX Gd Bv Bk Bl
abbrev spLaw (K : PySem.W.Frag) : Sp := spA (rCons (rLK K Bv.rI) rNil) rB (fun a => m_law a.1)
theorem all_mk {l : PySem.W.OpenLaw} {w : World} {K : PySem.W.Frag} {h : Heap} {mg : Str → Option Value} {fa : Addr} (X : K.In h) (G : h.Ns mainGlobals mg) (hfa : mg "law" = some (.ref fa))
    {CB f_law_roll f_law_dice f_signs_in f_longer_pieces f_is_text f_is_piece f_is_integer f_is_price f_are_prices f_Book__init f_Book__eq f_result f_Book__or f_Book__contains f_Book__and f_law_pick f_law_some f_law_scene f_law_or f_law_and p_Book_prices f_Book_prices f_law_has p_Book_alphabet f_Book_alphabet f_Book__getitem f_Book__iter f_prices_of_beginnings f_least_price f_check_book f_check_books f_dearer_piece f_is_nowhere_dearer f_law_cheaper_right f_law_right f_law : Addr} {od_law_roll an_law_roll od_law_dice an_law_dice od_signs_in an_signs_in od_longer_pieces an_longer_pieces od_is_text an_is_text od_is_piece an_is_piece od_is_integer an_is_integer od_is_price an_is_price od_are_prices an_are_prices od_Book__init an_Book__init od_Book__eq an_Book__eq od_result an_result od_Book__or an_Book__or od_Book__contains an_Book__contains od_Book__and an_Book__and od_law_pick an_law_pick od_law_some an_law_some od_law_scene an_law_scene od_law_or an_law_or od_law_and an_law_and od_Book_prices an_Book_prices od_law_has an_law_has od_Book_alphabet an_Book_alphabet od_Book__getitem an_Book__getitem od_Book__iter an_Book__iter od_prices_of_beginnings an_prices_of_beginnings od_least_price an_least_price od_check_book an_check_book od_check_books an_check_books od_dearer_piece an_dearer_piece od_is_nowhere_dearer an_is_nowhere_dearer od_law_cheaper_right an_law_cheaper_right od_law_right an_law_right od_law an_law : Option Addr} {sl_law_roll sl_law_dice sl_signs_in sl_longer_pieces sl_is_text sl_is_piece sl_is_integer sl_is_price sl_are_prices sl_Book__init sl_Book__eq sl_result sl_Book__or sl_Book__contains sl_Book__and sl_law_pick sl_law_some sl_law_scene sl_law_or sl_law_and sl_Book_prices sl_law_has sl_Book_alphabet sl_Book__getitem sl_Book__iter sl_prices_of_beginnings sl_least_price sl_check_book sl_check_books sl_dearer_piece sl_is_nowhere_dearer sl_law_cheaper_right sl_law_right sl_law : Array (Option Value)} {oc_law_roll kV_law_roll dc_law_roll pm_law_roll cd_law_roll ct_law_roll oc_law_dice kV_law_dice dc_law_dice pm_law_dice cd_law_dice ct_law_dice oc_signs_in kV_signs_in dc_signs_in pm_signs_in cd_signs_in ct_signs_in oc_longer_pieces kV_longer_pieces dc_longer_pieces pm_longer_pieces cd_longer_pieces ct_longer_pieces oc_is_text kV_is_text dc_is_text pm_is_text cd_is_text ct_is_text oc_is_piece kV_is_piece dc_is_piece pm_is_piece cd_is_piece ct_is_piece oc_is_integer kV_is_integer dc_is_integer pm_is_integer cd_is_integer ct_is_integer oc_is_price kV_is_price dc_is_price pm_is_price cd_is_price ct_is_price oc_are_prices kV_are_prices dc_are_prices pm_are_prices cd_are_prices ct_are_prices oc_Book__init kV_Book__init dc_Book__init pm_Book__init cd_Book__init ct_Book__init oc_Book__eq kV_Book__eq dc_Book__eq pm_Book__eq cd_Book__eq ct_Book__eq oc_result kV_result dc_result pm_result cd_result ct_result oc_Book__or kV_Book__or dc_Book__or pm_Book__or cd_Book__or ct_Book__or oc_Book__contains kV_Book__contains dc_Book__contains pm_Book__contains cd_Book__contains ct_Book__contains oc_Book__and kV_Book__and dc_Book__and pm_Book__and cd_Book__and ct_Book__and oc_law_pick kV_law_pick dc_law_pick pm_law_pick cd_law_pick ct_law_pick oc_law_some kV_law_some dc_law_some pm_law_some cd_law_some ct_law_some oc_law_scene kV_law_scene dc_law_scene pm_law_scene cd_law_scene ct_law_scene oc_law_or kV_law_or dc_law_or pm_law_or cd_law_or ct_law_or oc_law_and kV_law_and dc_law_and pm_law_and cd_law_and ct_law_and oc_Book_prices kV_Book_prices dc_Book_prices pm_Book_prices cd_Book_prices ct_Book_prices oc_law_has kV_law_has dc_law_has pm_law_has cd_law_has ct_law_has oc_Book_alphabet kV_Book_alphabet dc_Book_alphabet pm_Book_alphabet cd_Book_alphabet ct_Book_alphabet oc_Book__getitem kV_Book__getitem dc_Book__getitem pm_Book__getitem cd_Book__getitem ct_Book__getitem oc_Book__iter kV_Book__iter dc_Book__iter pm_Book__iter cd_Book__iter ct_Book__iter oc_prices_of_beginnings kV_prices_of_beginnings dc_prices_of_beginnings pm_prices_of_beginnings cd_prices_of_beginnings ct_prices_of_beginnings oc_least_price kV_least_price dc_least_price pm_least_price cd_least_price ct_least_price oc_check_book kV_check_book dc_check_book pm_check_book cd_check_book ct_check_book oc_check_books kV_check_books dc_check_books pm_check_books cd_check_books ct_check_books oc_dearer_piece kV_dearer_piece dc_dearer_piece pm_dearer_piece cd_dearer_piece ct_dearer_piece oc_is_nowhere_dearer kV_is_nowhere_dearer dc_is_nowhere_dearer pm_is_nowhere_dearer cd_is_nowhere_dearer ct_is_nowhere_dearer oc_law_cheaper_right kV_law_cheaper_right dc_law_cheaper_right pm_law_cheaper_right cd_law_cheaper_right ct_law_cheaper_right oc_law_right kV_law_right dc_law_right pm_law_right cd_law_right ct_law_right oc_law kV_law dc_law pm_law cd_law ct_law : Value} {t_MAX_SIGNS t_MAX_LENGTH t_MAX_PIECES t_MAX_ALPHABET t_MAX_PRICE t_TOO_GREAT : Tok} {rs_Book_prices rs_Book_alphabet : List Value}
    (a_Book : PySem.W.nsIn K mainGlobals "Book" = some (some (.ref CB)))
    (pg_CB : PySem.W.plainGet K CB Str.empty = true)
    (hd_CB : PySem.W.hasDictIn K CB = true)
    (po_CB : PySem.W.plainOver K CB = true)
    (sa_CB : PySem.W.findIn K (.ref CB) "__setattr__" = some (some (.builtin "object.__setattr__")))
    (mk_CB : PySem.W.makesIn K CB = true)
    (kc_CB : PySem.W.keepIn K (.ref CB) = true)
    (ha_CB : PySem.W.findIn K (.ref CB) "__class__" = some (some (.builtin "object.__class__")))
    (mo_CB : PySem.W.mroIn K CB (.type "object") = some true)
    (n_CB_prices : PySem.W.findIn K (.ref CB) "_prices" = some none)
    (n_CB_pieces : PySem.W.findIn K (.ref CB) "_pieces" = some none)
    (n_CB_alphabet : PySem.W.findIn K (.ref CB) "_alphabet" = some none)
    (n_CB_longest : PySem.W.findIn K (.ref CB) "_longest" = some none)
    (n_CB_dearest : PySem.W.findIn K (.ref CB) "_dearest" = some none)
    (n_CBending : PySem.W.findIn K (.ref CB) "ending" = some none)
    (n_CBheading : PySem.W.findIn K (.ref CB) "heading" = some none)
    (n_CBkept : PySem.W.findIn K (.ref CB) "kept" = some none)
    (sf_CB : PySem.W.selfFirst K CB = true)
    (rb_CB : PySem.W.findIn K (.ref CB) "__rsub__" = some none)
    (rt_CB : PySem.W.findIn K (.type "tuple") "__sub__" = some none)
    (ru_CB : PySem.W.findIn K (.type "tuple") "__rsub__" = some none)
    (ra_CB : PySem.W.subIn K (.type "tuple") (.ref CB) = some false)
    (hn_ : PySem.W.specialIn K (.builtin "object.__class__") "__get__" = some (some (.builtin "getset_descriptor.__get__")))
    (tk_ : PySem.W.takesIn K (.builtin "object.__class__") = some true)
    (a_law_roll : PySem.W.nsIn K mainGlobals "_law_roll" = some (some (.ref f_law_roll)))
    (l_law_roll : K.lookup f_law_roll = some ⟨oc_law_roll, od_law_roll, .func (PySem.W.fnOf "_law_roll" "_law_roll" (defArgs s_law_roll) (defBody s_law_roll) (defScope s_law_roll) .none kV_law_roll dc_law_roll pm_law_roll an_law_roll cd_law_roll ct_law_roll), sl_law_roll⟩)
    (c_law_roll : PySem.W.codeIn K cd_law_roll "_law_roll" = true) (k_law_roll : PySem.W.keepIn K (.ref f_law_roll) = true)
    (a_law_dice : PySem.W.nsIn K mainGlobals "_law_dice" = some (some (.ref f_law_dice)))
    (l_law_dice : K.lookup f_law_dice = some ⟨oc_law_dice, od_law_dice, .func (PySem.W.fnOf "_law_dice" "_law_dice" (defArgs s_law_dice) (defBody s_law_dice) (defScope s_law_dice) .none kV_law_dice dc_law_dice pm_law_dice an_law_dice cd_law_dice ct_law_dice), sl_law_dice⟩)
    (c_law_dice : PySem.W.codeIn K cd_law_dice "_law_dice" = true) (k_law_dice : PySem.W.keepIn K (.ref f_law_dice) = true)
    (a_signs_in : PySem.W.nsIn K mainGlobals "_signs_in" = some (some (.ref f_signs_in)))
    (l_signs_in : K.lookup f_signs_in = some ⟨oc_signs_in, od_signs_in, .func (PySem.W.fnOf "_signs_in" "_signs_in" (defArgs s_signs_in) (defBody s_signs_in) (defScope s_signs_in) .none kV_signs_in dc_signs_in pm_signs_in an_signs_in cd_signs_in ct_signs_in), sl_signs_in⟩)
    (c_signs_in : PySem.W.codeIn K cd_signs_in "_signs_in" = true) (k_signs_in : PySem.W.keepIn K (.ref f_signs_in) = true)
    (a_longer_pieces : PySem.W.nsIn K mainGlobals "_longer_pieces" = some (some (.ref f_longer_pieces)))
    (l_longer_pieces : K.lookup f_longer_pieces = some ⟨oc_longer_pieces, od_longer_pieces, .func (PySem.W.fnOf "_longer_pieces" "_longer_pieces" (defArgs s_longer_pieces) (defBody s_longer_pieces) (defScope s_longer_pieces) .none kV_longer_pieces dc_longer_pieces pm_longer_pieces an_longer_pieces cd_longer_pieces ct_longer_pieces), sl_longer_pieces⟩)
    (c_longer_pieces : PySem.W.codeIn K cd_longer_pieces "_longer_pieces" = true) (k_longer_pieces : PySem.W.keepIn K (.ref f_longer_pieces) = true)
    (a_is_text : PySem.W.nsIn K mainGlobals "is_text" = some (some (.ref f_is_text)))
    (l_is_text : K.lookup f_is_text = some ⟨oc_is_text, od_is_text, .func (PySem.W.fnOf "is_text" "is_text" (defArgs s_is_text) (defBody s_is_text) (defScope s_is_text) .none kV_is_text dc_is_text pm_is_text an_is_text cd_is_text ct_is_text), sl_is_text⟩)
    (c_is_text : PySem.W.codeIn K cd_is_text "is_text" = true) (k_is_text : PySem.W.keepIn K (.ref f_is_text) = true)
    (a_is_piece : PySem.W.nsIn K mainGlobals "is_piece" = some (some (.ref f_is_piece)))
    (l_is_piece : K.lookup f_is_piece = some ⟨oc_is_piece, od_is_piece, .func (PySem.W.fnOf "is_piece" "is_piece" (defArgs s_is_piece) (defBody s_is_piece) (defScope s_is_piece) .none kV_is_piece dc_is_piece pm_is_piece an_is_piece cd_is_piece ct_is_piece), sl_is_piece⟩)
    (c_is_piece : PySem.W.codeIn K cd_is_piece "is_piece" = true) (k_is_piece : PySem.W.keepIn K (.ref f_is_piece) = true)
    (a_is_integer : PySem.W.nsIn K mainGlobals "is_integer" = some (some (.ref f_is_integer)))
    (l_is_integer : K.lookup f_is_integer = some ⟨oc_is_integer, od_is_integer, .func (PySem.W.fnOf "is_integer" "is_integer" (defArgs s_is_integer) (defBody s_is_integer) (defScope s_is_integer) .none kV_is_integer dc_is_integer pm_is_integer an_is_integer cd_is_integer ct_is_integer), sl_is_integer⟩)
    (c_is_integer : PySem.W.codeIn K cd_is_integer "is_integer" = true) (k_is_integer : PySem.W.keepIn K (.ref f_is_integer) = true)
    (a_is_price : PySem.W.nsIn K mainGlobals "is_price" = some (some (.ref f_is_price)))
    (l_is_price : K.lookup f_is_price = some ⟨oc_is_price, od_is_price, .func (PySem.W.fnOf "is_price" "is_price" (defArgs s_is_price) (defBody s_is_price) (defScope s_is_price) .none kV_is_price dc_is_price pm_is_price an_is_price cd_is_price ct_is_price), sl_is_price⟩)
    (c_is_price : PySem.W.codeIn K cd_is_price "is_price" = true) (k_is_price : PySem.W.keepIn K (.ref f_is_price) = true)
    (a_are_prices : PySem.W.nsIn K mainGlobals "_are_prices" = some (some (.ref f_are_prices)))
    (l_are_prices : K.lookup f_are_prices = some ⟨oc_are_prices, od_are_prices, .func (PySem.W.fnOf "_are_prices" "_are_prices" (defArgs s_are_prices) (defBody s_are_prices) (defScope s_are_prices) .none kV_are_prices dc_are_prices pm_are_prices an_are_prices cd_are_prices ct_are_prices), sl_are_prices⟩)
    (c_are_prices : PySem.W.codeIn K cd_are_prices "_are_prices" = true) (k_are_prices : PySem.W.keepIn K (.ref f_are_prices) = true)
    (a_Book__init : PySem.W.findIn K (.ref CB) "__init__" = some (some (.ref f_Book__init)))
    (i_Book__init : PySem.W.isFn K (.ref f_Book__init) = true)
    (l_Book__init : K.lookup f_Book__init = some ⟨oc_Book__init, od_Book__init, .func (PySem.W.fnOf "__init__" "Book.__init__" (defArgs s_Book__init) (defBody s_Book__init) (defScope s_Book__init) .none kV_Book__init dc_Book__init pm_Book__init an_Book__init cd_Book__init ct_Book__init), sl_Book__init⟩)
    (c_Book__init : PySem.W.codeIn K cd_Book__init "Book.__init__" = true) (k_Book__init : PySem.W.keepIn K (.ref f_Book__init) = true)
    (a_Book__eq : PySem.W.findIn K (.ref CB) "__eq__" = some (some (.ref f_Book__eq)))
    (i_Book__eq : PySem.W.isFn K (.ref f_Book__eq) = true)
    (fi_Book__eq : PySem.W.fnIn K f_Book__eq = true)
    (l_Book__eq : K.lookup f_Book__eq = some ⟨oc_Book__eq, od_Book__eq, .func (PySem.W.fnOf "__eq__" "Book.__eq__" (defArgs s_Book__eq) (defBody s_Book__eq) (defScope s_Book__eq) .none kV_Book__eq dc_Book__eq pm_Book__eq an_Book__eq cd_Book__eq ct_Book__eq), sl_Book__eq⟩)
    (c_Book__eq : PySem.W.codeIn K cd_Book__eq "Book.__eq__" = true) (k_Book__eq : PySem.W.keepIn K (.ref f_Book__eq) = true)
    (ne_Book__eq : PySem.W.findIn K (.ref CB) "__ne__" = some (some (.builtin "object.__ne__")))
    (a_result : PySem.W.nsIn K mainGlobals "_result" = some (some (.ref f_result)))
    (l_result : K.lookup f_result = some ⟨oc_result, od_result, .func (PySem.W.fnOf "_result" "_result" (defArgs s_result) (defBody s_result) (defScope s_result) .none kV_result dc_result pm_result an_result cd_result ct_result), sl_result⟩)
    (c_result : PySem.W.codeIn K cd_result "_result" = true) (k_result : PySem.W.keepIn K (.ref f_result) = true)
    (a_Book__or : PySem.W.findIn K (.ref CB) "__or__" = some (some (.ref f_Book__or)))
    (i_Book__or : PySem.W.isFn K (.ref f_Book__or) = true)
    (fi_Book__or : PySem.W.fnIn K f_Book__or = true)
    (l_Book__or : K.lookup f_Book__or = some ⟨oc_Book__or, od_Book__or, .func (PySem.W.fnOf "__or__" "Book.__or__" (defArgs s_Book__or) (defBody s_Book__or) (defScope s_Book__or) .none kV_Book__or dc_Book__or pm_Book__or an_Book__or cd_Book__or ct_Book__or), sl_Book__or⟩)
    (c_Book__or : PySem.W.codeIn K cd_Book__or "Book.__or__" = true) (k_Book__or : PySem.W.keepIn K (.ref f_Book__or) = true)
    (a_Book__contains : PySem.W.findIn K (.ref CB) "__contains__" = some (some (.ref f_Book__contains)))
    (i_Book__contains : PySem.W.isFn K (.ref f_Book__contains) = true)
    (fi_Book__contains : PySem.W.fnIn K f_Book__contains = true)
    (l_Book__contains : K.lookup f_Book__contains = some ⟨oc_Book__contains, od_Book__contains, .func (PySem.W.fnOf "__contains__" "Book.__contains__" (defArgs s_Book__contains) (defBody s_Book__contains) (defScope s_Book__contains) .none kV_Book__contains dc_Book__contains pm_Book__contains an_Book__contains cd_Book__contains ct_Book__contains), sl_Book__contains⟩)
    (c_Book__contains : PySem.W.codeIn K cd_Book__contains "Book.__contains__" = true) (k_Book__contains : PySem.W.keepIn K (.ref f_Book__contains) = true)
    (a_Book__and : PySem.W.findIn K (.ref CB) "__and__" = some (some (.ref f_Book__and)))
    (i_Book__and : PySem.W.isFn K (.ref f_Book__and) = true)
    (fi_Book__and : PySem.W.fnIn K f_Book__and = true)
    (l_Book__and : K.lookup f_Book__and = some ⟨oc_Book__and, od_Book__and, .func (PySem.W.fnOf "__and__" "Book.__and__" (defArgs s_Book__and) (defBody s_Book__and) (defScope s_Book__and) .none kV_Book__and dc_Book__and pm_Book__and an_Book__and cd_Book__and ct_Book__and), sl_Book__and⟩)
    (c_Book__and : PySem.W.codeIn K cd_Book__and "Book.__and__" = true) (k_Book__and : PySem.W.keepIn K (.ref f_Book__and) = true)
    (a_law_pick : PySem.W.nsIn K mainGlobals "_law_pick" = some (some (.ref f_law_pick)))
    (l_law_pick : K.lookup f_law_pick = some ⟨oc_law_pick, od_law_pick, .func (PySem.W.fnOf "_law_pick" "_law_pick" (defArgs s_law_pick) (defBody s_law_pick) (defScope s_law_pick) .none kV_law_pick dc_law_pick pm_law_pick an_law_pick cd_law_pick ct_law_pick), sl_law_pick⟩)
    (c_law_pick : PySem.W.codeIn K cd_law_pick "_law_pick" = true) (k_law_pick : PySem.W.keepIn K (.ref f_law_pick) = true)
    (a_law_some : PySem.W.nsIn K mainGlobals "_law_some" = some (some (.ref f_law_some)))
    (l_law_some : K.lookup f_law_some = some ⟨oc_law_some, od_law_some, .func (PySem.W.fnOf "_law_some" "_law_some" (defArgs s_law_some) (defBody s_law_some) (defScope s_law_some) .none kV_law_some dc_law_some pm_law_some an_law_some cd_law_some ct_law_some), sl_law_some⟩)
    (c_law_some : PySem.W.codeIn K cd_law_some "_law_some" = true) (k_law_some : PySem.W.keepIn K (.ref f_law_some) = true)
    (a_law_scene : PySem.W.nsIn K mainGlobals "_law_scene" = some (some (.ref f_law_scene)))
    (l_law_scene : K.lookup f_law_scene = some ⟨oc_law_scene, od_law_scene, .func (PySem.W.fnOf "_law_scene" "_law_scene" (defArgs s_law_scene) (defBody s_law_scene) (defScope s_law_scene) .none kV_law_scene dc_law_scene pm_law_scene an_law_scene cd_law_scene ct_law_scene), sl_law_scene⟩)
    (c_law_scene : PySem.W.codeIn K cd_law_scene "_law_scene" = true) (k_law_scene : PySem.W.keepIn K (.ref f_law_scene) = true)
    (a_law_or : PySem.W.nsIn K mainGlobals "_law_or" = some (some (.ref f_law_or)))
    (l_law_or : K.lookup f_law_or = some ⟨oc_law_or, od_law_or, .func (PySem.W.fnOf "_law_or" "_law_or" (defArgs s_law_or) (defBody s_law_or) (defScope s_law_or) .none kV_law_or dc_law_or pm_law_or an_law_or cd_law_or ct_law_or), sl_law_or⟩)
    (c_law_or : PySem.W.codeIn K cd_law_or "_law_or" = true) (k_law_or : PySem.W.keepIn K (.ref f_law_or) = true)
    (a_law_and : PySem.W.nsIn K mainGlobals "_law_and" = some (some (.ref f_law_and)))
    (l_law_and : K.lookup f_law_and = some ⟨oc_law_and, od_law_and, .func (PySem.W.fnOf "_law_and" "_law_and" (defArgs s_law_and) (defBody s_law_and) (defScope s_law_and) .none kV_law_and dc_law_and pm_law_and an_law_and cd_law_and ct_law_and), sl_law_and⟩)
    (c_law_and : PySem.W.codeIn K cd_law_and "_law_and" = true) (k_law_and : PySem.W.keepIn K (.ref f_law_and) = true)
    (a_Book_prices : PySem.W.findIn K (.ref CB) "prices" = some (some (.ref p_Book_prices)))
    (g_Book_prices : PySem.W.specialIn K (.ref p_Book_prices) "__get__" = some (some (.builtin "property.__get__")))
    (t_Book_prices : PySem.W.takesIn K (.ref p_Book_prices) = some true)
    (r_Book_prices : PySem.W.recIn K p_Book_prices "property" = some (.ref f_Book_prices :: rs_Book_prices))
    (l_Book_prices : K.lookup f_Book_prices = some ⟨oc_Book_prices, od_Book_prices, .func (PySem.W.fnOf "prices" "Book.prices" (defArgs s_Book_prices) (defBody s_Book_prices) (defScope s_Book_prices) .none kV_Book_prices dc_Book_prices pm_Book_prices an_Book_prices cd_Book_prices ct_Book_prices), sl_Book_prices⟩)
    (c_Book_prices : PySem.W.codeIn K cd_Book_prices "Book.prices" = true) (k_Book_prices : PySem.W.keepIn K (.ref f_Book_prices) = true)
    (a_law_has : PySem.W.nsIn K mainGlobals "_law_has" = some (some (.ref f_law_has)))
    (l_law_has : K.lookup f_law_has = some ⟨oc_law_has, od_law_has, .func (PySem.W.fnOf "_law_has" "_law_has" (defArgs s_law_has) (defBody s_law_has) (defScope s_law_has) .none kV_law_has dc_law_has pm_law_has an_law_has cd_law_has ct_law_has), sl_law_has⟩)
    (c_law_has : PySem.W.codeIn K cd_law_has "_law_has" = true) (k_law_has : PySem.W.keepIn K (.ref f_law_has) = true)
    (a_Book_alphabet : PySem.W.findIn K (.ref CB) "alphabet" = some (some (.ref p_Book_alphabet)))
    (g_Book_alphabet : PySem.W.specialIn K (.ref p_Book_alphabet) "__get__" = some (some (.builtin "property.__get__")))
    (t_Book_alphabet : PySem.W.takesIn K (.ref p_Book_alphabet) = some true)
    (r_Book_alphabet : PySem.W.recIn K p_Book_alphabet "property" = some (.ref f_Book_alphabet :: rs_Book_alphabet))
    (l_Book_alphabet : K.lookup f_Book_alphabet = some ⟨oc_Book_alphabet, od_Book_alphabet, .func (PySem.W.fnOf "alphabet" "Book.alphabet" (defArgs s_Book_alphabet) (defBody s_Book_alphabet) (defScope s_Book_alphabet) .none kV_Book_alphabet dc_Book_alphabet pm_Book_alphabet an_Book_alphabet cd_Book_alphabet ct_Book_alphabet), sl_Book_alphabet⟩)
    (c_Book_alphabet : PySem.W.codeIn K cd_Book_alphabet "Book.alphabet" = true) (k_Book_alphabet : PySem.W.keepIn K (.ref f_Book_alphabet) = true)
    (a_Book__getitem : PySem.W.findIn K (.ref CB) "__getitem__" = some (some (.ref f_Book__getitem)))
    (i_Book__getitem : PySem.W.isFn K (.ref f_Book__getitem) = true)
    (fi_Book__getitem : PySem.W.fnIn K f_Book__getitem = true)
    (l_Book__getitem : K.lookup f_Book__getitem = some ⟨oc_Book__getitem, od_Book__getitem, .func (PySem.W.fnOf "__getitem__" "Book.__getitem__" (defArgs s_Book__getitem) (defBody s_Book__getitem) (defScope s_Book__getitem) .none kV_Book__getitem dc_Book__getitem pm_Book__getitem an_Book__getitem cd_Book__getitem ct_Book__getitem), sl_Book__getitem⟩)
    (c_Book__getitem : PySem.W.codeIn K cd_Book__getitem "Book.__getitem__" = true) (k_Book__getitem : PySem.W.keepIn K (.ref f_Book__getitem) = true)
    (a_Book__iter : PySem.W.findIn K (.ref CB) "__iter__" = some (some (.ref f_Book__iter)))
    (i_Book__iter : PySem.W.isFn K (.ref f_Book__iter) = true)
    (l_Book__iter : K.lookup f_Book__iter = some ⟨oc_Book__iter, od_Book__iter, .func (PySem.W.fnOf "__iter__" "Book.__iter__" (defArgs s_Book__iter) (defBody s_Book__iter) (defScope s_Book__iter) .none kV_Book__iter dc_Book__iter pm_Book__iter an_Book__iter cd_Book__iter ct_Book__iter), sl_Book__iter⟩)
    (c_Book__iter : PySem.W.codeIn K cd_Book__iter "Book.__iter__" = true) (k_Book__iter : PySem.W.keepIn K (.ref f_Book__iter) = true)
    (a_prices_of_beginnings : PySem.W.nsIn K mainGlobals "prices_of_beginnings" = some (some (.ref f_prices_of_beginnings)))
    (l_prices_of_beginnings : K.lookup f_prices_of_beginnings = some ⟨oc_prices_of_beginnings, od_prices_of_beginnings, .func (PySem.W.fnOf "prices_of_beginnings" "prices_of_beginnings" (defArgs s_prices_of_beginnings) (defBody s_prices_of_beginnings) (defScope s_prices_of_beginnings) .none kV_prices_of_beginnings dc_prices_of_beginnings pm_prices_of_beginnings an_prices_of_beginnings cd_prices_of_beginnings ct_prices_of_beginnings), sl_prices_of_beginnings⟩)
    (c_prices_of_beginnings : PySem.W.codeIn K cd_prices_of_beginnings "prices_of_beginnings" = true) (k_prices_of_beginnings : PySem.W.keepIn K (.ref f_prices_of_beginnings) = true)
    (a_least_price : PySem.W.nsIn K mainGlobals "_least_price" = some (some (.ref f_least_price)))
    (l_least_price : K.lookup f_least_price = some ⟨oc_least_price, od_least_price, .func (PySem.W.fnOf "_least_price" "_least_price" (defArgs s_least_price) (defBody s_least_price) (defScope s_least_price) .none kV_least_price dc_least_price pm_least_price an_least_price cd_least_price ct_least_price), sl_least_price⟩)
    (c_least_price : PySem.W.codeIn K cd_least_price "_least_price" = true) (k_least_price : PySem.W.keepIn K (.ref f_least_price) = true)
    (a_check_book : PySem.W.nsIn K mainGlobals "check_book" = some (some (.ref f_check_book)))
    (l_check_book : K.lookup f_check_book = some ⟨oc_check_book, od_check_book, .func (PySem.W.fnOf "check_book" "check_book" (defArgs s_check_book) (defBody s_check_book) (defScope s_check_book) .none kV_check_book dc_check_book pm_check_book an_check_book cd_check_book ct_check_book), sl_check_book⟩)
    (c_check_book : PySem.W.codeIn K cd_check_book "check_book" = true) (k_check_book : PySem.W.keepIn K (.ref f_check_book) = true)
    (a_check_books : PySem.W.nsIn K mainGlobals "_check_books" = some (some (.ref f_check_books)))
    (l_check_books : K.lookup f_check_books = some ⟨oc_check_books, od_check_books, .func (PySem.W.fnOf "_check_books" "_check_books" (defArgs s_check_books) (defBody s_check_books) (defScope s_check_books) .none kV_check_books dc_check_books pm_check_books an_check_books cd_check_books ct_check_books), sl_check_books⟩)
    (c_check_books : PySem.W.codeIn K cd_check_books "_check_books" = true) (k_check_books : PySem.W.keepIn K (.ref f_check_books) = true)
    (a_dearer_piece : PySem.W.nsIn K mainGlobals "dearer_piece" = some (some (.ref f_dearer_piece)))
    (l_dearer_piece : K.lookup f_dearer_piece = some ⟨oc_dearer_piece, od_dearer_piece, .func (PySem.W.fnOf "dearer_piece" "dearer_piece" (defArgs s_dearer_piece) (defBody s_dearer_piece) (defScope s_dearer_piece) .none kV_dearer_piece dc_dearer_piece pm_dearer_piece an_dearer_piece cd_dearer_piece ct_dearer_piece), sl_dearer_piece⟩)
    (c_dearer_piece : PySem.W.codeIn K cd_dearer_piece "dearer_piece" = true) (k_dearer_piece : PySem.W.keepIn K (.ref f_dearer_piece) = true)
    (a_is_nowhere_dearer : PySem.W.nsIn K mainGlobals "is_nowhere_dearer" = some (some (.ref f_is_nowhere_dearer)))
    (l_is_nowhere_dearer : K.lookup f_is_nowhere_dearer = some ⟨oc_is_nowhere_dearer, od_is_nowhere_dearer, .func (PySem.W.fnOf "is_nowhere_dearer" "is_nowhere_dearer" (defArgs s_is_nowhere_dearer) (defBody s_is_nowhere_dearer) (defScope s_is_nowhere_dearer) .none kV_is_nowhere_dearer dc_is_nowhere_dearer pm_is_nowhere_dearer an_is_nowhere_dearer cd_is_nowhere_dearer ct_is_nowhere_dearer), sl_is_nowhere_dearer⟩)
    (c_is_nowhere_dearer : PySem.W.codeIn K cd_is_nowhere_dearer "is_nowhere_dearer" = true) (k_is_nowhere_dearer : PySem.W.keepIn K (.ref f_is_nowhere_dearer) = true)
    (a_law_cheaper_right : PySem.W.nsIn K mainGlobals "_law_cheaper_right" = some (some (.ref f_law_cheaper_right)))
    (l_law_cheaper_right : K.lookup f_law_cheaper_right = some ⟨oc_law_cheaper_right, od_law_cheaper_right, .func (PySem.W.fnOf "_law_cheaper_right" "_law_cheaper_right" (defArgs s_law_cheaper_right) (defBody s_law_cheaper_right) (defScope s_law_cheaper_right) .none kV_law_cheaper_right dc_law_cheaper_right pm_law_cheaper_right an_law_cheaper_right cd_law_cheaper_right ct_law_cheaper_right), sl_law_cheaper_right⟩)
    (c_law_cheaper_right : PySem.W.codeIn K cd_law_cheaper_right "_law_cheaper_right" = true) (k_law_cheaper_right : PySem.W.keepIn K (.ref f_law_cheaper_right) = true)
    (a_law_right : PySem.W.nsIn K mainGlobals "_law_right" = some (some (.ref f_law_right)))
    (l_law_right : K.lookup f_law_right = some ⟨oc_law_right, od_law_right, .func (PySem.W.fnOf "_law_right" "_law_right" (defArgs s_law_right) (defBody s_law_right) (defScope s_law_right) .none kV_law_right dc_law_right pm_law_right an_law_right cd_law_right ct_law_right), sl_law_right⟩)
    (c_law_right : PySem.W.codeIn K cd_law_right "_law_right" = true) (k_law_right : PySem.W.keepIn K (.ref f_law_right) = true)
    (a_law : PySem.W.nsIn K mainGlobals "law" = some (some (.ref f_law)))
    (l_law : K.lookup f_law = some ⟨oc_law, od_law, .func (PySem.W.fnOf "law" "law" (defArgs s_law) (defBody s_law) (defScope s_law) .none kV_law dc_law pm_law an_law cd_law ct_law), sl_law⟩)
    (c_law : PySem.W.codeIn K cd_law "law" = true) (k_law : PySem.W.keepIn K (.ref f_law) = true)
    (z_len : PySem.W.nsIn K mainGlobals "len" = some none)
    (z_range : PySem.W.nsIn K mainGlobals "range" = some none)
    (z_list : PySem.W.nsIn K mainGlobals "list" = some none)
    (z_min : PySem.W.nsIn K mainGlobals "min" = some none)
    (z_max : PySem.W.nsIn K mainGlobals "max" = some none)
    (z_sorted : PySem.W.nsIn K mainGlobals "sorted" = some none)
    (z_sum : PySem.W.nsIn K mainGlobals "sum" = some none)
    (z_isinstance : PySem.W.nsIn K mainGlobals "isinstance" = some none)
    (z_int : PySem.W.nsIn K mainGlobals "int" = some none)
    (z_abs : PySem.W.nsIn K mainGlobals "abs" = some none)
    (z_dict : PySem.W.nsIn K mainGlobals "dict" = some none)
    (z_tuple : PySem.W.nsIn K mainGlobals "tuple" = some none)
    (z_set : PySem.W.nsIn K mainGlobals "set" = some none)
    (z_all : PySem.W.nsIn K mainGlobals "all" = some none)
    (z_repr : PySem.W.nsIn K mainGlobals "repr" = some none)
    (z_str : PySem.W.nsIn K mainGlobals "str" = some none)
    (z_bool : PySem.W.nsIn K mainGlobals "bool" = some none)
    (z_iter : PySem.W.nsIn K mainGlobals "iter" = some none)
    (z_enumerate : PySem.W.nsIn K mainGlobals "enumerate" = some none)
    (z_zip : PySem.W.nsIn K mainGlobals "zip" = some none)
    (z_type : PySem.W.nsIn K mainGlobals "type" = some none)
    (z_MAX_SIGNS : PySem.W.nsIn K mainGlobals "MAX_SIGNS" = some (some (.int 8000 t_MAX_SIGNS)))
    (z_MAX_LENGTH : PySem.W.nsIn K mainGlobals "MAX_LENGTH" = some (some (.int 5 t_MAX_LENGTH)))
    (z_MAX_PIECES : PySem.W.nsIn K mainGlobals "MAX_PIECES" = some (some (.int 12 t_MAX_PIECES)))
    (z_MAX_ALPHABET : PySem.W.nsIn K mainGlobals "MAX_ALPHABET" = some (some (.int 4 t_MAX_ALPHABET)))
    (z_MAX_PRICE : PySem.W.nsIn K mainGlobals "MAX_PRICE" = some (some (.int 99 t_MAX_PRICE)))
    (z_TOO_GREAT : PySem.W.nsIn K mainGlobals "TOO_GREAT" = some (some (.int (10 ^ 60) t_TOO_GREAT))) :
    ∃ fd : FuncData, (∀ (s : Shared) (u : Value), BindsTo s fd ⟨[u], []⟩ [("script", u)]) ∧ ∀ base : Heap, K.In base → base.Ns mainGlobals mg → FnG l.prog w K mg base CX0 10 fa fd ["script"] (spLaw K) := by
  have e := hfa.symm.trans (PySem.W.mg_of X G a_law)
  cases e
  have T : Tx mg := ⟨PySem.W.mg_none_of X G z_len, PySem.W.mg_none_of X G z_range, PySem.W.mg_none_of X G z_list, PySem.W.mg_none_of X G z_min, PySem.W.mg_none_of X G z_max, PySem.W.mg_none_of X G z_sorted, PySem.W.mg_none_of X G z_sum, PySem.W.mg_none_of X G z_isinstance, PySem.W.mg_none_of X G z_int, PySem.W.mg_none_of X G z_abs, PySem.W.mg_none_of X G z_dict, PySem.W.mg_none_of X G z_tuple, PySem.W.mg_none_of X G z_set, PySem.W.mg_none_of X G z_all, PySem.W.mg_none_of X G z_repr, PySem.W.mg_none_of X G z_str, PySem.W.mg_none_of X G z_bool, PySem.W.mg_none_of X G z_iter, PySem.W.mg_none_of X G z_enumerate, PySem.W.mg_none_of X G z_zip, PySem.W.mg_none_of X G z_type, ⟨_, PySem.W.mg_of X G z_MAX_SIGNS⟩, ⟨_, PySem.W.mg_of X G z_MAX_LENGTH⟩, ⟨_, PySem.W.mg_of X G z_MAX_PIECES⟩, ⟨_, PySem.W.mg_of X G z_MAX_ALPHABET⟩, ⟨_, PySem.W.mg_of X G z_MAX_PRICE⟩, ⟨_, PySem.W.mg_of X G z_TOO_GREAT⟩⟩
  have F_law_roll := fun_mk (st := s_law_roll) l_law_roll c_law_roll k_law_roll
  have b_law_roll := F_law_roll.binds (ps := ["dice", "upto"]) fun _ _ _ _ _ _ us hl => match us, hl with | [_, _], _ => rfl
  have F_law_dice := fun_mk (st := s_law_dice) l_law_dice c_law_dice k_law_dice
  have b_law_dice := F_law_dice.binds (ps := ["script", "spot"]) fun _ _ _ _ _ _ us hl => match us, hl with | [_, _], _ => rfl
  have F_signs_in := fun_mk (st := s_signs_in) l_signs_in c_signs_in k_signs_in
  have b_signs_in := F_signs_in.binds (ps := ["pieces"]) fun _ _ _ _ _ _ us hl => match us, hl with | [_], _ => rfl
  have F_longer_pieces := fun_mk (st := s_longer_pieces) l_longer_pieces c_longer_pieces k_longer_pieces
  have b_longer_pieces := F_longer_pieces.binds (ps := ["prices", "alphabet", "place"]) fun _ _ _ _ _ _ us hl => match us, hl with | [_, _, _], _ => rfl
  have F_is_text := fun_mk (st := s_is_text) l_is_text c_is_text k_is_text
  have b_is_text := F_is_text.binds (ps := ["value"]) fun _ _ _ _ _ _ us hl => match us, hl with | [_], _ => rfl
  have F_is_piece := fun_mk (st := s_is_piece) l_is_piece c_is_piece k_is_piece
  have b_is_piece := F_is_piece.binds (ps := ["value"]) fun _ _ _ _ _ _ us hl => match us, hl with | [_], _ => rfl
  have F_is_integer := fun_mk (st := s_is_integer) l_is_integer c_is_integer k_is_integer
  have b_is_integer := F_is_integer.binds (ps := ["value"]) fun _ _ _ _ _ _ us hl => match us, hl with | [_], _ => rfl
  have F_is_price := fun_mk (st := s_is_price) l_is_price c_is_price k_is_price
  have b_is_price := F_is_price.binds (ps := ["value"]) fun _ _ _ _ _ _ us hl => match us, hl with | [_], _ => rfl
  have F_are_prices := fun_mk (st := s_are_prices) l_are_prices c_are_prices k_are_prices
  have b_are_prices := F_are_prices.binds (ps := ["value"]) fun _ _ _ _ _ _ us hl => match us, hl with | [_], _ => rfl
  have F_Book__init := fun_mk (st := s_Book__init) l_Book__init c_Book__init k_Book__init
  have b_Book__init := F_Book__init.binds (ps := ["self", "prices"]) fun _ _ _ _ _ _ us hl => match us, hl with | [_, _], _ => rfl
  have F_Book__eq := fun_mk (st := s_Book__eq) l_Book__eq c_Book__eq k_Book__eq
  have b_Book__eq := F_Book__eq.binds (ps := ["self", "other"]) fun _ _ _ _ _ _ us hl => match us, hl with | [_, _], _ => rfl
  have F_result := fun_mk (st := s_result) l_result c_result k_result
  have b_result := F_result.binds (ps := ["prices"]) fun _ _ _ _ _ _ us hl => match us, hl with | [_], _ => rfl
  have F_Book__or := fun_mk (st := s_Book__or) l_Book__or c_Book__or k_Book__or
  have b_Book__or := F_Book__or.binds (ps := ["self", "other"]) fun _ _ _ _ _ _ us hl => match us, hl with | [_, _], _ => rfl
  have F_Book__contains := fun_mk (st := s_Book__contains) l_Book__contains c_Book__contains k_Book__contains
  have b_Book__contains := F_Book__contains.binds (ps := ["self", "value"]) fun _ _ _ _ _ _ us hl => match us, hl with | [_, _], _ => rfl
  have F_Book__and := fun_mk (st := s_Book__and) l_Book__and c_Book__and k_Book__and
  have b_Book__and := F_Book__and.binds (ps := ["self", "other"]) fun _ _ _ _ _ _ us hl => match us, hl with | [_, _], _ => rfl
  have F_law_pick := fun_mk (st := s_law_pick) l_law_pick c_law_pick k_law_pick
  have b_law_pick := F_law_pick.binds (ps := ["dice", "items"]) fun _ _ _ _ _ _ us hl => match us, hl with | [_, _], _ => rfl
  have F_law_some := fun_mk (st := s_law_some) l_law_some c_law_some k_law_some
  have b_law_some := F_law_some.binds (ps := ["dice", "items", "many"]) fun _ _ _ _ _ _ us hl => match us, hl with | [_, _, _], _ => rfl
  have F_law_scene := fun_mk (st := s_law_scene) l_law_scene c_law_scene k_law_scene
  have b_law_scene := F_law_scene.binds (ps := ["dice"]) fun _ _ _ _ _ _ us hl => match us, hl with | [_], _ => rfl
  have F_law_or := fun_mk (st := s_law_or) l_law_or c_law_or k_law_or
  have b_law_or := F_law_or.binds (ps := ["one", "two"]) fun _ _ _ _ _ _ us hl => match us, hl with | [_, _], _ => rfl
  have F_law_and := fun_mk (st := s_law_and) l_law_and c_law_and k_law_and
  have b_law_and := F_law_and.binds (ps := ["one", "two"]) fun _ _ _ _ _ _ us hl => match us, hl with | [_, _], _ => rfl
  have F_Book_prices := fun_mk (st := s_Book_prices) l_Book_prices c_Book_prices k_Book_prices
  have b_Book_prices := F_Book_prices.binds (ps := ["self"]) fun _ _ _ _ _ _ us hl => match us, hl with | [_], _ => rfl
  have F_law_has := fun_mk (st := s_law_has) l_law_has c_law_has k_law_has
  have b_law_has := F_law_has.binds (ps := ["book", "prices"]) fun _ _ _ _ _ _ us hl => match us, hl with | [_, _], _ => rfl
  have F_Book_alphabet := fun_mk (st := s_Book_alphabet) l_Book_alphabet c_Book_alphabet k_Book_alphabet
  have b_Book_alphabet := F_Book_alphabet.binds (ps := ["self"]) fun _ _ _ _ _ _ us hl => match us, hl with | [_], _ => rfl
  have F_Book__getitem := fun_mk (st := s_Book__getitem) l_Book__getitem c_Book__getitem k_Book__getitem
  have b_Book__getitem := F_Book__getitem.binds (ps := ["self", "piece"]) fun _ _ _ _ _ _ us hl => match us, hl with | [_, _], _ => rfl
  have F_Book__iter := fun_mk (st := s_Book__iter) l_Book__iter c_Book__iter k_Book__iter
  have b_Book__iter := F_Book__iter.binds (ps := ["self"]) fun _ _ _ _ _ _ us hl => match us, hl with | [_], _ => rfl
  have F_prices_of_beginnings := fun_mk (st := s_prices_of_beginnings) l_prices_of_beginnings c_prices_of_beginnings k_prices_of_beginnings
  have b_prices_of_beginnings := F_prices_of_beginnings.binds (ps := ["book", "text"]) fun _ _ _ _ _ _ us hl => match us, hl with | [_, _], _ => rfl
  have F_least_price := fun_mk (st := s_least_price) l_least_price c_least_price k_least_price
  have b_least_price := F_least_price.binds (ps := ["book", "text"]) fun _ _ _ _ _ _ us hl => match us, hl with | [_, _], _ => rfl
  have F_check_book := fun_mk (st := s_check_book) l_check_book c_check_book k_check_book
  have b_check_book := F_check_book.binds (ps := ["book"]) fun _ _ _ _ _ _ us hl => match us, hl with | [_], _ => rfl
  have F_check_books := fun_mk (st := s_check_books) l_check_books c_check_books k_check_books
  have b_check_books := F_check_books.binds (ps := ["book", "other"]) fun _ _ _ _ _ _ us hl => match us, hl with | [_, _], _ => rfl
  have F_dearer_piece := fun_mk (st := s_dearer_piece) l_dearer_piece c_dearer_piece k_dearer_piece
  have b_dearer_piece := F_dearer_piece.binds (ps := ["book", "other"]) fun _ _ _ _ _ _ us hl => match us, hl with | [_, _], _ => rfl
  have F_is_nowhere_dearer := fun_mk (st := s_is_nowhere_dearer) l_is_nowhere_dearer c_is_nowhere_dearer k_is_nowhere_dearer
  have b_is_nowhere_dearer := F_is_nowhere_dearer.binds (ps := ["book", "other"]) fun _ _ _ _ _ _ us hl => match us, hl with | [_, _], _ => rfl
  have F_law_cheaper_right := fun_mk (st := s_law_cheaper_right) l_law_cheaper_right c_law_cheaper_right k_law_cheaper_right
  have b_law_cheaper_right := F_law_cheaper_right.binds (ps := ["one", "two"]) fun _ _ _ _ _ _ us hl => match us, hl with | [_, _], _ => rfl
  have F_law_right := fun_mk (st := s_law_right) l_law_right c_law_right k_law_right
  have b_law_right := F_law_right.binds (ps := ["dice"]) fun _ _ _ _ _ _ us hl => match us, hl with | [_], _ => rfl
  have F_law := fun_mk (st := s_law) l_law c_law k_law
  refine ⟨PySem.W.fnOf "law" "law" (defArgs s_law) (defBody s_law) (defScope s_law) .none kV_law dc_law pm_law an_law cd_law ct_law, fun s v => .of_eq rfl, fun base _ _ => ?_⟩
  have BB : ClsF K CB ["_prices", "_pieces", "_alphabet", "_longest", "_dearest", "ending", "heading", "kept"] := by
    refine ⟨⟨⟨pg_CB, hd_CB, po_CB, sa_CB⟩, ha_CB, hn_, tk_, mo_CB, if_pos (beq_self_eq_true _)⟩, fun f m => ?_⟩
    simp only [List.mem_cons, List.not_mem_nil, or_false] at m
    rcases m with rfl | rfl | rfl | rfl | rfl | rfl | rfl | rfl
    · exact n_CB_prices
    · exact n_CB_pieces
    · exact n_CB_alphabet
    · exact n_CB_longest
    · exact n_CB_dearest
    · exact n_CBending
    · exact n_CBheading
    · exact n_CBkept
  have BK : BookK K mg CB := ⟨PySem.W.mg_of X G a_Book, sf_CB, ⟨sf_CB, rb_CB, rt_CB, ru_CB, ra_CB⟩⟩
  have G_law_roll : Df l.prog w K mg base 1 "_law_roll" ["dice", "upto"] (spA (rCons rDice (rCons Bv.rI rNil)) Bv.rI (fun a => rollW a.2.1)) := ⟨⟨_, _, ok_law_roll F_law_roll T, PySem.W.mg_of X G a_law_roll, k_law_roll, b_law_roll⟩⟩
  have G_law_dice : Df l.prog w K mg base 1 "_law_dice" ["script", "spot"] (spA (rCons (rLK K Bv.rI) (rCons Bv.rI rNil)) rDice (fun a => diceW a.1 a.2.1)) := ⟨⟨_, _, ok_law_dice F_law_dice T, PySem.W.mg_of X G a_law_dice, k_law_dice, b_law_dice⟩⟩
  have G_signs_in : Dn l.prog w K mg base 1 "_signs_in" ["pieces"] (spA (rCons (rT K rS) rNil) (rT K rS) (fun a => m_signs_in a.1)) := ⟨⟨_, ⟨⟨_, ok_signs_in F_signs_in T BB BK, b_signs_in⟩⟩, PySem.W.mg_of X G a_signs_in, k_signs_in⟩⟩
  have G_longer_pieces : Dn l.prog w K mg base 1 "_longer_pieces" ["prices", "alphabet", "place"] (spA (rCons (rD Bv.rI) (rCons (rT K rS) (rCons Bv.rI rNil))) (rD (rL K (rP3 K rS Bv.rI Bv.rI))) (fun a => m_longer_pieces a.1 a.2.1 a.2.2.1)) := ⟨⟨_, ⟨⟨_, ok_longer_pieces F_longer_pieces T BB BK, b_longer_pieces⟩⟩, PySem.W.mg_of X G a_longer_pieces, k_longer_pieces⟩⟩
  have G_is_text : Dn l.prog w K mg base 1 "is_text" ["value"] (spA (rCons rS rNil) rB (fun a => m_is_text a.1)) := ⟨⟨_, ⟨⟨_, ok_is_text F_is_text T BB BK, b_is_text⟩⟩, PySem.W.mg_of X G a_is_text, k_is_text⟩⟩
  have G_is_piece : Dn l.prog w K mg base 2 "is_piece" ["value"] (spA (rCons rS rNil) rB (fun a => m_is_piece a.1)) := ⟨⟨_, ⟨⟨_, ok_is_piece F_is_piece T BB BK G_is_text, b_is_piece⟩⟩, PySem.W.mg_of X G a_is_piece, k_is_piece⟩⟩
  have G_is_integer : Dn l.prog w K mg base 1 "is_integer" ["value"] (spA (rCons Bv.rI rNil) rB (fun a => m_is_integer a.1)) := ⟨⟨_, ⟨⟨_, ok_is_integer F_is_integer T BB BK, b_is_integer⟩⟩, PySem.W.mg_of X G a_is_integer, k_is_integer⟩⟩
  have G_is_price : Dn l.prog w K mg base 2 "is_price" ["value"] (spA (rCons Bv.rI rNil) rB (fun a => m_is_price a.1)) := ⟨⟨_, ⟨⟨_, ok_is_price F_is_price T BB BK G_is_integer, b_is_price⟩⟩, PySem.W.mg_of X G a_is_price, k_is_price⟩⟩
  have G_signs_in_vL : Dn l.prog w K mg base 1 "_signs_in" ["pieces"] (spA (rCons (rL K rS) rNil) (rT K rS) (fun a => m_signs_in_vL a.1)) := ⟨⟨_, ⟨⟨_, ok_signs_in_vL F_signs_in T BB BK, b_signs_in⟩⟩, PySem.W.mg_of X G a_signs_in, k_signs_in⟩⟩
  have G_are_prices : Dn l.prog w K mg base 3 "_are_prices" ["value"] (spA (rCons (rD Bv.rI) rNil) rB (fun a => m_are_prices a.1)) := ⟨⟨_, ⟨⟨_, ok_are_prices F_are_prices T BB BK G_is_piece G_is_price G_signs_in_vL, b_are_prices⟩⟩, PySem.W.mg_of X G a_are_prices, k_are_prices⟩⟩
  have G_Book__init : MakeD l.prog w K mg base 4 CB "Book" (spI CB (rCons (rD Bv.rI) rNil) (fsBook K) (fun a => m_Book__init a.1)) := ⟨_, _, ⟨mk_CB, a_Book__init, i_Book__init, kc_CB⟩, ⟨⟨_, ok_Book__init F_Book__init T BB BK G_signs_in G_longer_pieces G_are_prices, b_Book__init⟩⟩, PySem.W.mg_of X G a_Book⟩
  have G_Book__eq : OwnD l.prog w K mg base 1 CB "__eq__" (spA (rCons (rBook K CB) (rCons (rBook K CB) rNil)) rB (fun a => m_Book__eq a.1 a.2.1)) := ⟨_, _, ⟨a_Book__eq, i_Book__eq⟩, fi_Book__eq, ⟨⟨_, ok_Book__eq F_Book__eq T BB BK, b_Book__eq⟩⟩⟩
  have G_result : Dn l.prog w K mg base 6 "_result" ["prices"] (spA (rCons (rD Bv.rI) rNil) (rBook K CB) (fun a => m_result a.1)) := ⟨⟨_, ⟨⟨_, ok_result F_result T BB BK G_are_prices G_Book__init, b_result⟩⟩, PySem.W.mg_of X G a_result, k_result⟩⟩
  have G_Book__or : OwnD l.prog w K mg base 7 CB (PySem.dunder (Operator.info .BitOr).2) (spA (rCons (rBook K CB) (rCons (rBook K CB) rNil)) (rBook K CB) (fun a => m_Book__or a.1 a.2.1)) := ⟨_, _, ⟨a_Book__or, i_Book__or⟩, fi_Book__or, ⟨⟨_, ok_Book__or F_Book__or T BB BK G_result, b_Book__or⟩⟩⟩
  have G_Book__contains : OwnD l.prog w K mg base 1 CB "__contains__" (spA (rCons (rBook K CB) (rCons rS rNil)) rB (fun a => m_Book__contains a.1 a.2.1)) := ⟨_, _, ⟨a_Book__contains, i_Book__contains⟩, fi_Book__contains, ⟨⟨_, ok_Book__contains F_Book__contains T BB BK, b_Book__contains⟩⟩⟩
  have G_Book__and : OwnD l.prog w K mg base 7 CB (PySem.dunder (Operator.info .BitAnd).2) (spA (rCons (rBook K CB) (rCons (rBook K CB) rNil)) (rBook K CB) (fun a => m_Book__and a.1 a.2.1)) := ⟨_, _, ⟨a_Book__and, i_Book__and⟩, fi_Book__and, ⟨⟨_, ok_Book__and F_Book__and T BB BK G_result G_Book__contains, b_Book__and⟩⟩⟩
  have G_law_pick_vS : Df l.prog w K mg base 2 "_law_pick" ["dice", "items"] (spA (rCons rDice (rCons (rL K rS) rNil)) rS (fun a => m_law_pick_vS a.2.1)) := ⟨⟨_, _, ok_law_pick_vS F_law_pick T BB BK G_law_roll, PySem.W.mg_of X G a_law_pick, k_law_pick, b_law_pick⟩⟩
  have G_law_some_vS : Df l.prog w K mg base 2 "_law_some" ["dice", "items", "many"] (spA (rCons rDice (rCons (rL K rS) (rCons Bv.rI rNil))) (rL K rS) (fun a => m_law_some_vS a.2.1 a.2.2.1)) := ⟨⟨_, _, ok_law_some_vS F_law_some T BB BK G_law_roll, PySem.W.mg_of X G a_law_some, k_law_some, b_law_some⟩⟩
  have G_law_some_vT : Df l.prog w K mg base 2 "_law_some" ["dice", "items", "many"] (spA (rCons rDice (rCons rS (rCons Bv.rI rNil))) (rL K rS) (fun a => m_law_some_vT a.2.1 a.2.2.1)) := ⟨⟨_, _, ok_law_some_vT F_law_some T BB BK G_law_roll, PySem.W.mg_of X G a_law_some, k_law_some, b_law_some⟩⟩
  have G_law_scene : Df l.prog w K mg base 3 "_law_scene" ["dice"] (spA (rCons rDice rNil) (rL K (rD Bv.rI)) (fun a => m_law_scene)) := ⟨⟨_, _, ok_law_scene F_law_scene T BB BK G_law_roll G_law_pick_vS G_law_some_vS G_law_some_vT, PySem.W.mg_of X G a_law_scene, k_law_scene, b_law_scene⟩⟩
  have G_law_or : Df l.prog w K mg base 1 "_law_or" ["one", "two"] (spA (rCons (rD Bv.rI) (rCons (rD Bv.rI) rNil)) (rD Bv.rI) (fun a => m_law_or a.1 a.2.1)) := ⟨⟨_, _, ok_law_or F_law_or T BB BK, PySem.W.mg_of X G a_law_or, k_law_or, b_law_or⟩⟩
  have G_law_and : Df l.prog w K mg base 1 "_law_and" ["one", "two"] (spA (rCons (rD Bv.rI) (rCons (rD Bv.rI) rNil)) (rD Bv.rI) (fun a => m_law_and a.1 a.2.1)) := ⟨⟨_, _, ok_law_and F_law_and T BB BK, PySem.W.mg_of X G a_law_and, k_law_and, b_law_and⟩⟩
  have G_Book_prices : PropD l.prog w K mg base 1 CB "prices" (spA (rCons (rBook K CB) rNil) (rD Bv.rI) (fun a => m_Book_prices a.1)) := ⟨_, _, _, ⟨a_Book_prices, g_Book_prices, t_Book_prices, _, r_Book_prices⟩, ⟨⟨_, ok_Book_prices F_Book_prices T BB BK, b_Book_prices⟩⟩⟩
  have G_law_has : Df l.prog w K mg base 3 "_law_has" ["book", "prices"] (spA (rCons (rBook K CB) (rCons (rD Bv.rI) rNil)) rB (fun a => m_law_has a.1 a.2.1)) := ⟨⟨_, _, ok_law_has F_law_has T BB BK G_Book_prices, PySem.W.mg_of X G a_law_has, k_law_has, b_law_has⟩⟩
  have G_Book_alphabet : PropD l.prog w K mg base 1 CB "alphabet" (spA (rCons (rBook K CB) rNil) (rT K rS) (fun a => m_Book_alphabet a.1)) := ⟨_, _, _, ⟨a_Book_alphabet, g_Book_alphabet, t_Book_alphabet, _, r_Book_alphabet⟩, ⟨⟨_, ok_Book_alphabet F_Book_alphabet T BB BK, b_Book_alphabet⟩⟩⟩
  have G_Book__getitem : OwnD l.prog w K mg base 2 CB "__getitem__" (spA (rCons (rBook K CB) (rCons rS rNil)) Bv.rI (fun a => m_Book__getitem a.1 a.2.1)) := ⟨_, _, ⟨a_Book__getitem, i_Book__getitem⟩, fi_Book__getitem, ⟨⟨_, ok_Book__getitem F_Book__getitem T BB BK G_Book__contains, b_Book__getitem⟩⟩⟩
  have G_Book__iter : IterD l.prog w K mg base 1 CB "_pieces" := ⟨_, _, ⟨a_Book__iter, i_Book__iter⟩, ⟨⟨_, ok_Book__iter F_Book__iter T BB BK, b_Book__iter⟩⟩⟩
  have G_prices_of_beginnings : Dn l.prog w K mg base 3 "prices_of_beginnings" ["book", "text"] (spA (rCons (rBook K CB) (rCons rS rNil)) (rL K Bv.rI) (fun a => m_prices_of_beginnings a.1 a.2.1)) := ⟨⟨_, ⟨⟨_, ok_prices_of_beginnings F_prices_of_beginnings T BB BK G_Book_prices, b_prices_of_beginnings⟩⟩, PySem.W.mg_of X G a_prices_of_beginnings, k_prices_of_beginnings⟩⟩
  have G_least_price : Dn l.prog w K mg base 4 "_least_price" ["book", "text"] (spA (rCons (rBook K CB) (rCons rS rNil)) Bv.rI (fun a => m_least_price a.1 a.2.1)) := ⟨⟨_, ⟨⟨_, ok_least_price F_least_price T BB BK G_prices_of_beginnings, b_least_price⟩⟩, PySem.W.mg_of X G a_least_price, k_least_price⟩⟩
  have G_check_book : Dn l.prog w K mg base 1 "check_book" ["book"] (spA (rCons (rBook K CB) rNil) rN (fun a => m_check_book a.1)) := ⟨⟨_, ⟨⟨_, ok_check_book F_check_book T BB BK, b_check_book⟩⟩, PySem.W.mg_of X G a_check_book, k_check_book⟩⟩
  have G_check_books : Dn l.prog w K mg base 3 "_check_books" ["book", "other"] (spA (rCons (rBook K CB) (rCons (rBook K CB) rNil)) rN (fun a => m_check_books a.1 a.2.1)) := ⟨⟨_, ⟨⟨_, ok_check_books F_check_books T BB BK G_Book_alphabet G_check_book, b_check_books⟩⟩, PySem.W.mg_of X G a_check_books, k_check_books⟩⟩
  have G_dearer_piece : Dn l.prog w K mg base 5 "dearer_piece" ["book", "other"] (spA (rCons (rBook K CB) (rCons (rBook K CB) rNil)) (rO K rS) (fun a => m_dearer_piece a.1 a.2.1)) := ⟨⟨_, ⟨⟨_, ok_dearer_piece F_dearer_piece T BB BK G_Book__getitem G_Book__iter G_least_price G_check_books, b_dearer_piece⟩⟩, PySem.W.mg_of X G a_dearer_piece, k_dearer_piece⟩⟩
  have G_is_nowhere_dearer : Dn l.prog w K mg base 6 "is_nowhere_dearer" ["book", "other"] (spA (rCons (rBook K CB) (rCons (rBook K CB) rNil)) rB (fun a => m_is_nowhere_dearer a.1 a.2.1)) := ⟨⟨_, ⟨⟨_, ok_is_nowhere_dearer F_is_nowhere_dearer T BB BK G_dearer_piece, b_is_nowhere_dearer⟩⟩, PySem.W.mg_of X G a_is_nowhere_dearer, k_is_nowhere_dearer⟩⟩
  have G_law_cheaper_right : Df l.prog w K mg base 8 "_law_cheaper_right" ["one", "two"] (spA (rCons (rBook K CB) (rCons (rBook K CB) rNil)) rB (fun a => m_law_cheaper_right a.1 a.2.1)) := ⟨⟨_, _, ok_law_cheaper_right F_law_cheaper_right T BB BK G_Book_alphabet G_Book__or G_Book__and G_is_nowhere_dearer, PySem.W.mg_of X G a_law_cheaper_right, k_law_cheaper_right, b_law_cheaper_right⟩⟩
  have G_law_right : Df l.prog w K mg base 9 "_law_right" ["dice"] (spA (rCons rDice rNil) rB (fun a => m_law_right)) := ⟨⟨_, _, ok_law_right F_law_right T BB BK G_Book__init G_Book__eq G_Book__or G_Book__and G_law_scene G_law_or G_law_and G_law_has G_law_cheaper_right, PySem.W.mg_of X G a_law_right, k_law_right, b_law_right⟩⟩
  exact ok_law F_law T BB BK G_law_dice G_law_right
end K05
open PySem PySem.W PyProof.Rows
set_option maxHeartbeats 0 in
theorem PySem.Challenge.cw_cutbehind_k05_whole_books_put_together_holds : PySem.Challenge.rw_cutbehind_k05_whole_books_put_together.Holds := by
  w_on; o_law; k_head; (case hw => w_witness2)
  k_fill
  refine Gd.end_walk (l := PySem.Challenge.rw_cutbehind_k05_whole_books_put_together) (n := 63) (k := 10) (x := "script") (sp := fun K => K05.spLaw K) rfl (by decide) rfl ⟨rfl, by decide, by decide⟩ (fun w h Y => PySem.W.kIn_of Y) ?F (fun K H a ns hl hS => Bl.law_end (fun a => K05.m_law a.1) hS (K05.law_true hl))
  case F =>
    intro w mg fa h KX G hmg
    refine' K05.all_mk KX G hmg ?a_Book ?pg_CB ?hd_CB ?po_CB ?sa_CB ?mk_CB ?kc_CB ?ha_CB ?mo_CB ?n_CB_prices ?n_CB_pieces ?n_CB_alphabet ?n_CB_longest ?n_CB_dearest ?n_CBending ?n_CBheading ?n_CBkept ?sf_CB ?rb_CB ?rt_CB ?ru_CB ?ra_CB ?hn_ ?tk_ ?a_law_roll ?l_law_roll ?c_law_roll ?k_law_roll ?a_law_dice ?l_law_dice ?c_law_dice ?k_law_dice ?a_signs_in ?l_signs_in ?c_signs_in ?k_signs_in ?a_longer_pieces ?l_longer_pieces ?c_longer_pieces ?k_longer_pieces ?a_is_text ?l_is_text ?c_is_text ?k_is_text ?a_is_piece ?l_is_piece ?c_is_piece ?k_is_piece ?a_is_integer ?l_is_integer ?c_is_integer ?k_is_integer ?a_is_price ?l_is_price ?c_is_price ?k_is_price ?a_are_prices ?l_are_prices ?c_are_prices ?k_are_prices ?a_Book__init ?i_Book__init ?l_Book__init ?c_Book__init ?k_Book__init ?a_Book__eq ?i_Book__eq ?fi_Book__eq ?l_Book__eq ?c_Book__eq ?k_Book__eq ?ne_Book__eq ?a_result ?l_result ?c_result ?k_result ?a_Book__or ?i_Book__or ?fi_Book__or ?l_Book__or ?c_Book__or ?k_Book__or ?a_Book__contains ?i_Book__contains ?fi_Book__contains ?l_Book__contains ?c_Book__contains ?k_Book__contains ?a_Book__and ?i_Book__and ?fi_Book__and ?l_Book__and ?c_Book__and ?k_Book__and ?a_law_pick ?l_law_pick ?c_law_pick ?k_law_pick ?a_law_some ?l_law_some ?c_law_some ?k_law_some ?a_law_scene ?l_law_scene ?c_law_scene ?k_law_scene ?a_law_or ?l_law_or ?c_law_or ?k_law_or ?a_law_and ?l_law_and ?c_law_and ?k_law_and ?a_Book_prices ?g_Book_prices ?t_Book_prices ?r_Book_prices ?l_Book_prices ?c_Book_prices ?k_Book_prices ?a_law_has ?l_law_has ?c_law_has ?k_law_has ?a_Book_alphabet ?g_Book_alphabet ?t_Book_alphabet ?r_Book_alphabet ?l_Book_alphabet ?c_Book_alphabet ?k_Book_alphabet ?a_Book__getitem ?i_Book__getitem ?fi_Book__getitem ?l_Book__getitem ?c_Book__getitem ?k_Book__getitem ?a_Book__iter ?i_Book__iter ?l_Book__iter ?c_Book__iter ?k_Book__iter ?a_prices_of_beginnings ?l_prices_of_beginnings ?c_prices_of_beginnings ?k_prices_of_beginnings ?a_least_price ?l_least_price ?c_least_price ?k_least_price ?a_check_book ?l_check_book ?c_check_book ?k_check_book ?a_check_books ?l_check_books ?c_check_books ?k_check_books ?a_dearer_piece ?l_dearer_piece ?c_dearer_piece ?k_dearer_piece ?a_is_nowhere_dearer ?l_is_nowhere_dearer ?c_is_nowhere_dearer ?k_is_nowhere_dearer ?a_law_cheaper_right ?l_law_cheaper_right ?c_law_cheaper_right ?k_law_cheaper_right ?a_law_right ?l_law_right ?c_law_right ?k_law_right ?a_law ?l_law ?c_law ?k_law ?z_len ?z_range ?z_list ?z_min ?z_max ?z_sorted ?z_sum ?z_isinstance ?z_int ?z_abs ?z_dict ?z_tuple ?z_set ?z_all ?z_repr ?z_str ?z_bool ?z_iter ?z_enumerate ?z_zip ?z_type ?z_MAX_SIGNS ?z_MAX_LENGTH ?z_MAX_PIECES ?z_MAX_ALPHABET ?z_MAX_PRICE ?z_TOO_GREAT
    (case a_Book => k_is); (case pg_CB => k_is); (case hd_CB => k_is); (case po_CB => k_is); (case sa_CB => k_is); (case mk_CB => k_is)
    (case kc_CB => k_is); (case ha_CB => k_is); (case mo_CB => k_is); (case n_CB_prices => k_is); (case n_CB_pieces => k_is); (case n_CB_alphabet => k_is)
    (case n_CB_longest => k_is); (case n_CB_dearest => k_is); (case n_CBending => k_is); (case n_CBheading => k_is); (case n_CBkept => k_is); (case sf_CB => k_is)
    (case rb_CB => k_is); (case rt_CB => k_is); (case ru_CB => k_is); (case ra_CB => k_is); (case hn_ => k_is); (case tk_ => k_is)
    (case a_law_roll => k_is); (case l_law_roll => k_is); (case c_law_roll => k_is); (case k_law_roll => k_is); (case a_law_dice => k_is); (case l_law_dice => k_is)
    (case c_law_dice => k_is); (case k_law_dice => k_is); (case a_signs_in => k_is); (case l_signs_in => k_is); (case c_signs_in => k_is); (case k_signs_in => k_is)
    (case a_longer_pieces => k_is); (case l_longer_pieces => k_is); (case c_longer_pieces => k_is); (case k_longer_pieces => k_is); (case a_is_text => k_is); (case l_is_text => k_is)
    (case c_is_text => k_is); (case k_is_text => k_is); (case a_is_piece => k_is); (case l_is_piece => k_is); (case c_is_piece => k_is); (case k_is_piece => k_is)
    (case a_is_integer => k_is); (case l_is_integer => k_is); (case c_is_integer => k_is); (case k_is_integer => k_is); (case a_is_price => k_is); (case l_is_price => k_is)
    (case c_is_price => k_is); (case k_is_price => k_is); (case a_are_prices => k_is); (case l_are_prices => k_is); (case c_are_prices => k_is); (case k_are_prices => k_is)
    (case a_Book__init => k_is); (case i_Book__init => k_is); (case l_Book__init => k_is); (case c_Book__init => k_is); (case k_Book__init => k_is); (case a_Book__eq => k_is)
    (case i_Book__eq => k_is); (case fi_Book__eq => k_is); (case l_Book__eq => k_is); (case c_Book__eq => k_is); (case k_Book__eq => k_is); (case ne_Book__eq => k_is)
    (case a_result => k_is); (case l_result => k_is); (case c_result => k_is); (case k_result => k_is); (case a_Book__or => k_is); (case i_Book__or => k_is)
    (case fi_Book__or => k_is); (case l_Book__or => k_is); (case c_Book__or => k_is); (case k_Book__or => k_is); (case a_Book__contains => k_is); (case i_Book__contains => k_is)
    (case fi_Book__contains => k_is); (case l_Book__contains => k_is); (case c_Book__contains => k_is); (case k_Book__contains => k_is); (case a_Book__and => k_is); (case i_Book__and => k_is)
    (case fi_Book__and => k_is); (case l_Book__and => k_is); (case c_Book__and => k_is); (case k_Book__and => k_is); (case a_law_pick => k_is); (case l_law_pick => k_is)
    (case c_law_pick => k_is); (case k_law_pick => k_is); (case a_law_some => k_is); (case l_law_some => k_is); (case c_law_some => k_is); (case k_law_some => k_is)
    (case a_law_scene => k_is); (case l_law_scene => k_is); (case c_law_scene => k_is); (case k_law_scene => k_is); (case a_law_or => k_is); (case l_law_or => k_is)
    (case c_law_or => k_is); (case k_law_or => k_is); (case a_law_and => k_is); (case l_law_and => k_is); (case c_law_and => k_is); (case k_law_and => k_is)
    (case a_Book_prices => k_is); (case g_Book_prices => k_is); (case t_Book_prices => k_is); (case r_Book_prices => k_is); (case l_Book_prices => k_is); (case c_Book_prices => k_is)
    (case k_Book_prices => k_is); (case a_law_has => k_is); (case l_law_has => k_is); (case c_law_has => k_is); (case k_law_has => k_is); (case a_Book_alphabet => k_is)
    (case g_Book_alphabet => k_is); (case t_Book_alphabet => k_is); (case r_Book_alphabet => k_is); (case l_Book_alphabet => k_is); (case c_Book_alphabet => k_is); (case k_Book_alphabet => k_is)
    (case a_Book__getitem => k_is); (case i_Book__getitem => k_is); (case fi_Book__getitem => k_is); (case l_Book__getitem => k_is); (case c_Book__getitem => k_is); (case k_Book__getitem => k_is)
    (case a_Book__iter => k_is); (case i_Book__iter => k_is); (case l_Book__iter => k_is); (case c_Book__iter => k_is); (case k_Book__iter => k_is); (case a_prices_of_beginnings => k_is)
    (case l_prices_of_beginnings => k_is); (case c_prices_of_beginnings => k_is); (case k_prices_of_beginnings => k_is); (case a_least_price => k_is); (case l_least_price => k_is); (case c_least_price => k_is)
    (case k_least_price => k_is); (case a_check_book => k_is); (case l_check_book => k_is); (case c_check_book => k_is); (case k_check_book => k_is); (case a_check_books => k_is)
    (case l_check_books => k_is); (case c_check_books => k_is); (case k_check_books => k_is); (case a_dearer_piece => k_is); (case l_dearer_piece => k_is); (case c_dearer_piece => k_is)
    (case k_dearer_piece => k_is); (case a_is_nowhere_dearer => k_is); (case l_is_nowhere_dearer => k_is); (case c_is_nowhere_dearer => k_is); (case k_is_nowhere_dearer => k_is); (case a_law_cheaper_right => k_is)
    (case l_law_cheaper_right => k_is); (case c_law_cheaper_right => k_is); (case k_law_cheaper_right => k_is); (case a_law_right => k_is); (case l_law_right => k_is); (case c_law_right => k_is)
    (case k_law_right => k_is); (case a_law => k_is); (case l_law => k_is); (case c_law => k_is); (case k_law => k_is); (case z_len => k_is)
    (case z_range => k_is); (case z_list => k_is); (case z_min => k_is); (case z_max => k_is); (case z_sorted => k_is); (case z_sum => k_is)
    (case z_isinstance => k_is); (case z_int => k_is); (case z_abs => k_is); (case z_dict => k_is); (case z_tuple => k_is); (case z_set => k_is)
    (case z_all => k_is); (case z_repr => k_is); (case z_str => k_is); (case z_bool => k_is); (case z_iter => k_is); (case z_enumerate => k_is)
    (case z_zip => k_is); (case z_type => k_is); (case z_MAX_SIGNS => k_is); (case z_MAX_LENGTH => k_is); (case z_MAX_PIECES => k_is); (case z_MAX_ALPHABET => k_is)
    (case z_MAX_PRICE => k_is); (case z_TOO_GREAT => k_is)

