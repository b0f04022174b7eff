import PyProof.Rows.All
import Wide.All
import OpenK.AllK
import Wide.FinOn
import HandS.ForMost
import HandS.IsInst
import HandS.StrMore
import HandS.Style
import HandS.Flow
import HandS.Wide
import PyProof.ReprLen
import PySem.Challenge.RW_cutbehind_k01_integers_signs_texts_and_p
set_option Elab.async false
set_option linter.all false
set_option maxRecDepth 100000
set_option maxHeartbeats 4000000
/-! Gd: defs where no display is being shown (repr of lists and dicts), calls of them, the end of a law row. -/
namespace Gd
open PySem PySem.Spec PyProof.Rows L2

/-- a def's promise where the surroundings show nothing -/
structure FnG (P : Program) (w : World) (K : PySem.W.Frag) (mg : Str → Option Value) (base : Heap) (CX : CXT) (k : Nat) (f : Addr) (fd : FuncData) (ps : List Str) (sp : Sp) : Prop where
  len : ∀ vs H Q E, sp vs H Q E → vs.length = ps.length
  run : ∀ (A : Around) (outer : List Env) (s : Shared) (H : Hp) (args : Args) (us : List Value) (vs : List V) (Q : VK) (E : XK), Room k A → A.guards = some [] → Env0 P w K mg base A outer s H →
    BindsTo s fd args (ps.zip us) → Vals vs us → sp vs H Q E → codeAny (model P w) A (.call (.ref f) args) (CR CX outer P w H s Q E) s

section
variable {P : Program} {w : World} {K : PySem.W.Frag} {mg : Str → Option Value} {base : Heap} {CX : CXT} {k : Nat} {f : Addr} {fd : FuncData} {ps : List Str} {sp : Sp}
theorem FnG.of (F : FnOk P w K mg base CX k f fd ps sp) : FnG P w K mg base CX k f fd ps sp :=
  ⟨F.len, fun A outer s H args us vs Q E hr _ => F.run A outer s H args us vs Q E hr⟩
theorem FnG.up {j : Nat} (F : FnG P w K mg base CX j f fd ps sp) (h : j ≤ k) : FnG P w K mg base CX k f fd ps sp :=
  ⟨F.len, fun A outer s H args us vs Q E hr => F.run A outer s H args us vs Q E (hr.mono h)⟩
theorem FnG.imp {sp' : Sp} (F : FnG P w K mg base CX k f fd ps sp) (h : ∀ vs H Q E, sp' vs H Q E → sp vs H Q E) : FnG P w K mg base CX k f fd ps sp' :=
  ⟨fun vs H Q E q => F.len vs H Q E (h _ _ _ _ q), fun A outer s H args us vs Q E hr hg he hb hv hs => F.run A outer s H args us vs Q E hr hg he hb hv (h _ _ _ _ hs)⟩

/-- a def's promise from its body -/
theorem fn_ofG {name qual : Str} {params : Arguments} {body : List Stmt} {scope : Scope} {kV doc pm cdv ct oc : Value} {an od : Option Addr} {osl : Array (Option Value)} {N : List Str}
    (lk : K.lookup f = some ⟨oc, od, .func (PySem.W.fnOf name qual params body scope .none kV doc pm an cdv ct), osl⟩) (hcd : PySem.W.codeIn K cdv qual = true) (S : FnScope N ps scope)
    (len : ∀ vs H Q E, sp vs H Q E → vs.length = ps.length)
    (hbody : ∀ (A : Around) (outer : List Env) (s : Shared) (H : Hp) (vs : List V) (Q : VK) (E : XK), Room k (A.deeper (envOfC qual scope s.heap.objs.size f cdv)) → A.guards = some [] → sp vs H Q E →
      ∃ t, PSs (cxOf CX P w K mg base N qual scope f cdv A outer s H E) body t ∧ t { nx := fun _ H' => Q .non H', rt := Q } (start N vs) H) :
    FnG P w K mg base CX (k + 1) f (PySem.W.fnOf name qual params body scope .none kV doc pm an cdv ct) ps sp := by
  refine ⟨len, fun A outer s H args us vs Q E room quiet env bnd vals want => ?_⟩
  have same_len := len _ _ _ _ want
  have inK : K.In s.heap := env.mod.kin.keeps fun b o e => (env.bs b o e).1
  have noLim : s.heap.NoLimit := env.mod.nolimit.keeps fun b o e => (env.bs b o e).1
  have kinds : ∀ z ∈ ps.zip us, scope.names.lookup z.1 = some .local ∨ (scope.names.lookup z.1 = some .cell ∧ ((cellsFrom (s.heap.objs.size + 1) scope.names []).lookup z.1).isSome = true) := by
    rintro ⟨n, v⟩ hz
    rcases S.par n (List.of_mem_zip hz).1 with q | q
    · exact .inl q
    · exact .inr ⟨q, PySem.W.cellsFrom_some _ _ _ (.inl q)⟩
  refine codeAny_call_function room.depth (inK _ _ lk) rfl S.co S.gen rfl (PySem.W.codeRec_of inK hcd) (bnd _ _ _ _ ?_)
  refine wpAny_newFunctionEnv_cells S.kind kinds fun env' same s1 x => ?_
  subst same
  refine ⟨noLim.keeps x.toInCall.keep, codeAny_func ?_⟩
  obtain ⟨t, run, holds⟩ := hbody A outer s H vs Q E (room.deeper _) quiet want
  have I0 : Inv (cxOf CX P w K mg base N qual scope f cdv A outer s H E) [] (start N vs) H s1 := inv_start S room.hd env same_len vals x
  refine wpAny_mono (run.run [] s1 (start N vs) H _ I0 holds) (fun fl s2 hs => ?_) fun e s2 hs => hs
  cases fl with
  | ret u => exact hs.elim fun v h => h.elim fun _ h => h.elim fun H2 h => ⟨v, H2, h.1.os, h.1.bare, h.1.base, h.1.hok, h.2.1, h.2.2⟩
  | next => exact hs.elim fun _ h => h.elim fun H2 h => ⟨V.non, H2, h.1.os, h.1.bare, h.1.base, h.1.hok, rfl, h.2⟩
  | brk => exact hs.elim fun _ h => h.elim fun _ h => h.2.elim
  | cont => exact hs.elim fun _ h => h.elim fun _ h => h.2.elim
end

section
variable {P : Program} {w : World} {K : PySem.W.Frag} {mg : Str → Option Value} {base : Heap}
/-- the rule for a def of the text that lets no exception out -/
theorem okG {x qual : Str} {st : Stmt} {f : Addr} {fd : FuncData} {N ps : List Str} {k : Nat} {sp : Sp} (F : Fun K x qual st f fd) (S : FnScope N ps (defScope st)) (len : ∀ vs H Q E, sp vs H Q E → vs.length = ps.length)
    (hbody : ∀ (cdv : Value) (A : Around) (outer : List Env) (s : Shared) (H : Hp) (vs : List V) (Q : VK) (E : XK), Room k (A.deeper (envOfC qual (defScope st) s.heap.objs.size f cdv)) → (A.deeper (envOfC qual (defScope st) s.heap.objs.size f cdv)).guards = some [] → sp vs H Q E →
      ∃ t, PSs (cxOf CX0 P w K mg base N qual (defScope st) f cdv A outer s H E).nox (defBody st) t ∧ t { nx := fun _ H' => Q .non H', rt := Q } (start N vs) H) : FnG P w K mg base CX0 (k + 1) f fd ps sp := by
  obtain ⟨oc, od, kV, doc, pm, an, cdv, ct, osl, rfl, lk, hcd⟩ := F.ex
  refine fn_ofG lk hcd S len fun A outer s H vs Q E room quiet want => ?_
  obtain ⟨t, h, q⟩ := hbody cdv A outer s H vs Q E room quiet want
  exact ⟨t, h.nox, q⟩

/-- a def of the text that may be called by its name -/
structure Df (P : Program) (w : World) (K : PySem.W.Frag) (mg : Str → Option Value) (base : Heap) (k : Nat) (x : Str) (ps : List Str) (sp : Sp) : Prop where
  ex : ∃ (f : Addr) (fd : FuncData), FnG P w K mg base CX0 k f fd ps sp ∧ mg x = some (.ref f) ∧ PySem.W.keepIn K (.ref f) = true ∧ Binds K fd ps []
theorem Df.up {j k : Nat} {x : Str} {ps : List Str} {sp : Sp} (D : Df P w K mg base j x ps sp) (h : j ≤ k) : Df P w K mg base k x ps sp := by
  obtain ⟨f, fd, F, r⟩ := D.ex
  exact ⟨f, fd, F.up h, r⟩
theorem Df.imp {k : Nat} {x : Str} {ps : List Str} {sp sp' : Sp} (D : Df P w K mg base k x ps sp) (h : ∀ vs H Q E, sp' vs H Q E → sp vs H Q E) : Df P w K mg base k x ps sp' := by
  obtain ⟨f, fd, F, r⟩ := D.ex
  exact ⟨f, fd, F.imp h, r⟩
end

/-- room for calls where nothing is being shown -/
structure Rm (k : Nat) (A : Around) : Prop where
  room : Room k A
  still : A.guards = some []
theorem Rm.mono {j k : Nat} {A : Around} (r : Rm k A) (h : j ≤ k) : Rm j A := ⟨r.room.mono h, r.still⟩

section
variable {X : Cx} {CX : CXT} {k : Nat} {x : Str} {f : Addr} {fd : FuncData} {ps : List Str} {sp : Sp} {E : XK} {p pos : Pos} {e : Expr} {es : List Expr} {t : TA}
theorem run_fnG {pins : List (Addr × Obj)} {σ : L2.St} {H : Hp} {s : Shared} {Q : VK} {us ds : List Value} {vs dvs : List V} (F : FnG X.prog X.w X.K X.mg X.base CX k f fd ps sp) (hr : Rm k X.A) (hb : Binds X.K fd ps ds) (hd : Vals dvs ds) (hx : Passes CX X E)
    (I : Inv X pins σ H s) (r : Vals vs us) (h : sp (vs ++ dvs) H Q E) : wpAny (model X.prog X.w) X.A (call (.ref f) us) (EP X pins σ Q) X.xe s := by
  have both : Vals (vs ++ dvs) (us ++ ds) := r.append hd
  have many : (us ++ ds).length = ps.length := both.length ▸ F.len _ _ _ _ h
  refine wpAny_call (codeAny_mono (F.run X.A X.stack s H ⟨us, []⟩ (us ++ ds) (vs ++ dvs) Q E hr.room hr.still I.env0 (hb s us I.kIn many) both h) fun out s' got => ?_)
  match out, got with
  | .error e, got => exact hx pins σ H s e s' I got
  | .ok (.ret u), got => exact I.after got
  | .ok .next, got => exact got.elim
  | .ok .brk, got => exact got.elim
  | .ok .cont, got => exact got.elim
theorem pe_callD (D : Df X.prog X.w X.K X.mg X.base k x ps sp) (hr : Rm k X.A) (hg : Gl X x) (ha : PA X (e :: es) t) (hdb : (x == ("__debug__" : Str)) = false := by decide)
    (he : starEach (e :: es) X.env = (false, eval e X.env) :: starEach es X.env := by rfl) (hpl : (backTo pos (starEach es X.env)).any (·.1) = false := by rfl) : PE X (.Call (.Name x p) (e :: es) [] pos) (tCall sp [] E0 t) := by
  obtain ⟨f, fd, F, hm, hk, hb⟩ := D.ex
  refine ⟨fun pins s σ H Q I h => ?_⟩
  refine wpAny_Call_Name_kw (ld_glob I hg hm ?_ hdb)
  refine PySem.W.callWith_K (h₀ := X.base) I.ok.mod.kin hk (thn (ha.run pos pins s σ H _ I h) fun us s1 ⟨vs, H1, I1, r, q⟩ => ⟨I1.kIn, ?_⟩) he hpl
  exact run_fnG F hr hb .nil pass0 I1 r q
end
end Gd

namespace Gd
open PySem PySem.Spec PyProof.Rows L2
/-- a law's def called by its caller, from the heap behind the top: only the script may be tracked -/
theorem end_call {P : Program} {w : World} {K : PySem.W.Frag} {mg mb : Str → Option Value} {k : Nat} {fa a : Addr} {fd : FuncData} {x : Str} {sp : Sp} {s : Shared} {vs : List Value} {ns : List Int}
    (inK : K.In s.heap) (hns : s.heap.Ns mainGlobals mg) (hb : s.heap.Ns builtinsNs mb) (hbb : ∀ y : Str, y ≠ "__name__" → mb y = bootBuiltins y) (hlim : s.heap.NoLimit) (gens : s.gens = #[])
    (here : s.heap.get? a = some { cls := .type "list", data := .seq vs.toArray }) (ia : IntsAre vs ns) (many : ns.length ≤ sizeLine) (room : Room k callerA)
    (F : ∀ base : Heap, K.In base → base.Ns mainGlobals mg → FnG P w K mg base CX0 k fa fd [x] sp) (binds : ∀ (s : Shared) (u : Value), BindsTo s fd ⟨[u], []⟩ [(x, u)])
    (want : ∀ H : Hp, Only H → SqL K H a (ns.map V.int) → sp [.ref a] H (fun v _ => v = .bl true) E0) :
    codeAny (model P w) callerA (.call (.ref fa) ⟨[.ref a], []⟩) (fun r s' => r = .ok (.ret (.bool true)) ∧ OldK s.heap s'.heap ∧ s'.os = s.os ∧ AllBare s'.gens) s := by
  have vals : Vals (ns.map V.int) vs := vals_ints ia
  suffices go : ∀ H : Hp, Only H → SqL K H a (ns.map V.int) → HOk P w H s.heap → (∀ b u, H b = some u → b = a ∧ K.lookup a = none) →
      codeAny (model P w) callerA (.call (.ref fa) ⟨[.ref a], []⟩) (fun r s' => r = .ok (.ret (.bool true)) ∧ OldK s.heap s'.heap ∧ s'.os = s.os ∧ AllBare s'.gens) s by
    cases isK : K.lookup a with
    | some o =>
      have same := (inK a o isK).symm.trans here
      cases same
      refine go (fun _ => none) (fun _ => .inl rfl) (.inr ⟨_, vs.toArray, _, isK, rfl, rfl, rfl, ?_, ?_⟩) (fun b u z => ?_) (fun b u z => ?_)
      · rw [List.size_toArray, ia.length]
        exact many
      · exact vals
      · exact absurd z (by simp)
      · exact absurd z (by simp)
    | none =>
      let H : Hp := fun b => if b = a then some (.frz { cls := .type "list", data := .seq vs.toArray } (.lst (ns.map V.int))) else none
      have at_a : H a = some (.frz { cls := .type "list", data := .seq vs.toArray } (.lst (ns.map V.int))) := if_pos rfl
      have off_a : ∀ b, b ≠ a → H b = none := fun b z => if_neg z
      have isa : ∀ b u, H b = some u → b = a := fun b u z => Classical.byContradiction fun q => by
        rw [off_a b q] at z
        cases z
      refine go H (fun b => ?_) (.inl (.inr ⟨_, at_a⟩)) (fun b u z => ?_) (fun b u z => ⟨isa b u z, isK⟩)
      · by_cases q : b = a
        · exact .inr ⟨_, _, q ▸ at_a⟩
        · exact .inl (off_a b q)
      · obtain rfl := isa b u z
        have z' := at_a.symm.trans z
        cases z'
        refine ⟨here, ?_, vs, _, vals, here⟩
        rw [List.length_map]
        exact many
  intro H only seqs hok lone
  have plain : ∀ {b : Addr} {o : Obj}, s.heap.get? b = some o → H b = none → (hidT s.heap H).get? b = some o := fun q n => hidT_get q n
  have noDict : ∀ {b : Addr} {o : Obj} {es : Array DictEntry} {ep : Nat}, s.heap.get? b = some o → o.data = .dict es ep → H b = none := by
    intro b o es ep q d
    cases z : H b with
    | none => rfl
    | some u =>
      obtain rfl := (lone b u z).1
      have q' := here.symm.trans q
      cases q'
      cases d
  have keepNs : ∀ {b : Addr} {m : Str → Option Value}, s.heap.Ns b m → (hidT s.heap H).Ns b m := by
    rintro b m ⟨o, es, ep, q, d, r⟩
    exact ⟨o, es, ep, plain q (noDict q d), d, r⟩
  have inB : K.In (hidT s.heap H) := by
    intro b o q
    refine plain (inK b o q) ?_
    cases z : H b with
    | none => rfl
    | some u =>
      obtain ⟨rfl, n⟩ := lone b u z
      rw [n] at q
      cases q
  have md : Mod K mg (hidT s.heap H) := ⟨inB, keepNs hns, ⟨mb, keepNs hb, hbb⟩, hlim.elim fun mc h => ⟨mc, keepNs h.1, h.2⟩⟩
  have env : Env0 P w K mg (hidT s.heap H) callerA [] s H :=
    ⟨rfl, md, fun b o q => of_hidT q, Nat.le_of_eq (hidT_size _ _), trivial, fun b z => (nomatch z), hok, .of_eq gens⟩
  have ran := (F _ inB (keepNs hns)).run callerA [] s H ⟨[.ref a], []⟩ [.ref a] [.ref a] _ _ room rfl env (binds s (.ref a)) (.cons rfl .nil) (want H only seqs)
  refine codeAny_mono ran fun out s' got => ?_
  match out, got with
  | .error e, got => exact got.elim
  | .ok .next, got => exact got.elim
  | .ok .brk, got => exact got.elim
  | .ok .cont, got => exact got.elim
  | .ok (.ret u), got =>
    obtain ⟨v, H', os, bare, un, hok', r, q⟩ := got
    obtain rfl : v = .bl true := q
    obtain rfl : u = Value.bool true := r
    refine ⟨rfl, OldK.of_keep fun b o q => ?_, os, bare⟩
    rcases only b with z | ⟨ob, xs, z⟩
    · exact un.keep b o q z (fun n => (nomatch n)) (fun n => (nomatch n))
    · have old := (hok b _ z).1
      have new := (hok' b _ (un.frzs b ob _ z)).1
      have same := q.symm.trans old
      cases same
      exact new
/-- the goal that the head leaves -/
theorem end_walk {l : PySem.W.OpenLaw} {n k : Nat} {q : Program} {loose : List Str} {XP : (Str → Option Value) → Heap → Prop} {YP : World → Heap → Prop} {d : DefRec} {K : Params → PySem.W.Frag} {sp : PySem.W.Frag → Sp} {x : Str}
    (hn : l.most = some n) (hn2 : n ≤ sizeLine) (hdf : d.params.defaults = []) (hr : Room k callerA) (hY : ∀ (w : World) (h : Heap), YP w h → (K w.params).In h)
    (F : ∀ (w : World) (mg : Str → Option Value) (fa : Addr) (h : Heap), (K w.params).In h → h.Ns mainGlobals mg → mg d.name = some (.ref fa) →
      ∃ fd : FuncData, (∀ (s : Shared) (u : Value), BindsTo s fd ⟨[u], []⟩ [(x, u)]) ∧ ∀ base : Heap, (K w.params).In base → base.Ns mainGlobals mg → FnG l.prog w (K w.params) mg base CX0 k fa fd [x] (sp (K w.params)))
    (want : ∀ (K : PySem.W.Frag) (H : Hp) (a : Addr) (ns : List Int), ns.length ≤ n → SqL K H a (ns.map V.int) → sp K [.ref a] H (fun v _ => v = .bl true) E0) :
    PySem.W.WalkO q loose XP YP l.row.toRowW d [] (fun f vs => PySem.call f vs) := by
  refine Att.attach_call hn hdf fun w s₀ s₁ mg mb fa o pm cd doc a vs ns G Y ho hd hcd hmg hobj hints hlen gens => ?_
  have inK := hY w _ Y
  obtain ⟨fd, hb, hF⟩ := F w mg fa _ inK G.T.g hmg
  exact end_call inK G.T.g G.T.b G.T.builtins G.T.nolimit gens hobj hints (Nat.le_trans hlen hn2) hr hF hb fun H _ hS => want _ H a ns hlen hS
end Gd

namespace Gd
open PySem PySem.Spec PyProof.Rows L2

/-! ### operators that the layer lacks -/
section
variable {X : Cx}
theorem op_powW : OpR X (binaryOp .Pow) (rI (fun i j => 0 ≤ j ∧ (Builtin.Int.intBits i : Int) * j ≤ 2 ^ 27) fun i j => .int (i ^ j.toNat)) := by
  intro pins s σ H x y v u Q I rx ry h
  obtain ⟨i, j, rfl, rfl, ⟨h1, h2⟩, q⟩ := h
  obtain ⟨t, rfl⟩ := rx
  obtain ⟨t', rfl⟩ := ry
  exact pow_int h1 h2 ⟨.int _, H, I.tok _, ⟨_, rfl⟩, q⟩
theorem op_mulS : OpR X (binaryOp .Mult) (fun x y H Q => ∃ a n, x = .str a ∧ y = .int n ∧ MulOk a n ∧ Q (.str (Txt.mul a n)) H) := by
  intro pins s σ H x y v u Q I rx ry h
  obtain ⟨a, n, rfl, rfl, ok, q⟩ := h
  obtain ⟨t, rfl⟩ := rx
  obtain ⟨t', rfl⟩ := ry
  exact SB.mul ok fun t' k => ⟨.str _, H, I.tok k, ⟨t', rfl⟩, q⟩
end

/-! ### repr of data (no dicts) -/
/-- data that repr can show: numbers written out, signs that exist, of some size -/
structure Sh (d : PyData) : Prop where
  short : d.leavesShort 600 = true
  can : d.showable = true
  plain : d.hasDict = false
  few : d.weight ≤ 20000
  low : d.depth ≤ 60
theorem Sh.len {d : PyData} (h : Sh d) : d.shown.length ≤ sizeLine := by
  have h1 := PyData.shown_le 600 (by decide) d h.short
  have h2 := h.few
  have h3 : sizeLine = 16777216 := by decide
  omega
section
variable {X : Cx} {k : Nat}
theorem call_repr (hr : Rm k X.A) : CallR X (.builtin "repr") (fun xs H Q => ∃ x d, xs = [x] ∧ Dp X.K H x d ∧ Sh d ∧ Q (.str d.shown) H) := by
  intro pins s σ H xs us Q I r h
  obtain ⟨x, d, rfl, hd, sh, q⟩ := h
  obtain ⟨u, rfl, rx⟩ := vals1 r
  have un := hr.room.units
  have le := sh.len
  cases hd with
  | non =>
    cases rx
    exact PySem.P.repr_of_none ⟨.str _, H, I.tok _, ⟨_, rfl⟩, q⟩
  | bl b =>
    cases rx
    exact PySem.P.repr_of_bool ⟨.str _, H, I.tok _, ⟨_, rfl⟩, by cases b <;> exact q⟩
  | int i =>
    obtain ⟨t, rfl⟩ := rx
    have hc := sh.can
    simp only [PyData.showable] at hc
    exact PySem.P.repr_of_int (of_decide_eq_true hc) ⟨.str _, H, I.tok _, ⟨_, rfl⟩, q⟩
  | str z =>
    obtain ⟨t, rfl⟩ := rx
    exact PySem.P.repr_of_str ⟨.str _, H, I.tok _, ⟨_, rfl⟩, q⟩ le
  | lst hs ha =>
    cases rx
    obtain ⟨as, rd⟩ := Dp.reads I _ _ _ (Dp.lst hs ha) rfl
    refine PySem.repr_of_reads' rd sh.can (fun z => absurd z (by rw [sh.plain]; decide)) hr.still (by have := sh.low; omega) (fun b o e => e) (fun h' u tk keep => ?_) le
    exact ⟨.str _, H, I.kept keep, ⟨u, rfl⟩, q⟩
  | tup hs ha =>
    cases rx
    obtain ⟨as, rd⟩ := Dp.reads I _ _ _ (Dp.tup hs ha) rfl
    refine PySem.repr_of_reads' rd sh.can (fun z => absurd z (by rw [sh.plain]; decide)) hr.still (by have := sh.low; omega) (fun b o e => e) (fun h' u tk keep => ?_) le
    exact ⟨.str _, H, I.kept keep, ⟨u, rfl⟩, q⟩
end
end Gd

/-! Gd4: the dice (a list of three numbers that the rolls change) as a thing of which only this much is known. -/
namespace Gd
open PySem PySem.Spec PyProof.Rows L2
abbrev three (x y z : Int) : HO := .lst [.int x, .int y, .int z]
/-- a list of three numbers, the first one not negative -/
def Dice (a : Addr) : HO := .ext fun h => ∃ (x y z : Int) (its : List Value) (n : Nat), 0 ≤ x ∧ Vals [.int x, .int y, .int z] its ∧ h.get? a = some { cls := .type "list", data := .seq its.toArray n }
section
variable {P : Program} {w : World} {H H' : Hp} {h h' : Heap} {a : Addr} {x y z : Int} {fs ex : List Addr}
theorem dice_show (ok : HOk P w H h) (e : H a = some (Dice a)) : ∃ x y z : Int, 0 ≤ x ∧ HOk P w (upd H a (three x y z)) h := by
  obtain ⟨⟨x, y, z, its, n, h0, vals, at_a⟩, _, _⟩ := (show ObjOk P w H h a (Dice a) from ok a _ e)
  refine ⟨x, y, z, h0, fun b u q => ?_⟩
  by_cases same : b = a
  · subst same
    rw [upd_same] at q
    cases q
    exact ⟨by show 3 ≤ sizeLine; decide, its, n, vals, at_a⟩
  · rw [upd_ne same] at q
    refine (ok b u q).stay (fun c v _ r => r) (fun c r => ?_) (fun c xs r => ?_)
    · rw [upd_ne (ne_of r e (by intro n; cases n))]
      exact r
    · rw [upd_ne (ne_of r e (by intro n; cases n))]
      exact r
theorem dice_hide (ok : HOk P w H h) (e : H a = some (three x y z)) (h0 : 0 ≤ x) : HOk P w (upd H a (Dice a)) h := by
  obtain ⟨_, its, n, vals, at_a⟩ := (show ObjOk P w H h a (three x y z) from ok a _ e)
  intro b u q
  by_cases same : b = a
  · subst same
    rw [upd_same] at q
    cases q
    exact ⟨⟨x, y, z, its, n, h0, vals, at_a⟩, ⟨_, at_a⟩, fun h1 h2 ⟨x, y, z, its, n, g0, g1, g2⟩ keep => ⟨x, y, z, its, n, g0, g1, keep _ g2⟩⟩
  · rw [upd_ne same] at q
    refine (ok b u q).stay (fun c v _ r => r) (fun c r => ?_) (fun c xs r => ?_)
    · rw [upd_ne (ne_of r e (by intro n; cases n))]
      exact r
    · rw [upd_ne (ne_of r e (by intro n; cases n))]
      exact r
theorem un_show (e : H a = some (Dice a)) (un : Un fs ex (upd H a (three x y z)) H' h h') : Un fs ex H H' h h' := by
  have off : ∀ b, H b = none → (upd H a (three x y z)) b = none := fun b n => by
    rw [upd_ne (fun q => by rw [q, e] at n; cases n)]
    exact n
  have off' : ∀ b u, H b = some u → u ≠ Dice a → (upd H a (three x y z)) b = some u := fun b u q d => by
    rw [upd_ne (ne_of q e d)]
    exact q
  exact ⟨fun b o q n => un.keep b o q (off b n), fun b o q n => un.slot b o q (off b n), fun b o q n => un.free b o q (off b n), un.there,
    fun b xs q => un.tups b xs (off' b _ q (by intro n; cases n)), fun b o u q => un.frzs b o u (off' b _ q (by intro n; cases n)), fun b ps q => un.tbls b ps (off' b _ q (by intro n; cases n))⟩
theorem un_hide (e : H' a = some (three x y z)) (un : Un fs ex H H' h h') : Un fs ex H (upd H' a (Dice a)) h h' := by
  have on : ∀ b u, H' b = some u → u ≠ three x y z → (upd H' a (Dice a)) b = some u := fun b u q d => by
    rw [upd_ne (ne_of q e d)]
    exact q
  refine ⟨un.keep, un.slot, fun b o q n hx => ?_, un.there, fun b xs q => on b _ (un.tups b xs q) (by intro n; cases n), fun b o u q => on b _ (un.frzs b o u q) (by intro n; cases n), fun b ps q => ?_⟩
  · have r := un.free b o q n hx
    rw [upd_ne (fun s => by rw [s, e] at r; cases r)]
    exact r
  · obtain ⟨more, r⟩ := un.tbls b ps q
    exact ⟨more, on b _ r (by intro n; cases n)⟩
theorem upd_back (e : H a = some (Dice a)) : upd (upd H a (three x y z)) a (Dice a) = H := by
  funext b
  by_cases same : b = a
  · subst same
    rw [upd_same, e]
  · rw [upd_ne same, upd_ne same]
theorem Env0.dice {K : PySem.W.Frag} {mg : Str → Option Value} {base : Heap} {A : Around} {outer : List Env} {s : Shared} (e : H a = some (Dice a)) (env : Env0 P w K mg base A outer s H) (ok : HOk P w (upd H a (three x y z)) s.heap) : Env0 P w K mg base A outer s (upd H a (three x y z)) := by
  have off : ∀ b, H b = none → (upd H a (three x y z)) b = none := fun b n => by
    rw [upd_ne (fun q => by rw [q, e] at n; cases n)]
    exact n
  exact ⟨env.frames, env.mod, fun b o q => ⟨(env.bs b o q).1, off b (env.bs b o q).2⟩, env.bsz, env.funs, fun b z => off b (env.frf b z), ok, env.bare⟩
end

section
variable {P : Program} {w : World} {K : PySem.W.Frag} {mg : Str → Option Value} {base : Heap} {k : Nat} {f : Addr} {fd : FuncData} {ps : List Str}
/-- a roll, told by the list -/
def spRoll0 : Sp := fun vs H Q _ => ∃ (a : Addr) (n x y z : Int), vs = [.ref a, .int n] ∧ (0 < n ∧ n < 1073741824) ∧ 0 ≤ x ∧ H a = some (three x y z) ∧ ∀ r x' y' z', 0 ≤ r → r < n → 0 ≤ x' → Q (.int r) (upd H a (three x' y' z'))
/-- a roll: some number below the bound -/
def spRoll : Sp := fun vs H Q _ => ∃ (a : Addr) (n : Int), vs = [.ref a, .int n] ∧ (0 < n ∧ n < 1073741824) ∧ H a = some (Dice a) ∧ ∀ r, 0 ≤ r → r < n → Q (.int r) H
theorem roll_hidden (F : FnG P w K mg base CX0 k f fd ps spRoll0) (len : ps.length = 2) : FnG P w K mg base CX0 k f fd ps spRoll := by
  refine ⟨fun vs H Q E h => ?_, fun A outer s H args us vs Q E room quiet env bnd vals want => ?_⟩
  · obtain ⟨a, n, rfl, _⟩ := h
    exact len.symm
  · obtain ⟨a, n, rfl, hn, e, q⟩ := want
    obtain ⟨x, y, z, h0, ok⟩ := dice_show env.hok e
    refine codeAny_mono (F.run A outer s (upd H a (three x y z)) args us _ (fun v H' => ∃ r x' y' z', v = .int r ∧ 0 ≤ r ∧ r < n ∧ 0 ≤ x' ∧ H' = upd H a (three x' y' z')) E room quiet (Env0.dice e env ok) bnd vals
      ⟨a, n, x, y, z, rfl, hn, h0, upd_same, fun r x' y' z' r0 r1 p0 => ⟨r, x', y', z', rfl, r0, r1, p0, upd_upd⟩⟩) fun out s' got => ?_
    match out, got with
    | .error e, got => exact got.elim
    | .ok .next, got => exact got.elim
    | .ok .brk, got => exact got.elim
    | .ok .cont, got => exact got.elim
    | .ok (.ret u), got =>
      obtain ⟨v, H', os, bare, un, ok', rv, r, x', y', z', rfl, r0, r1, p0, rfl⟩ := got
      have un' := un_hide upd_same (un_show e un)
      have hk := dice_hide ok' upd_same p0
      rw [upd_back e] at un' hk
      exact ⟨.int r, H, os, bare, un', hk, rv, q r r0 r1⟩
/-- new dice, told by the list -/
def spDice0 (K : PySem.W.Frag) : Sp := fun vs H Q _ => ∃ (a : Addr) (ns : List Int) (i : Int), vs = [.ref a, .int i] ∧ (0 ≤ i ∧ i < 63) ∧ SqL K H a (ns.map V.int) ∧ ns.length ≤ 63 ∧ ∀ p x y z, H p = none → 0 ≤ x → Q (.ref p) (upd H p (three x y z))
/-- new dice -/
def spDice (K : PySem.W.Frag) : Sp := fun vs H Q _ => ∃ (a : Addr) (ns : List Int) (i : Int), vs = [.ref a, .int i] ∧ (0 ≤ i ∧ i < 63) ∧ SqL K H a (ns.map V.int) ∧ ns.length ≤ 63 ∧ ∀ p, H p = none → Q (.ref p) (upd H p (Dice p))
theorem dice_hidden (F : FnG P w K mg base CX0 k f fd ps (spDice0 K)) (len : ps.length = 2) : FnG P w K mg base CX0 k f fd ps (spDice K) := by
  refine ⟨fun vs H Q E h => ?_, fun A outer s H args us vs Q E room quiet env bnd vals want => ?_⟩
  · obtain ⟨a, ns, i, rfl, _⟩ := h
    exact len.symm
  · obtain ⟨a, ns, i, rfl, hi, hS, many, q⟩ := want
    refine codeAny_mono (F.run A outer s H args us _ (fun v H' => ∃ p x y z, v = .ref p ∧ H p = none ∧ 0 ≤ x ∧ H' = upd H p (three x y z)) E room quiet env bnd vals
      ⟨a, ns, i, rfl, hi, hS, many, fun p x y z hp p0 => ⟨p, x, y, z, rfl, hp, p0, rfl⟩⟩) fun out s' got => ?_
    match out, got with
    | .error e, got => exact got.elim
    | .ok .next, got => exact got.elim
    | .ok .brk, got => exact got.elim
    | .ok .cont, got => exact got.elim
    | .ok (.ret u), got =>
      obtain ⟨v, H', os, bare, un, ok', rv, p, x', y', z', rfl, hp, p0, rfl⟩ := got
      have un' := un_hide upd_same un
      have hk := dice_hide ok' upd_same p0
      rw [upd_upd] at un' hk
      exact ⟨.ref p, _, os, bare, un', hk, rv, q p hp⟩
end
end Gd

/-! Gd5: readings made plain; kinds of values -/
namespace Gd
open PySem PySem.Spec PyProof.Rows L2
theorem seq_cut {t u : TS} {D : Ends} {σ : L2.St} {H : Hp} (h : ∀ k, k = u D → t { D with nx := k } σ H) : tSeq t u D σ H := h _ rfl
section
variable {CX : CXT} {P : Program} {w : World} {K : PySem.W.Frag} {mg : Str → Option Value} {base : Heap} {N : List Str} {q : Str} {sc : Scope} {f : Addr} {cd : Value} {A : Around} {o : List Env} {s : Shared} {H : Hp} {E : XK}
theorem cx_K : (cxOf CX P w K mg base N q sc f cd A o s H E).K = K := rfl
theorem cx_Kn : (cxOf CX P w K mg base N q sc f cd A o s H E).nox.K = K := rfl
end
/-- the kinds of values that the laws pass -/
inductive Kd (H : Hp) : V → String → Prop
  | non : Kd H .non "NoneType"
  | bl (b : Bool) : Kd H (.bl b) "bool"
  | int (i : Int) : Kd H (.int i) "int"
  | str {x : Str} (h : x.length ≤ sizeLine) : Kd H (.str x) "str"
  | lst {a : Addr} {xs : List V} : H a = some (.lst xs) → Kd H (.ref a) "list"
  | tup {a : Addr} {xs : List V} : H a = some (.tup xs) → Kd H (.ref a) "tuple"
  | dic {a : Addr} {kvs : List (Key × V)} : H a = some (.dK kvs) → Kd H (.ref a) "dict"
theorem Kd.ty {K : PySem.W.Frag} {H : Hp} {v : V} {T : String} (h : Kd H v T) : TyX K H v (.type T) := by
  cases h with
  | non => exact .base .non
  | bl b => exact .base (.bl b)
  | int i => exact .base (.int i)
  | @str x _ => exact .base (.str x)
  | lst h => exact .base (.lst h)
  | tup h => exact .base (.tup h)
  | dic h => exact .base (.dK h)
theorem isi_of {K : PySem.W.Frag} {H : Hp} {v : V} {T T' : String} {b : Bool} {Q : VK} (h : Kd H v T) (e : kitB T T' = some b) (q : Q (.bl b) H) : rIsi K [v, .ty T'] H Q :=
  ⟨v, .ty T', .type T, .type T', b, rfl, .ty T', h.ty, kit_ty e, q⟩
theorem len_str {K : PySem.W.Frag} {H : Hp} {x : Str} {n : Nat} : LenV K (.str x) H n ↔ x.length ≤ sizeLine ∧ n = x.length := Iff.rfl
theorem tyV_str {K : PySem.W.Frag} {H : Hp} {T : String} {x : Str} : tyV K T (.str x) H ↔ T = "str" := Iff.rfl
section
variable {X : Cx}
theorem call_intI : CallR X (.type "int") (fun xs H Q => ∃ i, xs = [.int i] ∧ Q (.int i) H) := fun pins s σ H xs us Q I r h => call_int1 pins s σ H xs us Q I r (.inl h)
theorem call_intB : CallR X (.type "int") (fun xs H Q => ∃ k, xs = [.bl k] ∧ Q (.int (if k then 1 else 0)) H) := fun pins s σ H xs us Q I r h => call_int1 pins s σ H xs us Q I r (.inr h)
end
theorem sq_lst {K : PySem.W.Frag} {H : Hp} {a : Addr} {xs : List V} (h : H a = some (.lst xs)) : SqL K H a xs := .inl (.inl h)
theorem sq_tup {K : PySem.W.Frag} {H : Hp} {a : Addr} {xs : List V} (h : H a = some (.tup xs)) : SqT K H a xs := .inl (.inl h)
end Gd

namespace Gd
open PySem PySem.Spec PyProof.Rows L2
/-- a small letter -/
def low (c : Nat) : Bool := decide (97 ≤ c ∧ c ≤ 122)
theorem low_alpha : ∀ c : Fin 128, Unicode.isAlpha c.val = (low c.val || decide (65 ≤ c.val ∧ c.val ≤ 90)) := by decide +kernel
theorem low_lower : ∀ c : Fin 128, Unicode.isLower c.val = low c.val := by decide +kernel
theorem low_upper : ∀ c : Fin 128, (Unicode.isUpper c.val || Unicode.isTitle c.val) = decide (65 ≤ c.val ∧ c.val ≤ 90) := by decide +kernel
/-- a letter's text of at most 8000 signs -/
def isText : V → Bool
  | .str x => decide (x.length ≤ 8000) && x.cps.toList.all low
  | _ => false
theorem isText_str (x : Str) : isText (.str x) = (decide (x.length ≤ 8000) && x.cps.toList.all low) := rfl
theorem list_low : ∀ l : List Nat, l ≠ [] → (l.all (fun c => decide (c < 128)) && (l.all Unicode.isAlpha && (l.any Unicode.isLower && !l.any fun c => Unicode.isUpper c || Unicode.isTitle c))) = l.all low := by
  intro l ne
  rw [Bool.eq_iff_iff]
  simp only [Bool.and_eq_true, List.all_eq_true, List.any_eq_true, Bool.not_eq_true', decide_eq_true_eq, List.any_eq_false]
  constructor
  · rintro ⟨h1, h2, _, h4⟩ c hc
    have a := low_alpha ⟨c, h1 c hc⟩
    have u := low_upper ⟨c, h1 c hc⟩
    have h4' := h4 c hc
    rw [h2 c hc] at a
    simp only at a u
    rw [u] at h4'
    cases l1 : low c with
    | true => rfl
    | false =>
      rw [l1] at a
      simp only [Bool.false_or] at a
      exact absurd a.symm h4'
  · intro h
    have lt : ∀ c ∈ l, c < 128 := fun c hc => by
      have := h c hc
      unfold low at this
      have := of_decide_eq_true this
      omega
    refine ⟨lt, fun c hc => ?_, ?_, fun c hc => ?_⟩
    · have a := low_alpha ⟨c, lt c hc⟩
      simp only at a
      rw [a, h c hc]
      rfl
    · obtain ⟨c, r, rfl⟩ := List.exists_cons_of_ne_nil ne
      have m : c ∈ c :: r := List.mem_cons_self
      have a := low_lower ⟨c, lt c m⟩
      simp only at a
      exact ⟨c, m, by rw [a]; exact h c m⟩
    · have u := low_upper ⟨c, lt c hc⟩
      simp only at u
      rw [u]
      have := h c hc
      unfold low at this
      have := of_decide_eq_true this
      intro z
      have := of_decide_eq_true z
      omega
theorem text_low {x : Str} (ne : x.cps.toList ≠ []) : (Txt.isascii x && (Txt.isalpha x && Txt.islower x)) = x.cps.toList.all low := by
  rw [← list_low _ ne]
  have pos : decide (x.length > 0) = true := by
    refine decide_eq_true ?_
    have : x.cps.toList.length = x.length := by simp [Str.length]
    cases e : x.cps.toList with
    | nil => exact absurd e ne
    | cons c r =>
      rw [e] at this
      simp only [List.length_cons] at this
      omega
  unfold Txt.isascii Txt.isalpha Txt.islower
  rw [pos]
  simp only [← Array.all_toList, ← Array.any_toList, Bool.true_and]
end Gd
namespace Gd
open PySem PySem.Spec PyProof.Rows L2
/-- the signs of a join without a separator -/
theorem join0 : ∀ ys : List Str, (Txt.join (Str.ofString "") ys).cps.toList = (ys.map fun y => y.cps.toList).flatten := by
  intro ys
  rw [show Txt.join (Str.ofString "") ys = Str.join (Str.ofString "") ys from PySem.StrLaws.glued_eq_join _ _]
  induction ys with
  | nil => rfl
  | cons x r ih =>
    cases r with
    | nil => simp [Str.join]
    | cons y r =>
      rw [show Str.join (Str.ofString "") (x :: y :: r) = x ++ Str.ofString "" ++ Str.join (Str.ofString "") (y :: r) from rfl]
      rw [show (x ++ Str.ofString "" ++ Str.join (Str.ofString "") (y :: r)).cps.toList = x.cps.toList ++ (Str.ofString "").cps.toList ++ (Str.join (Str.ofString "") (y :: r)).cps.toList by simp [Str.cps_append]]
      rw [ih, show (Str.ofString "").cps.toList = [] from rfl, List.append_nil]
      rfl
theorem str_len (x : Str) : x.cps.toList.length = x.length := by simp [Str.length]
abbrev sg (c : Nat) : Str := ⟨#[c]⟩
theorem signs_join (cs : List Nat) : (Txt.join (Str.ofString "") (cs.map sg)).cps.toList = cs := by
  rw [join0, List.map_map]
  induction cs with
  | nil => rfl
  | cons c r ih =>
    rw [List.map_cons, List.flatten_cons, ih]
    rfl
theorem signs_sum : ∀ l : List Nat, ((l.map sg).map fun y : Str => y.length).sum = l.length := by
  intro l
  induction l with
  | nil => rfl
  | cons c r ih =>
    rw [List.map_cons, List.map_cons, List.sum_cons, ih, List.length_cons, Nat.add_comm]
    rfl
/-- values that are signs -/
theorem signs_of {P : Nat → Prop} : ∀ {ys : List V}, (∀ (i : Nat) (y : V), ys[i]? = some y → ∃ c, y = .str (sg c) ∧ P c) → ∃ cs : List Nat, ys = (cs.map sg).map V.str ∧ ∀ c ∈ cs, P c
  | [], _ => ⟨[], rfl, fun _ h => nomatch h⟩
  | y :: r, h => by
    obtain ⟨c, rfl, hc⟩ := h 0 y rfl
    obtain ⟨cs, rfl, h2⟩ := signs_of (ys := r) fun i z e => h (i + 1) z e
    refine ⟨c :: cs, rfl, fun d hd => ?_⟩
    rcases List.mem_cons.mp hd with rfl | hd
    · exact hc
    · exact h2 d hd
/-- an integer of at most sixty digits -/
def isInteger : V → Bool
  | .int i => decide (i.natAbs < 10 ^ 60)
  | _ => false
def isSign : V → Bool
  | .str x => isText (.str x) && decide (x.length = 1)
  | _ => false
def isPiece : V → Bool
  | .str x => isText (.str x) && decide (1 ≤ x.length ∧ x.length ≤ 5)
  | _ => false
/-- a def that tells a truth of a value -/
def spKind (g : V → Bool) : Sp := fun vs H Q _ => ∃ v T, vs = [v] ∧ Kd H v T ∧ Q (.bl (g v)) H
end Gd

/-! Gd6: comprehensions whose elements only add to the heap -/
namespace Gd
open PySem PySem.Spec PyProof.Rows L2
theorem same_new {H : Hp} {p : Addr} {o : HO} (h : H p = none) : Same H (upd H p o) := fun b u e => by
  rw [upd_ne (ne_of_none e h)]
  exact e
/-- a thing that the older heap does not know may be anything -/
theorem same_over {H H' : Hp} {p : Addr} {o : HO} (e : Same H H') (h : H p = none) : Same H (upd H' p o) := fun b u q => by
  rw [upd_ne (ne_of_none q h)]
  exact e b u q
theorem Same.sqt {K : PySem.W.Frag} {H H' : Hp} {a : Addr} {xs : List V} (e : Same H H') (h : SqT K H a xs) : SqT K H' a xs := by
  rcases h with (h | ⟨o, h⟩) | h
  · exact .inl (.inl (e a _ h))
  · exact .inl (.inr ⟨o, e a _ h⟩)
  · exact .inr h
/-- [.. for x in range(..)] -/
theorem lc_rangeG {lo : Int} {n slot : Nat} {te : TE} {vs : List Nat} {σ : L2.St} {H1 : Hp} {D : Addr} {Qd : Hp → Prop} (R : Nat → V → Prop) (hD : H1 D = none) (hn : n ≤ 100000)
    (hw : ∀ x, wipe ((wipe σ vs).set slot (some x)) vs = wipe σ vs)
    (hs : ∀ (i : Nat) (H : Hp), i < n → Same H1 H → ∀ Q : VK, (∀ y H', Same H H' → R i y → Q y H') → te ((wipe σ vs).set slot (some (.int (lo + i)))) H Q)
    (hd : ∀ (H : Hp) (ys : List V), Same H1 H → H D = some (.lst ys) → ys.length = n → (∀ i y, ys[i]? = some y → R i y) → Qd H) :
    ∃ W : Nat → Nat → Hp → Prop, (∃ m, W 0 m (upd H1 D (.lst []))) ∧ ∀ i m H, W i m H →
      ((Itr lo n).stop i H ∧ Qd H) ∨ ((Itr lo n).go i H ∧ ∃ Nx : Hp → Prop, (∀ H', Nx H' → ∃ m', m' < m ∧ W (i + 1) m' H') ∧ ∀ x H', (Itr lo n).yld i H x H' → gName slot x (wipe σ vs) H' fun σ2 H2 => wipe σ2 vs = wipe σ vs ∧ tYes σ2 H2 fun b H3 =>
        if b = true then te σ2 H3 fun y H4 => ∃ acc, H4 D = some (.lst acc) ∧ acc.length < sizeLine ∧ Nx (upd H4 D (.lst (acc ++ [y]))) else Nx H3) := by
  refine lc_range (fun i H => Same H1 H ∧ ∃ ys, H D = some (.lst ys) ∧ ys.length = i ∧ ∀ i y, ys[i]? = some y → R i y) ⟨same_new hD, [], upd_same, rfl, fun i y e => by cases e⟩ ?_ ?_
  · rintro i H hi ⟨sm, ys, hd, rfl, hr⟩
    refine ⟨hw _, ?_⟩
    simp only [tYes, reduceIte]
    refine hs ys.length H hi sm _ fun y H' sm' ry => ⟨ys, sm' _ _ hd, Nat.lt_of_lt_of_le (by omega) (show 100000 ≤ sizeLine by decide), same_over (sm.trans sm') hD, _, upd_same, by rw [List.length_append]; rfl, fun j z e => ?_⟩
    by_cases lt : j < ys.length
    · rw [List.getElem?_append_left lt] at e
      exact hr j z e
    · rw [List.getElem?_append_right (by omega)] at e
      have z0 : j - ys.length = 0 := by
        cases q : j - ys.length with
        | zero => rfl
        | succ k =>
          rw [q] at e
          cases e
      rw [z0] at e
      cases e
      have : j = ys.length := by omega
      rw [this]
      exact ry
  · rintro H ⟨sm, ys, h, l, hr⟩
    exact hd H ys sm h l hr
/-- [.. for x in xs if ..], the test told by a function of the item -/
theorem lc_listG {K : PySem.W.Frag} {a : Addr} {xs : List V} {slot : Nat} {tt : TT} {te : TE} {vs : List Nat} {σ : L2.St} {H1 : Hp} {D : Addr} {Qd : Hp → Prop} (f : V → Bool) (g : V → V) (hD : H1 D = none) (hS : SqL K H1 a xs) (hn : xs.length ≤ 100000)
    (hw : ∀ x, wipe ((wipe σ vs).set slot (some x)) vs = wipe σ vs)
    (ht : ∀ (x : V) (H : Hp), x ∈ xs → Same H1 H → ∀ Q : Bool → Hp → Prop, (∀ H', Same H H' → Q (f x) H') → tt ((wipe σ vs).set slot (some x)) H Q)
    (hs : ∀ (x : V) (H : Hp), x ∈ xs → f x = true → Same H1 H → ∀ Q : VK, (∀ H', Same H H' → Q (g x) H') → te ((wipe σ vs).set slot (some x)) H Q)
    (hd : ∀ (H : Hp), Same H1 H → H D = some (.lst ((xs.filter f).map g)) → Qd H) :
    ∃ W : Nat → Nat → Hp → Prop, (∃ m, W 0 m (upd H1 D (.lst []))) ∧ ∀ i m H, W i m H →
      ((Itl K a).stop i H ∧ Qd H) ∨ ((Itl K a).go i H ∧ ∃ Nx : Hp → Prop, (∀ H', Nx H' → ∃ m', m' < m ∧ W (i + 1) m' H') ∧ ∀ x H', (Itl K a).yld i H x H' → gName slot x (wipe σ vs) H' fun σ2 H2 => wipe σ2 vs = wipe σ vs ∧ tt σ2 H2 fun b H3 =>
        if b = true then te σ2 H3 fun y H4 => ∃ acc, H4 D = some (.lst acc) ∧ acc.length < sizeLine ∧ Nx (upd H4 D (.lst (acc ++ [y]))) else Nx H3) := by
  refine lc_list (K := K) (a := a) (xs := xs) (fun i H => Same H1 H ∧ H D = some (.lst (((xs.take i).filter f).map g))) ⟨same_new hD, upd_same⟩ (fun i H _ h => h.1.seq hS) ?_ ?_
  · rintro i x H hi ⟨sm, h⟩
    have hx : x ∈ xs := List.mem_of_getElem? hi
    refine ⟨hw _, ht x H hx sm _ fun H' sm' => ?_⟩
    have et : xs.take (i + 1) = xs.take i ++ [x] := by rw [List.take_add_one, hi] <;> rfl
    cases e : f x with
    | true =>
      refine iteT (hs x H' hx e (sm.trans sm') _ fun H2 sm2 => ?_)
      refine ⟨_, sm2 _ _ (sm' _ _ h), Nat.lt_of_le_of_lt ?_ (show 100000 < sizeLine by decide), same_over ((sm.trans sm').trans sm2) hD, ?_⟩
      · rw [List.length_map]
        have h1 := List.length_filter_le f (xs.take i)
        rw [List.length_take] at h1
        omega
      · rw [upd_same, et, List.filter_append, List.map_append]
        simp only [List.filter_cons, e, List.filter_nil, if_true, List.map_cons, List.map_nil]
    | false =>
      refine iteF ⟨sm.trans sm', ?_⟩
      rw [et, List.filter_append]
      simp only [List.filter_cons, e, List.filter_nil, Bool.false_eq_true, if_false, List.append_nil]
      exact sm' _ _ h
  · rintro H ⟨sm, h⟩
    rw [List.take_length] at h
    exact hd H sm h
end Gd
namespace Gd
open PySem PySem.Spec PyProof.Rows L2
/-! ### what is new, its heap told by what is known of it -/
def New (H : Hp) (o : HO) (Q : VK) : Prop := ∀ p H', H p = none → Same H H' → H' p = some o → Q (.ref p) H'
theorem New.use {H : Hp} {o : HO} {Q : VK} (h : New H o Q) : ∀ p, H p = none → Q (.ref p) (upd H p o) := fun p hp => h p _ hp (same_new hp) upd_same
def upA (t : TA) : TA := fun σ H Q => ∃ R : List V → Hp → Prop, t σ H R ∧ ∀ x H', R x H' → Q x H'
def upE (t : TE) : TE := fun σ H Q => ∃ R : VK, t σ H R ∧ ∀ x H', R x H' → Q x H'
theorem pa_up {X : Cx} {es : List Expr} {t : TA} (h : PA X es t) : PA X es (upA t) := ⟨fun pos pins s σ H Q I ⟨R, hr, m⟩ =>
  thn (h.run pos pins s σ H R I hr) fun us s' ⟨vs, H', I', r, q⟩ => ⟨vs, H', I', r, m _ _ q⟩⟩
theorem pe_up {X : Cx} {e : Expr} {t : TE} (h : PE X e t) : PE X e (upE t) := ⟨fun pins s σ H Q I ⟨R, hr, m⟩ =>
  thn (h.run pins s σ H R I hr) fun us s' ⟨v, H', I', r, q⟩ => ⟨v, H', I', r, m _ _ q⟩⟩
theorem pe_weak {X : Cx} {e : Expr} {t t' : TE} (h : PE X e t) (w : ∀ σ H Q, t' σ H Q → t σ H Q) : PE X e t' := ⟨fun pins s σ H Q I hw => h.run pins s σ H Q I (w _ _ _ hw)⟩
def tLstN (t : TA) : TE := fun σ H Q => t σ H fun xs H1 => xs.length ≤ sizeLine ∧ New H1 (.lst xs) Q
def tTupN (t : TA) : TE := fun σ H Q => t σ H fun xs H1 => xs.length ≤ sizeLine ∧ New H1 (.tup xs) Q
def tDNewN : TE := fun σ H Q => New H (.dK []) Q
theorem pe_lstN {X : Cx} {es : List Expr} {t : TA} {pos : Pos} (h : PA X es t) : PE X (.List es pos) (tLstN t) :=
  pe_weak (pe_lst (pa_up h)) fun _ _ _ hw => ⟨_, hw, fun _ _ ⟨l, n⟩ => ⟨l, n.use⟩⟩
theorem pe_tupN {X : Cx} {es : List Expr} {t : TA} {x1} {pos : Pos} (h : PA X es t) : PE X (.Tuple es x1 pos) (tTupN t) :=
  pe_weak (pe_tup (pa_up h)) fun _ _ _ hw => ⟨_, hw, fun _ _ ⟨l, n⟩ => ⟨l, n.use⟩⟩
theorem pe_dnewN {X : Cx} {pos : Pos} : PE X (.Dict [] [] pos) tDNewN := pe_weak pe_dnewK fun _ _ _ hw => hw.use
/-- True comes out, what stood stands -/
def spRight : Sp := fun vs H Q _ => ∃ a : Addr, vs = [.ref a] ∧ H a = some (Dice a) ∧ ∀ H', Same H H' → Q (.bl true) H'
theorem same_at {A B : Hp} (h : Same A B) {b : Addr} {o : HO} (e : A b = some o) : B b = some o := h b o e
theorem same_go {A B C : Hp} (h : Same B C) (e : Same A B) : Same A C := e.trans h
theorem dp_boolsAll {K : PySem.W.Frag} {H : Hp} : ∀ bs : List Bool, DpAll K H (bs.map V.bl) (bs.map PyData.bool)
  | [] => .nil
  | b :: r => .cons (.bl b) (dp_boolsAll r)
theorem dp_bools {K : PySem.W.Frag} {H : Hp} {p : Addr} {bs : List Bool} (h : H p = some (.lst (bs.map V.bl))) : Dp K H (.ref p) (.list (bs.map PyData.bool)) := .lst (sq_lst h) (dp_boolsAll bs)
theorem sh_bools (bs : List Bool) (h : bs.length ≤ 1000) : Sh (.list (bs.map PyData.bool)) := by
  have all : PyData.leavesShortAll 600 (bs.map PyData.bool) = true ∧ PyData.showableAll (bs.map PyData.bool) = true ∧ PyData.hasDictAll (bs.map PyData.bool) = false ∧ PyData.weightAll (bs.map PyData.bool) = bs.length ∧ PyData.depthAll (bs.map PyData.bool) = 0 := by
    clear h
    induction bs with
    | nil => simp only [List.map_nil, PyData.leavesShortAll, PyData.showableAll, PyData.hasDictAll, PyData.weightAll, PyData.depthAll, List.length_nil, and_self]
    | cons b r ih =>
      obtain ⟨i1, i2, i3, i4, i5⟩ := ih
      simp only [List.map_cons, PyData.leavesShortAll, PyData.leavesShort, PyData.showableAll, PyData.showable, PyData.hasDictAll, PyData.hasDict, PyData.weightAll, PyData.weight, PyData.depthAll, PyData.depth, i1, i2, i3, i4, i5, Bool.and_self, Bool.or_self, List.length_cons, true_and]
      refine ⟨by omega, rfl⟩
  obtain ⟨e1, e2, e3, e4, e5⟩ := all
  refine ⟨by simp only [PyData.leavesShort]; exact e1, by simp only [PyData.showable]; exact e2, by simp only [PyData.hasDict]; exact e3, ?_, ?_⟩
  · simp only [PyData.weight]
    omega
  · simp only [PyData.depth]
    omega
/-! ### more that is new -/
theorem op_weak {X : Cx} {f : Value → Value → Sem Value} {r r' : R2} (h : OpR X f r) (wk : ∀ x y H Q, r' x y H Q → r x y H Q) : OpR X f r' := fun pins s σ H x y v u Q I rx ry hr => h pins s σ H x y v u Q I rx ry (wk _ _ _ _ hr)
theorem call_weak {X : Cx} {f : Value} {r r' : List V → Hp → VK → Prop} (h : CallR X f r) (wk : ∀ xs H Q, r' xs H Q → r xs H Q) : CallR X f r' := fun pins s σ H xs us Q I rx hr => h pins s σ H xs us Q I rx (wk _ _ _ hr)
def rCatN : R2 := fun x y H Q => ∃ l b xs zs, x = .ref l ∧ y = .ref b ∧ H l = some (.lst xs) ∧ H b = some (.lst zs) ∧ xs.length + zs.length ≤ sizeLine ∧ New H (.lst (xs ++ zs)) Q
theorem op_catN {X : Cx} : OpR X (binaryOp .Add) rCatN := op_weak op_cat fun _ _ _ _ ⟨l, b, xs, zs, h1, h2, h3, h4, h5, n⟩ => ⟨l, b, xs, zs, h1, h2, h3, h4, h5, n.use⟩
def rRepN : R2 := fun x y H Q => ∃ l k xs, x = .ref l ∧ y = .int k ∧ H l = some (.lst xs) ∧ -(2 ^ 63) ≤ k ∧ k < 2 ^ 63 ∧ xs.length * k.toNat ≤ sizeLine ∧ New H (.lst (List.replicate k.toNat xs).flatten) Q
theorem op_repN {X : Cx} : OpR X (binaryOp .Mult) rRepN := op_weak op_rep fun _ _ _ _ ⟨l, k, xs, h1, h2, h3, h4, h5, h6, n⟩ => ⟨l, k, xs, h1, h2, h3, h4, h5, h6, n.use⟩
def rSlLN (K : PySem.W.Frag) : V → Option Int → Option Int → Hp → VK → Prop := fun x lo hi H Q => ∃ a xs, x = .ref a ∧ SqL K H a xs ∧ New H (.lst (cutV xs lo hi)) Q
def rListN (K : PySem.W.Frag) : List V → Hp → VK → Prop := fun xs H Q => ∃ p ys, xs = [.ref p] ∧ (SqL K H p ys ∨ SqT K H p ys) ∧ New H (.lst ys) Q
theorem call_listN {X : Cx} : CallR X (.type "list") (rListN X.K) := call_weak call_list_of fun _ _ _ ⟨p, ys, h1, h2, n⟩ => ⟨p, ys, h1, h2, n.use⟩
end Gd

namespace Gd
open PySem PySem.Spec PyProof.Rows L2
theorem isText_low {x : Str} (h : ∀ c ∈ x.cps.toList, low c = true) (l : x.length ≤ 8000) : isText (.str x) = true := by
  rw [isText_str, decide_eq_true l, List.all_eq_true.mpr h]
  rfl
theorem isText_bad {x : Str} {c : Nat} (hc : c ∈ x.cps.toList) (h : low c = false) : isText (.str x) = false := by
  rw [isText_str]
  have e : x.cps.toList.all low = false := by
    rw [List.all_eq_false]
    exact ⟨c, hc, by rw [h]; decide⟩
  rw [e, Bool.and_false]
theorem isSign_str (x : Str) : isSign (.str x) = (isText (.str x) && decide (x.length = 1)) := rfl
theorem isPiece_str (x : Str) : isPiece (.str x) = (isText (.str x) && decide (1 ≤ x.length ∧ x.length ≤ 5)) := rfl
theorem isSign_bad {x : Str} (h : isText (.str x) = false) : isSign (.str x) = false := by rw [isSign_str, h, Bool.false_and]
theorem isPiece_bad {x : Str} (h : isText (.str x) = false) : isPiece (.str x) = false := by rw [isPiece_str, h, Bool.false_and]
theorem app_list (x y : Str) : (x ++ y).cps.toList = x.cps.toList ++ y.cps.toList := by
  rw [Str.cps_append, Array.toList_append]
theorem app_len (x y : Str) : (x ++ y).length = x.length + y.length := strLen_append x y
theorem cutS_list (z : Str) (lo hi : Option Int) : (cutS z lo hi).cps.toList = (z.cps.toList.drop (HT.sIx z.length 0 lo)).take (HT.sIx z.length z.length hi - HT.sIx z.length 0 lo) := by simp [cutS]
theorem cutS_len (z : Str) (lo hi : Option Int) : (cutS z lo hi).length = min (HT.sIx z.length z.length hi - HT.sIx z.length 0 lo) (z.length - HT.sIx z.length 0 lo) := by
  rw [← str_len, cutS_list, List.length_take, List.length_drop, str_len]
theorem cutS_le (z : Str) (lo hi : Option Int) : (cutS z lo hi).length ≤ z.length := by
  rw [cutS_len]
  omega
theorem cutS_mem {z : Str} {lo hi : Option Int} {c : Nat} (h : c ∈ (cutS z lo hi).cps.toList) : c ∈ z.cps.toList := by
  rw [cutS_list] at h
  exact List.mem_of_mem_drop (List.mem_of_mem_take h)
theorem sIx_pos {n d : Nat} {v : Int} (h : 0 ≤ v) : HT.sIx n d (some v) = min v.toNat n := by
  have e := HT.sIx_nat n d v.toNat
  rw [show ((v.toNat : Nat) : Int) = v by omega] at e
  exact e
end Gd
namespace Gd
open PySem PySem.Spec PyProof.Rows L2
theorem shown_eq {xs ys : List Bool} (e : xs = ys) : decide ((PyData.list (xs.map .bool)).shown = (PyData.list (ys.map .bool)).shown) = true := by
  rw [e, decide_eq_true rfl]
end Gd

/-! Gd7: list(text) -/
namespace Gd
open PySem PySem.Spec PyProof.Rows L2
section
variable {prog : Program} {w : World} {A : Around} {E : Value → Shared → Prop} {s : Shared} {x : Str} {t : Tok}
theorem hint_str {Q : Bool → Shared → Prop} (q : Q false s) : wpAny (model prog w) A (Builtin.List.listLengthHint (.str x t)) Q E s := by
  have ty : s.TypeIs (.str x t) "str" := typeIs_str s x t
  unfold Builtin.List.listLengthHint
  refine wpAny_bind (wpAny_specialOf ty PySem.F.slot_str_len.lookup ?_)
  generalize name : ("str.__len__" : String) = id1
  wp_delta
  rw [show splitId id1 = some ("str", "__len__") from by subst name; decide +kernel]
  subst name
  refine wpAny_bind (wpAny_isInstance (b := true) (T := "str") ty (by rw [isSubtype_type]; kernel_rfl) ?_)
  refine wpAny_ite_split (fun no => absurd no (by decide)) (fun _ => wpAny_ite_split (fun _ => ?_) (fun no => absurd (by decide +kernel) no))
  exact wpAny_bind (wpAny_typeOf ty (wpAny_pure q))
theorem extend_str {R : Result → Shared → Prop} (hh : A.handled = none) (S : Addr) (res : Value) (c₀ : Nat) (hS : s.heap.get? S = some { cls := .type "list", data := .seq #[] c₀ }) (hn : x.cps.size ≤ sizeLine)
    (done : ∀ h' tk acc c, (∀ b o, b ≠ S → s.heap.get? b = some o → h'.get? b = some o) → h'.get? S = some { cls := .type "list", dict := none, data := .seq acc c, slots := #[] } → ItemsOf (SignAt x) acc x.cps.size → R (.ok (.ret res)) { s with heap := h', toks := tk }) :
    wpAny (model prog w) A.in1 (Builtin.List.listExtendWith (.ref S) (.str x t) res)
      (fun fin s' => match fin with | .done f => R (.ok f) s' | .again c' => c'.quiet = true ∧ codeAny (model prog w) A c' R s') (fun e s' => R (.error e) s') s := by
  have away : S ≠ s.heap.objs.size := Nat.ne_of_lt (Heap.lt_size hS)
  unfold Builtin.List.listExtendWith
  refine wpAny_bind (wpAny_typeOf (T := "str") (typeIs_str s x t) ?_)
  have other : Builtin.List.listSameRef (.ref S) (.str x t) = false := rfl
  have nl : (Value.type "str" == Value.type "list") = false := by decide
  have nt : (Value.type "str" == Value.type "tuple") = false := by decide
  simp only [other, nl, nt, Bool.or_false, Bool.false_eq_true, if_false]
  refine wpAny_bind (wpAny_pyIter_str fun oI St walks st => ?_)
  have W := walks A.in1 hh
  have off : S ∉ [s.heap.objs.size] := fun m => away (List.mem_singleton.mp m)
  have go : ∀ (h : Heap) (c₁ tk : Nat), St 0 h → (∀ b o, b ≠ S → s.heap.get? b = some o → h.get? b = some o) → h.get? S = some { cls := .type "list", data := .seq #[] c₁ } →
      codeAny (model prog w) A (.builtin "list.extend.loop" ⟨[.ref S, .ref s.heap.objs.size, res], []⟩) R { s with heap := h, toks := tk } := fun h c₁ tk hst keep at_S =>
    codeAny_extend_loopS W.toS hn S off res x.cps.size 0 _ #[] c₁ rfl (Nat.zero_le _) hst at_S (ItemsOf.nil _) fun s' acc c moved at_S' items => by
      rw [Moved.eq_with moved]
      refine done s'.heap s'.toks acc c (fun b o hb e => moved.heap b o (fun m => ?_) (keep b o hb e)) at_S' items
      rcases List.mem_cons.mp m with same | m
      · exact hb same
      · exact Nat.lt_irrefl _ (List.mem_singleton.mp m ▸ Heap.lt_size e)
  have at1 := Heap.get?_push_of_some oI hS
  refine wpAny_bind (wpAny_holding (hint_str ?_))
  refine wpAny_ite_split (fun _ => ?_) (fun _ => wpAny_pure ⟨plainId_quiet PySem.F.plain_extend_loop _, go _ c₀ _ st (fun b o _ e => Heap.get?_push_of_some _ e) at1⟩)
  refine wpAny_bind (wpAny_rule (wpAny_bind ?_))
  show wpAny _ _ (updateSeq S (·.push .none) >>= fun _ => updateSeq S (·.pop)) _ _ _
  refine wpAny_bind (wpAny_updateSeq at1 rfl ?_)
  have at2 := Heap.get?_update_self (Obj.mapSeq (·.push Value.none)) at1 rfl
  refine wpAny_updateSeq (hz := by seq_fits) at2 rfl ?_
  have at3 := Heap.get?_update_self (Obj.mapSeq (·.pop)) at2 rfl
  have oth : ∀ b o, b ≠ S → (s.heap.push oI).get? b = some o → (((s.heap.push oI).update S (Obj.mapSeq (·.push Value.none))).update S (Obj.mapSeq (·.pop))).get? b = some o := fun b o hb e => by
    rw [Heap.get?_update_other _ _ hb.symm, Heap.get?_update_other _ _ hb.symm]
    exact e
  exact wpAny_pure ⟨plainId_quiet PySem.F.plain_extend_loop _, go _ _ _ (W.frame 0 _ _ st fun b m o e => oth b o (fun same => off (same ▸ m)) e) (fun b o hb e => oth b o hb (Heap.get?_push_of_some _ e)) at3⟩
theorem list_of_str {Q : Value → Shared → Prop} (hh : A.handled = none) (hn : x.cps.size ≤ sizeLine)
    (done : ∀ h' tk acc c, (∀ b o, s.heap.get? b = some o → h'.get? b = some o) → h'.get? s.heap.objs.size = some { cls := .type "list", dict := none, data := .seq acc c, slots := #[] } → ItemsOf (SignAt x) acc x.cps.size → Q (.ref s.heap.objs.size) { s with heap := h', toks := tk }) :
    wpAny (model prog w) A (call (.type "list") [.str x t]) Q E s := by
  refine callType_codes (Q₁ := fun obj s₁ => obj = .ref s.heap.objs.size ∧ s₁ = { s with heap := s.heap.push { cls := .type "list", data := .seq #[] } }) PySem.F.called_list (PySem.F.typeCall_list_1 _) PySem.F.entry_list_init
    (code_list_new _ ⟨rfl, rfl⟩) fun obj s₁ ⟨e1, e2⟩ => ?_
  subst e1 e2
  have at0 : (s.heap.push { cls := .type "list", data := .seq #[] }).get? s.heap.objs.size = some { cls := .type "list", data := .seq #[] } := Heap.get?_push_size _ rfl
  refine ⟨⟨_, at0, rfl⟩, PySem.F.args_list_init_2 _ _, ?_⟩
  show wpAny _ _ (do let old ← Builtin.List.listItems (.ref s.heap.objs.size); Builtin.List.listUpdate (.ref s.heap.objs.size) (fun _ => #[]); letGo old.toList.reverse; Builtin.List.listExtendWith (.ref s.heap.objs.size) (.str x t) .none) _ _ _
  refine wpAny_bind ?_
  unfold Builtin.List.listItems
  refine wpAny_bind (wpAny_seqItems at0 rfl (wpAny_pure ?_))
  show wpAny _ _ (updateSeq s.heap.objs.size (fun _ => #[]) >>= fun _ => letGo (#[] : Array Value).toList.reverse >>= fun _ => Builtin.List.listExtendWith (.ref s.heap.objs.size) (.str x t) .none) _ _ _
  refine wpAny_bind (wpAny_updateSeq at0 rfl (wpAny_bind (wpAny_letGo ?_)))
  have at1 := Heap.get?_update_self (Obj.mapSeq (fun _ => (#[] : Array Value))) at0 rfl
  refine extend_str (A := A.in1) hh _ .none _ at1 hn fun h' tk acc c keep at2 items => ⟨rfl, done h' tk acc c (fun b o e => ?_) at2 items⟩
  have ne : b ≠ s.heap.objs.size := Nat.ne_of_lt (Heap.lt_size e)
  exact keep b o ne ((Heap.get?_update_other _ _ ne.symm).trans (Heap.get?_push_of_some _ e))
end
theorem vals_signs {x : Str} {acc : Array Value} (h : ItemsOf (SignAt x) acc x.cps.size) : Vals ((x.cps.toList.map sg).map V.str) acc.toList := by
  have len : acc.toList.length = x.cps.toList.length := by rw [Array.length_toList, h.1, Array.length_toList]
  have at' : ∀ (j : Nat) (c : Nat) (v : Value), x.cps.toList[j]? = some c → acc.toList[j]? = some v → ∃ u, v = .str (sg c) u := fun j c v e1 e2 => by
    obtain ⟨c', u, e3, rfl⟩ := h.2 j v (by rw [← Array.getElem?_toList]; exact e2)
    rw [← Array.getElem?_toList, e1] at e3
    cases e3
    exact ⟨u, rfl⟩
  generalize acc.toList = vs at len at'
  generalize x.cps.toList = cs at len at'
  clear h
  induction cs generalizing vs with
  | nil =>
    cases vs with
    | nil => exact .nil
    | cons v r => simp at len
  | cons c r ih =>
    cases vs with
    | nil => simp at len
    | cons v vs =>
      obtain ⟨u, rfl⟩ := at' 0 c v rfl rfl
      exact .cons ⟨u, rfl⟩ (ih vs (by simpa using len) fun j c v e1 e2 => at' (j + 1) c v (by simpa using e1) (by simpa using e2))
def rListStr : List V → Hp → VK → Prop := fun xs H Q => ∃ x : Str, xs = [.str x] ∧ x.length ≤ sizeLine ∧ New H (.lst ((x.cps.toList.map sg).map V.str)) Q
theorem call_listStr {X : Cx} (hc : X.calm = true) : CallR X (.type "list") rListStr := by
  intro pins s σ H xs us Q I r h
  obtain ⟨x, rfl, hn, q⟩ := h
  obtain ⟨u, rfl, t, rfl⟩ := vals1 r
  refine list_of_str (I.ok.hd hc) hn fun h' tk acc c keep at0 items => ?_
  refine ⟨.ref s.heap.objs.size, upd H s.heap.objs.size (.lst ((x.cps.toList.map sg).map V.str)), I.laid keep (Nat.le_refl _) (show ObjOk X.prog X.w _ _ _ (.lst ((x.cps.toList.map sg).map V.str)) from ⟨?_, acc.toList, c, vals_signs items, ?_⟩), rfl, q.use _ (I.hok.fresh (Nat.le_refl _))⟩
  · rw [List.length_map, List.length_map, str_len]
    exact hn
  · rw [Array.toArray_toList]
    exact at0
end Gd
namespace Gd
open PySem PySem.Spec PyProof.Rows L2
theorem fold_app : ∀ (l : List (Array Nat)) (acc : Array Nat), (l.foldl (· ++ ·) acc).toList = acc.toList ++ (l.map Array.toList).flatten
  | [], acc => by simp
  | a :: r, acc => by
    rw [List.foldl_cons, fold_app r, Array.toList_append, List.map_cons, List.flatten_cons, List.append_assoc]
theorem mul_list {x : Str} {n : Nat} (h : 2 ≤ n) (pos : 0 < x.length) : (Txt.mul x (n : Int)).cps.toList = (List.replicate n x.cps.toList).flatten := by
  unfold Txt.mul
  rw [if_neg (by omega), if_neg (by
    rw [Bool.or_eq_true, beq_iff_eq, beq_iff_eq]
    omega)]
  show (List.foldl (· ++ ·) #[] (List.replicate (n : Int).toNat x.cps)).toList = _
  rw [fold_app, Int.toNat_natCast]
  simp
theorem mul_len {x : Str} {n : Nat} (h : 2 ≤ n) (pos : 0 < x.length) : (Txt.mul x (n : Int)).length = n * x.length := by
  rw [← str_len, mul_list h pos, List.length_flatten, List.map_replicate, List.sum_replicate_nat, str_len]
theorem mul_mem {x : Str} {n : Nat} (h : 2 ≤ n) (pos : 0 < x.length) {c : Nat} (hc : c ∈ (Txt.mul x (n : Int)).cps.toList) : c ∈ x.cps.toList := by
  rw [mul_list h pos] at hc
  obtain ⟨l, hl, hc⟩ := List.mem_flatten.mp hc
  rw [List.eq_of_mem_replicate hl] at hc
  exact hc
theorem mulOk {x : Str} {n : Nat} (h : 2 ≤ n) (hn : n ≤ 100000) (le : x.length ≤ 100) : MulOk x (n : Int) := by
  refine ⟨?_, fun _ _ => ?_, fun _ _ => ?_⟩
  · rw [decide_eq_false (by omega), decide_eq_false (by omega)]
    rfl
  · have big : (100000 : Int) ≤ (2 ^ 63 - 1) / (n : Int) := by
      refine (Int.le_ediv_iff_mul_le (by omega)).mpr ?_
      omega
    omega
  · have : x.length * (n : Int).toNat ≤ 100 * 100000 := Nat.mul_le_mul le (by omega)
    refine decide_eq_false (p := x.length * (n : Int).toNat > sizeLine) ?_
    have e : sizeLine = 16777216 := by decide
    omega
end Gd

namespace K01
open PySem PySem.Spec PyProof.Rows L2 Gd
local macro_rules | `(tactic| walk_at "rd") => `(tactic| simp only [tSeq, tPar, tNext, tIfS, tOr, tAnd, tNot, tB, tCB, tCons, tNil, tVar, tC, tRet, tRetN, tAsg, tDrop, gName, gSub, tOp, tUn, tTest, tOrV, tAndV, tNotV, tIf, tBM0, L2.tM1, L2.tM0, tChain, tCall, spKind, rIxL, tLst, tTup, tLstN, tTupN, tDNewN, tSl, tPart, tNoPart, rSlS, rIsB, rNotB, L2.start, L2.rEq, L2.rNe, L2.rI, L2.rI0, L2.rU, cx_K, cx_Kn,
  List.map_cons, List.map_nil, List.length_cons, List.length_nil, List.replicate_succ, List.replicate_zero, List.cons_append, List.nil_append, Nat.reduceAdd, Nat.reduceSub, Nat.zero_add, Nat.sub_self, Nat.reduceSubDiff, Nat.add_sub_cancel,
  List.getElem?_cons_zero, List.getElem?_cons_succ, List.set_cons_zero, List.set_cons_succ, Option.some.injEq, List.cons.injEq, V.bl.injEq, V.int.injEq, V.str.injEq, V.ref.injEq, V.ty.injEq, exists_eq_left, exists_eq_left', exists_eq_right, and_true, true_and, and_assoc, exists_and_left, exists_and_right, if_true, if_false, reduceIte, Bool.not_true, Bool.not_false, Bool.false_eq_true, decide_eq_true_eq, Bool.not_eq_true', Gd.len_str, Gd.tyV_str, reduceCtorEq])
local macro_rules | `(tactic| walk_at "rt") => `(tactic| try (walk_at "rd"))
local macro_rules | `(tactic| walk_at "side") => `(tactic| repeat (refine ⟨by (first | decide | decide +kernel | exact .inl ⟨by decide, by decide⟩ | exact .inr ⟨by decide, by decide⟩), ?_⟩))
local macro_rules | `(tactic| walk_at "up") => `(tactic| first | assumption | exact Same.refl _ | (refine same_at (by assumption) ?_; walk_at "up") | (refine same_go (by assumption) ?_; walk_at "up"))

def topS (i : Nat) : Stmt := PySem.Challenge.pw_cutbehind_k01_integers_signs_texts_and_p.main.body.getD i (.Pass ⟨0, 0, 0, 0⟩)
structure Tx (mg : Str → Option Value) : Prop where
  b_len : mg "len" = none
  b_isinstance : mg "isinstance" = none
  b_str : mg "str" = none
  b_int : mg "int" = none
  b_bool : mg "bool" = none
  b_abs : mg "abs" = none
  b_range : mg "range" = none
  b_repr : mg "repr" = none
  b_list : mg "list" = none
  b_max : mg "max" = none
  b_min : mg "min" = none
  c_MAX_SIGNS : ∃ t, mg "MAX_SIGNS" = some (.int 8000 t)
  c_MAX_LENGTH : ∃ t, mg "MAX_LENGTH" = some (.int 5 t)
  c_TOO_GREAT : ∃ t, mg "TOO_GREAT" = some (.int (10 ^ 60) t)
section
variable {P : Program} {w : World} {K : PySem.W.Frag} {mg : Str → Option Value} {base : Heap}
abbrev s_is_text : Stmt := topS 6
theorem sc_is_text : FnScope ["value"] ["value"] (defScope s_is_text) := ⟨rfl, rfl, rfl, by decide +kernel, rfl, by decide +kernel, by decide +kernel⟩

theorem ok_is_text {f : Addr} {fd : FuncData} (F : Fun K "is_text" "is_text" s_is_text f fd) (T : Tx mg) : FnG P w K mg base CX0 1 f fd ["value"] (spKind isText) := by
  obtain ⟨t8, c8⟩ := T.c_MAX_SIGNS
  refine okG F sc_is_text (fun vs H Q E h => ?_) (fun cdv A outer s H vs Q E hr hg h => ?_)
  · obtain ⟨v, T, rfl, _⟩ := h
    rfl
  · have hm : Rm _ (A.deeper _) := ⟨hr, hg⟩
    obtain ⟨v, ty, rfl, hk, q⟩ := h
    refine ⟨_, (pss_cons (ps_if (PW.pt (pw_or (pt_not (pt_val (pe_callB call_isi (by rfl) T.b_isinstance (by decide +kernel) (pa_cons (pv 0) (pa_cons (pe_bltn (v := .ty "str") (u := .type "str") (by rfl) T.b_str (by decide +kernel) rfl) pa_nil))))) (pw_or1 (pt_cmpR op_gt (pe_callB call_len (by rfl) T.b_len (by decide +kernel) (pa_cons (pv 0) pa_nil)) (pe_glob (v := .int 8000) rfl c8 ⟨_, rfl⟩) (nomark _))))) (pss_one (ps_ret pe_bl)) pss_nil)
    (pss_one (ps_ret (pe_or (pe_cmpR op_eq (pv 0) pe_str (nomark _)) (pe_one (pe_and (pe_bm0 PySem.F.plainAttrs_str PySem.F.slot_str_isascii PySem.F.type_str_isascii mt_isascii (pv 0)) (pe_and (pe_bm0 PySem.F.plainAttrs_str PySem.F.slot_str_isalpha PySem.F.type_str_isalpha mt_isalpha (pv 0)) (pe_one (pe_bm0 PySem.F.plainAttrs_str PySem.F.slot_str_islower PySem.F.type_str_islower mt_islower (pv 0)))))))))), ?_⟩
    walk_at "rd"
    have hk' := hk
    cases hk with
    | @str x le =>
      refine isi_of hk' (b := true) (by decide +kernel) ?_
      refine ⟨true, rfl, ?_⟩
      simp only [reduceCtorEq, if_false]
      refine ⟨x.length, ⟨le, rfl⟩, ?_⟩
      by_cases long : x.length ≤ 8000
      · rw [if_neg (by omega)]
        refine ⟨rfl, ?_⟩
        have e0 : isText (.str x) = x.cps.toList.all low := by
          rw [isText_str, decide_eq_true long]
          rfl
        rw [e0] at q
        by_cases e : x.cps.toList = []
        · have ex : x = Str.ofString "" := str_eq_of_lists (by rw [e]; rfl)
          rw [if_pos (by rw [ex])]
          rw [e] at q
          exact q
        · rw [if_neg (fun z => e (by cases z; rfl))]
          rw [← text_low e] at q
          refine ⟨rfl, x, rfl, ?_⟩
          cases c1 : Txt.isascii x with
          | false =>
            rw [c1] at q
            exact iteF q
          | true =>
            refine iteT ⟨rfl, x, rfl, ?_⟩
            cases c2 : Txt.isalpha x with
            | false =>
              rw [c1, c2] at q
              exact iteF q
            | true =>
              rw [c1, c2] at q
              exact iteT ⟨rfl, x, rfl, q⟩
      · rw [if_pos (by omega)]
        have e : isText (.str x) = false := by
          rw [isText_str, decide_eq_false long]
          rfl
        rw [← e]
        exact q
    | _ =>
      refine isi_of hk' (b := false) (by decide +kernel) ?_
      exact ⟨false, rfl, q⟩
abbrev s_is_integer : Stmt := topS 4
theorem sc_is_integer : FnScope ["value"] ["value"] (defScope s_is_integer) := ⟨rfl, rfl, rfl, by decide +kernel, rfl, by decide +kernel, by decide +kernel⟩

theorem ok_is_integer {f : Addr} {fd : FuncData} (F : Fun K "is_integer" "is_integer" s_is_integer f fd) (T : Tx mg) : FnG P w K mg base CX0 1 f fd ["value"] (spKind isInteger) := by
  obtain ⟨tg, cg⟩ := T.c_TOO_GREAT
  refine okG F sc_is_integer (fun vs H Q E h => ?_) (fun cdv A outer s H vs Q E hr hg h => ?_)
  · obtain ⟨v, T, rfl, _⟩ := h
    rfl
  · have hm : Rm _ (A.deeper _) := ⟨hr, hg⟩
    obtain ⟨v, ty, rfl, hk, q⟩ := h
    refine ⟨_, (pss_one (ps_ret (pe_and (pe_callB call_isi (by rfl) T.b_isinstance (by decide +kernel) (pa_cons (pv 0) (pa_cons (pe_bltn (v := .ty "int") (u := .type "int") (by rfl) T.b_int (by decide +kernel) rfl) pa_nil))) (pe_and (pe_not (pe_callB call_isi (by rfl) T.b_isinstance (by decide +kernel) (pa_cons (pv 0) (pa_cons (pe_bltn (v := .ty "bool") (u := .type "bool") (by rfl) T.b_bool (by decide +kernel) rfl) pa_nil)))) (pe_one (pe_chain op_lt op_lt (pe_un un_neg (pe_glob (v := .int (10 ^ 60)) rfl cg ⟨_, rfl⟩)) (pv 0) (pe_glob (v := .int (10 ^ 60)) rfl cg ⟨_, rfl⟩))))))), ?_⟩
    walk_at "rd"
    have hk' := hk
    cases hk with
    | int i =>
      refine isi_of hk' (b := true) (by decide +kernel) ⟨true, rfl, ?_⟩
      walk_at "rt"
      refine isi_of hk' (b := false) (by decide +kernel) ⟨false, rfl, ?_⟩
      walk_at "rt"
      have e : isInteger (.int i) = (decide (-(10 : Int) ^ 60 < i) && decide (i < (10 : Int) ^ 60)) := by
        show decide (i.natAbs < 10 ^ 60) = _
        rw [← Bool.decide_and, decide_eq_decide]
        omega
      rw [e] at q
      split
      · next h =>
        rw [decide_eq_true h] at q
        exact q
      · next h =>
        rw [decide_eq_false h] at q
        exact q
    | bl b =>
      refine isi_of hk' (b := true) (by decide +kernel) ⟨true, rfl, ?_⟩
      walk_at "rt"
      refine isi_of hk' (b := true) (by decide +kernel) ⟨true, rfl, ?_⟩
      walk_at "rt"
      exact q
    | _ =>
      refine isi_of hk' (b := false) (by decide +kernel) ⟨false, rfl, ?_⟩
      walk_at "rt"
      exact q
abbrev s_is_sign : Stmt := topS 5
theorem sc_is_sign : FnScope ["value"] ["value"] (defScope s_is_sign) := ⟨rfl, rfl, rfl, by decide +kernel, rfl, by decide +kernel, by decide +kernel⟩

theorem ok_is_sign {f : Addr} {fd : FuncData} (F : Fun K "is_sign" "is_sign" s_is_sign f fd) (T : Tx mg) (G_is_text : Df P w K mg base 1 "is_text" ["value"] (spKind isText)) : FnG P w K mg base CX0 2 f fd ["value"] (spKind isSign) := by
  refine okG F sc_is_sign (fun vs H Q E h => ?_) (fun cdv A outer s H vs Q E hr hg h => ?_)
  · obtain ⟨v, T, rfl, _⟩ := h
    rfl
  · have hm : Rm _ (A.deeper _) := ⟨hr, hg⟩
    obtain ⟨v, ty, rfl, hk, q⟩ := h
    refine ⟨_, (pss_one (ps_ret (pe_and (pe_callD G_is_text (hm.mono (by decide)) (by rfl) (pa_cons (pv 0) pa_nil)) (pe_one (pe_cmpR op_eq (pe_callB call_len (by rfl) T.b_len (by decide +kernel) (pa_cons (pv 0) pa_nil)) pe_int (nomark _)))))), ?_⟩
    walk_at "rd"
    refine ⟨⟨ty, hk⟩, ?_⟩
    cases hk with
    | @str x le =>
      have e : isSign (.str x) = (isText (.str x) && decide (x.length = 1)) := rfl
      cases c : isText (.str x) with
      | false =>
        rw [e, c] at q
        exact iteF q
      | true =>
        rw [e, c] at q
        refine iteT ⟨x.length, ⟨le, rfl⟩, rfl, ?_⟩
        have e2 : decide ((x.length : Int) = 1) = decide (x.length = 1) := by
          rw [decide_eq_decide]
          omega
        rw [e2]
        exact q
    | _ => exact iteF q
abbrev s_is_piece : Stmt := topS 7
theorem sc_is_piece : FnScope ["value"] ["value"] (defScope s_is_piece) := ⟨rfl, rfl, rfl, by decide +kernel, rfl, by decide +kernel, by decide +kernel⟩

theorem ok_is_piece {f : Addr} {fd : FuncData} (F : Fun K "is_piece" "is_piece" s_is_piece f fd) (T : Tx mg) (G_is_text : Df P w K mg base 1 "is_text" ["value"] (spKind isText)) : FnG P w K mg base CX0 2 f fd ["value"] (spKind isPiece) := by
  obtain ⟨t5, c5⟩ := T.c_MAX_LENGTH
  refine okG F sc_is_piece (fun vs H Q E h => ?_) (fun cdv A outer s H vs Q E hr hg h => ?_)
  · obtain ⟨v, T, rfl, _⟩ := h
    rfl
  · have hm : Rm _ (A.deeper _) := ⟨hr, hg⟩
    obtain ⟨v, ty, rfl, hk, q⟩ := h
    refine ⟨_, (pss_one (ps_ret (pe_and (pe_callD G_is_text (hm.mono (by decide)) (by rfl) (pa_cons (pv 0) pa_nil)) (pe_one (pe_chain op_le op_le pe_int (pe_callB call_len (by rfl) T.b_len (by decide +kernel) (pa_cons (pv 0) pa_nil)) (pe_glob (v := .int 5) rfl c5 ⟨_, rfl⟩)))))), ?_⟩
    walk_at "rd"
    refine ⟨⟨ty, hk⟩, ?_⟩
    cases hk with
    | @str x le =>
      have e : isPiece (.str x) = (isText (.str x) && decide (1 ≤ x.length ∧ x.length ≤ 5)) := rfl
      cases c : isText (.str x) with
      | false =>
        rw [e, c] at q
        exact iteF q
      | true =>
        rw [e, c] at q
        refine iteT ⟨x.length, ⟨le, rfl⟩, ?_⟩
        have e2 : decide (1 ≤ x.length ∧ x.length ≤ 5) = (decide ((1 : Int) ≤ (x.length : Int)) && decide ((x.length : Int) ≤ 5)) := by
          rw [Bool.eq_iff_iff]
          simp only [Bool.and_eq_true, decide_eq_true_eq]
          omega
        rw [e2] at q
        split
        · next h => rw [decide_eq_true h] at q; exact q
        · next h => rw [decide_eq_false h] at q; exact q
    | _ => exact iteF q
end
end K01

namespace K01
open PySem PySem.Spec PyProof.Rows L2 Gd
local macro_rules | `(tactic| walk_at "rd") => `(tactic| simp only [tSeq, tPar, tNext, tIfS, tOr, tAnd, tNot, tB, tCB, tCons, tNil, tVar, tC, tRet, tRetN, tAsg, tDrop, gName, gSub, tOp, tUn, tTest, tOrV, tAndV, tNotV, tIf, tBM0, L2.tM1, L2.tM0, tChain, tCall, spKind, rIxL, tLst, tTup, tLstN, tTupN, tDNewN, tSl, tPart, tNoPart, rSlS, rIsB, rNotB, L2.start, L2.rEq, L2.rNe, L2.rI, L2.rI0, L2.rU, cx_K, cx_Kn,
  List.map_cons, List.map_nil, List.length_cons, List.length_nil, List.replicate_succ, List.replicate_zero, List.cons_append, List.nil_append, Nat.reduceAdd, Nat.reduceSub, Nat.zero_add, Nat.sub_self, Nat.reduceSubDiff, Nat.add_sub_cancel,
  List.getElem?_cons_zero, List.getElem?_cons_succ, List.set_cons_zero, List.set_cons_succ, Option.some.injEq, List.cons.injEq, V.bl.injEq, V.int.injEq, V.str.injEq, V.ref.injEq, V.ty.injEq, exists_eq_left, exists_eq_left', exists_eq_right, and_true, true_and, and_assoc, exists_and_left, exists_and_right, if_true, if_false, reduceIte, Bool.not_true, Bool.not_false, Bool.false_eq_true, decide_eq_true_eq, Bool.not_eq_true', Gd.len_str, Gd.tyV_str, reduceCtorEq])
local macro_rules | `(tactic| walk_at "rt") => `(tactic| try (walk_at "rd"))
local macro_rules | `(tactic| walk_at "side") => `(tactic| repeat (refine ⟨by (first | decide | decide +kernel | exact .inl ⟨by decide, by decide⟩ | exact .inr ⟨by decide, by decide⟩), ?_⟩))
local macro_rules | `(tactic| walk_at "up") => `(tactic| first | assumption | exact Same.refl _ | (refine same_at (by assumption) ?_; walk_at "up") | (refine same_go (by assumption) ?_; walk_at "up"))

section
variable {P : Program} {w : World} {K : PySem.W.Frag} {mg : Str → Option Value} {base : Heap}
abbrev s_law_roll : Stmt := topS 10
theorem sc_law_roll : FnScope ["dice", "upto", "found", "one", "two"] ["dice", "upto"] (defScope s_law_roll) := ⟨rfl, rfl, rfl, by decide +kernel, rfl, by decide +kernel, by decide +kernel⟩

theorem ok_law_roll {f : Addr} {fd : FuncData} (F : Fun K "_law_roll" "_law_roll" s_law_roll f fd) (T : Tx mg) : FnG P w K mg base CX0 1 f fd ["dice", "upto"] spRoll := by
  refine roll_hidden (okG F sc_law_roll (fun vs H Q E h => ?_) (fun cdv A outer s H vs Q E hr hg h => ?_)) rfl
  · obtain ⟨a, n, x, y, z, rfl, _⟩ := h
    rfl
  · obtain ⟨a, n, x, y, z, rfl, ⟨hn, hn2⟩, h0, ha, q⟩ := h
    refine ⟨_, (pss_cons (ps_if (pt_cmpR op_gt (pe_ix ix_list (pv 0) pe_int (fun _ _ => rfl)) pe_int (nomark _)) (pss_cons (ps_set (i := 2) sc_law_roll.nd rfl (Or.inl rfl) (pe_op op_mod (pe_callTy call_intI (by rfl) T.b_int (by decide +kernel) (pa_cons (pe_ix ix_list (pv 0) pe_int (fun _ _ => rfl)) pa_nil)) (pv 1)))
    (pss_cons (ps_asg (pe_op op_fdiv (pe_ix ix_list (pv 0) pe_int (fun _ _ => rfl)) (pv 1)) (pg_sub (pv 0) pe_int set_list))
    (pss_one (ps_ret (pv 2))))) pss_nil)
    (pss_cons (ps_asg (pe_op op_add (pe_ix ix_list (pv 0) pe_int (fun _ _ => rfl)) pe_int) (pg_sub (pv 0) pe_int set_list))
    (pss_cons (ps_set (i := 3) sc_law_roll.nd rfl (Or.inl rfl) (pe_op op_mod (pe_callTy call_intI (by rfl) T.b_int (by decide +kernel) (pa_cons (pe_op op_add (pe_op op_mul (pe_ix ix_list (pv 0) pe_int (fun _ _ => rfl)) pe_int) (pe_op op_mul (pe_ix ix_list (pv 0) pe_int (fun _ _ => rfl)) pe_int)) pa_nil)) pe_int))
    (pss_cons (ps_set (i := 4) sc_law_roll.nd rfl (Or.inl rfl) (pe_op op_mod (pe_callTy call_intI (by rfl) T.b_int (by decide +kernel) (pa_cons (pe_op op_add (pe_op op_mul (pv 3) (pv 3)) (pe_op op_mul (pe_ix ix_list (pv 0) pe_int (fun _ _ => rfl)) pe_int)) pa_nil)) pe_int))
    (pss_one (ps_ret (pe_op op_mod (pe_callTy call_intI (by rfl) T.b_int (by decide +kernel) (pa_cons (pe_op op_fdiv (pe_op op_mod (pe_callTy call_intI (by rfl) T.b_int (by decide +kernel) (pa_cons (pe_op op_add (pe_op op_mul (pv 4) (pv 4)) (pv 3)) pa_nil)) pe_int) pe_int) pa_nil)) (pv 1)))))))), ?_⟩
    walk_at "rd"
    refine ⟨_, sq_lst ha, _, rfl, _, rfl, ?_⟩
    split
    · refine ⟨_, sq_lst ha, _, rfl, _, rfl, hn, _, sq_lst ha, _, rfl, _, rfl, ⟨hn, hn2⟩, a, _, 0, 0, rfl, rfl, ha, rfl, ?_⟩
      exact q (x % n) (x / n) y z (Int.emod_nonneg _ (by omega)) (Int.emod_lt_of_pos _ hn) (Int.ediv_nonneg h0 (by omega))
    · refine ⟨_, sq_lst ha, _, rfl, _, rfl, a, _, 2, 2, rfl, rfl, ha, rfl, ?_⟩
      have hb : (upd H a (.lst ([V.int x, V.int y, V.int z].set 2 (V.int (z + 1))))) a = some (three x y (z + 1)) := upd_same
      refine ⟨_, sq_lst hb, _, rfl, _, rfl, .inr ⟨by decide, by decide⟩, _, sq_lst hb, _, rfl, _, rfl, .inr ⟨by decide, by decide⟩, by decide, ?_⟩
      have m1 := Int.emod_nonneg (y * 25214903917 + (z + 1) * 40692) (show (2305843009213693951 : Int) ≠ 0 by decide)
      have m2 := Int.emod_lt_of_pos (y * 25214903917 + (z + 1) * 40692) (show (0 : Int) < 2305843009213693951 by decide)
      generalize (y * 25214903917 + (z + 1) * 40692) % 2305843009213693951 = one at m1 m2 ⊢
      refine ⟨.inl ⟨by omega, by omega⟩, _, sq_lst hb, _, rfl, _, rfl, .inr ⟨by decide, by decide⟩, by decide, ?_⟩
      have m3 := Int.emod_nonneg (one * one + (z + 1) * 69621) (show (1152921504606846883 : Int) ≠ 0 by decide)
      have m4 := Int.emod_lt_of_pos (one * one + (z + 1) * 69621) (show (0 : Int) < 1152921504606846883 by decide)
      generalize (one * one + (z + 1) * 69621) % 1152921504606846883 = two at m3 m4 ⊢
      refine ⟨.inl ⟨by omega, by omega⟩, by decide, ⟨by decide, by decide⟩, hn, ?_⟩
      exact q _ x y (z + 1) (Int.emod_nonneg _ (by omega)) (Int.emod_lt_of_pos _ hn) h0

abbrev s_law_dice : Stmt := topS 9
theorem sc_law_dice : FnScope ["script", "spot", "cell", "whole"] ["script", "spot"] (defScope s_law_dice) := ⟨rfl, rfl, rfl, by decide +kernel, rfl, by decide +kernel, by decide +kernel⟩

theorem ok_law_dice {f : Addr} {fd : FuncData} (F : Fun K "_law_dice" "_law_dice" s_law_dice f fd) (T : Tx mg) : FnG P w K mg base CX0 1 f fd ["script", "spot"] (spDice K) := by
  refine dice_hidden (okG F sc_law_dice (fun vs H Q E h => ?_) (fun cdv A outer s H vs Q E hr hg h => ?_)) rfl
  · obtain ⟨a, ns, i, rfl, _⟩ := h
    rfl
  · obtain ⟨a, ns, i, rfl, ⟨hi, hi2⟩, hS, many, q⟩ := h
    refine ⟨_, (pss_cons (ps_set (i := 2) sc_law_dice.nd rfl (Or.inl rfl) (pe_ifExp (pt_cmpR op_lt (pv 1) (pe_callB call_len (by rfl) T.b_len (by decide +kernel) (pa_cons (pv 0) pa_nil)) (nomark _)) (pe_ix ix_list (pv 0) (pv 1) (fun _ _ => rfl)) (pe_op op_add (pe_op op_mul pe_int (pv 1)) pe_int)))
    (pss_cons (ps_set (i := 3) sc_law_dice.nd rfl (Or.inl rfl) (pe_op op_mod (pe_callTy call_intI (by rfl) T.b_int (by decide +kernel) (pa_cons (pe_callB call_abs (by rfl) T.b_abs (by decide +kernel) (pa_cons (pv 2) pa_nil)) pa_nil)) (pe_op op_powW (pe_op op_powW pe_int pe_int) pe_int)))
    (pss_one (ps_ret (pe_lst (pa_cons (pe_ifExp (pt_cmpR op_ge (pv 3) (pe_op op_powW pe_int pe_int) (nomark _)) (pv 3) pe_int) (pa_cons (pe_op op_add (pe_op op_add (pe_op op_add (pe_op op_mul pe_int (pv 3)) (pe_callTy call_intB (by rfl) T.b_int (by decide +kernel) (pa_cons (pe_cmpR op_lt (pv 2) pe_int (nomark _)) pa_nil))) (pe_op op_mul pe_int (pv 1))) pe_int) (pa_cons pe_int pa_nil)))))))), ?_⟩
    walk_at "rd"
    refine ⟨ns.length, .inl ⟨_, hS, by rw [List.length_map]⟩, ?_⟩
    have big : (0 : Int) < (10 ^ Int.toNat 57) ^ Int.toNat 11 := by decide +kernel
    have go : ∀ c : Int, 0 ≤ (if c < 0 then -c else c) % (10 ^ Int.toNat 57) ^ Int.toNat 11 := fun c => Int.emod_nonneg _ (by omega)
    split
    · next lt =>
      have lt' : i.toNat < ns.length := by omega
      refine ⟨_, hS, .int ns[i.toNat], ?_, _, rfl, by decide, by decide +kernel, by decide, by decide +kernel, big, by decide, by decide +kernel, ?_⟩
      · refine Eq.trans (congrArg _ (show i = (i.toNat : Int) by omega)) (atI_nat ?_)
        rw [List.getElem?_map, List.getElem?_eq_getElem (by omega)]
        rfl
      · refine ite2 (fun _ => ?_) (fun _ => ?_)
        · refine ⟨.inl ⟨by decide, by decide⟩, _, rfl, .inl ⟨by decide, by decide⟩, by decide, fun p hp => ?_⟩
          exact q p _ _ _ hp (go _)
        · refine ⟨.inl ⟨by decide, by decide⟩, _, rfl, .inl ⟨by decide, by decide⟩, by decide, fun p hp => ?_⟩
          exact q p _ _ _ hp (Int.le_refl 0)
    · refine ⟨.inl ⟨by decide, by decide⟩, by decide, by decide +kernel, by decide, by decide +kernel, big, by decide, by decide +kernel, ?_⟩
      refine ite2 (fun _ => ?_) (fun _ => ?_)
      · refine ⟨.inl ⟨by decide, by decide⟩, .inl ⟨by decide, by decide⟩, by decide, fun p hp => ?_⟩
        exact q p _ _ _ hp (go _)
      · refine ⟨.inl ⟨by decide, by decide⟩, .inl ⟨by decide, by decide⟩, by decide, fun p hp => ?_⟩
        exact q p _ _ _ hp (Int.le_refl 0)
end
end K01

namespace K01
open PySem PySem.Spec PyProof.Rows L2 Gd
local macro_rules | `(tactic| walk_at "rd") => `(tactic| simp only [tSeq, tPar, tNext, tIfS, tOr, tAnd, tNot, tB, tCB, tCons, tNil, tVar, tC, tRet, tRetN, tAsg, tDrop, gName, gSub, tOp, tUn, tTest, tOrV, tAndV, tNotV, tIf, tBM0, L2.tM1, L2.tM0, tChain, tCall, spKind, rIxL, tLst, tTup, tLstN, tTupN, tDNewN, tSl, tPart, tNoPart, rSlS, rIsB, rNotB, L2.start, L2.rEq, L2.rNe, L2.rI, L2.rI0, L2.rU, cx_K, cx_Kn,
  List.map_cons, List.map_nil, List.length_cons, List.length_nil, List.replicate_succ, List.replicate_zero, List.cons_append, List.nil_append, Nat.reduceAdd, Nat.reduceSub, Nat.zero_add, Nat.sub_self, Nat.reduceSubDiff, Nat.add_sub_cancel,
  List.getElem?_cons_zero, List.getElem?_cons_succ, List.set_cons_zero, List.set_cons_succ, Option.some.injEq, List.cons.injEq, V.bl.injEq, V.int.injEq, V.str.injEq, V.ref.injEq, V.ty.injEq, exists_eq_left, exists_eq_left', exists_eq_right, and_true, true_and, and_assoc, exists_and_left, exists_and_right, if_true, if_false, reduceIte, Bool.not_true, Bool.not_false, Bool.false_eq_true, decide_eq_true_eq, Bool.not_eq_true', Gd.len_str, Gd.tyV_str, reduceCtorEq])
local macro_rules | `(tactic| walk_at "rt") => `(tactic| try (walk_at "rd"))
local macro_rules | `(tactic| walk_at "side") => `(tactic| repeat (refine ⟨by (first | decide | decide +kernel | exact .inl ⟨by decide, by decide⟩ | exact .inr ⟨by decide, by decide⟩), ?_⟩))
local macro_rules | `(tactic| walk_at "up") => `(tactic| first | assumption | exact Same.refl _ | (refine same_at (by assumption) ?_; walk_at "up") | (refine same_go (by assumption) ?_; walk_at "up"))

/-- one of the items of a list -/
def spPick (K : PySem.W.Frag) : Sp := fun vs H Q _ => ∃ (a p : Addr) (xs : List V), vs = [.ref a, .ref p] ∧ H a = some (Dice a) ∧ SqL K H p xs ∧ (xs ≠ [] ∧ xs.length ≤ 100000) ∧ ∀ x ∈ xs, Q x H
/-- one of the signs of a text -/
def spPickS : Sp := fun vs H Q _ => ∃ (a : Addr) (x : Str), vs = [.ref a, .str x] ∧ H a = some (Dice a) ∧ (0 < x.length ∧ x.length ≤ 100000) ∧ ∀ c ∈ x.cps.toList, Q (.str ⟨#[c]⟩) H
/-- a text of signs of a text -/
def spLetters : Sp := fun vs H Q _ => ∃ (a : Addr) (x : Str) (n : Int), vs = [.ref a, .str x, .int n] ∧ H a = some (Dice a) ∧ (0 < x.length ∧ x.length ≤ 100000) ∧ (0 ≤ n ∧ n ≤ 100000) ∧
  ∀ (z : Str) (H' : Hp), Same H H' → (z.length : Int) = n → (∀ c ∈ z.cps.toList, c ∈ x.cps.toList) → Q (.str z) H'
section
variable {P : Program} {w : World} {K : PySem.W.Frag} {mg : Str → Option Value} {base : Heap}
abbrev s_law_pick : Stmt := topS 11
theorem sc_law_pick : FnScope ["dice", "items"] ["dice", "items"] (defScope s_law_pick) := ⟨rfl, rfl, rfl, by decide +kernel, rfl, by decide +kernel, by decide +kernel⟩

theorem ok_law_pick {f : Addr} {fd : FuncData} (F : Fun K "_law_pick" "_law_pick" s_law_pick f fd) (T : Tx mg) (G_law_roll : Df P w K mg base 1 "_law_roll" ["dice", "upto"] spRoll) : FnG P w K mg base CX0 2 f fd ["dice", "items"] (spPick K) := by
  refine okG F sc_law_pick (fun vs H Q E h => ?_) (fun cdv A outer s H vs Q E hr hg h => ?_)
  · obtain ⟨a, p, xs, rfl, _⟩ := h
    rfl
  · have hm : Rm _ (A.deeper _) := ⟨hr, hg⟩
    obtain ⟨a, p, xs, rfl, hd, hS, ⟨ne, le⟩, q⟩ := h
    refine ⟨_, (pss_one (ps_ret (pe_ix ix_list (pv 1) (pe_callD G_law_roll (hm.mono (by decide)) (by rfl) (pa_cons (pv 0) (pa_cons (pe_callB call_len (by rfl) T.b_len (by decide +kernel) (pa_cons (pv 1) pa_nil)) pa_nil))) (fun _ _ => rfl)))), ?_⟩
    walk_at "rd"
    have pos : 0 < xs.length := List.length_pos_iff.mpr ne
    refine ⟨xs.length, .inl ⟨xs, hS, rfl⟩, a, (xs.length : Int), rfl, by omega, hd, fun r r0 r1 => ?_⟩
    walk_at "rt"
    have lt : r.toNat < xs.length := by omega
    refine ⟨xs, hS, xs[r.toNat], Eq.trans (congrArg _ (show r = (r.toNat : Int) by omega)) (atI_nat (List.getElem?_eq_getElem lt)), ?_⟩
    exact q _ (List.getElem_mem lt)

theorem ok_law_pickS {f : Addr} {fd : FuncData} (F : Fun K "_law_pick" "_law_pick" s_law_pick f fd) (T : Tx mg) (G_law_roll : Df P w K mg base 1 "_law_roll" ["dice", "upto"] spRoll) : FnG P w K mg base CX0 2 f fd ["dice", "items"] spPickS := by
  refine okG F sc_law_pick (fun vs H Q E h => ?_) (fun cdv A outer s H vs Q E hr hg h => ?_)
  · obtain ⟨a, x, rfl, _⟩ := h
    rfl
  · have hm : Rm _ (A.deeper _) := ⟨hr, hg⟩
    obtain ⟨a, x, rfl, hd, ⟨pos, le⟩, q⟩ := h
    refine ⟨_, (pss_one (ps_ret (pe_ix ix_str (pv 1) (pe_callD G_law_roll (hm.mono (by decide)) (by rfl) (pa_cons (pv 0) (pa_cons (pe_callB call_len (by rfl) T.b_len (by decide +kernel) (pa_cons (pv 1) pa_nil)) pa_nil))) (fun _ _ => rfl)))), ?_⟩
    walk_at "rd"
    have sz : x.length ≤ sizeLine := Nat.le_trans le (by decide)
    refine ⟨sz, a, (x.length : Int), rfl, by omega, hd, fun r r0 r1 => ?_⟩
    have el : x.cps.toList.length = x.length := by simp [Str.length]
    have lt : r.toNat < x.cps.toList.length := by omega
    refine ⟨x, r, x.cps.toList[r.toNat], rfl, rfl, sz, Eq.trans (congrArg _ (show r = (r.toNat : Int) by omega)) (atI_nat (List.getElem?_eq_getElem lt)), ?_⟩
    exact q _ (List.getElem_mem lt)

abbrev s_law_letters : Stmt := topS 12
theorem sc_law_letters : FnScope ["dice", "signs", "many", "turn"] ["dice", "signs", "many"] (defScope s_law_letters) := ⟨rfl, rfl, rfl, by decide +kernel, rfl, by decide +kernel, by decide +kernel⟩

theorem ok_law_letters {f : Addr} {fd : FuncData} (F : Fun K "_law_letters" "_law_letters" s_law_letters f fd) (T : Tx mg) (G_pickS : Df P w K mg base 2 "_law_pick" ["dice", "items"] spPickS) : FnG P w K mg base CX0 3 f fd ["dice", "signs", "many"] spLetters := by
  refine okG F sc_law_letters (fun vs H Q E h => ?_) (fun cdv A outer s H vs Q E hr hg h => ?_)
  · obtain ⟨a, x, n, rfl, _⟩ := h
    rfl
  · have hm : Rm _ (A.deeper _) := ⟨hr, hg⟩
    obtain ⟨a, x, n, rfl, hd, ⟨pos, le⟩, ⟨n0, n1⟩, q⟩ := h
    refine ⟨_, (pss_one (ps_ret (pe_join pe_str (pe_lc (own := [("turn", 3)]) (g := gName 3) (tt := tYes) (by rfl) sc_law_letters.nd (pi_range1 rfl T.b_range (pa_cons (pv 2) pa_nil)) (blkOk_by (own := [("turn", 3)]) (N := ["dice", "signs", "many", "turn"]) (sc := defScope s_law_letters) (by decide +kernel)) (fun _ _ _ _ _ => pg_name (i := 3) sc_law_letters.nd rfl (Or.inl rfl)) (fun _ _ _ _ _ => pts_nil) (fun _ _ _ _ _ => (pe_callD G_pickS (hm.mono (by decide)) (by rfl) (pa_cons (pv 0) (pa_cons (pv 1) pa_nil)))))))), ?_⟩
    walk_at "rd"
    refine ⟨⟨_, rfl⟩, _, rfl, n, rfl, by omega, by omega, fun D hD => ?_⟩
    refine lc_rangeG (slot := 3) (fun _ v => ∃ c, v = .str ⟨#[c]⟩ ∧ c ∈ x.cps.toList) hD (by omega) (fun y => rfl) (fun i H1 hi sm Q1 k => ?_) fun H1 ys sm h l hr => ?_
    · refine ⟨_, rfl, _, rfl, a, x, rfl, sm _ _ hd, ⟨pos, le⟩, fun c hc => ?_⟩
      exact k _ _ (Same.refl _) ⟨c, rfl, hc⟩
    · obtain ⟨cs, rfl, hc⟩ := signs_of hr
      rw [List.length_map, List.length_map] at l
      refine ⟨D, rfl, cs.map sg, .inl (sq_lst h), ?_, ?_⟩
      · rw [signs_sum, List.length_map, show (Str.ofString "").length = 0 from rfl]
        omega
      · refine q _ H1 sm ?_ (fun c h => hc c (by rw [signs_join] at h; exact h))
        rw [← str_len, signs_join]
        omega
end
end K01

namespace K01
open PySem PySem.Spec PyProof.Rows L2 Gd
local macro_rules | `(tactic| walk_at "rd") => `(tactic| simp only [tSeq, tPar, tNext, tIfS, tOr, tAnd, tNot, tB, tCB, tCons, tNil, tVar, tC, tRet, tRetN, tAsg, tDrop, gName, gSub, tOp, tUn, tTest, tOrV, tAndV, tNotV, tIf, tBM0, L2.tM1, L2.tM0, tChain, tCall, spKind, rIxL, tLst, tTup, tLstN, tTupN, tDNewN, tSl, tPart, tNoPart, rSlS, rIsB, rNotB, L2.start, L2.rEq, L2.rNe, L2.rI, L2.rI0, L2.rU, cx_K, cx_Kn,
  List.map_cons, List.map_nil, List.length_cons, List.length_nil, List.replicate_succ, List.replicate_zero, List.cons_append, List.nil_append, Nat.reduceAdd, Nat.reduceSub, Nat.zero_add, Nat.sub_self, Nat.reduceSubDiff, Nat.add_sub_cancel,
  List.getElem?_cons_zero, List.getElem?_cons_succ, List.set_cons_zero, List.set_cons_succ, Option.some.injEq, List.cons.injEq, V.bl.injEq, V.int.injEq, V.str.injEq, V.ref.injEq, V.ty.injEq, exists_eq_left, exists_eq_left', exists_eq_right, and_true, true_and, and_assoc, exists_and_left, exists_and_right, if_true, if_false, reduceIte, Bool.not_true, Bool.not_false, Bool.false_eq_true, decide_eq_true_eq, Bool.not_eq_true', Gd.len_str, Gd.tyV_str, reduceCtorEq])
local macro_rules | `(tactic| walk_at "rt") => `(tactic| try (walk_at "rd"))
local macro_rules | `(tactic| walk_at "side") => `(tactic| repeat (refine ⟨by (first | decide | decide +kernel | exact .inl ⟨by decide, by decide⟩ | exact .inr ⟨by decide, by decide⟩), ?_⟩))
local macro_rules | `(tactic| walk_at "up") => `(tactic| first | assumption | exact Same.refl _ | (refine same_at (by assumption) ?_; walk_at "up") | (refine same_go (by assumption) ?_; walk_at "up"))

section
variable {P : Program} {w : World} {K : PySem.W.Frag} {mg : Str → Option Value} {base : Heap}
structure Gs (P : Program) (w : World) (K : PySem.W.Frag) (mg : Str → Option Value) (base : Heap) : Prop where
  is_integer : Df P w K mg base 1 "is_integer" ["value"] (spKind isInteger)
  is_text : Df P w K mg base 1 "is_text" ["value"] (spKind isText)
  is_sign : Df P w K mg base 2 "is_sign" ["value"] (spKind isSign)
  is_piece : Df P w K mg base 2 "is_piece" ["value"] (spKind isPiece)
  roll : Df P w K mg base 1 "_law_roll" ["dice", "upto"] spRoll
  pick : Df P w K mg base 2 "_law_pick" ["dice", "items"] (spPick K)
  pickS : Df P w K mg base 2 "_law_pick" ["dice", "items"] spPickS
  letters : Df P w K mg base 3 "_law_letters" ["dice", "signs", "many"] spLetters
abbrev s_law_integers_right : Stmt := topS 13
theorem sc_law_integers_right : FnScope ["dice", "most", "near", "number", "odd", "told"] ["dice"] (defScope s_law_integers_right) := ⟨rfl, rfl, rfl, by decide +kernel, rfl, by decide +kernel, by decide +kernel⟩

theorem ok_law_integers_right {f : Addr} {fd : FuncData} (F : Fun K "_law_integers_right" "_law_integers_right" s_law_integers_right f fd) (T : Tx mg) (G : Gs P w K mg base) : FnG P w K mg base CX0 4 f fd ["dice"] spRight := by
  obtain ⟨G_is_integer, G_is_text, G_is_sign, G_is_piece, G_law_roll, G_law_pick, G_pickS, G_law_letters⟩ := G
  refine okG F sc_law_integers_right (fun vs H Q E h => ?_) (fun cdv A outer s H vs Q E hr hg h => ?_)
  · obtain ⟨a, rfl, _⟩ := h
    rfl
  · have hm : Rm _ (A.deeper _) := ⟨hr, hg⟩
    obtain ⟨a, rfl, hd, q⟩ := h
    refine ⟨_, (pss_cons (ps_set (i := 1) sc_law_integers_right.nd rfl (Or.inl rfl) (pe_op op_powW pe_int pe_int))
    (pss_cons (ps_set (i := 2) sc_law_integers_right.nd rfl (Or.inl rfl) (pe_callD G_law_pick (hm.mono (by decide)) (by rfl) (pa_cons (pv 0) (pa_cons (pe_lstN (pa_cons pe_int (pa_cons pe_int (pa_cons pe_int (pa_cons pe_int (pa_cons pe_int (pa_cons (pe_op op_powW pe_int pe_int) (pa_cons (pe_op op_powW pe_int pe_int) (pa_cons (pe_op op_powW pe_int pe_int) (pa_cons (pe_op op_sub (pv 1) pe_int) (pa_cons (pv 1) (pa_cons (pe_op op_mul (pv 1) pe_int) pa_nil)))))))))))) pa_nil))))
    (pss_cons (ps_set (i := 2) sc_law_integers_right.nd rfl (Or.inl rfl) (pe_op op_add (pv 2) (pe_callD G_law_roll (hm.mono (by decide)) (by rfl) (pa_cons (pv 0) (pa_cons pe_int pa_nil)))))
    (pss_cons (ps_set (i := 3) sc_law_integers_right.nd rfl (Or.inl rfl) (pe_op op_mul (pv 2) (pe_callD G_law_pick (hm.mono (by decide)) (by rfl) (pa_cons (pv 0) (pa_cons (pe_lstN (pa_cons pe_int (pa_cons (pe_un un_neg pe_int) pa_nil))) pa_nil)))))
    (pss_cons (ps_set (i := 4) sc_law_integers_right.nd rfl (Or.inl rfl) (pe_callD G_law_pick (hm.mono (by decide)) (by rfl) (pa_cons (pv 0) (pa_cons (pe_lstN (pa_cons pe_non (pa_cons pe_bl (pa_cons pe_bl (pa_cons pe_str (pa_cons pe_str (pa_cons (pe_tupN pa_nil) (pa_cons (pe_lstN pa_nil) (pa_cons pe_dnewN (pa_cons (pe_tupN (pa_cons pe_int pa_nil)) (pa_cons (pe_lstN (pa_cons pe_int pa_nil)) (pa_cons pe_str (pa_cons (pv 1) (pa_cons (pe_op op_sub pe_int (pv 1)) pa_nil)))))))))))))) pa_nil))))
    (pss_cons (ps_set (i := 5) sc_law_integers_right.nd rfl (Or.inl rfl) (pe_lstN (pa_cons (pe_callD G_is_integer (hm.mono (by decide)) (by rfl) (pa_cons (pv 3) pa_nil)) (pa_cons (pe_callD G_is_integer (hm.mono (by decide)) (by rfl) (pa_cons (pv 4) pa_nil)) (pa_cons (pe_callD G_is_integer (hm.mono (by decide)) (by rfl) (pa_cons (pe_op op_sub (pv 1) pe_int) pa_nil)) (pa_cons (pe_callD G_is_integer (hm.mono (by decide)) (by rfl) (pa_cons (pe_op op_sub pe_int (pv 1)) pa_nil)) (pa_cons (pe_callD G_is_integer (hm.mono (by decide)) (by rfl) (pa_cons (pe_callTy call_str_int (by rfl) T.b_str (by decide +kernel) (pa_cons (pv 3) pa_nil)) pa_nil)) pa_nil)))))))
    (pss_one (ps_ret (pe_cmpR op_eq (pe_callB (call_repr hm) (by rfl) T.b_repr (by decide +kernel) (pa_cons (pv 5) pa_nil)) (pe_callB (call_repr hm) (by rfl) T.b_repr (by decide +kernel) (pa_cons (pe_lstN (pa_cons (pe_cmpR op_lt (pv 2) (pv 1) (nomark _)) (pa_cons pe_bl (pa_cons pe_bl (pa_cons pe_bl (pa_cons pe_bl pa_nil)))))) pa_nil)) (nomark _)))))))))), ?_⟩
    refine seq_cut fun k1 e1 => ?_
    walk_at "rd"
    refine ⟨by decide, by decide +kernel, ?_⟩
    subst e1
    refine seq_cut fun k1 e1 => ?_
    walk_at "rd"
    walk_at "side"
    intro p H1 hp sm_H1 at_p
    refine ⟨a, p, _, rfl, sm_H1 _ _ hd, sq_lst at_p, ⟨by simp, by simp⟩, fun x hx => ?_⟩
    have near : ∃ i : Int, x = .int i ∧ 0 ≤ i ∧ i ≤ 10 ^ 61 := by
      simp only [List.mem_cons, List.not_mem_nil, or_false] at hx
      rcases hx with rfl | rfl | rfl | rfl | rfl | rfl | rfl | rfl | rfl | rfl | rfl <;> exact ⟨_, rfl, by decide +kernel, by decide +kernel⟩
    obtain ⟨i, rfl, i0, i1⟩ := near
    clear hx
    walk_at "rd"
    subst e1
    refine seq_cut fun k1 e1 => ?_
    walk_at "rd"
    refine ⟨a, 9, rfl, by decide, sm_H1 _ _ hd, fun r r0 r1 => ?_⟩
    walk_at "rt"
    subst e1
    refine seq_cut fun k1 e1 => ?_
    walk_at "rd"
    walk_at "side"
    intro p2 H2 hp2 sm_H2 at_p2
    refine ⟨a, p2, _, rfl, sm_H2 _ _ (sm_H1 _ _ hd), sq_lst at_p2, ⟨by simp, by simp⟩, fun x hx => ?_⟩
    have sign : ∃ j : Int, x = .int j ∧ (j = 1 ∨ j = -1) := by
      simp only [List.mem_cons, List.not_mem_nil, or_false] at hx
      rcases hx with rfl | rfl
      · exact ⟨_, rfl, .inl rfl⟩
      · exact ⟨_, rfl, .inr rfl⟩
    obtain ⟨j, rfl, hj⟩ := sign
    clear hx
    walk_at "rd"
    refine ⟨.inr ⟨by omega, by omega⟩, ?_⟩
    subst e1
    refine seq_cut fun k1 e1 => ?_
    walk_at "rd"
    walk_at "side"
    intro p3 H3 hp3 sm_H3 at_p3
    walk_at "side"
    intro p4 H4 hp4 sm_H4 at_p4
    walk_at "side"
    intro p5 H5 hp5 sm_H5 at_p5
    walk_at "side"
    intro p6 H6 hp6 sm_H6 at_p6
    walk_at "side"
    intro p7 H7 hp7 sm_H7 at_p7
    walk_at "side"
    intro p8 H8 hp8 sm_H8 at_p8
    refine ⟨a, p8, _, rfl, by walk_at "up", sq_lst at_p8, ⟨by simp, by simp⟩, fun x hx => ?_⟩
    have odd : (∃ T, Kd H8 x T) ∧ isInteger x = false := by
      simp only [List.mem_cons, List.not_mem_nil, or_false] at hx
      rcases hx with rfl | rfl | rfl | rfl | rfl | rfl | rfl | rfl | rfl | rfl | rfl | rfl | rfl
      · exact ⟨⟨_, .non⟩, rfl⟩
      · exact ⟨⟨_, .bl _⟩, rfl⟩
      · exact ⟨⟨_, .bl _⟩, rfl⟩
      · exact ⟨⟨_, .str (by decide)⟩, rfl⟩
      · exact ⟨⟨_, .str (by decide)⟩, rfl⟩
      · exact ⟨⟨_, .tup (xs := []) (by walk_at "up")⟩, rfl⟩
      · exact ⟨⟨_, .lst (xs := []) (by walk_at "up")⟩, rfl⟩
      · exact ⟨⟨_, .dic (kvs := []) (by walk_at "up")⟩, rfl⟩
      · exact ⟨⟨_, .tup (xs := [.int 1]) (by walk_at "up")⟩, rfl⟩
      · exact ⟨⟨_, .lst (xs := [.int 1]) (by walk_at "up")⟩, rfl⟩
      · exact ⟨⟨_, .str (by decide)⟩, rfl⟩
      · exact ⟨⟨_, .int _⟩, by decide +kernel⟩
      · exact ⟨⟨_, .int _⟩, by decide +kernel⟩
    obtain ⟨⟨T1, kd⟩, odd⟩ := odd
    clear hx
    subst e1
    refine seq_cut fun k1 e1 => ?_
    walk_at "rd"
    have ten : (10 : Int) ^ Int.toNat 60 = ((10 ^ 60 : Nat) : Int) := by decide +kernel
    have small : ((i + r) * j).natAbs = (i + r).natAbs := by
      rw [Int.natAbs_mul]
      rcases hj with rfl | rfl
      · exact Nat.mul_one _
      · exact Nat.mul_one _
    have lg : ((i + r) * j).natAbs.log2 < 1920 := by
      rw [small]
      have le : (i + r).natAbs < 2 ^ 1920 := Nat.lt_of_le_of_lt (show (i + r).natAbs ≤ 10 ^ 61 + 9 by omega) (by decide +kernel)
      by_cases z : (i + r).natAbs = 0
      · rw [z]
        decide
      · exact (Nat.log2_lt z).mpr le
    refine ⟨⟨_, .int _⟩, ⟨_, kd⟩, ⟨_, .int _⟩, ⟨_, .int _⟩, lg, ⟨_, .str (int_text_fits lg)⟩, ?_⟩
    walk_at "side"
    intro p9 H9 hp9 sm_H9 at_p9
    subst e1
    walk_at "rd"
    have b1 : isInteger (V.int ((i + r) * j)) = decide (i + r < 10 ^ Int.toNat 60) := by
      show decide (((i + r) * j).natAbs < 10 ^ 60) = _
      rw [small, ten, decide_eq_decide]
      omega
    have b2 : isInteger (V.int (10 ^ Int.toNat 60 - 1)) = true := by decide +kernel
    have b3 : isInteger (V.int (1 - 10 ^ Int.toNat 60)) = true := by decide +kernel
    rw [b1, odd, b2, b3] at at_p9
    refine ⟨_, dp_bools (bs := [_, _, _, _, _]) at_p9, sh_bools _ (by simp), by decide, ?_⟩
    intro p10 H10 hp10 sm_H10 at_p10
    refine ⟨_, dp_bools (bs := [_, _, _, _, _]) at_p10, sh_bools _ (by simp), rfl, ?_⟩
    have e : isInteger (V.str (Str.ofString (toString ((i + r) * j)))) = false := rfl
    rw [e, decide_eq_true rfl]
    exact q _ (by walk_at "up")
end
end K01

namespace K01
open PySem PySem.Spec PyProof.Rows L2 Gd
local macro_rules | `(tactic| walk_at "rd") => `(tactic| simp only [tSeq, tPar, tNext, tIfS, tOr, tAnd, tNot, tB, tCB, tCons, tNil, tVar, tC, tRet, tRetN, tAsg, tDrop, gName, gSub, tOp, tUn, tTest, tOrV, tAndV, tNotV, tIf, tBM0, L2.tM1, L2.tM0, tChain, tCall, spKind, rIxL, tLst, tTup, tLstN, tTupN, tDNewN, tSl, tPart, tNoPart, rSlS, rIsB, rNotB, L2.start, L2.rEq, L2.rNe, L2.rI, L2.rI0, L2.rU, cx_K, cx_Kn,
  List.map_cons, List.map_nil, List.length_cons, List.length_nil, List.replicate_succ, List.replicate_zero, List.cons_append, List.nil_append, Nat.reduceAdd, Nat.reduceSub, Nat.zero_add, Nat.sub_self, Nat.reduceSubDiff, Nat.add_sub_cancel,
  List.getElem?_cons_zero, List.getElem?_cons_succ, List.set_cons_zero, List.set_cons_succ, Option.some.injEq, List.cons.injEq, V.bl.injEq, V.int.injEq, V.str.injEq, V.ref.injEq, V.ty.injEq, exists_eq_left, exists_eq_left', exists_eq_right, and_true, true_and, and_assoc, exists_and_left, exists_and_right, if_true, if_false, reduceIte, Bool.not_true, Bool.not_false, Bool.false_eq_true, decide_eq_true_eq, Bool.not_eq_true', Gd.len_str, Gd.tyV_str, reduceCtorEq])
local macro_rules | `(tactic| walk_at "rt") => `(tactic| try (walk_at "rd"))
local macro_rules | `(tactic| walk_at "side") => `(tactic| repeat (refine ⟨by (first | decide | decide +kernel | exact .inl ⟨by decide, by decide⟩ | exact .inr ⟨by decide, by decide⟩), ?_⟩))
local macro_rules | `(tactic| walk_at "up") => `(tactic| first | assumption | exact Same.refl _ | (refine same_at (by assumption) ?_; walk_at "up") | (refine same_go (by assumption) ?_; walk_at "up"))

section
variable {P : Program} {w : World} {K : PySem.W.Frag} {mg : Str → Option Value} {base : Heap}

abbrev s_law_texts_right : Stmt := topS 14
theorem sc_law_texts_right : FnScope ["dice", "letters", "many", "text", "at", "odd", "bad", "told", "spot", "sign", "five"] ["dice"] (defScope s_law_texts_right) := ⟨rfl, rfl, rfl, by decide +kernel, rfl, by decide +kernel, by decide +kernel⟩

theorem ok_law_texts_right {f : Addr} {fd : FuncData} (F : Fun K "_law_texts_right" "_law_texts_right" s_law_texts_right f fd) (T : Tx mg) (G : Gs P w K mg base) : FnG P w K mg base CX0 4 f fd ["dice"] spRight := by
  obtain ⟨G_is_integer, G_is_text, G_is_sign, G_is_piece, G_law_roll, G_law_pick, G_pickS, G_law_letters⟩ := G
  refine okG F sc_law_texts_right (fun vs H Q E h => ?_) (fun cdv A outer s H vs Q E hr hg h => ?_)
  · obtain ⟨a, rfl, _⟩ := h
    rfl
  · have hm : Rm _ (A.deeper _) := ⟨hr, hg⟩
    obtain ⟨a, rfl, hd, q⟩ := h
    refine ⟨_, (pss_cons (ps_set (i := 1) sc_law_texts_right.nd rfl (Or.inl rfl) pe_str)
    (pss_cons (ps_set (i := 2) sc_law_texts_right.nd rfl (Or.inl rfl) (pe_ifExp (pt_cmpR op_eq (pe_callD G_law_roll (hm.mono (by decide)) (by rfl) (pa_cons (pv 0) (pa_cons pe_int pa_nil))) pe_int (nomark _)) (pe_callD G_law_roll (hm.mono (by decide)) (by rfl) (pa_cons (pv 0) (pa_cons pe_int pa_nil))) (pe_callD G_law_roll (hm.mono (by decide)) (by rfl) (pa_cons (pv 0) (pa_cons pe_int pa_nil)))))
    (pss_cons (ps_par (i := 3) (j := 4) (by rfl) sc_law_texts_right.nd rfl rfl (by decide) rfl rfl (pa_cons (pe_callD G_law_letters (hm.mono (by decide)) (by rfl) (pa_cons (pv 0) (pa_cons (pv 1) (pa_cons (pv 2) pa_nil)))) (pa_cons (pe_callD G_law_roll (hm.mono (by decide)) (by rfl) (pa_cons (pv 0) (pa_cons (pe_op op_add (pv 2) pe_int) pa_nil))) pa_nil)) (by rfl))
    (pss_cons (ps_set (i := 5) sc_law_texts_right.nd rfl (Or.inl rfl) (pe_callD G_pickS (hm.mono (by decide)) (by rfl) (pa_cons (pv 0) (pa_cons pe_str pa_nil))))
    (pss_cons (ps_set (i := 6) sc_law_texts_right.nd rfl (Or.inl rfl) (pe_op op_add_str (pe_op op_add_str (pe_slice sl_str (pv 3) po_none (po_some (pv 4))) (pv 5)) (pe_slice sl_str (pv 3) (po_some (pe_op op_add (pv 4) (pe_callD G_law_roll (hm.mono (by decide)) (by rfl) (pa_cons (pv 0) (pa_cons pe_int pa_nil))))) po_none)))
    (pss_cons (ps_set (i := 7) sc_law_texts_right.nd rfl (Or.inl rfl) (pe_lstN (pa_cons (pe_callD G_is_text (hm.mono (by decide)) (by rfl) (pa_cons (pv 3) pa_nil)) (pa_cons (pe_callD G_is_piece (hm.mono (by decide)) (by rfl) (pa_cons (pv 3) pa_nil)) (pa_cons (pe_callD G_is_sign (hm.mono (by decide)) (by rfl) (pa_cons (pv 3) pa_nil)) (pa_cons (pe_callD G_is_text (hm.mono (by decide)) (by rfl) (pa_cons (pv 6) pa_nil)) (pa_cons (pe_callD G_is_piece (hm.mono (by decide)) (by rfl) (pa_cons (pv 6) pa_nil)) (pa_cons (pe_callD G_is_sign (hm.mono (by decide)) (by rfl) (pa_cons (pv 6) pa_nil)) pa_nil))))))))
    (pss_cons (ps_if (pt_cmpR op_ne (pe_callB (call_repr hm) (by rfl) T.b_repr (by decide +kernel) (pa_cons (pv 7) pa_nil)) (pe_callB (call_repr hm) (by rfl) T.b_repr (by decide +kernel) (pa_cons (pe_lstN (pa_cons pe_bl (pa_cons (pe_chain op_le op_le pe_int (pv 2) pe_int) (pa_cons (pe_cmpR op_eq (pv 2) pe_int (nomark _)) (pa_cons pe_bl (pa_cons pe_bl (pa_cons pe_bl pa_nil))))))) pa_nil)) (nomark _)) (pss_one (ps_ret pe_bl)) pss_nil)
    (pss_cons (ps_set (i := 8) sc_law_texts_right.nd rfl (Or.inl rfl) (pe_callD G_law_roll (hm.mono (by decide)) (by rfl) (pa_cons (pv 0) (pa_cons pe_int pa_nil))))
    (pss_cons (ps_set (i := 7) sc_law_texts_right.nd rfl (Or.inl rfl) (pe_lstN (pa_cons (pe_callD G_is_sign (hm.mono (by decide)) (by rfl) (pa_cons (pe_slice sl_str (pv 1) (po_some (pv 8)) (po_some (pe_op op_add (pv 8) pe_int))) pa_nil)) (pa_cons (pe_callD G_is_sign (hm.mono (by decide)) (by rfl) (pa_cons (pv 1) pa_nil)) (pa_cons (pe_callD G_is_sign (hm.mono (by decide)) (by rfl) (pa_cons (pe_slice sl_str (pv 1) (po_some (pv 8)) po_none) pa_nil)) (pa_cons (pe_callD G_is_text (hm.mono (by decide)) (by rfl) (pa_cons pe_str pa_nil)) (pa_cons (pe_callD G_is_text (hm.mono (by decide)) (by rfl) (pa_cons pe_str pa_nil)) pa_nil)))))))
    (pss_cons (ps_if (PW.pt (pw_or (pt_cmpR op_ne (pe_callB (call_repr hm) (by rfl) T.b_repr (by decide +kernel) (pa_cons (pv 7) pa_nil)) (pe_callB (call_repr hm) (by rfl) T.b_repr (by decide +kernel) (pa_cons (pe_op op_repN (pe_lstN (pa_cons pe_bl pa_nil)) pe_int) pa_nil)) (nomark _)) (pw_or (pt_cmpR op_notBl (pe_callD G_is_sign (hm.mono (by decide)) (by rfl) (pa_cons pe_str pa_nil)) pe_bl (nomark _)) (pw_or1 (pt_cmpR op_notBl (pe_callD G_is_piece (hm.mono (by decide)) (by rfl) (pa_cons pe_str pa_nil)) pe_bl (nomark _)))))) (pss_one (ps_ret pe_bl)) pss_nil)
    (pss_cons (ps_par (i := 9) (j := 10) (by rfl) sc_law_texts_right.nd rfl rfl (by decide) rfl rfl (pa_cons (pe_callD G_pickS (hm.mono (by decide)) (by rfl) (pa_cons (pv 0) (pa_cons (pv 1) pa_nil))) (pa_cons (pe_callD G_law_letters (hm.mono (by decide)) (by rfl) (pa_cons (pv 0) (pa_cons (pv 1) (pa_cons pe_int pa_nil)))) pa_nil)) (by rfl))
    (pss_cons (ps_set (i := 7) sc_law_texts_right.nd rfl (Or.inl rfl) (pe_lstN (pa_cons (pe_callD G_is_sign (hm.mono (by decide)) (by rfl) (pa_cons (pv 9) pa_nil)) (pa_cons (pe_callD G_is_piece (hm.mono (by decide)) (by rfl) (pa_cons (pv 9) pa_nil)) (pa_cons (pe_callD G_is_text (hm.mono (by decide)) (by rfl) (pa_cons (pv 9) pa_nil)) (pa_cons (pe_callD G_is_piece (hm.mono (by decide)) (by rfl) (pa_cons (pv 10) pa_nil)) (pa_cons (pe_callD G_is_sign (hm.mono (by decide)) (by rfl) (pa_cons (pv 10) pa_nil)) (pa_cons (pe_callD G_is_piece (hm.mono (by decide)) (by rfl) (pa_cons (pe_op op_add_str (pv 10) (pv 9)) pa_nil)) pa_nil))))))))
    (pss_cons (ps_set (i := 7) sc_law_texts_right.nd rfl (Or.inl rfl) (pe_op op_catN (pv 7) (pe_lstN (pa_cons (pe_callD G_is_text (hm.mono (by decide)) (by rfl) (pa_cons (pe_op op_add_str (pv 10) (pv 9)) pa_nil)) (pa_cons (pe_callD G_is_sign (hm.mono (by decide)) (by rfl) (pa_cons (pv 5) pa_nil)) (pa_cons (pe_callD G_is_piece (hm.mono (by decide)) (by rfl) (pa_cons (pe_op op_add_str (pe_slice sl_str (pv 10) po_none (po_some pe_int)) (pv 5)) pa_nil)) (pa_cons (pe_callD G_is_piece (hm.mono (by decide)) (by rfl) (pa_cons (pv 5) pa_nil)) (pa_cons (pe_callD G_is_text (hm.mono (by decide)) (by rfl) (pa_cons pe_str pa_nil)) pa_nil))))))))
    (pss_one (ps_ret (pe_cmpR op_eq (pe_callB (call_repr hm) (by rfl) T.b_repr (by decide +kernel) (pa_cons (pv 7) pa_nil)) (pe_callB (call_repr hm) (by rfl) T.b_repr (by decide +kernel) (pa_cons (pe_lstN (pa_cons pe_bl (pa_cons pe_bl (pa_cons pe_bl (pa_cons pe_bl (pa_cons pe_bl (pa_cons pe_bl (pa_cons pe_bl (pa_cons pe_bl (pa_cons pe_bl (pa_cons pe_bl (pa_cons pe_bl pa_nil)))))))))))) pa_nil)) (nomark _))))))))))))))))), ?_⟩
    refine seq_cut fun k1 e1 => ?_
    walk_at "rd"
    subst e1
    refine seq_cut fun k1 e1 => ?_
    walk_at "rd"
    refine ⟨a, 2, rfl, by decide, hd, fun r r0 r1 => ?_⟩
    walk_at "rt"
    suffices cont : ∀ m : Int, 0 ≤ m → m ≤ 40 → k1 [some (V.ref a), some (V.str (Str.ofString "abcdefghijklmnopqrstuvwxyz")), some (.int m), none, none, none, none, none, none, none, none] H by
      refine ⟨rfl, ite2 (fun _ => ⟨a, 41, rfl, by decide, hd, fun m m0 m1 => cont m m0 (by omega)⟩) (fun _ => ⟨a, 8, rfl, by decide, hd, fun m m0 m1 => cont m m0 (by omega)⟩)⟩
    clear r r0 r1
    intro m m0 m1
    subst e1
    refine seq_cut fun k1 e1 => ?_
    walk_at "rd"
    refine ⟨a, _, m, rfl, hd, by decide +kernel, by omega, fun z H1 sm_H1 zl zc => ?_⟩
    refine ⟨a, m + 1, rfl, by omega, sm_H1 _ _ hd, fun at0 at1 at2 => ?_⟩
    walk_at "rt"
    have hd1 := sm_H1 _ _ hd
    have zlow : ∀ c ∈ z.cps.toList, low c = true := fun c hc => List.all_eq_true.mp (show (Str.ofString "abcdefghijklmnopqrstuvwxyz").cps.toList.all low = true by decide +kernel) c (zc c hc)
    have zsz : z.length ≤ sizeLine := Nat.le_trans (show z.length ≤ 100 by omega) (by decide)
    subst e1
    refine seq_cut fun k1 e1 => ?_
    walk_at "rd"
    refine ⟨a, _, rfl, hd1, by decide +kernel, fun c hc => ?_⟩
    have cbad : low c = false := by
      have := List.all_eq_true.mp (show (Str.ofString "ABCDEFGHIJKLMNOPQRSTUVWXYZ0123456789 !#$&()*+,-./:;<=>?\x40[]^_{|}~`'\"\\\n").cps.toList.all (fun c => !low c) = true by decide +kernel) c hc
      simpa using this
    walk_at "rt"
    subst e1
    refine seq_cut fun k1 e1 => ?_
    walk_at "rd"
    have big : (1000 : Nat) ≤ sizeLine := by decide
    have c1 := cutS_le z none (some at0)
    have one : ((⟨#[c]⟩ : Str)).length = 1 := rfl
    refine ⟨zsz, by omega, a, 2, rfl, by decide, hd1, fun r r0 r1 => ?_⟩
    have c2 := cutS_le z (some (at0 + r)) none
    walk_at "rt"
    refine ⟨zsz, by rw [app_len]; omega, ?_⟩
    have bad : ∃ b : Str, cutS z none (some at0) ++ ⟨#[c]⟩ ++ cutS z (some (at0 + r)) none = b ∧ c ∈ b.cps.toList ∧ b.length ≤ 1000 := by
      refine ⟨_, rfl, ?_, ?_⟩
      · rw [app_list, app_list]
        simp
      · rw [app_len, app_len]
        omega
    obtain ⟨b, eb, bc, bl⟩ := bad
    rw [eb]
    clear eb c1 c2 r0 r1
    have bsz : b.length ≤ sizeLine := Nat.le_trans bl big
    have tb := isText_bad bc cbad
    have tz := isText_low zlow (by omega)
    subst e1
    refine seq_cut fun k1 e1 => ?_
    walk_at "rd"
    refine ⟨⟨_, .str zsz⟩, ⟨_, .str zsz⟩, ⟨_, .str zsz⟩, ⟨_, .str bsz⟩, ⟨_, .str bsz⟩, ⟨_, .str bsz⟩, ?_⟩
    rw [tb, isPiece_bad tb, isSign_bad tb, isPiece_str, isSign_str, tz, Bool.true_and, Bool.true_and]
    walk_at "side"
    intro p2 H2 hp2 sm_H2 at_p2
    subst e1
    refine seq_cut fun k1 e1 => ?_
    walk_at "rd"
    refine ⟨_, dp_bools (bs := [_, _, _, _, _, _]) at_p2, sh_bools _ (by simp), ?_⟩
    have e3 : decide (z.length = 1) = decide (m = 1) := by
      rw [decide_eq_decide]
      omega
    suffices cont : ∀ H3, Same H2 H3 → k1 [some (V.ref a), some (V.str (Str.ofString "abcdefghijklmnopqrstuvwxyz")), some (V.int m), some (V.str z), some (V.int at0), some (V.str { cps := #[c] }), some (V.str b), some (V.ref p2), none, none, none] H3 by
      refine ite2 (fun h1 => ?_) (fun h1 => ?_)
      · refine ⟨rfl, by decide, ?_⟩
        intro p3 H3 hp3 sm_H3 at_p3
        have e2 : decide (1 ≤ z.length ∧ z.length ≤ 5) = decide (m ≤ 5) := by
          rw [decide_eq_decide]
          omega
        refine ⟨_, dp_bools (bs := [_, _, _, _, _, _]) at_p3, sh_bools _ (by simp), rfl, ?_⟩
        rw [shown_eq (by rw [e2, e3]), if_neg (by decide)]
        exact cont _ (by walk_at "up")
      · refine ⟨rfl, by decide, ?_⟩
        intro p3 H3 hp3 sm_H3 at_p3
        have e2 : decide (1 ≤ z.length ∧ z.length ≤ 5) = false := by
          refine decide_eq_false ?_
          omega
        refine ⟨_, dp_bools (bs := [_, _, _, _, _, _]) at_p3, sh_bools _ (by simp), rfl, ?_⟩
        rw [shown_eq (by rw [e2, e3]), if_neg (by decide)]
        exact cont _ (by walk_at "up")
    intro H3 sm_H3
    have hd3 : H3 a = some (Dice a) := by walk_at "up"
    subst e1
    refine seq_cut fun k1 e1 => ?_
    walk_at "rd"
    refine ⟨a, 25, rfl, by decide, hd3, fun sp sp0 sp1 => ?_⟩
    walk_at "rt"
    subst e1
    refine seq_cut fun k1 e1 => ?_
    walk_at "rd"
    have L26 : (Str.ofString "abcdefghijklmnopqrstuvwxyz").length = 26 := by decide +kernel
    have Lsz : (Str.ofString "abcdefghijklmnopqrstuvwxyz").length ≤ sizeLine := by decide +kernel
    have n1 : (cutS (Str.ofString "abcdefghijklmnopqrstuvwxyz") (some sp) (some (sp + 2))).length = 2 := by
      rw [cutS_len, L26, sIx_pos sp0, sIx_pos (by omega)]
      omega
    have n2 : 2 ≤ (cutS (Str.ofString "abcdefghijklmnopqrstuvwxyz") (some sp) none).length := by
      rw [cutS_len, L26, sIx_pos sp0, HT.sIx_none]
      omega
    have w1 := cutS_le (Str.ofString "abcdefghijklmnopqrstuvwxyz") (some sp) none
    have f1 : isSign (V.str (cutS (Str.ofString "abcdefghijklmnopqrstuvwxyz") (some sp) (some (sp + 2)))) = false := by
      rw [isSign_str, decide_eq_false (by omega), Bool.and_false]
    have f2 : isSign (V.str (Str.ofString "abcdefghijklmnopqrstuvwxyz")) = false := by
      rw [isSign_str, decide_eq_false (by omega), Bool.and_false]
    have f3 : isSign (V.str (cutS (Str.ofString "abcdefghijklmnopqrstuvwxyz") (some sp) none)) = false := by
      rw [isSign_str, decide_eq_false (by omega), Bool.and_false]
    have f4 : isText (V.str (Str.ofString "`")) = false := by decide +kernel
    have f5 : isText (V.str (Str.ofString "a{")) = false := by decide +kernel
    rw [f1, f2, f3, f4, f5]
    refine ⟨Lsz, ⟨_, .str (by omega)⟩, ⟨_, .str Lsz⟩, Lsz, ⟨_, .str (by omega)⟩, ⟨_, .str (by decide)⟩, ⟨_, .str (by decide)⟩, by decide, ?_⟩
    intro p4 H4 hp4 sm_H4 at_p4
    subst e1
    refine seq_cut fun k1 e1 => ?_
    walk_at "rd"
    refine ⟨_, dp_bools (bs := [_, _, _, _, _]) at_p4, sh_bools _ (by simp), by decide, ?_⟩
    intro p5 H5 hp5 sm_H5 at_p5
    refine ⟨p5, 5, _, rfl, rfl, at_p5, by decide, by decide, by decide, ?_⟩
    intro p6 H6 hp6 sm_H6 at_p6
    refine ⟨_, dp_bools (bs := [false, false, false, false, false]) at_p6, sh_bools _ (by simp), rfl, ?_⟩
    rw [shown_eq rfl, if_neg (by decide)]
    have f6 : isSign (V.str (Str.ofString "`")) = false := isSign_bad f4
    have f7 : isPiece (V.str (Str.ofString "z`")) = false := isPiece_bad (by decide +kernel)
    rw [f6, f7]
    refine ⟨⟨_, .str (by decide)⟩, ?_⟩
    rw [if_neg (by decide)]
    refine ⟨⟨_, .str (by decide)⟩, ?_⟩
    rw [if_neg (by decide)]
    have hd6 : H6 a = some (Dice a) := by walk_at "up"
    subst e1
    refine seq_cut fun k1 e1 => ?_
    walk_at "rd"
    refine ⟨a, _, rfl, hd6, ⟨by omega, by omega⟩, fun c3 hc3 => ?_⟩
    walk_at "rt"
    refine ⟨a, _, 5, rfl, hd6, ⟨by omega, by omega⟩, by decide, fun y H7 sm_H7 yl yc => ?_⟩
    walk_at "rt"
    have low26 : ∀ c ∈ (Str.ofString "abcdefghijklmnopqrstuvwxyz").cps.toList, low c = true := fun c hc => List.all_eq_true.mp (show (Str.ofString "abcdefghijklmnopqrstuvwxyz").cps.toList.all low = true by decide +kernel) c hc
    have slow : ∀ d ∈ (⟨#[c3]⟩ : Str).cps.toList, low d = true := fun d hd => by
      have e : d = c3 := by simpa using hd
      rw [e]
      exact low26 _ hc3
    have ylow : ∀ d ∈ y.cps.toList, low d = true := fun d hd => low26 _ (yc d hd)
    have one3 : ((⟨#[c3]⟩ : Str)).length = 1 := rfl
    have y5 : y.length = 5 := by omega
    have u1 := isText_low slow (by omega)
    have u2 := isText_low ylow (by omega)
    have s1 : ∀ x : Str, x.length ≤ 100 → x.length ≤ sizeLine := fun x h => by omega
    have u3 : isText (.str (y ++ ⟨#[c3]⟩)) = true := isText_low (fun d hd => by
      rw [app_list] at hd
      rcases List.mem_append.mp hd with h | h
      · exact ylow d h
      · exact slow d h) (by rw [app_len]; omega)
    have u4 : isText (.str ⟨#[c]⟩) = false := isText_bad (c := c) (by simp) cbad
    have u5 : isText (.str (cutS y none (some 4) ++ ⟨#[c]⟩)) = false := isText_bad (c := c) (by rw [app_list]; simp) cbad
    have u6 : isText (.str (Str.ofString "")) = true := by decide
    have c4 := cutS_le y none (some 4)
    subst e1
    refine seq_cut fun k1 e1 => ?_
    walk_at "rd"
    refine ⟨⟨_, .str (s1 _ (by omega))⟩, ⟨_, .str (s1 _ (by omega))⟩, ⟨_, .str (s1 _ (by omega))⟩, ⟨_, .str (s1 _ (by omega))⟩, ⟨_, .str (s1 _ (by omega))⟩, by omega, ⟨_, .str (s1 _ (by rw [app_len]; omega))⟩, by decide, ?_⟩
    intro p7 H8 hp7 sm_H8 at_p7
    subst e1
    refine seq_cut fun k1 e1 => ?_
    walk_at "rd"
    refine ⟨by omega, ⟨_, .str (s1 _ (by rw [app_len]; omega))⟩, ⟨_, .str (s1 _ (by omega))⟩, by omega, by omega, ⟨_, .str (s1 _ (by rw [app_len]; omega))⟩, ⟨_, .str (s1 _ (by omega))⟩, ⟨_, .str (by decide)⟩, by decide, ?_⟩
    intro p8 H9 hp8 sm_H9 at_p8
    refine ⟨p7, p8, _, _, rfl, rfl, by walk_at "up", at_p8, by simp only [List.length_cons, List.length_nil]; omega, ?_⟩
    intro p9 H10 hp9 sm_H10 at_p9
    walk_at "rt"
    subst e1
    walk_at "rd"
    have v1 : isSign (.str (⟨#[c3]⟩ : Str)) = true := by rw [isSign_str, u1, decide_eq_true one3]; rfl
    have v2 : isPiece (.str (⟨#[c3]⟩ : Str)) = true := by rw [isPiece_str, u1, decide_eq_true (by omega)]; rfl
    have v3 : isPiece (.str y) = true := by rw [isPiece_str, u2, decide_eq_true (by omega)]; rfl
    have v4 : isSign (.str y) = false := by rw [isSign_str, decide_eq_false (by omega), Bool.and_false]
    have v5 : isPiece (.str (y ++ ⟨#[c3]⟩)) = false := by rw [isPiece_str, decide_eq_false (by rw [app_len]; omega), Bool.and_false]
    rw [v1, v2, u1, v3, v4, v5, u3, isSign_bad u4, isPiece_bad u5, isPiece_bad u4, u6] at at_p9
    refine ⟨_, dp_bools (bs := [true, true, true, true, false, false, true, false, false, false, true]) at_p9, sh_bools _ (by simp), by decide, ?_⟩
    intro p10 H11 hp10 sm_H11 at_p10
    refine ⟨_, dp_bools (bs := [true, true, true, true, false, false, true, false, false, false, true]) at_p10, sh_bools _ (by simp), rfl, ?_⟩
    rw [shown_eq rfl]
    exact q _ (by walk_at "up")
end
end K01

namespace K01
open PySem PySem.Spec PyProof.Rows L2 Gd
local macro_rules | `(tactic| walk_at "rd") => `(tactic| simp only [tSeq, tPar, tNext, tIfS, tOr, tAnd, tNot, tB, tCB, tCons, tNil, tVar, tC, tRet, tRetN, tAsg, tDrop, gName, gSub, tOp, tUn, tTest, tOrV, tAndV, tNotV, tIf, tBM0, L2.tM1, L2.tM0, tChain, tCall, spKind, rIxL, tLst, tTup, tLstN, tTupN, tDNewN, tSl, tPart, tNoPart, rSlS, rIsB, rNotB, L2.start, L2.rEq, L2.rNe, L2.rI, L2.rI0, L2.rU, cx_K, cx_Kn,
  List.map_cons, List.map_nil, List.length_cons, List.length_nil, List.replicate_succ, List.replicate_zero, List.cons_append, List.nil_append, Nat.reduceAdd, Nat.reduceSub, Nat.zero_add, Nat.sub_self, Nat.reduceSubDiff, Nat.add_sub_cancel,
  List.getElem?_cons_zero, List.getElem?_cons_succ, List.set_cons_zero, List.set_cons_succ, Option.some.injEq, List.cons.injEq, V.bl.injEq, V.int.injEq, V.str.injEq, V.ref.injEq, V.ty.injEq, exists_eq_left, exists_eq_left', exists_eq_right, and_true, true_and, and_assoc, exists_and_left, exists_and_right, if_true, if_false, reduceIte, Bool.not_true, Bool.not_false, Bool.false_eq_true, decide_eq_true_eq, Bool.not_eq_true', Gd.len_str, Gd.tyV_str, reduceCtorEq])
local macro_rules | `(tactic| walk_at "rt") => `(tactic| try (walk_at "rd"))
local macro_rules | `(tactic| walk_at "side") => `(tactic| repeat (refine ⟨by (first | decide | decide +kernel | exact .inl ⟨by decide, by decide⟩ | exact .inr ⟨by decide, by decide⟩), ?_⟩))
local macro_rules | `(tactic| walk_at "up") => `(tactic| first | assumption | exact Same.refl _ | (refine same_at (by assumption) ?_; walk_at "up") | (refine same_go (by assumption) ?_; walk_at "up"))

section
variable {P : Program} {w : World} {K : PySem.W.Frag} {mg : Str → Option Value} {base : Heap}

abbrev s_law_lengths_right : Stmt := topS 15
theorem sc_law_lengths_right : FnScope ["dice", "word", "long", "at", "told", "value"] ["dice"] (defScope s_law_lengths_right) := ⟨rfl, rfl, rfl, by decide +kernel, rfl, by decide +kernel, by decide +kernel⟩

theorem ok_law_lengths_right {f : Addr} {fd : FuncData} (F : Fun K "_law_lengths_right" "_law_lengths_right" s_law_lengths_right f fd) (T : Tx mg) (G : Gs P w K mg base) : FnG P w K mg base CX0 4 f fd ["dice"] spRight := by
  obtain ⟨G_is_integer, G_is_text, G_is_sign, G_is_piece, G_law_roll, G_law_pick, G_pickS, G_law_letters⟩ := G
  refine okG F sc_law_lengths_right (fun vs H Q E h => ?_) (fun cdv A outer s H vs Q E hr hg h => ?_)
  · obtain ⟨a, rfl, _⟩ := h
    rfl
  · have hm : Rm _ (A.deeper _) := ⟨hr, hg⟩
    obtain ⟨a, rfl, hd, q⟩ := h
    refine ⟨_, (pss_cons (ps_set (i := 1) sc_law_lengths_right.nd rfl (Or.inl rfl) (pe_callD G_law_letters (hm.mono (by decide)) (by rfl) (pa_cons (pv 0) (pa_cons pe_str (pa_cons (pe_op op_add pe_int (pe_callD G_law_roll (hm.mono (by decide)) (by rfl) (pa_cons (pv 0) (pa_cons pe_int pa_nil)))) pa_nil)))))
    (pss_cons (ps_set (i := 2) sc_law_lengths_right.nd rfl (Or.inl rfl) (pe_slice sl_str (pe_op op_mulS (pv 1) pe_int) po_none (po_some pe_int)))
    (pss_cons (ps_set (i := 3) sc_law_lengths_right.nd rfl (Or.inl rfl) (pe_callD G_law_roll (hm.mono (by decide)) (by rfl) (pa_cons (pv 0) (pa_cons pe_int pa_nil))))
    (pss_cons (ps_set (i := 4) sc_law_lengths_right.nd rfl (Or.inl rfl) (pe_lstN (pa_cons (pe_callD G_is_text (hm.mono (by decide)) (by rfl) (pa_cons (pv 2) pa_nil)) (pa_cons (pe_callD G_is_text (hm.mono (by decide)) (by rfl) (pa_cons (pe_slice sl_str (pv 2) po_none (po_some pe_int)) pa_nil)) (pa_cons (pe_callD G_is_text (hm.mono (by decide)) (by rfl) (pa_cons (pe_op op_add_str (pe_op op_add_str (pe_slice sl_str (pv 2) po_none (po_some (pv 3))) pe_str) (pe_slice sl_str (pv 2) (po_some (pe_op op_add (pv 3) pe_int)) (po_some pe_int))) pa_nil)) (pa_cons (pe_callD G_is_piece (hm.mono (by decide)) (by rfl) (pa_cons (pv 2) pa_nil)) pa_nil))))))
    (pss_cons (ps_if (pt_cmpR op_ne (pe_callB (call_repr hm) (by rfl) T.b_repr (by decide +kernel) (pa_cons (pv 4) pa_nil)) (pe_callB (call_repr hm) (by rfl) T.b_repr (by decide +kernel) (pa_cons (pe_lstN (pa_cons pe_bl (pa_cons pe_bl (pa_cons pe_bl (pa_cons pe_bl pa_nil))))) pa_nil)) (nomark _)) (pss_one (ps_ret pe_bl)) pss_nil)
    (pss_cons (ps_set (i := 5) sc_law_lengths_right.nd rfl (Or.inl rfl) (pe_callD G_law_pick (hm.mono (by decide)) (by rfl) (pa_cons (pv 0) (pa_cons (pe_lstN (pa_cons pe_non (pa_cons pe_int (pa_cons pe_int (pa_cons pe_bl (pa_cons (pe_tupN pa_nil) (pa_cons (pe_tupN (pa_cons (pv 1) pa_nil)) (pa_cons (pe_lstN (pa_cons (pv 1) pa_nil)) (pa_cons pe_dnewN (pa_cons (pe_disp (pps_cons (pv 1) pe_int pps_nil) (by rfl) (by rfl) (fun z => by cases z) (by decide)) (pa_cons (pe_tupN (pa_cons pe_str pa_nil)) (pa_cons (pe_lstN (pa_cons pe_str pa_nil)) (pa_cons (pe_callTy (call_listStr rfl) (by rfl) T.b_list (by decide +kernel) (pa_cons (pv 1) pa_nil)) pa_nil))))))))))))) pa_nil))))
    (pss_cons (ps_set (i := 4) sc_law_lengths_right.nd rfl (Or.inl rfl) (pe_lstN (pa_cons (pe_callD G_is_text (hm.mono (by decide)) (by rfl) (pa_cons (pv 5) pa_nil)) (pa_cons (pe_callD G_is_piece (hm.mono (by decide)) (by rfl) (pa_cons (pv 5) pa_nil)) (pa_cons (pe_callD G_is_sign (hm.mono (by decide)) (by rfl) (pa_cons (pv 5) pa_nil)) (pa_cons (pe_callD G_is_text (hm.mono (by decide)) (by rfl) (pa_cons (pv 1) pa_nil)) (pa_cons (pe_callD G_is_piece (hm.mono (by decide)) (by rfl) (pa_cons (pv 1) pa_nil)) pa_nil)))))))
    (pss_one (ps_ret (pe_cmpR op_eq (pe_callB (call_repr hm) (by rfl) T.b_repr (by decide +kernel) (pa_cons (pv 4) pa_nil)) (pe_callB (call_repr hm) (by rfl) T.b_repr (by decide +kernel) (pa_cons (pe_lstN (pa_cons pe_bl (pa_cons pe_bl (pa_cons pe_bl (pa_cons pe_bl (pa_cons (pe_cmpR op_lt (pe_callB call_len (by rfl) T.b_len (by decide +kernel) (pa_cons (pv 1) pa_nil)) pe_int (nomark _)) pa_nil)))))) pa_nil)) (nomark _))))))))))), ?_⟩
    refine seq_cut fun k1 e1 => ?_
    walk_at "rd"
    refine ⟨a, 9, rfl, by decide, hd, fun m0 m1 m2 => ?_⟩
    walk_at "rt"
    refine ⟨a, _, _, rfl, hd, by decide +kernel, by omega, fun z H1 sm_H1 zl zc => ?_⟩
    have low26 : ∀ c ∈ (Str.ofString "abcdefghijklmnopqrstuvwxyz").cps.toList, low c = true := fun c hc => List.all_eq_true.mp (show (Str.ofString "abcdefghijklmnopqrstuvwxyz").cps.toList.all low = true by decide +kernel) c hc
    have zlow : ∀ c ∈ z.cps.toList, low c = true := fun c hc => low26 c (zc c hc)
    have z1 : 1 ≤ z.length := by omega
    have z9 : z.length ≤ 9 := by omega
    subst e1
    refine seq_cut fun k1 e1 => ?_
    walk_at "rd"
    have big : (100000 : Nat) ≤ sizeLine := by decide
    have ml : (Txt.mul z 8001).length = 8001 * z.length := mul_len (n := 8001) (by decide) (by omega)
    have ll : (cutS (Txt.mul z 8001) none (some 8001)).length = 8001 := by
      rw [cutS_len, HT.sIx_none, sIx_pos (by decide), ml]
      omega
    have llow : ∀ c ∈ (cutS (Txt.mul z 8001) none (some 8001)).cps.toList, low c = true := fun c hc => zlow c (mul_mem (n := 8001) (by decide) (by omega) (cutS_mem hc))
    refine ⟨mulOk (n := 8001) (by decide) (by decide) (by omega), by omega, ?_⟩
    clear ml
    generalize cutS (Txt.mul z 8001) none (some 8001) = g at ll llow ⊢
    have hd1 := sm_H1 _ _ hd
    subst e1
    refine seq_cut fun k1 e1 => ?_
    walk_at "rd"
    refine ⟨a, 8000, rfl, by decide, hd1, fun at0 at1 at2 => ?_⟩
    walk_at "rt"
    subst e1
    refine seq_cut fun k1 e1 => ?_
    walk_at "rd"
    have la : (Str.ofString "A").length = 1 := by decide
    have c1 := cutS_le g none (some at0)
    have c2 := cutS_le g (some (at0 + 1)) (some 8000)
    have c3 : (cutS g none (some 8000)).length = 8000 := by
      rw [cutS_len, HT.sIx_none, sIx_pos (by decide), ll]
      omega
    have t1 : isText (V.str g) = false := by
      rw [isText_str, decide_eq_false (by omega), Bool.false_and]
    have t2 : isText (V.str (cutS g none (some 8000))) = true := isText_low (fun c hc => llow c (cutS_mem hc)) (by omega)
    have t3 : isText (V.str (cutS g none (some at0) ++ Str.ofString "A" ++ cutS g (some (at0 + 1)) (some 8000))) = false := isText_bad (c := 65) (by
      rw [app_list, app_list]
      refine List.mem_append_left _ (List.mem_append_right _ ?_)
      decide) (by decide)
    rw [t1, t2, t3, isPiece_bad t1]
    refine ⟨⟨_, .str (by omega)⟩, by omega, ⟨_, .str (by omega)⟩, by omega, by omega, by omega, by rw [app_len]; omega, ⟨_, .str (by rw [app_len, app_len]; omega)⟩, ⟨_, .str (by omega)⟩, by decide, ?_⟩
    intro p2 H2 hp2 sm_H2 at_p2
    subst e1
    refine seq_cut fun k1 e1 => ?_
    walk_at "rd"
    refine ⟨_, dp_bools (bs := [false, true, false, false]) at_p2, sh_bools _ (by simp), by decide, ?_⟩
    intro p3 H3 hp3 sm_H3 at_p3
    refine ⟨_, dp_bools (bs := [false, true, false, false]) at_p3, sh_bools _ (by simp), rfl, ?_⟩
    rw [shown_eq rfl, if_neg (by decide)]
    have hd3 : H3 a = some (Dice a) := by walk_at "up"
    subst e1
    refine seq_cut fun k1 e1 => ?_
    walk_at "rd"
    walk_at "side"
    intro p4 H4 hp4 sm_H4 at_p4
    walk_at "side"
    intro p5 H5 hp5 sm_H5 at_p5
    walk_at "side"
    intro p6 H6 hp6 sm_H6 at_p6
    intro p7 H7 hp7 sm_H7 at_p7
    intro p8 hp8
    refine ⟨_, rfl, upd_same, [(Sum.inr z, .int 1)], rfl, by simp, ?_⟩
    rw [upd_upd]
    have sm_H8 := same_new (o := .dK (mergeK [] [(Sum.inr z, V.int 1)])) hp8
    have at_p8 : (upd H7 p8 (.dK (mergeK [] [(Sum.inr z, V.int 1)]))) p8 = _ := upd_same
    generalize upd H7 p8 (.dK (mergeK [] [(Sum.inr z, V.int 1)])) = H8 at sm_H8 at_p8 ⊢
    walk_at "side"
    intro p9 H9 hp9 sm_H9 at_p9
    walk_at "side"
    intro p10 H10 hp10 sm_H10 at_p10
    refine ⟨z, rfl, by omega, ?_⟩
    intro p11 H11 hp11 sm_H11 at_p11
    walk_at "side"
    intro p12 H12 hp12 sm_H12 at_p12
    refine ⟨a, p12, _, rfl, by walk_at "up", sq_lst at_p12, ⟨by simp, by simp⟩, fun x hx => ?_⟩
    have odd : (∃ T, Kd H12 x T) ∧ isText x = false ∧ isPiece x = false ∧ isSign x = false := by
      simp only [List.mem_cons, List.not_mem_nil, or_false] at hx
      rcases hx with rfl | rfl | rfl | rfl | rfl | rfl | rfl | rfl | rfl | rfl | rfl | rfl
      · exact ⟨⟨_, .non⟩, rfl, rfl, rfl⟩
      · exact ⟨⟨_, .int _⟩, rfl, rfl, rfl⟩
      · exact ⟨⟨_, .int _⟩, rfl, rfl, rfl⟩
      · exact ⟨⟨_, .bl _⟩, rfl, rfl, rfl⟩
      · exact ⟨⟨_, .tup (by walk_at "up")⟩, rfl, rfl, rfl⟩
      · exact ⟨⟨_, .tup (by walk_at "up")⟩, rfl, rfl, rfl⟩
      · exact ⟨⟨_, .lst (by walk_at "up")⟩, rfl, rfl, rfl⟩
      · exact ⟨⟨_, .dic (by walk_at "up")⟩, rfl, rfl, rfl⟩
      · exact ⟨⟨_, .dic (by walk_at "up")⟩, rfl, rfl, rfl⟩
      · exact ⟨⟨_, .tup (by walk_at "up")⟩, rfl, rfl, rfl⟩
      · exact ⟨⟨_, .lst (by walk_at "up")⟩, rfl, rfl, rfl⟩
      · exact ⟨⟨_, .lst (by walk_at "up")⟩, rfl, rfl, rfl⟩
    obtain ⟨⟨T1, kd⟩, o1, o2, o3⟩ := odd
    clear hx
    have zt := isText_low zlow (by omega)
    subst e1
    refine seq_cut fun k1 e1 => ?_
    walk_at "rd"
    rw [o1, o2, o3, zt, isPiece_str, zt, Bool.true_and]
    refine ⟨⟨_, kd⟩, ⟨_, kd⟩, ⟨_, kd⟩, ⟨_, .str (by omega)⟩, ⟨_, .str (by omega)⟩, by decide, ?_⟩
    intro p13 H13 hp13 sm_H13 at_p13
    subst e1
    walk_at "rd"
    have e6 : decide (1 ≤ z.length ∧ z.length ≤ 5) = decide ((z.length : Int) < 6) := by
      rw [decide_eq_decide]
      omega
    rw [e6] at at_p13
    refine ⟨_, dp_bools (bs := [_, _, _, _, _]) at_p13, sh_bools _ (by simp), by omega, by decide, ?_⟩
    intro p14 H14 hp14 sm_H14 at_p14
    refine ⟨_, dp_bools (bs := [_, _, _, _, _]) at_p14, sh_bools _ (by simp), rfl, ?_⟩
    rw [shown_eq rfl]
    exact q _ (by walk_at "up")
end
end K01

namespace K01
open PySem PySem.Spec PyProof.Rows L2 Gd
local macro_rules | `(tactic| walk_at "rd") => `(tactic| simp only [tSeq, tPar, tNext, tIfS, tOr, tAnd, tNot, tB, tCB, tCons, tNil, tVar, tC, tRet, tRetN, tAsg, tDrop, gName, gSub, tOp, tUn, tTest, tOrV, tAndV, tNotV, tIf, tBM0, L2.tM1, L2.tM0, tChain, tCall, spKind, rIxL, tLst, tTup, tLstN, tTupN, tDNewN, tSl, tPart, tNoPart, rSlS, rIsB, rNotB, L2.start, L2.rEq, L2.rNe, L2.rI, L2.rI0, L2.rU, cx_K, cx_Kn,
  List.map_cons, List.map_nil, List.length_cons, List.length_nil, List.replicate_succ, List.replicate_zero, List.cons_append, List.nil_append, Nat.reduceAdd, Nat.reduceSub, Nat.zero_add, Nat.sub_self, Nat.reduceSubDiff, Nat.add_sub_cancel,
  List.getElem?_cons_zero, List.getElem?_cons_succ, List.set_cons_zero, List.set_cons_succ, Option.some.injEq, List.cons.injEq, V.bl.injEq, V.int.injEq, V.str.injEq, V.ref.injEq, V.ty.injEq, exists_eq_left, exists_eq_left', exists_eq_right, and_true, true_and, and_assoc, exists_and_left, exists_and_right, if_true, if_false, reduceIte, Bool.not_true, Bool.not_false, Bool.false_eq_true, decide_eq_true_eq, Bool.not_eq_true', Gd.len_str, Gd.tyV_str, reduceCtorEq])
local macro_rules | `(tactic| walk_at "rt") => `(tactic| try (walk_at "rd"))
local macro_rules | `(tactic| walk_at "side") => `(tactic| repeat (refine ⟨by (first | decide | decide +kernel | exact .inl ⟨by decide, by decide⟩ | exact .inr ⟨by decide, by decide⟩), ?_⟩))
local macro_rules | `(tactic| walk_at "up") => `(tactic| first | assumption | exact Same.refl _ | (refine same_at (by assumption) ?_; walk_at "up") | (refine same_go (by assumption) ?_; walk_at "up"))

def spLaw (K : PySem.W.Frag) : Sp := fun vs H Q _ => ∃ (a : Addr) (ns : List Int), vs = [.ref a] ∧ SqL K H a (ns.map V.int) ∧ ns.length ≤ 63 ∧ ∀ H', Q (.bl true) H'
section
variable {P : Program} {w : World} {K : PySem.W.Frag} {mg : Str → Option Value} {base : Heap}
abbrev s_law : Stmt := topS 16
theorem sc_law : FnScope ["script", "spot", "dice", "turn"] ["script"] (defScope s_law) := ⟨rfl, rfl, rfl, by decide +kernel, rfl, by decide +kernel, by decide +kernel⟩

theorem ok_law {f : Addr} {fd : FuncData} (F : Fun K "law" "law" s_law f fd) (T : Tx mg) (G_law_dice : Df P w K mg base 1 "_law_dice" ["script", "spot"] (spDice K)) (G_law_integers_right : Df P w K mg base 4 "_law_integers_right" ["dice"] spRight) (G_law_texts_right : Df P w K mg base 4 "_law_texts_right" ["dice"] spRight) (G_law_lengths_right : Df P w K mg base 4 "_law_lengths_right" ["dice"] spRight) : FnG P w K mg base CX0 5 f fd ["script"] (spLaw K) := by
  refine okG F sc_law (fun vs H Q E h => ?_) (fun cdv A outer s H vs Q E hr hg h => ?_)
  · obtain ⟨a, ns, rfl, _⟩ := h
    rfl
  · have hm : Rm _ (A.deeper _) := ⟨hr, hg⟩
    obtain ⟨a, ns, rfl, hS, many, q⟩ := h
    refine ⟨_, (pss_cons (ps_for PassesOwn.never rfl (pi_range1 rfl T.b_range (pa_cons (pe_callB (call_max2 rfl) (by rfl) T.b_max (by decide +kernel) (pa_cons pe_int (pa_cons (pe_callB (call_min2 rfl) (by rfl) T.b_min (by decide +kernel) (pa_cons pe_int (pa_cons (pe_callB call_len (by rfl) T.b_len (by decide +kernel) (pa_cons (pv 0) pa_nil)) pa_nil))) pa_nil))) pa_nil)) (pg_name (i := 1) sc_law.nd rfl (Or.inl rfl)) (pss_cons (ps_set (i := 2) sc_law.nd rfl (Or.inl rfl) (pe_callD G_law_dice (hm.mono (by decide)) (by rfl) (pa_cons (pv 0) (pa_cons (pv 1) pa_nil))))
    (pss_cons (ps_for PassesOwn.never rfl (pi_range1 rfl T.b_range (pa_cons pe_int pa_nil)) (pg_name (i := 3) sc_law.nd rfl (Or.inl rfl)) (pss_one (ps_if (PW.pt (pw_or (pt_not (pt_val (pe_callD G_law_integers_right (hm.mono (by decide)) (by rfl) (pa_cons (pv 2) pa_nil)))) (pw_or1 (pt_not (pt_val (pe_callD G_law_texts_right (hm.mono (by decide)) (by rfl) (pa_cons (pv 2) pa_nil))))))) (pss_one (ps_ret pe_bl)) pss_nil)))
    (pss_one (ps_if (pt_not (pt_val (pe_callD G_law_lengths_right (hm.mono (by decide)) (by rfl) (pa_cons (pv 2) pa_nil)))) (pss_one (ps_ret pe_bl)) pss_nil)))))
    (pss_one (ps_ret pe_bl))), ?_⟩
    refine seq_cut fun k1 e1 => ?_
    have n1 : (if (if (ns.length : Int) < 8 then (ns.length : Int) else 8) > 1 then (if (ns.length : Int) < 8 then (ns.length : Int) else 8) else 1) ≤ 8 := by
      split <;> split <;> omega
    have n0 : 0 ≤ (if (if (ns.length : Int) < 8 then (ns.length : Int) else 8) > 1 then (if (ns.length : Int) < 8 then (ns.length : Int) else 8) else 1) := by
      split <;> split <;> omega
    refine ⟨_, rfl, .ref a, ns.length, rfl, .inl ⟨_, hS, by rw [List.length_map]⟩, 8, (ns.length : Int), rfl, 1, _, rfl, _, rfl, by omega, by omega, ?_⟩
    generalize (if (if (ns.length : Int) < 8 then (ns.length : Int) else 8) > 1 then (if (ns.length : Int) < 8 then (ns.length : Int) else 8) else 1) = n at n0 n1 ⊢
    refine for_range (fun i σ H' => (∃ x y z, σ = [some (.ref a), x, y, z]) ∧ Same H H') ⟨⟨_, _, _, rfl⟩, Same.refl _⟩ ?_ ?_
    · rintro i σ H1 hi ⟨⟨x, y, z, rfl⟩, sm_H1⟩
      walk_at "rd"
      refine ⟨a, ns, _, rfl, by omega, sm_H1.seq hS, many, fun p hp => ?_⟩
      have sm_H2 := same_new (o := Dice p) hp
      have dp : (upd H1 p (Dice p)) p = some (Dice p) := upd_same
      generalize upd H1 p (Dice p) = H2 at sm_H2 dp ⊢
      refine ⟨2, rfl, by decide, by decide, for_range (fun j σ H' => (∃ u, σ = [some (.ref a), some (.int (0 + ↑i)), some (.ref p), u]) ∧ Same H2 H') ⟨⟨_, rfl⟩, Same.refl _⟩ ?_ ?_⟩
      · rintro j σ H3 hj ⟨⟨u, rfl⟩, sm_H3⟩
        walk_at "rd"
        refine ⟨p, rfl, sm_H3 _ _ dp, fun H4 sm_H4 => ⟨true, rfl, ?_⟩⟩
        rw [if_neg (by decide)]
        refine ⟨p, rfl, by walk_at "up", fun H5 sm_H5 => ⟨true, rfl, ?_⟩⟩
        rw [if_neg (by decide)]
        exact ⟨by simp, by walk_at "up"⟩
      · rintro σ H3 ⟨⟨u, rfl⟩, sm_H3⟩
        walk_at "rd"
        refine ⟨p, rfl, sm_H3 _ _ dp, fun H4 sm_H4 => ⟨true, rfl, ?_⟩⟩
        rw [if_neg (by decide)]
        exact ⟨by simp, by walk_at "up"⟩
    · rintro σ H1 ⟨⟨x, y, z, rfl⟩, sm_H1⟩
      subst e1
      walk_at "rd"
      exact q _
end
end K01

namespace K01
open PySem PySem.Spec PyProof.Rows L2 Gd
theorem all_mk {l : PySem.W.OpenLaw} {w : World} {K : PySem.W.Frag} {h : Heap} {mg : Str → Option Value} {fa : Addr} (X : K.In h) (G : h.Ns mainGlobals mg) (hfa : mg "law" = some (.ref fa))
    {f_is_integer f_is_sign f_is_text f_is_piece f_law_dice f_law_roll f_law_pick f_law_letters f_law_integers_right f_law_texts_right f_law_lengths_right f_law : Addr} {od_is_integer an_is_integer od_is_sign an_is_sign od_is_text an_is_text od_is_piece an_is_piece od_law_dice an_law_dice od_law_roll an_law_roll od_law_pick an_law_pick od_law_letters an_law_letters od_law_integers_right an_law_integers_right od_law_texts_right an_law_texts_right od_law_lengths_right an_law_lengths_right od_law an_law : Option Addr} {sl_is_integer sl_is_sign sl_is_text sl_is_piece sl_law_dice sl_law_roll sl_law_pick sl_law_letters sl_law_integers_right sl_law_texts_right sl_law_lengths_right sl_law : Array (Option Value)} {oc_is_integer kV_is_integer dc_is_integer pm_is_integer cd_is_integer ct_is_integer oc_is_sign kV_is_sign dc_is_sign pm_is_sign cd_is_sign ct_is_sign oc_is_text kV_is_text dc_is_text pm_is_text cd_is_text ct_is_text oc_is_piece kV_is_piece dc_is_piece pm_is_piece cd_is_piece ct_is_piece oc_law_dice kV_law_dice dc_law_dice pm_law_dice cd_law_dice ct_law_dice oc_law_roll kV_law_roll dc_law_roll pm_law_roll cd_law_roll ct_law_roll oc_law_pick kV_law_pick dc_law_pick pm_law_pick cd_law_pick ct_law_pick oc_law_letters kV_law_letters dc_law_letters pm_law_letters cd_law_letters ct_law_letters oc_law_integers_right kV_law_integers_right dc_law_integers_right pm_law_integers_right cd_law_integers_right ct_law_integers_right oc_law_texts_right kV_law_texts_right dc_law_texts_right pm_law_texts_right cd_law_texts_right ct_law_texts_right oc_law_lengths_right kV_law_lengths_right dc_law_lengths_right pm_law_lengths_right cd_law_lengths_right ct_law_lengths_right oc_law kV_law dc_law pm_law cd_law ct_law : Value} {t_MAX_SIGNS t_MAX_LENGTH t_TOO_GREAT : Tok}
    (a_is_integer : PySem.W.nsIn K mainGlobals "is_integer" = some (some (.ref f_is_integer)))
    (l_is_integer : K.lookup f_is_integer = some ⟨oc_is_integer, od_is_integer, .func (PySem.W.fnOf "is_integer" "is_integer" (defArgs s_is_integer) (defBody s_is_integer) (defScope s_is_integer) .none kV_is_integer dc_is_integer pm_is_integer an_is_integer cd_is_integer ct_is_integer), sl_is_integer⟩)
    (c_is_integer : PySem.W.codeIn K cd_is_integer "is_integer" = true) (k_is_integer : PySem.W.keepIn K (.ref f_is_integer) = true)
    (a_is_sign : PySem.W.nsIn K mainGlobals "is_sign" = some (some (.ref f_is_sign)))
    (l_is_sign : K.lookup f_is_sign = some ⟨oc_is_sign, od_is_sign, .func (PySem.W.fnOf "is_sign" "is_sign" (defArgs s_is_sign) (defBody s_is_sign) (defScope s_is_sign) .none kV_is_sign dc_is_sign pm_is_sign an_is_sign cd_is_sign ct_is_sign), sl_is_sign⟩)
    (c_is_sign : PySem.W.codeIn K cd_is_sign "is_sign" = true) (k_is_sign : PySem.W.keepIn K (.ref f_is_sign) = true)
    (a_is_text : PySem.W.nsIn K mainGlobals "is_text" = some (some (.ref f_is_text)))
    (l_is_text : K.lookup f_is_text = some ⟨oc_is_text, od_is_text, .func (PySem.W.fnOf "is_text" "is_text" (defArgs s_is_text) (defBody s_is_text) (defScope s_is_text) .none kV_is_text dc_is_text pm_is_text an_is_text cd_is_text ct_is_text), sl_is_text⟩)
    (c_is_text : PySem.W.codeIn K cd_is_text "is_text" = true) (k_is_text : PySem.W.keepIn K (.ref f_is_text) = true)
    (a_is_piece : PySem.W.nsIn K mainGlobals "is_piece" = some (some (.ref f_is_piece)))
    (l_is_piece : K.lookup f_is_piece = some ⟨oc_is_piece, od_is_piece, .func (PySem.W.fnOf "is_piece" "is_piece" (defArgs s_is_piece) (defBody s_is_piece) (defScope s_is_piece) .none kV_is_piece dc_is_piece pm_is_piece an_is_piece cd_is_piece ct_is_piece), sl_is_piece⟩)
    (c_is_piece : PySem.W.codeIn K cd_is_piece "is_piece" = true) (k_is_piece : PySem.W.keepIn K (.ref f_is_piece) = true)
    (a_law_dice : PySem.W.nsIn K mainGlobals "_law_dice" = some (some (.ref f_law_dice)))
    (l_law_dice : K.lookup f_law_dice = some ⟨oc_law_dice, od_law_dice, .func (PySem.W.fnOf "_law_dice" "_law_dice" (defArgs s_law_dice) (defBody s_law_dice) (defScope s_law_dice) .none kV_law_dice dc_law_dice pm_law_dice an_law_dice cd_law_dice ct_law_dice), sl_law_dice⟩)
    (c_law_dice : PySem.W.codeIn K cd_law_dice "_law_dice" = true) (k_law_dice : PySem.W.keepIn K (.ref f_law_dice) = true)
    (a_law_roll : PySem.W.nsIn K mainGlobals "_law_roll" = some (some (.ref f_law_roll)))
    (l_law_roll : K.lookup f_law_roll = some ⟨oc_law_roll, od_law_roll, .func (PySem.W.fnOf "_law_roll" "_law_roll" (defArgs s_law_roll) (defBody s_law_roll) (defScope s_law_roll) .none kV_law_roll dc_law_roll pm_law_roll an_law_roll cd_law_roll ct_law_roll), sl_law_roll⟩)
    (c_law_roll : PySem.W.codeIn K cd_law_roll "_law_roll" = true) (k_law_roll : PySem.W.keepIn K (.ref f_law_roll) = true)
    (a_law_pick : PySem.W.nsIn K mainGlobals "_law_pick" = some (some (.ref f_law_pick)))
    (l_law_pick : K.lookup f_law_pick = some ⟨oc_law_pick, od_law_pick, .func (PySem.W.fnOf "_law_pick" "_law_pick" (defArgs s_law_pick) (defBody s_law_pick) (defScope s_law_pick) .none kV_law_pick dc_law_pick pm_law_pick an_law_pick cd_law_pick ct_law_pick), sl_law_pick⟩)
    (c_law_pick : PySem.W.codeIn K cd_law_pick "_law_pick" = true) (k_law_pick : PySem.W.keepIn K (.ref f_law_pick) = true)
    (a_law_letters : PySem.W.nsIn K mainGlobals "_law_letters" = some (some (.ref f_law_letters)))
    (l_law_letters : K.lookup f_law_letters = some ⟨oc_law_letters, od_law_letters, .func (PySem.W.fnOf "_law_letters" "_law_letters" (defArgs s_law_letters) (defBody s_law_letters) (defScope s_law_letters) .none kV_law_letters dc_law_letters pm_law_letters an_law_letters cd_law_letters ct_law_letters), sl_law_letters⟩)
    (c_law_letters : PySem.W.codeIn K cd_law_letters "_law_letters" = true) (k_law_letters : PySem.W.keepIn K (.ref f_law_letters) = true)
    (a_law_integers_right : PySem.W.nsIn K mainGlobals "_law_integers_right" = some (some (.ref f_law_integers_right)))
    (l_law_integers_right : K.lookup f_law_integers_right = some ⟨oc_law_integers_right, od_law_integers_right, .func (PySem.W.fnOf "_law_integers_right" "_law_integers_right" (defArgs s_law_integers_right) (defBody s_law_integers_right) (defScope s_law_integers_right) .none kV_law_integers_right dc_law_integers_right pm_law_integers_right an_law_integers_right cd_law_integers_right ct_law_integers_right), sl_law_integers_right⟩)
    (c_law_integers_right : PySem.W.codeIn K cd_law_integers_right "_law_integers_right" = true) (k_law_integers_right : PySem.W.keepIn K (.ref f_law_integers_right) = true)
    (a_law_texts_right : PySem.W.nsIn K mainGlobals "_law_texts_right" = some (some (.ref f_law_texts_right)))
    (l_law_texts_right : K.lookup f_law_texts_right = some ⟨oc_law_texts_right, od_law_texts_right, .func (PySem.W.fnOf "_law_texts_right" "_law_texts_right" (defArgs s_law_texts_right) (defBody s_law_texts_right) (defScope s_law_texts_right) .none kV_law_texts_right dc_law_texts_right pm_law_texts_right an_law_texts_right cd_law_texts_right ct_law_texts_right), sl_law_texts_right⟩)
    (c_law_texts_right : PySem.W.codeIn K cd_law_texts_right "_law_texts_right" = true) (k_law_texts_right : PySem.W.keepIn K (.ref f_law_texts_right) = true)
    (a_law_lengths_right : PySem.W.nsIn K mainGlobals "_law_lengths_right" = some (some (.ref f_law_lengths_right)))
    (l_law_lengths_right : K.lookup f_law_lengths_right = some ⟨oc_law_lengths_right, od_law_lengths_right, .func (PySem.W.fnOf "_law_lengths_right" "_law_lengths_right" (defArgs s_law_lengths_right) (defBody s_law_lengths_right) (defScope s_law_lengths_right) .none kV_law_lengths_right dc_law_lengths_right pm_law_lengths_right an_law_lengths_right cd_law_lengths_right ct_law_lengths_right), sl_law_lengths_right⟩)
    (c_law_lengths_right : PySem.W.codeIn K cd_law_lengths_right "_law_lengths_right" = true) (k_law_lengths_right : PySem.W.keepIn K (.ref f_law_lengths_right) = true)
    (a_law : PySem.W.nsIn K mainGlobals "law" = some (some (.ref f_law)))
    (l_law : K.lookup f_law = some ⟨oc_law, od_law, .func (PySem.W.fnOf "law" "law" (defArgs s_law) (defBody s_law) (defScope s_law) .none kV_law dc_law pm_law an_law cd_law ct_law), sl_law⟩)
    (c_law : PySem.W.codeIn K cd_law "law" = true) (k_law : PySem.W.keepIn K (.ref f_law) = true)
    (z_len : PySem.W.nsIn K mainGlobals "len" = some none)
    (z_isinstance : PySem.W.nsIn K mainGlobals "isinstance" = some none)
    (z_str : PySem.W.nsIn K mainGlobals "str" = some none)
    (z_int : PySem.W.nsIn K mainGlobals "int" = some none)
    (z_bool : PySem.W.nsIn K mainGlobals "bool" = some none)
    (z_abs : PySem.W.nsIn K mainGlobals "abs" = some none)
    (z_range : PySem.W.nsIn K mainGlobals "range" = some none)
    (z_repr : PySem.W.nsIn K mainGlobals "repr" = some none)
    (z_list : PySem.W.nsIn K mainGlobals "list" = some none)
    (z_max : PySem.W.nsIn K mainGlobals "max" = some none)
    (z_min : PySem.W.nsIn K mainGlobals "min" = some none)
    (z_MAX_SIGNS : PySem.W.nsIn K mainGlobals "MAX_SIGNS" = some (some (.int 8000 t_MAX_SIGNS)))
    (z_MAX_LENGTH : PySem.W.nsIn K mainGlobals "MAX_LENGTH" = some (some (.int 5 t_MAX_LENGTH)))
    (z_TOO_GREAT : PySem.W.nsIn K mainGlobals "TOO_GREAT" = some (some (.int (10 ^ 60) t_TOO_GREAT))) :
    ∃ fd : FuncData, (∀ (s : Shared) (u : Value), BindsTo s fd ⟨[u], []⟩ [("script", u)]) ∧ ∀ base : Heap, K.In base → base.Ns mainGlobals mg → FnG l.prog w K mg base CX0 5 fa fd ["script"] (spLaw K) := by
  have e := hfa.symm.trans (PySem.W.mg_of X G a_law)
  cases e
  have T : Tx mg := ⟨PySem.W.mg_none_of X G z_len, PySem.W.mg_none_of X G z_isinstance, PySem.W.mg_none_of X G z_str, PySem.W.mg_none_of X G z_int, PySem.W.mg_none_of X G z_bool, PySem.W.mg_none_of X G z_abs, PySem.W.mg_none_of X G z_range, PySem.W.mg_none_of X G z_repr, PySem.W.mg_none_of X G z_list, PySem.W.mg_none_of X G z_max, PySem.W.mg_none_of X G z_min, ⟨_, PySem.W.mg_of X G z_MAX_SIGNS⟩, ⟨_, PySem.W.mg_of X G z_MAX_LENGTH⟩, ⟨_, PySem.W.mg_of X G z_TOO_GREAT⟩⟩
  have F_is_integer := fun_mk (st := s_is_integer) l_is_integer c_is_integer k_is_integer
  have b_is_integer := F_is_integer.binds (ps := ["value"]) fun _ _ _ _ _ _ us hl => match us, hl with | [_], _ => rfl
  have F_is_sign := fun_mk (st := s_is_sign) l_is_sign c_is_sign k_is_sign
  have b_is_sign := F_is_sign.binds (ps := ["value"]) fun _ _ _ _ _ _ us hl => match us, hl with | [_], _ => rfl
  have F_is_text := fun_mk (st := s_is_text) l_is_text c_is_text k_is_text
  have b_is_text := F_is_text.binds (ps := ["value"]) fun _ _ _ _ _ _ us hl => match us, hl with | [_], _ => rfl
  have F_is_piece := fun_mk (st := s_is_piece) l_is_piece c_is_piece k_is_piece
  have b_is_piece := F_is_piece.binds (ps := ["value"]) fun _ _ _ _ _ _ us hl => match us, hl with | [_], _ => rfl
  have F_law_dice := fun_mk (st := s_law_dice) l_law_dice c_law_dice k_law_dice
  have b_law_dice := F_law_dice.binds (ps := ["script", "spot"]) fun _ _ _ _ _ _ us hl => match us, hl with | [_, _], _ => rfl
  have F_law_roll := fun_mk (st := s_law_roll) l_law_roll c_law_roll k_law_roll
  have b_law_roll := F_law_roll.binds (ps := ["dice", "upto"]) fun _ _ _ _ _ _ us hl => match us, hl with | [_, _], _ => rfl
  have F_law_pick := fun_mk (st := s_law_pick) l_law_pick c_law_pick k_law_pick
  have b_law_pick := F_law_pick.binds (ps := ["dice", "items"]) fun _ _ _ _ _ _ us hl => match us, hl with | [_, _], _ => rfl
  have F_law_letters := fun_mk (st := s_law_letters) l_law_letters c_law_letters k_law_letters
  have b_law_letters := F_law_letters.binds (ps := ["dice", "signs", "many"]) fun _ _ _ _ _ _ us hl => match us, hl with | [_, _, _], _ => rfl
  have F_law_integers_right := fun_mk (st := s_law_integers_right) l_law_integers_right c_law_integers_right k_law_integers_right
  have b_law_integers_right := F_law_integers_right.binds (ps := ["dice"]) fun _ _ _ _ _ _ us hl => match us, hl with | [_], _ => rfl
  have F_law_texts_right := fun_mk (st := s_law_texts_right) l_law_texts_right c_law_texts_right k_law_texts_right
  have b_law_texts_right := F_law_texts_right.binds (ps := ["dice"]) fun _ _ _ _ _ _ us hl => match us, hl with | [_], _ => rfl
  have F_law_lengths_right := fun_mk (st := s_law_lengths_right) l_law_lengths_right c_law_lengths_right k_law_lengths_right
  have b_law_lengths_right := F_law_lengths_right.binds (ps := ["dice"]) fun _ _ _ _ _ _ us hl => match us, hl with | [_], _ => rfl
  have F_law := fun_mk (st := s_law) l_law c_law k_law
  refine ⟨PySem.W.fnOf "law" "law" (defArgs s_law) (defBody s_law) (defScope s_law) .none kV_law dc_law pm_law an_law cd_law ct_law, fun s v => .of_eq rfl, fun base _ _ => ?_⟩
  have G_is_integer : Df l.prog w K mg base 1 "is_integer" ["value"] (spKind isInteger) := ⟨⟨_, _, ok_is_integer F_is_integer T, PySem.W.mg_of X G a_is_integer, k_is_integer, b_is_integer⟩⟩
  have G_is_text : Df l.prog w K mg base 1 "is_text" ["value"] (spKind isText) := ⟨⟨_, _, ok_is_text F_is_text T, PySem.W.mg_of X G a_is_text, k_is_text, b_is_text⟩⟩
  have G_is_sign : Df l.prog w K mg base 2 "is_sign" ["value"] (spKind isSign) := ⟨⟨_, _, ok_is_sign F_is_sign T G_is_text, PySem.W.mg_of X G a_is_sign, k_is_sign, b_is_sign⟩⟩
  have G_is_piece : Df l.prog w K mg base 2 "is_piece" ["value"] (spKind isPiece) := ⟨⟨_, _, ok_is_piece F_is_piece T G_is_text, PySem.W.mg_of X G a_is_piece, k_is_piece, b_is_piece⟩⟩
  have G_law_roll : Df l.prog w K mg base 1 "_law_roll" ["dice", "upto"] spRoll := ⟨⟨_, _, ok_law_roll F_law_roll T, PySem.W.mg_of X G a_law_roll, k_law_roll, b_law_roll⟩⟩
  have G_law_dice : Df l.prog w K mg base 1 "_law_dice" ["script", "spot"] (spDice K) := ⟨⟨_, _, ok_law_dice F_law_dice T, PySem.W.mg_of X G a_law_dice, k_law_dice, b_law_dice⟩⟩
  have G_law_pick : Df l.prog w K mg base 2 "_law_pick" ["dice", "items"] (spPick K) := ⟨⟨_, _, ok_law_pick F_law_pick T G_law_roll, PySem.W.mg_of X G a_law_pick, k_law_pick, b_law_pick⟩⟩
  have G_pickS : Df l.prog w K mg base 2 "_law_pick" ["dice", "items"] spPickS := ⟨⟨_, _, ok_law_pickS F_law_pick T G_law_roll, PySem.W.mg_of X G a_law_pick, k_law_pick, b_law_pick⟩⟩
  have G_law_letters : Df l.prog w K mg base 3 "_law_letters" ["dice", "signs", "many"] spLetters := ⟨⟨_, _, ok_law_letters F_law_letters T G_pickS, PySem.W.mg_of X G a_law_letters, k_law_letters, b_law_letters⟩⟩
  have G_law_integers_right : Df l.prog w K mg base 4 "_law_integers_right" ["dice"] spRight := ⟨⟨_, _, ok_law_integers_right F_law_integers_right T ⟨G_is_integer, G_is_text, G_is_sign, G_is_piece, G_law_roll, G_law_pick, G_pickS, G_law_letters⟩, PySem.W.mg_of X G a_law_integers_right, k_law_integers_right, b_law_integers_right⟩⟩
  have G_law_texts_right : Df l.prog w K mg base 4 "_law_texts_right" ["dice"] spRight := ⟨⟨_, _, ok_law_texts_right F_law_texts_right T ⟨G_is_integer, G_is_text, G_is_sign, G_is_piece, G_law_roll, G_law_pick, G_pickS, G_law_letters⟩, PySem.W.mg_of X G a_law_texts_right, k_law_texts_right, b_law_texts_right⟩⟩
  have G_law_lengths_right : Df l.prog w K mg base 4 "_law_lengths_right" ["dice"] spRight := ⟨⟨_, _, ok_law_lengths_right F_law_lengths_right T ⟨G_is_integer, G_is_text, G_is_sign, G_is_piece, G_law_roll, G_law_pick, G_pickS, G_law_letters⟩, PySem.W.mg_of X G a_law_lengths_right, k_law_lengths_right, b_law_lengths_right⟩⟩
  exact ok_law F_law T G_law_dice G_law_integers_right G_law_texts_right G_law_lengths_right
end K01
open PySem PySem.W PyProof.Rows
set_option maxHeartbeats 0 in
theorem PySem.Challenge.cw_cutbehind_k01_integers_signs_texts_and_p_holds : PySem.Challenge.rw_cutbehind_k01_integers_signs_texts_and_p.Holds := by
  w_on; o_law; k_head; (case hw => w_witness2)
  k_fill
  refine Gd.end_walk (l := PySem.Challenge.rw_cutbehind_k01_integers_signs_texts_and_p) (n := 63) (k := 5) (x := "script") (sp := fun K => K01.spLaw K) rfl (by decide) rfl ⟨rfl, by decide, by decide⟩ (fun w h Y => PySem.W.kIn_of Y) ?F (fun K H a ns hl hS => ⟨a, ns, rfl, hS, hl, fun _ => rfl⟩)
  case F =>
    intro w mg fa h KX G hmg
    refine' K01.all_mk KX G hmg ?a_is_integer ?l_is_integer ?c_is_integer ?k_is_integer ?a_is_sign ?l_is_sign ?c_is_sign ?k_is_sign ?a_is_text ?l_is_text ?c_is_text ?k_is_text ?a_is_piece ?l_is_piece ?c_is_piece ?k_is_piece ?a_law_dice ?l_law_dice ?c_law_dice ?k_law_dice ?a_law_roll ?l_law_roll ?c_law_roll ?k_law_roll ?a_law_pick ?l_law_pick ?c_law_pick ?k_law_pick ?a_law_letters ?l_law_letters ?c_law_letters ?k_law_letters ?a_law_integers_right ?l_law_integers_right ?c_law_integers_right ?k_law_integers_right ?a_law_texts_right ?l_law_texts_right ?c_law_texts_right ?k_law_texts_right ?a_law_lengths_right ?l_law_lengths_right ?c_law_lengths_right ?k_law_lengths_right ?a_law ?l_law ?c_law ?k_law ?z_len ?z_isinstance ?z_str ?z_int ?z_bool ?z_abs ?z_range ?z_repr ?z_list ?z_max ?z_min ?z_MAX_SIGNS ?z_MAX_LENGTH ?z_TOO_GREAT
    (case a_is_integer => k_is); (case l_is_integer => k_is); (case c_is_integer => k_is); (case k_is_integer => k_is); (case a_is_sign => k_is); (case l_is_sign => k_is)
    (case c_is_sign => k_is); (case k_is_sign => k_is); (case a_is_text => k_is); (case l_is_text => k_is); (case c_is_text => k_is); (case k_is_text => k_is)
    (case a_is_piece => k_is); (case l_is_piece => k_is); (case c_is_piece => k_is); (case k_is_piece => k_is); (case a_law_dice => k_is); (case l_law_dice => k_is)
    (case c_law_dice => k_is); (case k_law_dice => k_is); (case a_law_roll => k_is); (case l_law_roll => k_is); (case c_law_roll => k_is); (case k_law_roll => k_is)
    (case a_law_pick => k_is); (case l_law_pick => k_is); (case c_law_pick => k_is); (case k_law_pick => k_is); (case a_law_letters => k_is); (case l_law_letters => k_is)
    (case c_law_letters => k_is); (case k_law_letters => k_is); (case a_law_integers_right => k_is); (case l_law_integers_right => k_is); (case c_law_integers_right => k_is); (case k_law_integers_right => k_is)
    (case a_law_texts_right => k_is); (case l_law_texts_right => k_is); (case c_law_texts_right => k_is); (case k_law_texts_right => k_is); (case a_law_lengths_right => k_is); (case l_law_lengths_right => k_is)
    (case c_law_lengths_right => k_is); (case k_law_lengths_right => k_is); (case a_law => k_is); (case l_law => k_is); (case c_law => k_is); (case k_law => k_is)
    (case z_len => k_is); (case z_isinstance => k_is); (case z_str => k_is); (case z_int => k_is); (case z_bool => k_is); (case z_abs => k_is)
    (case z_range => k_is); (case z_repr => k_is); (case z_list => k_is); (case z_max => k_is); (case z_min => k_is); (case z_MAX_SIGNS => k_is)
    (case z_MAX_LENGTH => k_is); (case z_TOO_GREAT => k_is)

