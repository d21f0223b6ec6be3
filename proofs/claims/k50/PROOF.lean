import PyProof.Rows.All
import Wide.All
import OpenK.AllK
import Wide.FinOn
import HandS.ForMost
import HandS.IsInst
import HandS.Wide
import HandS.Conv
import HandS.AnyAll
import HandS.EndTab
import HandS.Flow
import HandS.SetFor
import HandS.Zip
import PyProof.TupleOfGen
import HandS.ExcInit
import HandS.ExcIs
import HandS.ExcField
import HandS.ExcOwn
import HandS.ExcValue
import HandS.FStr
import KE.KExcSuper
import KE.KSuper
import KE.KExcIs
import HandS.TupAny
import HandS.Style
import KE.KDictZip
import KE.GoesEnum
import KE.GoesMore
import HandS.Walk
import HandS.More
import HandS.FStrTup
import PyProof.Rows.ReprOcc
import HandS.TupSets
import HandS.SetIn
import KE.GoesSet
import HandS.Strs
import HandS.TupLen
import KE.KDictWalk
import HandS.GenList
import HandS.SortInts
import HandS.DictComp
import HandS.Iter
import HandS.Star
import KE.SortKeyHeap
import HandS.Lambda
import HandS.Deep
import KE.DataMinMax
import PyProof.Rows.BitMore
import KE.KDictCopyH
import KE.KDictList
import HandS.SetKeys
import KE.DataCmp
import PyProof.DictMoreH
import KE.KDictPairs
import HandS.SetBool
import PyProof.SumAny
import HandS.RevRange
import HandS.Base
import HandS.Call
import HandS.List
import PySem.Challenge.RW_heldmarks_k50_colours_marked
set_option Elab.async false
set_option linter.all false
set_option maxRecDepth 100000
set_option maxHeartbeats 8000000
namespace HM
open PySem PySem.Spec PyProof.Rows L2
abbrev Grows (h h' : Heap) : Prop := ∀ b o, h.get? b = some o → h'.get? b = some o
theorem kp_refl (s : Shared) : Keeps s s := ⟨s.heap, s.toks, rfl, fun _ _ e => e⟩
theorem kp_tok (s : Shared) (k : Nat) : Keeps s { s with toks := k } := ⟨s.heap, k, rfl, fun _ _ e => e⟩
theorem kp_trans {a b c : Shared} (x : Keeps a b) (y : Keeps b c) : Keeps a c := by
  obtain ⟨h1, t1, rfl, k1⟩ := x
  obtain ⟨h2, t2, rfl, k2⟩ := y
  exact ⟨h2, t2, rfl, fun q o e => k2 q o (k1 q o e)⟩
theorem kp_grows {a b : Shared} (x : Keeps a b) : Grows a.heap b.heap := by
  obtain ⟨h1, t1, rfl, k1⟩ := x
  exact k1
def Firm (S : Heap → Prop) : Prop := ∀ h h', S h → Grows h h' → S h'
theorem mod_up {K : PySem.W.Frag} {mg : Str → Option Value} {h h' : Heap} (m : L2.Mod K mg h) (k : Grows h h') : L2.Mod K mg h' :=
  ⟨m.kin.keeps k, m.glob.keeps k, let ⟨mb, h1, h2⟩ := m.blt; ⟨mb, h1.keeps k, h2⟩, m.nolimit.keeps k⟩
/-- e gives a value with R wherever S holds of the heap; all objects are kept -/
def RX (prog : Program) (w : World) (A : Around) (env : Env) (S : Heap → Prop) (e : Expr) (R : Value → Prop) : Prop :=
  ∀ (E : Value → Shared → Prop) (s : Shared), S s.heap → wpAny (model prog w) A (eval e env) (fun y s' => R y ∧ Keeps s s') E s
section
variable {prog : Program} {w : World} {A : Around} {env : Env} {S : Heap → Prop} {R R' : Value → Prop}
theorem rx_local {x : Str} {pos : Pos} {v : Value} (hk : env.scope.kind = .function) (hl : env.kindOf x = some .local) (hS : ∀ h, S h → ∃ m, h.Ns env.locals m ∧ m x = some v) (hd : (x == ("__debug__" : Str)) = false := by decide) :
    RX prog w A env S (.Name x pos) (fun y => y = v) := fun E s hs => by
  obtain ⟨m, hn, hv⟩ := hS _ hs
  exact wpAny_Name (wpAny_loadName_local hk hl hn hv ⟨rfl, kp_refl s⟩) hd
theorem rx_blt {K : PySem.W.Frag} {mg : Str → Option Value} {x : Str} {pos : Pos} {v : Value} (hk : env.scope.kind = .function) (hl : env.kindOf x = some .globalImplicit) (hgl : env.globals = mainGlobals) (hbl : env.builtins = builtinsNs) (hS : ∀ h, S h → L2.Mod K mg h)
    (hm : mg x = none) (hv : bootBuiltins x = some v) (hn : x ≠ "__name__" := by decide) (hd : (x == ("__debug__" : Str)) = false := by decide) : RX prog w A env S (.Name x pos) (fun y => y = v) := fun E s hs => by
  obtain ⟨mb, h1, h2⟩ := (hS _ hs).blt
  exact Calls.Name_function_global hk hl (Calls.loadGlobal_builtin (by rw [hgl]; exact (hS _ hs).glob) hm (by rw [hbl]; exact h1) ((h2 x hn).trans hv) ⟨rfl, kp_refl s⟩) hd
end
inductive RTy (h : Heap) : Value → String → Prop
  | non : RTy h .none "NoneType"
  | bl (b : Bool) : RTy h (.bool b) "bool"
  | int (i : Int) (t : Tok) : RTy h (.int i t) "int"
  | str (x : Str) (t : Tok) : RTy h (.str x t) "str"
  | lst {a : Addr} {o : Obj} (e : h.get? a = some o) (c : o.cls = .type "list") : RTy h (.ref a) "list"
  | tup {a : Addr} {o : Obj} (e : h.get? a = some o) (c : o.cls = .type "tuple") : RTy h (.ref a) "tuple"
  | dct {a : Addr} {o : Obj} (e : h.get? a = some o) (c : o.cls = .type "dict") : RTy h (.ref a) "dict"
theorem RTy.up {h h' : Heap} {u : Value} {T : String} (r : RTy h u T) (k : Grows h h') : RTy h' u T := by
  cases r with
  | non => exact .non
  | bl b => exact .bl b
  | int i t => exact .int i t
  | str x t => exact .str x t
  | lst e c => exact .lst (k _ _ e) c
  | tup e c => exact .tup (k _ _ e) c
  | dct e c => exact .dct (k _ _ e) c
end HM
namespace HM
open PySem PySem.Spec PyProof.Rows L2
/-- within a def that was called at h0, its names at L -/
def FrS (K : PySem.W.Frag) (mg : Str → Option Value) (h0 : Heap) (L : Addr) (bs : List (Str × Value)) : Heap → Prop := fun h => L2.Mod K mg h ∧ Grows h0 h ∧ h.Ns L (fun y => bs.reverse.lookup y)
theorem frs_firm {K : PySem.W.Frag} {mg : Str → Option Value} {h0 : Heap} {L : Addr} {bs : List (Str × Value)} : Firm (FrS K mg h0 L bs) := fun h h' hs k => ⟨mod_up hs.1 k, fun b o e => k _ _ (hs.2.1 b o e), hs.2.2.keeps k⟩
end HM
namespace HM
open PySem PySem.Spec PyProof.Rows L2
end HM
namespace HM
open PySem PySem.Spec PyProof.Rows L2
inductive VTy (K : PySem.W.Frag) (H : Hp) : V → String → Prop
  | non : VTy K H .non "NoneType"
  | bl (b : Bool) : VTy K H (.bl b) "bool"
  | int (i : Int) : VTy K H (.int i) "int"
  | str (x : Str) : VTy K H (.str x) "str"
  | lst {a : Addr} {xs : List V} (e : SqL K H a xs) : VTy K H (.ref a) "list"
  | tup {a : Addr} {xs : List V} (e : SqT K H a xs) : VTy K H (.ref a) "tuple"
  | dct {a : Addr} {kvs : List (Key × V)} (e : H a = some (.dK kvs)) : VTy K H (.ref a) "dict"
end HM
namespace HM
open PySem PySem.Spec PyProof.Rows L2
def noRepr (A : Around) : Prop := A.guards = some []
def anyA (_ : Around) : Prop := True
structure PFn (gd : Around → Prop) (P : Program) (w : World) (K : PySem.W.Frag) (mg : Str → Option Value) (base : Heap) (CX : CXT) (k : Nat) (f : Addr) (fd : FuncData) (ps : List Str) (sp : Sp) : Prop where
  len : ∀ vs H Q E, sp vs H Q E → vs.length = ps.length
  go : ∀ (A : Around) (out : List Env) (s : Shared) (H : Hp) (args : Args) (us : List Value) (vs : List V) (Q : VK) (E : XK), gd A → Room k A → Env0 P w K mg base A out s H → BindsTo s fd args (ps.zip us) → Vals vs us → sp vs H Q E →
    codeAny (model P w) A (.call (.ref f) args) (CR CX out P w H s Q E) s
section
variable {P : Program} {w : World} {K : PySem.W.Frag} {mg : Str → Option Value} {base : Heap}
theorem PFn.ok {CX : CXT} {k : Nat} {f : Addr} {fd : FuncData} {ps : List Str} {sp : Sp} (G : PFn anyA P w K mg base CX k f fd ps sp) : FnOk P w K mg base CX k f fd ps sp := ⟨G.len, fun A out s H args us vs Q E => G.go A out s H args us vs Q E trivial⟩
/-- by the body; fd.code is the running code object -/
theorem pfn_of {gd : Around → Prop} {x qual : Str} {st : Stmt} {f : Addr} {fd : FuncData} {N ps : List Str} {k : Nat} {sp : Sp} (F : Fun K x qual st f fd) (S : FnScope N ps (defScope st)) (len : ∀ vs H Q E, sp vs H Q E → vs.length = ps.length)
    (body : ∀ (cdv : Value) (A : Around) (out : List Env) (s : Shared) (H : Hp) (vs : List V) (Q : VK) (E : XK), fd.code = cdv → gd A → Room k (A.deeper (envOfC qual (defScope st) s.heap.objs.size f cdv)) → sp vs H Q E →
      ∃ t, PSs (cxOf CX0 P w K mg base N qual (defScope st) f cdv A out s H E).nox (defBody st) t ∧ t { nx := fun _ H' => Q .non H', rt := Q } (start N vs) H) : PFn gd P w K mg base CX0 (k + 1) f fd ps sp := by
  obtain ⟨oc, od, kV, doc, pm, an, cdv, ct, osl, rfl, lk, hcd⟩ := F.ex
  refine ⟨len, fun A out s H args us vs Q E hgd hr e0 hb r hsp => ?_⟩
  have M := mod_up e0.mod (fun b o e => (e0.bs b o e).1 : Grows base s.heap)
  have kinds : ∀ y ∈ ps.zip us, (defScope st).names.lookup y.1 = some .local ∨ ((defScope st).names.lookup y.1 = some .cell ∧ ((cellsFrom (s.heap.objs.size + 1) (defScope st).names []).lookup y.1).isSome = true) := by
    intro y hy
    rcases S.par y.1 (List.of_mem_zip (show (y.1, y.2) ∈ ps.zip us from hy)).1 with q | q
    · exact .inl q
    · exact .inr ⟨q, PySem.W.cellsFrom_some _ _ _ (.inl q)⟩
  refine codeAny_call_function hr.depth (M.kin _ _ lk) rfl S.co S.gen rfl (PySem.W.codeRec_of M.kin hcd) (hb _ _ _ _ ?_)
  refine wpAny_newFunctionEnv_cells S.kind kinds fun env he s1 x => ?_
  subst he
  obtain ⟨t, ht, hq⟩ := body cdv A out s H vs Q E rfl hgd (hr.deeper _) hsp
  refine ⟨M.nolimit.keeps x.toInCall.keep, codeAny_func (wpAny_mono (ht.nox.run [] s1 (start N vs) H _ (inv_start S hr.hd e0 (len _ _ _ _ hsp) r x) hq) (fun fl s' hs => ?_) fun e s' hs => hs)⟩
  cases fl with
  | ret u =>
    obtain ⟨v, σ', H', J, rv, q⟩ := hs
    exact ⟨v, H', J.os, J.bare, J.base, J.hok, rv, q⟩
  | next =>
    obtain ⟨σ', H', J, q⟩ := hs
    exact ⟨.non, H', J.os, J.bare, J.base, J.hok, rfl, q⟩
  | brk =>
    obtain ⟨_, _, _, q⟩ := hs
    exact q.elim
  | cont =>
    obtain ⟨_, _, _, q⟩ := hs
    exact q.elim
end
/-- f(e, ..) by such a promise -/
theorem pe_callP {X : Cx} {gd : Around → Prop} {CX : CXT} {k : Nat} {f : Addr} {fd : FuncData} {ps : List Str} {sp : Sp} {E : XK} {x : Str} {p pos : Pos} {e : Expr} {es : List Expr} {t : TA} (G : PFn gd X.prog X.w X.K X.mg X.base CX k f fd ps sp) (hgd : gd X.A) (hr : Room k X.A) (hg : Gl X x) (hm : X.mg x = some (.ref f))
    (hk : PySem.W.keepIn X.K (.ref f) = true) (hb : Binds X.K fd ps []) (hx : Passes CX X E) (ha : PA X (e :: es) t) (hdb : (x == ("__debug__" : Str)) = false := by decide)
    (he : starEach (e :: es) X.env = (false, eval e X.env) :: starEach es X.env := by rfl) (hpl : (backTo pos (starEach es X.env)).any (·.1) = false := by rfl) : PE X (.Call (.Name x p) (e :: es) [] pos) (tCall sp [] E t) := by
  refine ⟨fun pins s σ H Q I h => ?_⟩
  refine wpAny_Call_Name_kw (ld_glob I hg hm ?_ hdb)
  refine PySem.W.callWith_K (h₀ := X.base) I.ok.mod.kin hk (thn (ha.run pos pins s σ H _ I h) fun us s1 hus => ?_) he hpl
  obtain ⟨vs, H1, I1, r, q⟩ := hus
  refine ⟨I1.kIn, ?_⟩
  rw [List.append_nil] at q
  have hl : us.length = ps.length := by rw [← r.length]; exact G.len _ _ _ _ q
  have hbs := hb s1 us I1.kIn (by rw [List.append_nil]; exact hl)
  rw [List.append_nil] at hbs
  refine wpAny_call (codeAny_mono (G.go X.A X.stack s1 H1 ⟨us, []⟩ us vs Q E hgd hr I1.env0 hbs r q) fun r s' hq => ?_)
  match r, hq with
  | .error e, hq => exact hx pins σ H1 s1 e s' I1 hq
  | .ok (.ret u), hq => exact I1.after hq
  | .ok .next, hq => exact hq.elim
  | .ok .brk, hq => exact hq.elim
  | .ok .cont, hq => exact hq.elim
theorem reads_ints {P : Program} {w : World} {h : Heap} : ∀ (ps : List (Int × Int)) (vs : List (Key × Value)) (es : List DictEntry), KV (ps.map fun p => ((Sum.inl p.1 : Key), V.int p.2)) vs → Pairs (mixKind P w) es vs →
    ReadsAll h (es.map (·.key)) (ps.map fun p => .int p.1) [] ∧ ReadsAll h (es.map (·.val)) (ps.map fun p => .int p.2) []
  | [], _, _, .nil, .nil => ⟨.nil, .nil⟩
  | p :: ps, _, _, .cons a r, .cons k v t => by
    obtain ⟨h1, h2⟩ := reads_ints ps _ _ r t
    obtain ⟨e1, e2⟩ := a
    obtain ⟨t2, e3⟩ := (show ∃ t, _ = Value.int p.2 t from e2)
    rw [← e1] at k
    obtain ⟨t1, e4⟩ := Value.isInt_shape (show Value.isInt p.1 _ = true from k)
    rw [List.map_cons, List.map_cons, List.map_cons, List.map_cons, e4, v, e3]
    exact ⟨.cons (as := []) (bs := []) (.int _ _) h1, .cons (as := []) (bs := []) (.int _ _) h2⟩
/-- what repr may be asked of -/
inductive RP (K : PySem.W.Frag) (H : Hp) : V → PyData → Prop
  | flat {x : V} {d : PyData} (h : Dp K H x d) (n : d.hasDict = false) : RP K H x d
  | dict {a : Addr} (ps : List (Int × Int)) (h : H a = some (.dK (ps.map fun p => ((Sum.inl p.1 : Key), V.int p.2)))) : RP K H (.ref a) (.dict (ps.map fun p => (.int p.1, .int p.2)))
section
variable {X : Cx} {pins : List (Addr × Obj)} {σ : L2.St} {H : Hp} {s : Shared}
theorem RP.reads {x : V} {u : Value} {d : PyData} (h : RP X.K H x d) (I : Inv X pins σ H s) (r : RelV x u) : ∃ as, Reads s.heap u d as ∧ (d.hasDict = true → sysModules ∉ as) := by
  cases h with
  | flat h n =>
    obtain ⟨as, q⟩ := Dp.reads I d x u h r
    exact ⟨as, q, PyData.noDict_hsm n⟩
  | @dict a ps h =>
    cases (show u = Value.ref a from r)
    obtain ⟨_, hne, vs, hkv, o, es, ep, h1, h2, h3, _, hp, _⟩ := (show ObjOk X.prog X.w H s.heap a (.dK _) from I.hok a _ h)
    obtain ⟨q1, q2⟩ := reads_ints (h := s.heap) ps vs es.toList hkv hp
    refine ⟨_, Reads.dict h1 h2.1 h3 (kvs := ps.map fun p => (.int p.1, .int p.2)) (by rw [List.map_map]; exact q1) (by rw [List.map_map]; exact q2), fun _ hm => ?_⟩
    have z : sysModules = a := by simpa using hm
    rw [z] at hne
    simp at hne
def rRepr (K : PySem.W.Frag) : List V → Hp → VK → Prop := fun xs H Q => ∃ (x : V) (d : PyData), xs = [x] ∧ RP K H x d ∧ d.showable = true ∧ d.depth ≤ 40 ∧ d.shown.length ≤ sizeLine ∧ Q (.str d.shown) H
theorem call_reprD {k : Nat} (hg : X.A.guards = some []) (hr : Room k X.A) : CallR X (.builtin "repr") (rRepr X.K) := by
  intro pins s σ H xs us Q I r h
  obtain ⟨x, d, rfl, hp, hs, hd, hz, q⟩ := h
  cases r with
  | cons r1 r2 =>
    cases r2
    rename_i u
    obtain ⟨as, hrd, hsm⟩ := hp.reads I r1
    have hu := hr.units
    cases hrd with
    | none => exact PySem.P.repr_of_none ⟨.str _, H, I.tok _, ⟨_, rfl⟩, q⟩
    | bool b => exact PySem.P.repr_of_bool ⟨.str _, H, I.tok _, ⟨_, rfl⟩, q⟩
    | int i t => exact PySem.P.repr_of_int (by simpa [PyData.showable] using hs) ⟨.str _, H, I.tok _, ⟨_, rfl⟩, q⟩
    | str y t => exact PySem.P.repr_of_str ⟨.str _, H, I.tok _, ⟨_, rfl⟩, q⟩ hz
    | list h1 h2 h3 h4 => exact repr_of_reads' (Reads.list h1 h2 h3 h4) hs hsm hg (by omega) (fun _ _ e => e) (fun h' u tk hk => ⟨.str _, H, I.kept hk, ⟨_, rfl⟩, q⟩) hz
    | tuple h1 h2 h3 h4 => exact repr_of_reads' (Reads.tuple h1 h2 h3 h4) hs hsm hg (by omega) (fun _ _ e => e) (fun h' u tk hk => ⟨.str _, H, I.kept hk, ⟨_, rfl⟩, q⟩) hz
    | dict h1 h2 h3 h4 h5 => exact repr_of_reads' (Reads.dict h1 h2 h3 h4 h5) hs hsm hg (by omega) (fun _ _ e => e) (fun h' u tk hk => ⟨.str _, H, I.kept hk, ⟨_, rfl⟩, q⟩) hz
end
end HM
namespace HM
open PySem PySem.Spec PyProof.Rows L2
abbrev tabObj : Obj := { cls := .none, data := .fields #[] }
abbrev scrObj (vs : List Value) : Obj := { cls := .type "list", data := .seq vs.toArray }
/-- the tables ts; the script, where it is none of the written part -/
def H0 (K : PySem.W.Frag) (ts : List Addr) (a : Addr) (vs : List Value) (ns : List Int) : Hp := fun b =>
  if b ∈ ts then some (.tbl #[]) else if b = a ∧ K.lookup a = none then some (.frz (scrObj vs) (.lst (ns.map V.int))) else none
theorem H0_tab {K : PySem.W.Frag} {ts : List Addr} {a b : Addr} {vs : List Value} {ns : List Int} (h : b ∈ ts) : H0 K ts a vs ns b = some (.tbl #[]) := if_pos h
theorem H0_scr {K : PySem.W.Frag} {ts : List Addr} {a : Addr} {vs : List Value} {ns : List Int} (h : a ∉ ts) (k : K.lookup a = none) : H0 K ts a vs ns a = some (.frz (scrObj vs) (.lst (ns.map V.int))) := (if_neg h).trans (if_pos ⟨rfl, k⟩)
theorem H0_cases {K : PySem.W.Frag} {ts : List Addr} {a b : Addr} {vs : List Value} {ns : List Int} {u : HO} (h : H0 K ts a vs ns b = some u) : (b ∈ ts ∧ u = .tbl #[]) ∨ (b = a ∧ K.lookup a = none ∧ u = .frz (scrObj vs) (.lst (ns.map V.int))) := by
  unfold H0 at h
  by_cases h1 : b ∈ ts
  · rw [if_pos h1] at h
    exact .inl ⟨h1, (Option.some.inj h).symm⟩
  · rw [if_neg h1] at h
    by_cases h2 : b = a ∧ K.lookup a = none
    · rw [if_pos h2] at h
      exact .inr ⟨h2.1, h2.2, (Option.some.inj h).symm⟩
    · rw [if_neg h2] at h
      cases h
theorem H0_none {K : PySem.W.Frag} {ts : List Addr} {a b : Addr} {vs : List Value} {ns : List Int} (h1 : b ∉ ts) (h2 : b = a → K.lookup a ≠ none) : H0 K ts a vs ns b = none := by
  unfold H0
  rw [if_neg h1, if_neg fun z => h2 z.1 z.2]
/-- the script: locked, or of the written part -/
def Scr (K : PySem.W.Frag) (H : Hp) (a : Addr) (ns : List Int) : Prop := (∃ ob, H a = some (.frz ob (.lst (ns.map V.int)))) ∨
  ∃ (o : Obj) (its : Array Value) (n : Nat), K.lookup a = some o ∧ o.cls = .type "list" ∧ o.dict = none ∧ o.data = .seq its n ∧ its.size ≤ sizeLine ∧ Vals (ns.map V.int) its.toList
theorem Scr.sq {K : PySem.W.Frag} {H : Hp} {a : Addr} {ns : List Int} (h : Scr K H a ns) : SqL K H a (ns.map V.int) := by
  rcases h with h | h
  · exact .inl (.inr h)
  · exact .inr h
/-- it stays while nothing locked is lost -/
theorem Scr.up {K : PySem.W.Frag} {H H' : Hp} {a : Addr} {ns : List Int} (h : Scr K H a ns) (k : ∀ b ob u, H b = some (.frz ob u) → H' b = some (.frz ob u)) : Scr K H' a ns := by
  rcases h with ⟨ob, h⟩ | h
  · exact .inl ⟨ob, k _ _ _ h⟩
  · exact .inr h
theorem end_go {P : Program} {w : World} {K : PySem.W.Frag} {mg mb : Str → Option Value} {k : Nat} {fa a : Addr} {cs : List (Addr × Addr)} {fd : FuncData} {x : Str} {sp : Sp} {s₁ : Shared} {vs : List Value} {ns : List Int}
    (KX : K.In s₁.heap) (hns : s₁.heap.Ns mainGlobals mg) (hb : s₁.heap.Ns builtinsNs mb) (hbb : ∀ y : Str, y ≠ "__name__" → mb y = bootBuiltins y) (hlim : s₁.heap.NoLimit) (hg : s₁.gens = #[])
    (hT : ∀ p ∈ cs, s₁.heap.get? p.2 = some tabObj) (nT : ∀ p ∈ cs, K.lookup p.2 = none) (hC : ∀ p ∈ cs, PySem.W.CodeHd s₁.heap p.1 p.2)
    (hbm : ∃ (bm : Addr) (ob : Obj), mg "__builtins__" = some (.ref bm) ∧ bm ≠ builtinsNs ∧ s₁.heap.get? bm = some ob ∧ ob.cls = .type "module" ∧ ob.dict = some builtinsNs ∧ ob.data = .plain)
    (ha : s₁.heap.get? a = some (scrObj vs)) (hi : IntsAre vs ns) (hl : ns.length ≤ sizeLine) (hr : Room k callerA)
    (F : ∀ base : Heap, K.In base → base.Ns mainGlobals mg → (∀ p ∈ cs, GxR.TabB base mg p.1 p.2) → PFn noRepr P w K mg base CX0 k fa fd [x] sp) (hbind : ∀ (s : Shared) (u : Value), BindsTo s fd ⟨[u], []⟩ [(x, u)])
    (hsp : ∀ H : Hp, (∀ p ∈ cs, H p.2 = some (.tbl #[])) → Scr K H a ns → sp [.ref a] H (fun v _ => v = .bl true) fun _ _ _ => False) :
    codeAny (model P w) callerA (.call (.ref fa) ⟨[.ref a], []⟩) (fun r s' => r = .ok (.ret (.bool true)) ∧ OldK s₁.heap s'.heap ∧ s'.os = s₁.os ∧ AllBare s'.gens) s₁ := by
  have isT : ∀ b ∈ cs.map (·.2), s₁.heap.get? b = some tabObj := fun b hb => by
    obtain ⟨p, hp, e⟩ := List.mem_map.mp hb
    exact e ▸ hT p hp
  have kT : ∀ b ∈ cs.map (·.2), K.lookup b = none := fun b hb => by
    obtain ⟨p, hp, e⟩ := List.mem_map.mp hb
    exact e ▸ nT p hp
  have inT : ∀ p ∈ cs, p.2 ∈ cs.map (·.2) := fun p hp => List.mem_map.mpr ⟨p, hp, rfl⟩
  have aT : a ∉ cs.map (·.2) := fun z => by
    have q := (isT a z).symm.trans ha
    cases q
  obtain ⟨H, eH⟩ : ∃ H : Hp, H = H0 K (cs.map (·.2)) a vs ns := ⟨_, rfl⟩
  -- what is neither a table nor the script is not tracked
  have free : ∀ (b : Addr) (o : Obj), s₁.heap.get? b = some o → o ≠ tabObj → o ≠ scrObj vs → H b = none := fun b o e n1 n2 => by
    rw [eH]
    refine H0_none (fun z => n1 ?_) fun z => absurd ?_ n2
    · exact Option.some.inj (e.symm.trans (isT b z))
    · rw [z] at e
      exact Option.some.inj (e.symm.trans ha)
  have freeK : ∀ (b : Addr) (o : Obj), K.lookup b = some o → H b = none := fun b o e => by
    rw [eH]
    refine H0_none (fun z => ?_) fun z h => ?_
    · rw [kT b z] at e
      cases e
    · rw [z, h] at e
      cases e
  have hok : HOk P w H s₁.heap := fun b u e => by
    rw [eH] at e
    rcases H0_cases e with ⟨h1, rfl⟩ | ⟨rfl, h2, rfl⟩
    · exact isT b h1
    · exact ⟨ha, by rw [List.length_map]; exact hl, vs, _, vals_ints hi, ha⟩
  have hS : Scr K H a ns := by
    cases hk : K.lookup a with
    | none =>
      rw [eH]
      exact .inl ⟨_, H0_scr aT hk⟩
    | some o =>
      have e := (KX a o hk).symm.trans ha
      cases e
      exact .inr ⟨_, vs.toArray, _, hk, rfl, rfl, rfl, by rw [List.size_toArray, hi.length]; exact hl, by simpa using vals_ints hi⟩
  have nsB : ∀ {b : Addr} {m : Str → Option Value}, s₁.heap.Ns b m → (hidT s₁.heap H).Ns b m := fun {b m} h => by
    obtain ⟨o, es, ep, e, d, r⟩ := h
    refine ⟨o, es, ep, hidT_get e (free b o e (fun z => ?_) fun z => ?_), d, r⟩
    · rw [z] at d
      cases d
    · rw [z] at d
      cases d
  have kB : K.In (hidT s₁.heap H) := fun b o e => hidT_get (KX b o e) (freeK b o e)
  have modB : L2.Mod K mg (hidT s₁.heap H) := ⟨kB, nsB hns, ⟨mb, nsB hb, hbb⟩, let ⟨mc, h1, h2⟩ := hlim; ⟨mc, nsB h1, h2⟩⟩
  have tabB : ∀ p ∈ cs, GxR.TabB (hidT s₁.heap H) mg p.1 p.2 := fun p hp => by
    refine ⟨?_, ?_, fun z => ?_⟩
    · obtain ⟨o, us, file, tf, flags, tg, inF, text, tt, e1, c1, d1, r3, r⟩ := hC p hp
      refine ⟨o, us, file, tf, flags, tg, inF, text, tt, hidT_get e1 (free _ o e1 (fun z => ?_) fun z => ?_), c1, d1, r3, r⟩
      · rw [z] at c1
        cases c1
      · rw [z] at c1
        injection (show Value.type "list" = Value.type "code" from c1) with c2
        exact absurd c2 (by decide)
    · obtain ⟨bm, ob, b1, b2, b3, b4, b5, b6⟩ := hbm
      refine ⟨bm, ob, b1, b2, fun q => ?_, fun q => ?_, hidT_get b3 (free bm ob b3 (fun z => ?_) fun z => ?_), b4, b5, b6⟩
      · obtain ⟨o, es, ep, e, d, _⟩ := hns
        rw [q, e] at b3
        cases b3
        rw [d] at b6
        cases b6
      · rw [q, hT p hp] at b3
        cases b3
        cases b6
      · rw [z] at b6
        cases b6
      · rw [z] at b6
        cases b6
    · obtain ⟨o, es, ep, e, d, _⟩ := hns
      rw [z, hT p hp] at e
      cases e
      cases d
  have e0 : Env0 P w K mg (hidT s₁.heap H) callerA [] s₁ H := ⟨rfl, modB, fun b o e => of_hidT e, Nat.le_of_eq (hidT_size _ _), trivial, fun b hb => absurd (show b ∈ ([] : List Addr) from hb) (by simp), hok, .of_eq hg⟩
  have tH : ∀ p ∈ cs, H p.2 = some (.tbl #[]) := fun p hp => by
    rw [eH]
    exact H0_tab (inT p hp)
  refine codeAny_mono ((F _ kB (nsB hns) tabB).go callerA [] s₁ H ⟨[.ref a], []⟩ [.ref a] [.ref a] _ _ rfl hr e0 (hbind s₁ (.ref a)) (.cons rfl .nil) (hsp H tH hS)) fun r s' h => ?_
  match r, h with
  | .error e, h => exact False.elim h
  | .ok .next, h => exact False.elim h
  | .ok .brk, h => exact False.elim h
  | .ok .cont, h => exact False.elim h
  | .ok (.ret u), h =>
    obtain ⟨v, H', os, bare, un, hok', r', q⟩ := h
    obtain rfl : v = .bl true := q
    obtain rfl : u = Value.bool true := r'
    have same : ∀ b o, b ∉ cs.map (·.2) → s₁.heap.get? b = some o → s'.heap.get? b = some o := fun b o nb e => by
      cases q : H b with
      | none => exact un.keep b o e q (fun z => absurd (show b ∈ ([] : List Addr) from z) (by simp)) (by simp)
      | some u =>
        have q2 := q
        rw [eH] at q2
        rcases H0_cases q2 with ⟨h1, _⟩ | ⟨_, _, rfl⟩
        · exact absurd h1 nb
        · have e1 := (hok b _ q).1
          have e2 := (hok' b _ (un.frzs b _ _ q)).1
          exact e2.trans (e1.symm.trans e)
    have grew : ∀ p ∈ cs, ∃ more : Array Value, s'.heap.get? p.2 = some { cls := .none, data := .fields more } := fun p hp => by
      obtain ⟨more, z⟩ := un.tbls p.2 #[] (tH p hp)
      exact ⟨_, hok' p.2 _ z⟩
    refine ⟨rfl, ⟨fun b o e => ?_, fun b o e => ?_⟩, os, bare⟩
    · by_cases hb : b ∈ cs.map (·.2)
      · obtain ⟨p, hp, rfl⟩ := List.mem_map.mp hb
        obtain ⟨more, hm⟩ := grew p hp
        obtain rfl : o = tabObj := Option.some.inj (e.symm.trans (hT p hp))
        exact .inr (.inl ⟨((hC p hp).tab (hT p hp)).isCodeTable, rfl, #[], more, rfl, by rw [Array.empty_append]; exact hm⟩)
      · exact .inl (same b o hb e)
    · by_cases hb : b ∈ cs.map (·.2)
      · obtain ⟨p, hp, rfl⟩ := List.mem_map.mp hb
        obtain ⟨more, hm⟩ := grew p hp
        exact ⟨_, hm⟩
      · exact ⟨o, same b o hb e⟩
/-- the table of the def called n: its code object's, empty as yet -/
def TabOf (mg : Str → Option Value) (h : Heap) (n : Str) (c Pt : Addr) : Prop := ∃ (f : Addr) (o : Obj) (fd : FuncData), mg n = some (.ref f) ∧ h.get? f = some o ∧ o.data = .func fd ∧ fd.code = .ref c ∧ PySem.W.CodeHd h c Pt ∧ h.get? Pt = some tabObj
theorem walk_G {l : PySem.W.OpenLaw} {n k : Nat} {q : Program} {loose : List Str} {XP : (Str → Option Value) → Heap → Prop} {YP : World → Heap → Prop} {d : DefRec} {K : Params → PySem.W.Frag} {x : Str} (gs : List Str)
    (hn : l.most = some n) (hn2 : n ≤ sizeLine) (hdf : d.params.defaults = []) (hr : Room k callerA) (hrec : ∀ g ∈ gs, ((recsOf q).any fun e => e.name == g) = true) (hY : ∀ (w : World) (h : Heap), YP w h → (K w.params).In h)
    (F : ∀ (w : World) (mg : Str → Option Value) (fa : Addr) (h : Heap), YP w h → (K w.params).In h → h.Ns mainGlobals mg → mg d.name = some (.ref fa) → (∀ g ∈ gs, ∃ c Pt, TabOf mg h g c Pt) →
      ∃ (fd : FuncData) (cs : List (Addr × Addr)) (sp : Sp), (∀ p ∈ cs, h.get? p.2 = some tabObj) ∧ (∀ p ∈ cs, (K w.params).lookup p.2 = none) ∧ (∀ p ∈ cs, PySem.W.CodeHd h p.1 p.2) ∧ (∀ (s : Shared) (u : Value), BindsTo s fd ⟨[u], []⟩ [(x, u)]) ∧
        (∀ (H : Hp) (a : Addr) (ns : List Int), ns.length ≤ n → (∀ z ∈ ns, Builtin.Int.intBits z ≤ 1048576) → (∀ p ∈ cs, H p.2 = some (.tbl #[])) → Scr (K w.params) H a ns → sp [.ref a] H (fun v _ => v = .bl true) fun _ _ _ => False) ∧
        ∀ base : Heap, (K w.params).In base → base.Ns mainGlobals mg → (∀ p ∈ cs, GxR.TabB base mg p.1 p.2) → PFn noRepr l.prog w (K w.params) mg base CX0 k fa fd [x] sp) :
    PySem.W.WalkO q loose XP YP l.row.toRowW d [] (fun f vs => PySem.call f vs) := by
  refine Att.attach_callB hn hdf fun w s₀ s₁ mg mb fa o pm cd doc a vs ns G Y ho hd hcd hmg hobj hints hlen hbits hg => ?_
  have KX := hY w _ Y
  have tabs : ∀ g ∈ gs, ∃ c Pt, TabOf mg s₁.heap g c Pt := fun g hgm => by
    obtain ⟨dL, hm, hn1⟩ := List.any_eq_true.mp (hrec g hgm)
    obtain ⟨f, o', fd', c, Pt, h1, h2, h3, h4, h5, h6⟩ := G.T.tab dL hm
    rw [beq_iff_eq.mp hn1] at h1
    exact ⟨c, Pt, f, o', fd', h1, h2, h3, h4, PySem.W.CodeHd.of h5 h6, h6.2⟩
  obtain ⟨fd, cs, sp, hT, nT, hC, hb, hsp, hF⟩ := F w mg fa _ Y KX G.T.g hmg tabs
  exact end_go KX G.T.g G.T.b G.T.builtins G.T.nolimit hg hT nT hC G.T.bmain hobj hints (Nat.le_trans hlen hn2) hr hF hb fun H hH hS => hsp H a ns hlen hbits hH hS
end HM
namespace HM
open PySem PySem.Spec PyProof.Rows L2
end HM
namespace HM
open PySem PySem.Spec PyProof.Rows L2
end HM
namespace HM
open PySem PySem.Spec PyProof.Rows L2
end HM
namespace HM
open PySem PySem.Spec PyProof.Rows L2
def TF (H : Hp) (a : Addr) (xs : List V) : Prop := ∃ o : Obj, o.dict = none ∧ H a = some (.frz o (.tup xs))
theorem TF.sq {K : PySem.W.Frag} {H : Hp} {a : Addr} {xs : List V} (h : TF H a xs) : SqT K H a xs := let ⟨o, _, e⟩ := h; .inl (.inr ⟨o, e⟩)
end HM
namespace HM
open PySem PySem.Spec PyProof.Rows L2
end HM
namespace HM
open PySem PySem.Spec PyProof.Rows L2
end HM
namespace HM
open PySem PySem.Spec PyProof.Rows L2
end HM
namespace HM
open PySem PySem.Spec PyProof.Rows L2
end HM
namespace HM
open PySem PySem.Spec PyProof.Rows L2
def pk (a : Addr) (t l : Int) : List (Key × V) := [(.inr "script", .ref a), (.inr "at", .int t), (.inr "left", .int l)]
def isPen (K : PySem.W.Frag) (H : Hp) (p : Addr) (t : Int) : Prop := ∃ (a : Addr) (ns : List Int) (l : Int), H p = some (.dK (pk a t l)) ∧ Scr K H a ns ∧ ns.length ≤ 63 ∧ 0 ≤ t ∧ 0 ≤ l
/-- only what stands at p has changed -/
def But (p : Addr) (H H' : Hp) : Prop := ∀ b, b ≠ p → H' b = H b
end HM
namespace HM
open PySem PySem.Spec PyProof.Rows L2
/-- all that was tracked but for p is as it was -/
def Kept (p : Addr) (H H' : Hp) : Prop := ∀ b o, H b = some o → b ≠ p → H' b = some o
theorem Kept.trans {p : Addr} {H H1 H2 : Hp} (a : Kept p H H1) (b : Kept p H1 H2) : Kept p H H2 := fun c o e n => b c o (a c o e n) n
theorem Kept.refl (p : Addr) (H : Hp) : Kept p H H := fun _ _ e _ => e
theorem But.kept {p : Addr} {H H' : Hp} (h : But p H H') : Kept p H H' := fun b o e n => by rw [h b n]; exact e
theorem isPen.up {K : PySem.W.Frag} {H H' : Hp} {p : Addr} {t : Int} (h : isPen K H p t) (k : ∀ b o, H b = some o → b = p ∨ (∃ ob u, o = .frz ob u) → H' b = some o) : isPen K H' p t := by
  obtain ⟨a, ns, l, h1, h2, r⟩ := h
  exact ⟨a, ns, l, k _ _ h1 (.inl rfl), h2.up fun b ob u e => k _ _ e (.inr ⟨ob, u, rfl⟩), r⟩
theorem isPen.lay {K : PySem.W.Frag} {H : Hp} {p q : Addr} {t : Int} {o : HO} (h : isPen K H p t) (n : H q = none) : isPen K (upd H q o) p t :=
  h.up fun b u e _ => by rw [upd_ne (ne_of_none e n)]; exact e
theorem isPen.put {K : PySem.W.Frag} {H : Hp} {p q : Addr} {t : Int} {xs ys : List V} (h : isPen K H p t) (n : H q = some (.lst xs)) : isPen K (upd H q (.lst ys)) p t := by
  obtain ⟨a, ns, l, h1, _⟩ := _root_.id h
  refine h.up fun b u e c => ?_
  rw [upd_ne fun z => ?_]
  · exact e
  · subst z
    rw [n] at e
    cases e
    rcases c with c | ⟨ob, u, c⟩
    · rw [c, h1] at n
      cases n
    · cases c
end HM
namespace HM
open PySem PySem.Spec PyProof.Rows L2
def numD (n : Int) : PyData → Bool
  | .int i => decide (0 ≤ i) && decide (i < n)
  | _ => false
def itD : PyData → Int
  | .int i => i
  | _ => 0
def eachOnce (ds : List PyData) (n : Int) : Bool := decide ((ds.length : Int) = n) && (ds.all (numD n) && decide (ds.map itD).Nodup)
def turnD : PyData → Bool
  | .tuple ds => (decide (1 ≤ ds.length) && decide (ds.length ≤ 7)) && eachOnce ds ds.length
  | _ => false
end HM
namespace HM
open PySem PySem.Spec PyProof.Rows L2
/-- what a thing is, for who asks whether it is a turn -/
def TC (K : PySem.W.Frag) (H : Hp) (x : V) (d : PyData) : Prop := (∃ (a : Addr) (xs : List V) (ds : List PyData), x = .ref a ∧ d = .tuple ds ∧ TF H a xs ∧ DpAll K H xs ds) ∨ (∃ T, VTy K H x T ∧ kitB T "tuple" = some false ∧ turnD d = false)
end HM
namespace HM
open PySem PySem.Spec PyProof.Rows L2
mutual
def cost : PyData → Nat
  | .none => 4
  | .bool _ => 5
  | .int _ => 1921
  | .str x => (reprText x).length
  | .list xs => costs xs + 2
  | .tuple xs => costs xs + 2
  | .dict kvs => costKv kvs + 2
def costs : List PyData → Nat
  | [] => 0
  | x :: xs => cost x + 2 + costs xs
def costKv : List (PyData × PyData) → Nat
  | [] => 0
  | (k, v) :: r => cost k + 2 + cost v + 2 + costKv r
end
theorem textFrom_up : ∀ (ts : List Str) (k : Nat) (acc : Str), (textFrom k acc ts).length ≤ acc.length + piled ts
  | [], k, acc => by
    rw [piled_nil]
    exact Nat.le_refl _
  | t :: r, k, acc => by
    rw [piled_cons]
    unfold textFrom
    refine Nat.le_trans (textFrom_up r _ _) ?_
    split
    · rw [strLen_append, strLen_append, show ((", " : Str)).length = 2 by decide +kernel]
      omega
    · rw [strLen_append, strLen_append, show (("" : Str)).length = 0 by decide +kernel]
      omega
theorem listText_up (ts : List Str) : (listText ts).length ≤ piled ts + 2 := by
  unfold listText
  rw [strLen_append, show (("]" : Str)).length = 1 by decide +kernel]
  have h := textFrom_up ts 0 "["
  rw [show (("[" : Str)).length = 1 by decide +kernel] at h
  omega
def UpN (H H' : Hp) : Prop := ∀ b o, H b = some o → (∀ q, o ≠ .tbl q) → H' b = some o
theorem UpN.refl (H : Hp) : UpN H H := fun _ _ e _ => e
theorem UpN.trans {H H1 H2 : Hp} (a : UpN H H1) (b : UpN H1 H2) : UpN H H2 := fun c o e n => b c o (a c o e n) n
theorem UpN.of_same {H H' : Hp} (h : Same H H') : UpN H H' := fun b o e _ => h b o e
theorem TF.up {H H' : Hp} {a : Addr} {xs : List V} (h : TF H a xs) (k : UpN H H') : TF H' a xs := let ⟨o, h1, h2⟩ := h; ⟨o, h1, k _ _ h2 fun q z => by cases z⟩
theorem sqL_up {K : PySem.W.Frag} {H H' : Hp} {a : Addr} {xs : List V} (h : SqL K H a xs) (k : UpN H H') : SqL K H' a xs := by
  rcases h with (h | ⟨o, h⟩) | h
  · exact .inl (.inl (k _ _ h fun q z => by cases z))
  · exact .inl (.inr ⟨o, k _ _ h fun q z => by cases z⟩)
  · exact .inr h
theorem sqT_up {K : PySem.W.Frag} {H H' : Hp} {a : Addr} {xs : List V} (h : SqT K H a xs) (k : UpN H H') : SqT K H' a xs := by
  rcases h with (h | ⟨o, h⟩) | h
  · exact .inl (.inl (k _ _ h fun q z => by cases z))
  · exact .inl (.inr ⟨o, k _ _ h fun q z => by cases z⟩)
  · exact .inr h
mutual
theorem dp_up {K : PySem.W.Frag} {H H' : Hp} (k : UpN H H') : ∀ {v : V} {d : PyData}, Dp K H v d → Dp K H' v d
  | _, _, .non => .non
  | _, _, .bl b => .bl b
  | _, _, .int i => .int i
  | _, _, .str x => .str x
  | _, _, .lst h t => .lst (sqL_up h k) (dps_up k t)
  | _, _, .tup h t => .tup (sqT_up h k) (dps_up k t)
theorem dps_up {K : PySem.W.Frag} {H H' : Hp} (k : UpN H H') : ∀ {vs : List V} {ds : List PyData}, DpAll K H vs ds → DpAll K H' vs ds
  | _, _, .nil => .nil
  | _, _, .cons h t => .cons (dp_up k h) (dps_up k t)
end
end HM
namespace HM
open PySem PySem.Spec PyProof.Rows L2
/-- data that are small -/
def smI (i : Int) : Bool := decide (i.natAbs ≤ 10 ^ 29)
def smD : PyData → Bool
  | .int i => smI i
  | .bool _ => true
  | .none => true
  | .str x => decide (x = "0")
  | .tuple [.int i] => smI i
  | .list [.int i] => smI i
  | _ => false
/-- a tuple of few small things -/
def NearT (K : PySem.W.Frag) (H : Hp) (x : V) : Prop := ∃ (a : Addr) (ys : List V) (ds : List PyData), x = .ref a ∧ TF H a ys ∧ DpAll K H ys ds ∧ ds.length ≤ 16 ∧ ds.all smD = true
theorem NearT.up {K : PySem.W.Frag} {H H' : Hp} {x : V} (h : NearT K H x) (k : UpN H H') : NearT K H' x := by
  obtain ⟨a, ys, ds, h1, h2, h3, r⟩ := h
  exact ⟨a, ys, ds, h1, h2.up k, dps_up k h3, r⟩
end HM
namespace HM
open PySem PySem.Spec PyProof.Rows L2
def It (k c : Nat) (d : PyData) : Prop := d.showable = true ∧ d.hasDict = false ∧ d.depth ≤ k ∧ cost d ≤ c
def Th (K : PySem.W.Frag) (H : Hp) (x : V) : Prop := ∃ d, RP K H x d ∧ TC K H x d ∧ d.showable = true ∧ d.depth ≤ 40 ∧ d.shown.length ≤ sizeLine ∧ ∀ ds, d = .tuple ds → ds.length ≤ 4000
theorem vty_up {K : PySem.W.Frag} {H H' : Hp} {x : V} {T : String} (t : VTy K H x T) (k : UpN H H') : VTy K H' x T := by
  cases t with
  | non => exact .non
  | bl b => exact .bl b
  | int i => exact .int i
  | str y => exact .str y
  | lst e => exact .lst (sqL_up e k)
  | tup e => exact .tup (sqT_up e k)
  | dct e => exact .dct (k _ _ e fun q z => by cases z)
theorem rp_up {K : PySem.W.Frag} {H H' : Hp} {x : V} {d : PyData} (h : RP K H x d) (k : UpN H H') : RP K H' x d := by
  cases h with
  | flat h n => exact .flat (dp_up k h) n
  | dict ps h => exact .dict ps (k _ _ h fun q z => by cases z)
theorem tc_up {K : PySem.W.Frag} {H H' : Hp} {x : V} {d : PyData} (h : TC K H x d) (k : UpN H H') : TC K H' x d := by
  rcases h with ⟨a, xs, ds, h1, h2, h3, h4⟩ | ⟨T, h1, h2⟩
  · exact .inl ⟨a, xs, ds, h1, h2, h3.up k, dps_up k h4⟩
  · exact .inr ⟨T, vty_up h1 k, h2⟩
theorem Th.up {K : PySem.W.Frag} {H H' : Hp} {x : V} (h : Th K H x) (k : UpN H H') : Th K H' x := by
  obtain ⟨d, h1, h2, r⟩ := h
  exact ⟨d, rp_up h1 k, tc_up h2 k, r⟩
end HM
namespace HM
open PySem PySem.Spec PyProof.Rows L2
end HM
namespace HM
open PySem PySem.Spec PyProof.Rows L2
theorem same_lay {H : Hp} {q : Addr} {o : HO} (n : H q = none) : Same H (upd H q o) := fun b u e => by rw [upd_ne (ne_of_none e n)]; exact e
theorem UpN.lay {H J : Hp} {q : Addr} {o : HO} (u : UpN H J) (n : J q = none) : UpN H (upd J q o) := u.trans (.of_same (same_lay n))
theorem UpN.set {H J : Hp} {q : Addr} {o : HO} (u : UpN H J) (n : H q = none) : UpN H (upd J q o) := fun b p e z => by rw [upd_ne (ne_of_none e n)]; exact u b p e z
theorem isPen.kept {K : PySem.W.Frag} {H H' : Hp} {p : Addr} {t : Int} {b : Addr} {o : HO} (hp : isPen K H p t) (k : Kept p H H') (e : H b = some o) (hd : ∀ kv, o ≠ .dK kv) : H' b = some o := by
  refine k _ _ e fun z => ?_
  obtain ⟨_, _, _, e2, _⟩ := hp
  rw [z, e2] at e
  exact hd _ (Option.some.inj e).symm
/-- all that was tracked is as it was, but for the pen and the tables -/
def UpP (p : Addr) (H H' : Hp) : Prop := ∀ b o, H b = some o → b ≠ p → (∀ q, o ≠ .tbl q) → H' b = some o
theorem UpP.refl (p : Addr) (H : Hp) : UpP p H H := fun _ _ e _ _ => e
theorem UpP.trans {p : Addr} {H H1 H2 : Hp} (a : UpP p H H1) (b : UpP p H1 H2) : UpP p H H2 := fun c o e n z => b c o (a c o e n z) n z
theorem UpP.set {p : Addr} {H J : Hp} {q : Addr} {o : HO} (u : UpP p H J) (n : H q = none) : UpP p H (upd J q o) := fun b r e h z => by rw [upd_ne (ne_of_none e n)]; exact u b r e h z
/-- data, read through a heap that has lost nothing of it but the pen -/
def noPen (p : Addr) (H : Hp) : Prop := ∀ l, H p ≠ some (.lst l) ∧ H p ≠ some (.tup l) ∧ ∀ o u, H p ≠ some (.frz o u)
theorem TF.p {H H' : Hp} {p a : Addr} {xs : List V} (hp : HM.noPen p H) (u : UpP p H H') (h : TF H a xs) : TF H' a xs := let ⟨o, h1, h2⟩ := h; ⟨o, h1, u _ _ h2 (fun z => by rw [z] at h2; exact (hp xs).2.2 _ _ h2) fun q z => by cases z⟩
end HM
namespace HM
open PySem PySem.Spec PyProof.Rows L2
end HM
namespace HM
open PySem PySem.Spec PyProof.Rows L2
/-- a def of the text as the top has left it -/
structure DefAt (K : PySem.W.Frag) (x : Str) (st : Stmt) (f : Addr) (oc : Value) (od : Option Addr) (kV doc pm : Value) (an : Option Addr) (cdv ct : Value) (sl : Array (Option Value)) : Prop where
  a : PySem.W.nsIn K mainGlobals x = some (some (.ref f))
  l : K.lookup f = some ⟨oc, od, .func (PySem.W.fnOf x x (defArgs st) (defBody st) (defScope st) .none kV doc pm an cdv ct), sl⟩
  c : PySem.W.codeIn K cdv x = true
  k : PySem.W.keepIn K (.ref f) = true
theorem DefAt.fn {K : PySem.W.Frag} {x : Str} {st : Stmt} {f : Addr} {oc : Value} {od : Option Addr} {kV doc pm : Value} {an : Option Addr} {cdv ct : Value} {sl : Array (Option Value)} (D : DefAt K x st f oc od kV doc pm an cdv ct sl) : Fun K x x st f (PySem.W.fnOf x x (defArgs st) (defBody st) (defScope st) .none kV doc pm an cdv ct) := fun_mk D.l D.c D.k
/-- what is asked of a class of refusals whose objects are kept and asked -/
structure ExAt (K : PySem.W.Frag) (C Mk : Addr) : Prop where
  te : PySem.W.exmOne K (.ref C) (.ref Mk) = some true
  kC : PySem.W.kitOne K (.ref C) (.ref C) = some true
  kV : PySem.W.kitOne K (.ref C) (.type "ValueError") = some true
  xg : PySem.W.findIn K (.ref C) "__getattribute__" = some (some (.builtin "BaseException.__getattribute__"))
  xk : PySem.W.findIn K (.ref C) "__getattr__" = some none
  xs : PySem.W.subIn K (.ref C) (.type "BaseException") = some true
  xd : PySem.W.hasDictIn K C = true
  xa : PySem.W.findIn K (.ref C) "__class__" = some (some (.builtin "object.__class__"))
  xn : PySem.W.specialIn K (.builtin "object.__class__") "__get__" = some (some (.builtin "getset_descriptor.__get__"))
  xt : PySem.W.takesIn K (.builtin "object.__class__") = some true
  xm : PySem.W.mroIn K C (.type "object") = some true
theorem ExAt.F {K : PySem.W.Frag} {C Mk : Addr} (R : ExAt K C Mk) : XfC K C := ⟨R.xg, R.xk, R.xs, R.xd⟩
/-- the table of a def's generator expressions, by the written part -/
structure TbAt (K : PySem.W.Frag) (c Pt : Addr) (e : Value) (dd : Option Addr) (vs : Array Value) (sl : Array (Option Value)) : Prop where
  l : K.lookup c = some ⟨e, dd, .fields vs, sl⟩
  p : vs[11]? = some (.ref Pt)
  n : K.lookup Pt = none
theorem tab_got {K : PySem.W.Frag} {h : Heap} {mg : Str → Option Value} {gs : List Str} {x : Str} {st : Stmt} {f c Pt : Addr} {oc : Value} {od : Option Addr} {kV doc pm : Value} {an : Option Addr} {ct : Value} {sl : Array (Option Value)} {e : Value} {dd : Option Addr} {vs : Array Value} {sl2 : Array (Option Value)}
    (X : K.In h) (G : h.Ns mainGlobals mg) (tabs : ∀ g ∈ gs, ∃ c Pt, TabOf mg h g c Pt) (hx : x ∈ gs) (D : DefAt K x st f oc od kV doc pm an (.ref c) ct sl) (T : TbAt K c Pt e dd vs sl2) : h.get? Pt = some tabObj ∧ PySem.W.CodeHd h c Pt := by
  obtain ⟨c0, P2, f0, o, fd, h1, h2, h3, h4, h5, h6⟩ := tabs x hx
  have e1 := h1.symm.trans (PySem.W.mg_of X G D.a)
  cases e1
  rw [X _ _ D.l] at h2
  cases h2
  cases h3
  have e2 : Value.ref c = .ref c0 := h4
  cases e2
  have e3 : Pt = P2 := by
    obtain ⟨o2, us, _, _, _, _, _, _, _, g1, _, g2, g3, _⟩ := h5
    rw [X _ _ T.l] at g1
    cases g1
    cases g2
    rw [T.p] at g3
    cases g3
    rfl
  subst e3
  exact ⟨h6, h5⟩
end HM
namespace HM
open PySem PySem.Spec PyProof.Rows L2
/-- all that was tracked is as it was, but for the one table at P -/
def UpK (P : Addr) (H H' : Hp) : Prop := ∀ b o, H b = some o → b ≠ P → H' b = some o
theorem UpK.refl (P : Addr) (H : Hp) : UpK P H H := fun _ _ e _ => e
theorem UpK.of_same {P : Addr} {H H' : Hp} (s : Same H H') : UpK P H H' := fun b o e _ => s b o e
theorem UpK.trans {P : Addr} {H H1 H2 : Hp} (a : UpK P H H1) (b : UpK P H1 H2) : UpK P H H2 := fun c o e n => b c o (a c o e n) n
theorem UpK.lay {P : Addr} {H J : Hp} {q : Addr} {o : HO} (u : UpK P H J) (n : J q = none) : UpK P H (upd J q o) := u.trans (.of_same (same_lay n))
theorem UpK.set {P : Addr} {H J : Hp} {q : Addr} {o : HO} (u : UpK P H J) (n : H q = none) : UpK P H (upd J q o) := fun b p e z => by rw [upd_ne (ne_of_none e n)]; exact u b p e z
theorem UpK.n {P : Addr} {H H' : Hp} (u : UpK P H H') (t : GxR.TabG H P) : UpN H H' := fun b o e z => u b o e fun q => by
  obtain ⟨ps, e2, _⟩ := t
  rw [q, e2] at e
  exact z ps (Option.some.inj e).symm
/-- another table -/
theorem UpK.tab {P Q : Addr} {H H' : Hp} (u : UpK P H H') (tP : GxR.TabG H' P) (tQ : GxR.TabG H Q) : GxR.TabG H' Q := by
  by_cases e : Q = P
  · rw [e]
    exact tP
  · obtain ⟨ps, e2, r⟩ := tQ
    exact ⟨ps, u _ _ e2 e, r⟩
end HM
namespace HM
open PySem PySem.Spec PyProof.Rows L2
section
variable {P : Program} {w : World} {A : Around} {E : Value → Shared → Prop} {s : Shared} {a : Addr} {L : List (Addr × List Int)} {es : Array (Int × Value)} {ep : Nat} {t : SetTable}
abbrev wk (m : Nat) (h : Int) (c : Nat) : SetTable.Probe := nth m (runAt m (SetTable.bits h % (m + 1)) (SetTable.bits h)) c
theorem wk_dummy (m : Nat) (h : Int) (c : Nat) : (wk m h c).dummy = none := by
  have go : ∀ (n : Nat) (p : SetTable.Probe), p.dummy = none → (nth m p n).dummy = none := fun n => by
    induction n with
    | zero => exact fun _ z => z
    | succ n ih =>
      refine fun p z => ih _ ?_
      unfold adv
      split <;> exact z
  exact go c _ rfl
theorem wk_add (m : Nat) (h : Int) (c q : Nat) : nth m (wk m h c) q = wk m h (c + q) := (nth_add m c _ q).symm
end
section
variable {X : Cx} {pins : List (Addr × Obj)} {σ : L2.St} {H : Hp} {s : Shared}
/-- the tuples of L stand -/
def Tups (K : PySem.W.Frag) (H : Hp) (L : List (Addr × List Int)) : Prop := ∀ p ∈ L, SqT K H p.1 (p.2.map V.int)
end
end HM
namespace HM
open PySem PySem.Spec PyProof.Rows L2
end HM
namespace TG
open PySem PySem.Spec PyProof.Rows L2
/-- the round, not yet cut -/
def su : Nat → Nat
  | 0 => 0
  | n + 1 => su n * 5 + 1
theorem su_add (a d : Nat) : su (a + d) = su a * 5 ^ d + su d := by
  induction d with
  | zero => simp [su]
  | succ d ih =>
    show su (a + d) * 5 + 1 = su a * 5 ^ (d + 1) + (su d * 5 + 1)
    rw [ih, Nat.pow_succ, Nat.add_mul, ← Nat.mul_assoc, Nat.add_assoc]
theorem su_odd (n : Nat) : su n % 2 = n % 2 := by
  induction n with
  | zero => rfl
  | succ n ih =>
    show (su n * 5 + 1) % 2 = (n + 1) % 2
    omega
theorem five_odd (n : Nat) : 5 ^ n % 4 = 1 := by
  induction n with
  | zero => rfl
  | succ n ih =>
    rw [Nat.pow_succ]
    omega
theorem su_two (e : Nat) : ∃ o, o % 2 = 1 ∧ su (e + e) = 2 * (o * su e) := by
  have h := five_odd e
  refine ⟨(5 ^ e + 1) / 2, by omega, ?_⟩
  rw [su_add]
  obtain ⟨q, hq⟩ : ∃ q, 5 ^ e = 4 * q + 1 := ⟨5 ^ e / 4, by omega⟩
  have e1 : (5 ^ e + 1) / 2 = 2 * q + 1 := by omega
  rw [e1, hq, Nat.mul_add, Nat.mul_one, Nat.add_mul, Nat.one_mul, Nat.mul_add, Nat.mul_comm (su e) (4 * q), show 2 * (2 * q * su e) = 4 * q * su e by rw [← Nat.mul_assoc, ← Nat.mul_assoc]]
  omega
theorem odd_dvd : ∀ (k : Nat) {o x : Nat}, o % 2 = 1 → 2 ^ k ∣ o * x → 2 ^ k ∣ x
  | 0, _, _, _, _ => by rw [Nat.pow_zero]; exact Nat.one_dvd _
  | k + 1, o, x, ho, h => by
    have he : x % 2 = 0 := by
      have h2 : 2 ∣ o * x := Nat.dvd_trans ⟨2 ^ k, by rw [Nat.pow_succ, Nat.mul_comm]⟩ h
      have h3 := Nat.mod_eq_zero_of_dvd h2
      rw [Nat.mul_mod, ho, Nat.one_mul, Nat.mod_mod] at h3
      exact h3
    obtain ⟨y, rfl⟩ : ∃ y, x = 2 * y := ⟨x / 2, by omega⟩
    rw [Nat.pow_succ, Nat.mul_comm (2 ^ k) 2] at h ⊢
    have h4 : 2 * 2 ^ k ∣ 2 * (o * y) := by
      rw [show 2 * (o * y) = o * (2 * y) by rw [← Nat.mul_assoc, ← Nat.mul_assoc, Nat.mul_comm 2 o]]
      exact h
    exact Nat.mul_dvd_mul_left 2 (odd_dvd k ho (Nat.dvd_of_mul_dvd_mul_left (by decide) h4))
theorem su_dvd : ∀ (k d : Nat), 2 ^ k ∣ su d → 2 ^ k ∣ d
  | 0, d, _ => by rw [Nat.pow_zero]; exact Nat.one_dvd _
  | k + 1, d, h => by
    have h2 : su d % 2 = 0 := Nat.mod_eq_zero_of_dvd (Nat.dvd_trans ⟨2 ^ k, by rw [Nat.pow_succ, Nat.mul_comm]⟩ h)
    rw [su_odd] at h2
    obtain ⟨e, rfl⟩ : ∃ e, d = e + e := ⟨d / 2, by omega⟩
    obtain ⟨o, ho, es⟩ := su_two e
    rw [es, Nat.pow_succ, Nat.mul_comm (2 ^ k) 2] at h
    have h3 := su_dvd k e (odd_dvd k ho (Nat.dvd_of_mul_dvd_mul_left (by decide) h))
    rw [← Nat.two_mul, Nat.pow_succ, Nat.mul_comm (2 ^ k) 2]
    exact Nat.mul_dvd_mul_left 2 h3
/-- the masks that come -/
def MG (m : Nat) : Prop := m = 7 ∨ m = 31 ∨ m = 127 ∨ m = 511 ∨ m = 2047 ∨ m = 8191
theorem MG.pow {m : Nat} (h : MG m) : ∃ k, 3 ≤ k ∧ k ≤ 13 ∧ m + 1 = 2 ^ k := by
  rcases h with rfl | rfl | rfl | rfl | rfl | rfl
  · exact ⟨3, by decide, by decide, by decide⟩
  · exact ⟨5, by decide, by decide, by decide⟩
  · exact ⟨7, by decide, by decide, by decide⟩
  · exact ⟨9, by decide, by decide, by decide⟩
  · exact ⟨11, by decide, by decide, by decide⟩
  · exact ⟨13, by decide, by decide, by decide⟩
theorem MG.odd {m : Nat} (h : MG m) : m % 2 = 1 := by
  obtain ⟨k, h1, _, e⟩ := h.pow
  obtain ⟨j, rfl⟩ : ∃ j, k = j + 1 := ⟨k - 1, by omega⟩
  rw [Nat.pow_succ] at e
  omega
theorem MG.le {m : Nat} (h : MG m) : m ≤ 8191 := by
  obtain ⟨k, _, h2, e⟩ := h.pow
  have : 2 ^ k ≤ 2 ^ 13 := Nat.pow_le_pow_right (by decide) h2
  have e2 : (2 : Nat) ^ 13 = 8192 := by decide
  omega
theorem lcgN_su (m : Nat) : ∀ n, lcgN m n = su n % (m + 1)
  | 0 => (Nat.zero_mod _).symm
  | n + 1 => by
    show (lcgN m n * 5 + 1) % (m + 1) = (su n * 5 + 1) % (m + 1)
    rw [lcgN_su m n, Nat.add_mod, Nat.mul_mod, Nat.mod_mod, ← Nat.mul_mod, ← Nat.add_mod]
theorem lcg_far {m : Nat} (h : MG m) {a d d2 : Nat} (h1 : d ≤ d2) (h2 : d2 ≤ m) (e : lcgN m (a + d) = lcgN m (a + d2)) : d = d2 := by
  obtain ⟨k, _, _, ek⟩ := h.pow
  rw [lcgN_su, lcgN_su, ek] at e
  obtain ⟨x, rfl⟩ : ∃ x, d2 = d + x := ⟨d2 - d, by omega⟩
  have e1 : su (a + (d + x)) = su (x + (a + d)) := by rw [Nat.add_comm x, Nat.add_assoc]
  rw [e1, su_add x (a + d)] at e
  have dv : 2 ^ k ∣ su x * 5 ^ (a + d) := by
    have z := Nat.sub_mod_eq_zero_of_mod_eq e.symm
    rw [Nat.add_sub_cancel] at z
    exact Nat.dvd_of_mod_eq_zero z
  have h5 : 5 ^ (a + d) % 2 = 1 := by
    have := five_odd (a + d)
    omega
  rw [Nat.mul_comm] at dv
  have := su_dvd k x (odd_dvd k h5 dv)
  rcases Nat.eq_zero_or_pos x with z | z
  · omega
  · have := Nat.le_of_dvd z this
    omega
/-- from anywhere each slot begins a run -/
theorem meets {m : Nat} (h : MG m) {i j : Nat} (hi : i ≤ m) (hj : j ≤ m) : ∃ k, k ≤ m ∧ lcgI m i k = j := by
  have onto : ∀ a j, j ≤ m → ∃ k, k ≤ m ∧ lcgN m (a + k) = j := fun a j hj => by
    have nd : ((List.range (m + 1)).map fun k => lcgN m (a + k)).Nodup := List.pairwise_map.mpr (List.Pairwise.imp_of_mem (fun {x y} hx hy hxy e => by
      have := lcg_far h (Nat.le_of_lt hxy) (Nat.le_of_lt_succ (List.mem_range.mp hy)) e
      omega) (List.pairwise_lt_range (n := m + 1)))
    have lt : ∀ b, lcgN m b ≤ m := fun b => by
      rw [lcgN_su]
      exact Nat.le_of_lt_succ (Nat.mod_lt _ (Nat.succ_pos m))
    refine Classical.byContradiction fun no => ?_
    have h1 := nat_nodup_len (j :: (List.range (m + 1)).map fun k => lcgN m (a + k)) (List.range (m + 1)) (List.nodup_cons.mpr ⟨fun hm => no ?_, nd⟩) fun x hx => ?_
    · rw [List.length_cons, List.length_map] at h1
      omega
    · obtain ⟨k, hk, e⟩ := List.mem_map.mp hm
      exact ⟨k, Nat.le_of_lt_succ (List.mem_range.mp hk), e⟩
    · rcases List.mem_cons.mp hx with rfl | hx
      · exact List.mem_range.mpr (Nat.lt_succ_of_le hj)
      · obtain ⟨k, _, rfl⟩ := List.mem_map.mp hx
        exact List.mem_range.mpr (Nat.lt_succ_of_le (lt _))
  obtain ⟨a, _, ea⟩ := onto 0 i hi
  rw [Nat.zero_add] at ea
  obtain ⟨k, hk, e⟩ := onto a j hj
  exact ⟨k, hk, by rw [← ea, lcgN_add]; exact e⟩
/-- the n-th run begins at slot j, for some n -/
theorem run_at {m : Nat} (hm : MG m) (h : Int) {j : Nat} (hj : j ≤ m) : ∃ n, n ≤ m + 12 ∧ runI m (SetTable.bits h) n = j := by
  obtain ⟨k, hk, e⟩ := meets hm (runI_le m (SetTable.bits h) 12) hj
  exact ⟨12 + k, by omega, (runI_tail (bits_lt h) k).trans e⟩
/-- the first slot of the way that isn't taken -/
theorem first_free {m : Nat} (hm : MG m) (h : Int) {l : List Nat} (hl : l.length ≤ m) : ∃ K, K < 10 * SetTable.turns m ∧ way m h K ∉ l ∧ ∀ k, k < K → way m h k ∈ l := by
  obtain ⟨j, hj, hn⟩ := st_missing l (m + 1) (by omega)
  obtain ⟨n, hn2, e⟩ := run_at hm h (Nat.le_of_lt_succ hj)
  obtain ⟨k, hk, e2⟩ := run_nth m (SetTable.bits h) n
  have ek : way m h k = j := by
    show (nth m _ k).j = j
    rw [e2]
    exact e
  obtain ⟨K, h1, h2, h3⟩ := st_least (p := fun k => way m h k ∉ l) k (by rw [ek]; exact hn)
  exact ⟨K, by unfold SetTable.turns; omega, h2, fun q hq => Classical.byContradiction fun z => h3 q hq z⟩
theorem way_in (m : Nat) (h : Int) (k : Nat) : way m h k ≤ m := by
  have r := runEnd_bd (m := m) (i := SetTable.bits h % (m + 1)) (Nat.le_of_lt_succ (Nat.mod_lt _ (Nat.succ_pos m)))
  have := nth_in (m := m) k (runAt m (SetTable.bits h % (m + 1)) (SetTable.bits h)) (show SetTable.bits h % (m + 1) + (SetTable.runEnd m (SetTable.bits h % (m + 1)) - SetTable.bits h % (m + 1)) ≤ m by omega)
  show (nth m _ k).j ≤ m
  omega
end TG
namespace TG
open PySem PySem.Spec PyProof.Rows L2
structure TabG (t : SetTable) (hs : List Int) : Prop where
  ris : Ris t.place.toList
  dm : t.dummies = #[]
  sz : t.place.size = hs.length
  mok : MG t.mask
  bd : ∀ x ∈ t.place.toList, x ≤ t.mask
  reach : ∀ (i : Nat) (h : Int) (j : Nat), hs[i]? = some h → t.place.toList[i]? = some j → ∃ k, way t.mask h k = j ∧ ∀ q, q < k → way t.mask h q ∈ t.place.toList
section
variable {t : SetTable} {hs : List Int} {h : Int}
theorem TabG.len (T : TabG t hs) : t.place.toList.length = hs.length := by rw [Array.length_toList]; exact T.sz
theorem TabG.ahead (T : TabG t hs) {K i j : Nat} (hK : way t.mask h K ∉ t.place.toList) (hi : hs[i]? = some h) (hj : t.place.toList[i]? = some j) : ∃ k, k < K ∧ way t.mask h k = j := by
  obtain ⟨k, e, hb⟩ := T.reach i h j hi hj
  refine ⟨k, Classical.byContradiction fun z => hK ?_, e⟩
  by_cases c : K = k
  · rw [c, e]; exact List.mem_of_getElem? hj
  · exact hb K (by omega)
/-- one put in at the first free slot of its way -/
theorem TabG.more (T : TabG t hs) {j K : Nat} (ej : way t.mask h K = j) (hn : j ∉ t.place.toList) (hb : ∀ k, k < K → way t.mask h k ∈ t.place.toList) {t1 : SetTable} {p : Nat} (e : t.put j = (t1, p)) :
    p ≤ hs.length ∧ TabG t1 (hs.take p ++ h :: hs.drop p) ∧ t1.mask = t.mask ∧ t1.led = t.led ∧ t1.plain = t.plain ∧ t1.fill = hs.length + 1 := by
  have e1 : (t.put j).1 = t1 := by rw [e]
  have e2 : SetTable.below t.place j = p := by
    have : (t.put j).2 = p := by rw [e]
    exact this
  have em : t1.mask = t.mask := by rw [← e1]; rfl
  have el : t1.led = t.led := by rw [← e1]; rfl
  have epl : t1.plain = t.plain := by rw [← e1]; rfl
  have ed : t1.dummies = #[] := by rw [← e1]; exact put_dm T.dm j
  have epp : t1.place.toList = t.place.toList.take p ++ j :: t.place.toList.drop p := by rw [← e1, put_place, e2]
  have cut := (below_cut T.ris j).1
  rw [e2] at cut
  have hp1 : p ≤ t.place.toList.length := by rw [Array.length_toList]; exact cut
  have hp2 : p ≤ hs.length := by rw [← T.sz]; exact cut
  have risen : Ris t1.place.toList := by
    rw [← e1]
    exact ris_insert T.ris fun z => hn (List.mem_of_getElem? ((Array.getElem?_toList ..).trans z))
  have sz1 : t1.place.size = hs.length + 1 := by
    have := congrArg List.length epp
    rw [Array.length_toList, len_ins _ hp1, T.len] at this
    exact this
  have wide : ∀ {x : Nat}, x ∈ t.place.toList → x ∈ t1.place.toList := fun {x} z => epp ▸ mem_ins.2 (.inr z)
  refine ⟨hp2, ⟨risen, ed, by rw [sz1, len_ins _ hp2], em ▸ T.mok, fun x hx => ?_, fun i g y a b => ?_⟩, em, el, epl, ?_⟩
  · rw [em]
    rcases mem_ins.1 (epp ▸ hx) with z | z
    · rw [z, ← ej]; exact way_in _ _ _
    · exact T.bd x z
  · rw [em]
    rw [tins_get hs hp2] at a
    rw [epp, tins_get _ hp1] at b
    rcases Nat.lt_trichotomy i p with c | c | c
    · rw [if_pos c] at a b
      obtain ⟨k, u, v⟩ := T.reach i g y a b
      exact ⟨k, u, fun q hq => wide (v q hq)⟩
    · rw [if_neg (by omega), if_pos c] at a b
      cases a
      cases b
      exact ⟨K, ej, fun q hq => wide (hb q hq)⟩
    · rw [if_neg (by omega), if_neg (by omega)] at a b
      obtain ⟨k, u, v⟩ := T.reach (i - 1) g y a b
      exact ⟨k, u, fun q hq => wide (v q hq)⟩
  · show t1.place.size + t1.dummies.size = _
    rw [ed, sz1]
    rfl
end
/-- who sits where: the numbers of the hashes laid so far -/
structure Lay (m : Nat) (done : List Int) (owner : Array (Option Nat)) : Prop where
  sz : owner.size = m + 1
  why : ∀ j k, j ≤ m → oAt owner j = some k → ∃ h K, done[k]? = some h ∧ way m h K = j ∧ ∀ q, q < K → oAt owner (way m h q) ≠ none
  all : ∀ k, k < done.length → ∃ j, j ≤ m ∧ oAt owner j = some k
  one : ∀ j j' k, j ≤ m → j' ≤ m → oAt owner j = some k → oAt owner j' = some k → j = j'
section
variable {m : Nat} {done : List Int} {owner : Array (Option Nat)}
theorem Lay.start (m : Nat) : Lay m [] (Array.replicate (m + 1) none) :=
  ⟨by simp, fun j k hj e => by rw [oAt_init hj] at e; (cases e), fun k hk => absurd hk (Nat.not_lt_zero k), fun j _ k hj _ e _ => by rw [oAt_init hj] at e; (cases e)⟩
theorem Lay.room (W : Lay m done owner) (hl : done.length ≤ m) : ∃ j, j ≤ m ∧ oAt owner j = none := by
  refine Classical.byContradiction fun no => ?_
  have occ : ∀ j, j ≤ m → ∃ k, oAt owner j = some k := fun j hj => by
    cases e : oAt owner j with
    | none => exact absurd ⟨j, hj, e⟩ no
    | some k => exact ⟨k, rfl⟩
  have h1 := nat_nodup_len ((List.range (m + 1)).map fun j => (oAt owner j).getD 0) (List.range done.length) (List.pairwise_map.mpr (List.Pairwise.imp_of_mem (fun {x y} hx hy hxy e => ?_) (List.pairwise_lt_range (n := m + 1)))) fun k hk => ?_
  · rw [List.length_map, List.length_range, List.length_range] at h1
    omega
  · have hx' := Nat.le_of_lt_succ (List.mem_range.mp hx)
    have hy' := Nat.le_of_lt_succ (List.mem_range.mp hy)
    obtain ⟨a, ea⟩ := occ x hx'
    obtain ⟨b, eb⟩ := occ y hy'
    rw [ea, eb] at e
    have e' : a = b := e
    subst e'
    have := W.one x y a hx' hy' ea eb
    omega
  · obtain ⟨j, hj, rfl⟩ := List.mem_map.mp hk
    have hj' := Nat.le_of_lt_succ (List.mem_range.mp hj)
    obtain ⟨a, ea⟩ := occ j hj'
    obtain ⟨h, K, q1, _⟩ := W.why j a hj' ea
    rw [ea]
    exact List.mem_range.mpr (List.getElem?_eq_some_iff.mp q1).1
/-- the search for a free slot ends at the first one of the way -/
theorem free_at (hm : MG m) (h : Int) {j : Nat} (hj : j ≤ m) (hf : oAt owner j = none) :
    ∃ K, SetTable.layClean.free m owner (SetTable.turns m) (SetTable.bits h % (m + 1)) (SetTable.bits h) = some (way m h K) ∧ oAt owner (way m h K) = none ∧ ∀ q, q < K → oAt owner (way m h q) ≠ none := by
  obtain ⟨n, hn, e⟩ := run_at hm h hj
  have ew : way m h (off m (SetTable.bits h % (m + 1)) (SetTable.bits h) n) = j := by
    show (nth m _ _).j = j
    rw [nth_off, itL_run]
    exact e
  obtain ⟨K, k1, k2, k3⟩ := st_least (p := fun k => oAt owner (way m h k) = none) (off m (SetTable.bits h % (m + 1)) (SetTable.bits h) n) (by rw [ew]; exact hf)
  refine ⟨K, free_spec m owner (SetTable.turns m) n _ _ K (by unfold SetTable.turns; omega) k1 (fun q hq => ?_) (by rw [show oAt owner (nth m _ K).j = none from k2]; rfl), k2, k3⟩
  cases z : oAt owner (nth m (runAt m (SetTable.bits h % (m + 1)) (SetTable.bits h)) q).j with
  | none => exact absurd z (k3 q hq)
  | some _ => rfl
theorem Lay.next (hm : MG m) (W : Lay m done owner) (hl : done.length ≤ m) (h : Int) :
    ∃ j, SetTable.layClean.free m owner (SetTable.turns m) (SetTable.bits h % (m + 1)) (SetTable.bits h) = some j ∧ Lay m (done ++ [h]) (owner.setIfInBounds j (some done.length)) := by
  obtain ⟨j0, hj0, e0⟩ := W.room hl
  obtain ⟨K, e1, e2, e3⟩ := free_at hm h hj0 e0
  obtain ⟨j, ej⟩ : ∃ j, way m h K = j := ⟨_, rfl⟩
  rw [ej] at e1 e2
  have hjm : j ≤ m := ej ▸ way_in m h K
  have self : oAt (owner.setIfInBounds j (some done.length)) j = some done.length := oAt_set_self _ (by rw [W.sz]; omega)
  have kept : ∀ {i : Nat}, oAt owner i ≠ none → oAt (owner.setIfInBounds j (some done.length)) i = oAt owner i := fun {i} hi => oAt_set_ne _ fun z => hi (by rw [z]; exact e2)
  have kept' : ∀ {i : Nat}, oAt owner i ≠ none → oAt (owner.setIfInBounds j (some done.length)) i ≠ none := fun {i} hi => by rw [kept hi]; exact hi
  have short : ∀ {i k : Nat}, i ≤ m → oAt owner i = some k → k < done.length := fun {i k} hi e => by
    obtain ⟨_, _, q, _⟩ := W.why i k hi e
    exact (List.getElem?_eq_some_iff.mp q).1
  have split : ∀ {i k : Nat}, oAt (owner.setIfInBounds j (some done.length)) i = some k → (i = j ∧ k = done.length) ∨ (i ≠ j ∧ oAt owner i = some k) := fun {i k} e => by
    by_cases c : i = j
    · rw [c, self] at e
      exact .inl ⟨c, (Option.some.inj e).symm⟩
    · rw [oAt_set_ne _ c] at e
      exact .inr ⟨c, e⟩
  refine ⟨j, e1, by rw [Array.size_setIfInBounds]; exact W.sz, fun i k hi e => ?_, fun k hk => ?_, fun i i' k hi hi' e e' => ?_⟩
  · rcases split e with ⟨rfl, rfl⟩ | ⟨_, e⟩
    · exact ⟨h, K, by rw [List.getElem?_append_right (Nat.le_refl _), Nat.sub_self]; rfl, ej, fun q hq => kept' (e3 q hq)⟩
    · obtain ⟨g, Q, a1, a2, a3⟩ := W.why i k hi e
      exact ⟨g, Q, by rw [List.getElem?_append_left (short hi e)]; exact a1, a2, fun q hq => kept' (a3 q hq)⟩
  · rw [List.length_append, List.length_singleton] at hk
    by_cases c : k = done.length
    · exact ⟨j, hjm, by rw [c]; exact self⟩
    · obtain ⟨i, hi, e⟩ := W.all k (by omega)
      exact ⟨i, hi, by rw [kept (by rw [e]; exact fun z => nomatch z)]; exact e⟩
  · rcases split e with ⟨rfl, rfl⟩ | ⟨_, e⟩
    · rcases split e' with ⟨rfl, _⟩ | ⟨_, e'⟩
      · rfl
      · exact absurd (short hi' e') (Nat.lt_irrefl _)
    · rcases split e' with ⟨_, rfl⟩ | ⟨_, e'⟩
      · exact absurd (short hi e) (Nat.lt_irrefl _)
      · exact W.one i i' k hi hi' e e'
theorem lay_all (hm : MG m) : ∀ (rest done : List Int) (owner : Array (Option Nat)), Lay m done owner → done.length + rest.length ≤ m → ∃ o, rest.foldl (stepF m) (some (owner, done.length)) = some (o, done.length + rest.length) ∧ Lay m (done ++ rest) o
  | [], done, owner, W, _ => ⟨owner, rfl, by rw [List.append_nil]; exact W⟩
  | h :: rest, done, owner, W, hl => by
    rw [List.length_cons] at hl
    obtain ⟨j, e, W1⟩ := W.next hm (by omega) h
    have el : (done ++ [h]).length = done.length + 1 := List.length_append
    obtain ⟨o, f, W2⟩ := lay_all hm rest (done ++ [h]) _ W1 (by omega)
    rw [el] at f
    refine ⟨o, ?_, by rw [List.append_assoc] at W2; exact W2⟩
    rw [List.foldl_cons, stepF_some e, f, List.length_cons]
    congr 2
    omega
/-- the new table -/
theorem relaid_good (t : SetTable) {hs : Array Int} {wanted : Nat} (hM : MG (SetTable.sizeAbove wanted - 1)) (hn : hs.size ≤ SetTable.sizeAbove wanted - 1) :
    ∃ t' order, t.relaid hs wanted = some (t', order) ∧ order.toList.Perm (List.range hs.size) ∧ TabG t' (order.toList.map fun i => hs.getD i 0) ∧ t'.mask = SetTable.sizeAbove wanted - 1 ∧ t'.led = t.led ∧ t'.plain = t.plain := by
  obtain ⟨M, eM⟩ : ∃ M, SetTable.sizeAbove wanted - 1 = M := ⟨_, rfl⟩
  rw [eM] at hM hn ⊢
  obtain ⟨o, f, W⟩ := lay_all hM hs.toList [] _ (Lay.start M) (by rw [Array.length_toList]; show 0 + hs.size ≤ M; omega)
  rw [List.nil_append] at W
  have clean : SetTable.layClean M hs = some o := by
    rw [layClean_eq, show (some (Array.replicate (M + 1) none, 0) : Option (Array (Option Nat) × Nat)) = some (Array.replicate (M + 1) none, ([] : List Int).length) from rfl, f]
    rfl
  have ris := ris_live (fun j => o.getD j none) (List.range (M + 1)) List.pairwise_lt_range
  have r1 : Ris ((liveOf M o).map (·.1)) := ris.1
  have sits : ∀ {j k}, (j, k) ∈ liveOf M o ↔ j ≤ M ∧ oAt o j = some k := fun {j k} => mem_live W.sz
  have nd2 : ((liveOf M o).map (·.2)).Nodup := by
    refine List.pairwise_map.mpr (List.Pairwise.imp_of_mem (fun {x y} hx hy hxy e => ?_) (List.pairwise_map.mp r1))
    obtain ⟨j, k⟩ := x
    obtain ⟨j', k'⟩ := y
    have e' : k = k' := e
    subst e'
    obtain ⟨a1, a2⟩ := sits.1 hx
    obtain ⟨b1, b2⟩ := sits.1 hy
    have h3 : j < j' := hxy
    have := W.one j j' k a1 b1 a2 b2
    omega
  have hz : hs.toList.length = hs.size := Array.length_toList
  have len : ((liveOf M o).map (·.2)).length = hs.size := by
    have a := nat_nodup_len ((liveOf M o).map (·.2)) (List.range hs.size) nd2 fun k hk => by
      obtain ⟨⟨j, k'⟩, hq, rfl⟩ := List.mem_map.mp hk
      obtain ⟨b1, b2⟩ := sits.1 hq
      obtain ⟨_, _, q, _⟩ := W.why j k' b1 b2
      have := (List.getElem?_eq_some_iff.mp q).1
      exact List.mem_range.mpr (by omega)
    have b := nat_nodup_len (List.range hs.size) ((liveOf M o).map (·.2)) List.nodup_range fun k hk => by
      obtain ⟨j, b1, b2⟩ := W.all k (by rw [hz]; exact List.mem_range.mp hk)
      exact List.mem_map.mpr ⟨(j, k), sits.2 ⟨b1, b2⟩, rfl⟩
    rw [List.length_range] at a b
    omega
  refine ⟨tabOf t M o, ((liveOf M o).map (·.2)).toArray, by rw [relaid_eq, eM, clean]; rfl, perm_range hs.size _ len fun k hk => ?_, ⟨r1, rfl, ?_, hM, fun x hx => Nat.le_of_lt_succ (List.mem_range.mp (ris.2 x hx)), fun i h j h1 h2 => ?_⟩, rfl, rfl, rfl⟩
  · obtain ⟨j, b1, b2⟩ := W.all k (by rw [hz]; exact hk)
    exact List.mem_map.mpr ⟨(j, k), sits.2 ⟨b1, b2⟩, rfl⟩
  · show ((liveOf M o).map (·.1)).toArray.size = (((liveOf M o).map (·.2)).map fun i => hs.getD i 0).length
    simp
  · have h1' : (((liveOf M o).map (·.2)).map fun i => hs.getD i 0)[i]? = some h := h1
    have h2' : ((liveOf M o).map (·.1))[i]? = some j := h2
    rw [List.map_map, List.getElem?_map] at h1'
    rw [List.getElem?_map] at h2'
    obtain ⟨⟨y, k⟩, hq, e2⟩ := Option.map_eq_some_iff.mp h2'
    rw [hq] at h1'
    have ey : y = j := e2
    subst ey
    have eh : hs.getD k 0 = h := Option.some.inj h1'
    obtain ⟨b1, b2⟩ := sits.1 (List.mem_of_getElem? hq)
    obtain ⟨g, K, a1, a2, a3⟩ := W.why y k b1 b2
    have eg : g = h := by
      rw [← eh, Array.getD_eq_getD_getElem?, ← Array.getElem?_toList, a1]
      rfl
    subst eg
    refine ⟨K, a2, fun q hq2 => ?_⟩
    show way M g q ∈ (liveOf M o).map (·.1)
    cases z : oAt o (way M g q) with
    | none => exact absurd z (a3 q hq2)
    | some k2 => exact List.mem_map.mpr ⟨(way M g q, k2), sits.2 ⟨way_in M g q, z⟩, rfl⟩
end
end TG
namespace TG
open PySem PySem.Spec PyProof.Rows L2 HM
structure SetG (P : Program) (w : World) (h : Heap) (a : Addr) (L : List (Addr × List Int)) (es : Array (Int × Value)) (ep : Nat) (t : SetTable) : Prop where
  ob : ∃ o, h.get? a = some o ∧ o.ExactSet ∧ o.data = .set es ep t
  rows : es.toList = rowsOf P w L
  tab : TabG t (L.map fun p => thash P w p.2)
  nd : (L.map (·.2)).Nodup
  tup : ∀ p ∈ L, IsT P w h p.2 p.1
  plain : t.plain = true
  led : w.params.followText "set-order" = true ∨ t.led = true
  room : L.length * 5 < t.mask * 3
section
variable {P : Program} {w : World} {A : Around} {E : Value → Shared → Prop} {s : Shared} {a : Addr} {L : List (Addr × List Int)} {es : Array (Int × Value)} {ep : Nat} {t : SetTable}
theorem rows_size (h : es.toList = rowsOf P w L) : es.size = L.length := by
  have := congrArg List.length h
  rwa [Array.length_toList, show (rowsOf P w L).length = L.length from List.length_map _] at this
theorem fits_of {n : Nat} (h1 : t.place.size = n) (h2 : t.dummies = #[]) (h3 : n ≤ t.mask) : t.fits n = true := by
  unfold SetTable.fits SetTable.fill
  rw [h1, h2]
  simp
  exact h3
theorem SetG.fits (R : SetG P w s.heap a L es ep t) : t.fits es.size = true := by
  have h1 := R.tab.sz
  have h2 := rows_size R.rows
  have h3 := R.room
  rw [List.length_map] at h1
  exact fits_of (by omega) R.tab.dm (by omega)
theorem SetG.entry (R : SetG P w s.heap a L es ep t) {i : Nat} {p : Addr × List Int} (h : L[i]? = some p) : es[i]? = some (thash P w p.2, Value.ref p.1) := by
  have : (rowsOf P w L)[i]? = some (thash P w p.2, Value.ref p.1) := by
    unfold rowsOf
    rw [List.getElem?_map, h]
    rfl
  rw [← Array.getElem?_toList, R.rows, this]
theorem SetG.gw (R : SetG P w s.heap a L es ep t) : ¬ t.gaveWay = true := by
  unfold SetTable.gaveWay
  rw [R.tab.mok.odd]
  decide
theorem SetG.lenP (R : SetG P w s.heap a L es ep t) : t.place.toList.length = L.length := by rw [R.tab.len, List.length_map]
/-- the search, whether to add or not: from step c of the way on -/
theorem seek_from (R : SetG P w s.heap a L es ep t) {x : Addr} {k : List Int} (hx : IsT P w s.heap k x) (hu : A.units < cLine) {K : Nat} (kf : K < 10 * SetTable.turns t.mask) (k1 : way t.mask (thash P w k) K ∉ t.place.toList)
    (k2 : ∀ c, c < K → way t.mask (thash P w k) c ∈ t.place.toList) {add : Bool} {Q : SetFound → Shared → Prop} (yes : k ∈ L.map (·.2) → ∀ r, (add = false → ∃ i, r = some i) → Q (.there r) s) (no : k ∉ L.map (·.2) → Q (.free (way t.mask (thash P w k) K) false) s) :
    ∀ (f c : Nat) (st : Option SetTable.Probe), st.getD (t.probeStart (thash P w k)) = wk t.mask (thash P w k) c → c ≤ K → K - c < f →
      (∀ (i : Nat) p, L[i]? = some p → p.2 = k → ∃ c', c ≤ c' ∧ c' < K ∧ t.place.toList[i]? = some (way t.mask (thash P w k) c')) → wpAny (model P w) A (setSearchFrom a (.ref x) (thash P w k) add f st) Q E s := by
  obtain ⟨g, eg⟩ : ∃ g, g = thash P w k := ⟨_, rfl⟩
  rw [← eg] at k1 k2 no ⊢
  obtain ⟨o, g1, g2, g3⟩ := R.ob
  intro f
  induction f with
  | zero => exact fun c st _ _ z => absurd z (Nat.not_lt_zero _)
  | succ f ih =>
    intro c st e0 hc hf left
    rw [setSearchFrom_succ]
    refine wpAny_bind (wpAny_setState_of g1 g3 R.fits ?_)
    dsimp only
    refine wp_if_neg R.gw ?_
    try refine wpAny_bind (wpAny_pure ?_)
    have jj : ∀ q, (nth t.mask (wk t.mask g c) q).j = way t.mask g (c + q) := fun q => congrArg SetTable.Probe.j (wk_add _ _ c q)
    have eK : c + (K - c) = K := by omega
    have sp := go_spec t R.tab.ris R.tab.dm (fun i => (es[i]?.map (·.1)).getD 0) g (10 * SetTable.turns t.mask) (K - c) (wk t.mask g c) (wk_dummy _ _ c) (by omega) (fun q hq => by rw [jj]; exact k2 _ (by omega)) (by rw [jj, eK]; exact k1)
    have hs : ∀ (i : Nat) p, L[i]? = some p → (es[i]?.map (·.1)).getD 0 = thash P w p.2 := fun i p z => by
      rw [R.entry z]
      rfl
    have miss : ∀ (q : Nat), (∀ (k' i' : Nat), k' < q → t.place.toList[i']? = some (nth t.mask (wk t.mask g c) k').j → (es[i']?.map (·.1)).getD 0 ≠ g) → ∀ (i : Nat) (p : Addr × List Int) (c' : Nat), L[i]? = some p → p.2 = k → c ≤ c' → t.place.toList[i]? = some (way t.mask g c') → c + q ≤ c' := fun q hn i p c' z1 z2 z3 z4 => by
      refine Nat.le_of_not_lt fun z5 => hn (c' - c) i (by omega) ?_ (by rw [hs i p z1, z2, eg])
      rw [jj, z4]
      congr 2
      omega
    rcases sp with ⟨q, i, hq, hi, hh, hn, pr⟩ | ⟨hn, pr⟩
    · have pr2 : t.probe (fun i => (es[i]?.map (·.1)).getD 0) g (st.getD (t.probeStart g)) = some (.candidate (way t.mask g (c + q)) i (wk t.mask g (c + (q + 1)))) := by
        rw [e0, ← jj, ← wk_add]
        exact pr
      rw [pr2]
      dsimp only
      rw [jj] at hi
      have hil : i < L.length := by
        have z1 := (List.getElem?_eq_some_iff.mp hi).1
        rwa [R.lenP] at z1
      obtain ⟨p, hp⟩ : ∃ p, L[i]? = some p := ⟨_, List.getElem?_eq_getElem hil⟩
      have hm := List.mem_of_getElem? hp
      have sl : t.slot (way t.mask g (c + q)) = .live i := slot_live R.tab.ris hi
      have tail : wpAny (model P w) A (searchRest a (.ref x) g add f es t (way t.mask g (c + q)) i (wk t.mask g (c + (q + 1)))) Q E s := by
        unfold searchRest
        rw [R.entry hp]
        dsimp only
        refine wpAny_bind (wpAny_holding (wpAny_eqBool_tuple hu (R.tup p hm) hx ?_))
        refine wpAny_bind (wpAny_setState_of g1 g3 R.fits ?_)
        dsimp only
        have rest : (add && decide (p.2 = k)) = false → wpAny (model P w) A (do
            let some same := t.sameMemory t.moves t.mask | unsupported "set.changed-during-lookup:is-the-new-block-at-the-old-address"
            let still ← match (if same then t.slot (way t.mask g (c + q)) else .empty) with
              | .live i' => match es[i']? with
                | some (_, y') => do pure (if ← isSame y' (Value.ref p.1) then some i' else none)
                | none => pure none
              | _ => pure none
            match still with
            | none => rule "set.search.anew"; setSearchFrom a (.ref x) g add f none
            | some i' => if decide (p.2 = k) then return .there (some i') else setSearchFrom a (.ref x) g add f (some (wk t.mask g (c + (q + 1))))) Q E s := fun ha => by
          rw [sameMem]
          dsimp only
          simp only [if_true, sl, R.entry hp]
          refine wpAny_bind (wpAny_isSame_ref_self (wpAny_bind (wpAny_pure ?_)))
          simp only [if_true]
          by_cases hk : p.2 = k
          · refine wp_if_pos (by simp [hk]) (wpAny_pure (yes (List.mem_map.mpr ⟨p, hm, hk⟩) _ fun _ => ⟨i, rfl⟩))
          · refine wp_if_neg (by simp [hk]) (ih (c + (q + 1)) _ rfl (by omega) (by omega) fun i0 p0 z1 z2 => ?_)
            obtain ⟨c', y1, y2, y3⟩ := left i0 p0 z1 z2
            refine ⟨c', Nat.lt_of_le_of_ne (miss q hn i0 p0 c' z1 z2 y1 y3) fun (y6 : c + q = c') => ?_, y2, y3⟩
            rw [← y6] at y3
            have y7 := slot_live R.tab.ris y3
            rw [sl] at y7
            injection y7 with y7
            rw [← y7, hp] at z1
            cases z1
            exact hk z2
        by_cases ha : (add && decide (p.2 = k)) = true
        · rw [Bool.and_eq_true, decide_eq_true_iff] at ha
          refine wp_if_pos (by rw [ha.1]; simp [ha.2]) (wpAny_pure (yes (List.mem_map.mpr ⟨p, hm, ha.2⟩) none fun z => ?_))
          rw [ha.1] at z
          cases z
        · have ha' := Bool.eq_false_iff.mpr ha
          refine wp_if_neg (by rw [ha']; decide) ?_
          try refine wpAny_bind (wpAny_pure ?_)
          exact rest ha'
      by_cases hl : t.led = true
      · refine wp_if_neg (by simp [hl]) ?_
        try refine wpAny_bind (wpAny_pure ?_)
        exact tail
      · refine wp_if_pos (by simp [hl]) ?_
        refine wpAny_bind (seen_tup hx (fun y hy => ?_) ?_)
        · obtain ⟨u, hu1, hu2⟩ := List.mem_map.mp hy
          have hu3 : u ∈ es ∧ u.1 = g := by simpa using hu1
          have hu4 : u ∈ es.toList := by simpa using hu3.1
          rw [R.rows] at hu4
          obtain ⟨v, hv1, hv2⟩ := List.mem_map.mp hu4
          exact ⟨v.2, v.1, by rw [← hu2, ← hv2], R.tup v hv1⟩
        · refine wp_if_neg (by decide) ?_
          try refine wpAny_bind (wpAny_pure ?_)
          exact tail
    · have pr2 : t.probe (fun i => (es[i]?.map (·.1)).getD 0) g (st.getD (t.probeStart g)) = some (.empty (way t.mask g K) none) := by
        have z : way t.mask g K = (nth t.mask (wk t.mask g c) (K - c)).j := by rw [jj, eK]
        rw [e0, z]
        exact pr
      rw [pr2]
      dsimp only
      refine wpAny_pure (no fun z => ?_)
      obtain ⟨p, hp, hk⟩ := List.mem_map.mp z
      obtain ⟨i, hi, e1⟩ := List.getElem_of_mem hp
      have e2 : L[i]? = some p := by rw [List.getElem?_eq_getElem hi, e1]
      obtain ⟨c', y1, y2, y3⟩ := left i p e2 hk
      have := miss (K - c) hn i p c' e2 hk y1 y3
      omega
theorem seek_at (R : SetG P w s.heap a L es ep t) {x : Addr} {k : List Int} (hx : IsT P w s.heap k x) (hu : A.units < cLine) {add : Bool} {Q : SetFound → Shared → Prop} (yes : k ∈ L.map (·.2) → ∀ r, (add = false → ∃ i, r = some i) → Q (.there r) s)
    (no : ∀ K, k ∉ L.map (·.2) → way t.mask (thash P w k) K ∉ t.place.toList → (∀ c, c < K → way t.mask (thash P w k) c ∈ t.place.toList) → Q (.free (way t.mask (thash P w k) K) false) s) :
    wpAny (model P w) A (setSearch a (.ref x) (thash P w k) add) Q E s := by
  have hr := R.room
  obtain ⟨K, z1, z2, z3⟩ := first_free R.tab.mok (thash P w k) (l := t.place.toList) (by rw [R.lenP]; omega)
  have hb : K < 100000 := by
    have := R.tab.mok.le
    unfold SetTable.turns at z1
    omega
  unfold setSearch
  refine seek_from R hx hu z1 z2 z3 yes (fun z => no K z z2 z3) 100000 0 none rfl (Nat.zero_le _) (by omega) fun i p y1 y2 => ?_
  have y3 : (L.map fun p => thash P w p.2)[i]? = some (thash P w k) := by
    rw [List.getElem?_map, y1, ← y2]
    rfl
  have y4 : i < t.place.toList.length := by
    rw [R.lenP]
    exact (List.getElem?_eq_some_iff.mp y1).1
  have y7 := List.getElem?_eq_getElem y4
  obtain ⟨c, y8, y9⟩ := R.tab.ahead z2 y3 y7
  exact ⟨c, Nat.zero_le _, y8, by rw [y7, y9]⟩
/-- what the heap has of the set, its tuples left out -/
structure SetG0 (P : Program) (w : World) (h : Heap) (a : Addr) (L : List (Addr × List Int)) : Prop where
  ex : ∃ (es : Array (Int × Value)) (ep : Nat) (t : SetTable), (∃ o, h.get? a = some o ∧ o.ExactSet ∧ o.data = .set es ep t) ∧ es.toList = rowsOf P w L ∧ TabG t (L.map fun p => thash P w p.2) ∧ (L.map (·.2)).Nodup ∧ t.plain = true ∧
    (w.params.followText "set-order" = true ∨ t.led = true) ∧ L.length * 5 < t.mask * 3
theorem SetG0.full {h : Heap} (R : SetG0 P w h a L) (ht : ∀ p ∈ L, IsT P w h p.2 p.1) : ∃ es ep t, SetG P w h a L es ep t :=
  let ⟨es, ep, t, h1, h2, h3, h4, h5, h6, h7⟩ := R.ex
  ⟨es, ep, t, h1, h2, h3, h4, ht, h5, h6, h7⟩
theorem size_at : ∀ {m n : Nat}, MG m → n * 5 < m * 3 → m * 3 ≤ (n + 1) * 5 → n + 1 ≤ 4914 → MG (SetTable.sizeAbove (SetTable.grown (n + 1)) - 1) ∧ (n + 1) * 5 < (SetTable.sizeAbove (SetTable.grown (n + 1)) - 1) * 3 ∧ SetTable.sizeAbove (SetTable.grown (n + 1)) ≤ 8192 := by
  rintro m n (rfl | rfl | rfl | rfl | rfl | rfl) h1 h2 h3
  · obtain rfl : n = 4 := by omega
    exact ⟨.inr (.inl (by decide +kernel)), by decide +kernel, by decide +kernel⟩
  · obtain rfl : n = 18 := by omega
    exact ⟨.inr (.inr (.inl (by decide +kernel))), by decide +kernel, by decide +kernel⟩
  · obtain rfl : n = 76 := by omega
    exact ⟨.inr (.inr (.inr (.inl (by decide +kernel)))), by decide +kernel, by decide +kernel⟩
  · obtain rfl : n = 306 := by omega
    exact ⟨.inr (.inr (.inr (.inr (.inl (by decide +kernel))))), by decide +kernel, by decide +kernel⟩
  · obtain rfl : n = 1228 := by omega
    exact ⟨.inr (.inr (.inr (.inr (.inr (by decide +kernel))))), by decide +kernel, by decide +kernel⟩
  · omega
/-- the table laid anew -/
theorem relay_to {o : Obj} (ho : s.heap.get? a = some o) (hx : o.ExactSet) (hd : o.data = .set es ep t) (hr : es.toList = rowsOf P w L) (hf : t.fits es.size = true) (nd : (L.map (·.2)).Nodup) (pl : t.plain = true) (ld : w.params.followText "set-order" = true ∨ t.led = true) {wanted : Nat}
    (hM : MG (SetTable.sizeAbove wanted - 1)) (hw : SetTable.sizeAbove wanted ≤ 8192) (hn : L.length * 5 < (SetTable.sizeAbove wanted - 1) * 3) {Q : Unit → Shared → Prop}
    (hQ : ∀ h' L', Heap.SameBut a s.heap h' → SetG0 P w h' a L' → L'.Perm L → Q () { s with heap := h' }) : wpAny (model P w) A (setRelay a wanted) Q E s := by
  have sz := rows_size hr
  obtain ⟨t2, order, e, hp, T, em, el, ep2⟩ := relaid_good t (hs := es.map (·.1)) (wanted := wanted) hM (by rw [Array.size_map, sz]; omega)
  rw [Array.size_map, sz] at hp
  obtain ⟨L2, r1, r2, r3⟩ := order_rows L es order hr hp
  rw [← r3] at T
  have s2 : (order.filterMap (es[·]?)).size = es.size := by rw [rows_size r1, r2.length_eq, sz]
  rw [setRelay_eq]
  refine wpAny_bind (wpAny_setState_of ho hd hf ?_)
  dsimp only
  refine wp_if_neg (by rw [sizeLine_eq]; omega) ?_
  try refine wpAny_bind (wpAny_pure ?_)
  rw [e]
  dsimp only
  refine wpAny_bind (wp_if_neg (by rw [s2]; simp) ?_)
  try refine wpAny_bind (wpAny_pure ?_)
  refine wpAny_pure ?_
  dsimp only
  have hM2 := hM.le
  refine wpAny_storeSet_of ho hd (hQ _ L2 (Heap.SameBut.update ..) ⟨_, ep + 1, t2, ⟨_, store_at ho hd, ⟨hx.1, hx.2.1, hx.2.2⟩, rfl⟩, r1, T, (r2.map (·.2)).nodup_iff.mpr nd, by rw [ep2]; exact pl, by rw [el]; exact ld, by rw [r2.length_eq, em]; exact hn⟩ r2) (by rw [s2, sz, sizeLine_eq]; omega)
/-- one more -/
theorem put_in (R : SetG P w s.heap a L es ep t) {x : Addr} {k : List Int} (hx : IsT P w s.heap k x) (hu : A.units < cLine) (few : L.length + 1 ≤ 4914) {Q : Bool → Shared → Prop}
    (hQ : ∀ b h' L', Heap.SameBut a s.heap h' → SetG0 P w h' a L' → (k ∈ L.map (·.2) → L' = L) → (k ∉ L.map (·.2) → L'.Perm ((x, k) :: L)) → Q b { s with heap := h' }) : wpAny (model P w) A (setAddHashed a (.ref x) (thash P w k)) Q E s := by
  obtain ⟨o, ho, hex, hd⟩ := R.ob
  have sz := rows_size R.rows
  have room := R.room
  unfold setAddHashed
  refine wpAny_holding ?_
  rw [show (100000 : Nat) = 99999 + 1 from rfl, setAddHashedIn_succ]
  refine wpAny_bind (wpAny_setState_of ho hd R.fits ?_)
  dsimp only
  refine wp_if_neg (by simp [byScan, Value.scannable]) ?_
  try refine wpAny_bind (wpAny_pure ?_)
  refine wpAny_bind (seek_at R hx hu (fun hm r _ => ?_) fun K hm hK hb => ?_)
  · exact wpAny_pure (hQ false s.heap L (Heap.SameBut.refl a s.heap) ⟨es, ep, t, R.ob, R.rows, R.tab, R.nd, R.plain, R.led, R.room⟩ (fun _ => rfl) fun z => absurd hm z)
  · dsimp only
    refine wpAny_bind (wpAny_setState_of ho hd R.fits ?_)
    dsimp only
    obtain ⟨⟨t1, p⟩, ept⟩ : ∃ tp, t.put (way t.mask (thash P w k) K) = tp := ⟨_, rfl⟩
    obtain ⟨q1, q2, q3, q4, q5, q6⟩ := R.tab.more rfl hK hb ept
    rw [ept]
    dsimp only
    have pl1 : t1.plain = true := q5.trans R.plain
    first
      | (refine wpAny_bind ?_; refine wp_if_pos pl1 ?_; refine hashBy_tup hx ?_)
      | refine wp_if_pos pl1 (wpAny_bind (hashBy_tup hx ?_))
    simp only [if_true]
    have rows1 : (SetTable.insertAt es p (thash P w k, Value.ref x)).toList = rowsOf P w (L.take p ++ (x, k) :: L.drop p) := by rw [SetTable.toList_insertAt, rows_put, R.rows]
    have pm := put_perm L p (x, k)
    have tab1 : TabG t1 ((L.take p ++ (x, k) :: L.drop p).map fun p => thash P w p.2) := by
      rw [List.map_append, List.map_cons, List.map_take, List.map_drop]
      exact q2
    rw [List.length_map] at q6
    obtain ⟨es1, ees⟩ : ∃ es1, es1 = SetTable.insertAt es p (thash P w k, Value.ref x) := ⟨_, rfl⟩
    obtain ⟨L1, eL1⟩ : ∃ L1, L1 = L.take p ++ (x, k) :: L.drop p := ⟨_, rfl⟩
    rw [← ees] at rows1 ⊢
    rw [← eL1] at rows1 pm tab1
    have len1 : L1.length = L.length + 1 := pm.length_eq
    have nd1 : (L1.map (·.2)).Nodup := (pm.map (·.2)).nodup_iff.mpr (List.nodup_cons.mpr ⟨hm, R.nd⟩)
    have sz1 : es1.size = L.length + 1 := by rw [rows_size rows1, len1]
    refine wpAny_bind (wpAny_storeSet_of ho hd ?_ (by rw [sz1, sizeLine_eq]; omega))
    have sb : Heap.SameBut a s.heap (s.heap.update a (Obj.putSet es1 t1)) := Heap.SameBut.update ..
    have ho1 := store_at (es' := es1) (t' := t1) ho hd
    generalize s.heap.update a (Obj.putSet es1 t1) = h1 at sb ho1 ⊢
    have ld1 : w.params.followText "set-order" = true ∨ t1.led = true := by rw [q4]; exact R.led
    have full : t1.tooFull = decide (t1.mask * 3 ≤ (L.length + 1) * 5) := by
      unfold SetTable.tooFull
      rw [q6]
    by_cases hf : t1.mask * 3 ≤ (L.length + 1) * 5
    · have hf' : t1.tooFull = true := by rw [full]; exact decide_eq_true hf
      first
        | (refine wpAny_bind ?_; refine wp_if_pos (by simp [hf']) ?_)
        | (refine wp_if_pos (by simp [hf']) ?_; refine wpAny_bind ?_)
      rw [q3] at hf
      obtain ⟨m1, m2, m3⟩ := size_at R.tab.mok room hf few
      rw [sz]
      have hfit : t1.fits es1.size = true := by
        have := tab1.sz
        rw [List.length_map] at this
        exact fits_of (by omega) tab1.dm (by rw [sz1, q3]; rcases R.tab.mok with e | e | e | e | e | e <;> omega)
      refine relay_to (s := { s with heap := h1 }) ho1 ⟨hex.1, hex.2.1, hex.2.2⟩ rfl rows1 hfit nd1 pl1 ld1 m1 m3 (by rw [len1]; exact m2) fun h2 L2 sb2 R2 pm2 => ?_
      exact wpAny_pure (hQ true h2 L2 (sb.trans sb2) R2 (fun z => absurd z hm) fun _ => pm2.trans pm)
    · have hf' : t1.tooFull = false := by rw [full]; exact decide_eq_false hf
      first
        | refine wp_if_neg (by simp [hf']) ?_
        | (refine wpAny_bind ?_; refine wp_if_neg (by simp [hf']) ?_; refine wpAny_pure ?_)
      exact wpAny_pure (hQ true h1 L1 sb ⟨es1, ep + 1, t1, ⟨_, ho1, ⟨hex.1, hex.2.1, hex.2.2⟩, rfl⟩, rows1, tab1, nd1, pl1, ld1, by omega⟩ (fun z => absurd z hm) fun _ => pm)
theorem SetG.type (R : SetG P w s.heap a L es ep t) : s.TypeIs (.ref a) "set" := let ⟨o, g1, g2, _⟩ := R.ob; ⟨o, g1, g2.1⟩
theorem has_in (R : SetG P w s.heap a L es ep t) {x : Addr} {k : List Int} (hx : IsT P w s.heap k x) (hu : A.units < cLine) {Q : Bool → Shared → Prop} (h : ∀ tk, Q (decide (k ∈ L.map (·.2))) { s with toks := tk }) : wpAny (model P w) A (setContains a (.ref x)) Q E s := by
  unfold setContains
  refine wpAny_holding (wpAny_bind (wpAny_pyHash_tuple hu hx ?_))
  obtain ⟨s1, e1⟩ : ∃ s1, s1 = { s with toks := s.toks + (k.length + 1) } := ⟨_, rfl⟩
  have R1 : SetG P w s1.heap a L es ep t := by rw [e1]; exact R
  have hx1 : IsT P w s1.heap k x := by rw [e1]; exact hx
  have h1 : Q (decide (k ∈ L.map (·.2))) s1 := by rw [e1]; exact h _
  rw [← e1]
  obtain ⟨o, g1, g2, g3⟩ := R1.ob
  unfold setFind
  rw [show (100000 : Nat) = 99999 + 1 from rfl]
  unfold setFindIn
  refine wpAny_bind (wpAny_bind (wpAny_setState_of g1 g3 R1.fits ?_))
  dsimp only
  refine wp_if_neg (by simp [byScan, Value.scannable]) ?_
  try refine wpAny_bind (wpAny_pure ?_)
  refine wpAny_bind (seek_at R1 hx1 hu (fun z r hr => ?_) fun K z _ _ => ?_)
  · obtain ⟨i, rfl⟩ := hr rfl
    dsimp only
    rw [decide_eq_true z] at h1
    exact wpAny_pure (wpAny_pure h1)
  · dsimp only
    rw [decide_eq_false z] at h1
    exact wpAny_pure (wpAny_pure h1)
theorem in_is (R : SetG P w s.heap a L es ep t) {x : Addr} {k : List Int} (hx : IsT P w s.heap k x) (hu : A.units + 8 < cLine) {Q : Bool → Shared → Prop} (h : ∀ tk, Q (decide (k ∈ L.map (·.2))) { s with toks := tk }) : wpAny (model P w) A (contains (.ref a) (.ref x)) Q E s := by
  have hT := R.type
  unfold contains
  try with_reducible refine wpAny_holding ?_
  refine wpAny_bind (wpAny_specialOf hT F.slot_set_contains.lookup ?_)
  rw [if_neg (by rw [beq_builtin_none]; exact Bool.false_ne_true)]
  refine wpAny_bind (wpAny_callSpecialUnlessNone?_slot (name := Str.ofString "__contains__") hT F.slot_set_contains (wpAny_call_entry F.slot_set_contains hT entry_set_contains ?_ (F.args_set_contains_2 _ _)))
  unfold Builtin.«frozenset.__contains__» Builtin.Frozenset.oneOther
  simp only [List.isEmpty_nil, bind_assoc]
  unfold Builtin.Frozenset.addrOf Builtin.Frozenset.withSetAsKey
  refine wpAny_bind (wpAny_pure ?_)
  try dsimp only
  refine wpAny_bind (wpAny_pure ?_)
  try dsimp only
  refine wpAny_bind (wpAny_tryCatch (has_in (A := A.in1) R hx (by show A.units + 1 < cLine; omega) fun tk => ?_))
  exact wpAny_pure ⟨_, rfl, wpAny_truthy_bool (h tk)⟩
theorem add_in (R : SetG P w s.heap a L es ep t) {x : Addr} {k : List Int} (hx : IsT P w s.heap k x) (hu : A.units + 8 < cLine) (few : L.length + 1 ≤ 4914) {Q : Bool → Shared → Prop}
    (h : ∀ b h' L' tk, Heap.SameBut a s.heap h' → SetG0 P w h' a L' → (k ∈ L.map (·.2) → L' = L) → (k ∉ L.map (·.2) → L'.Perm ((x, k) :: L)) → Q b { s with heap := h', toks := tk }) : wpAny (model P w) A (setAdd a (.ref x)) Q E s := by
  unfold setAdd
  refine wpAny_holding (wpAny_bind (wpAny_pyHash_tuple (by omega) hx ?_))
  exact put_in (s := { s with toks := s.toks + (k.length + 1) }) R hx (by omega) few fun b h' L' z1 z2 z3 z4 => h b h' L' _ z1 z2 z3 z4
theorem call_add (R : SetG P w s.heap a L es ep t) {x : Addr} {k : List Int} (hx : IsT P w s.heap k x) (hu : A.units + 16 < cLine) (few : L.length + 1 ≤ 4914) {Q : Value → Shared → Prop}
    (h : ∀ h' L' tk, Heap.SameBut a s.heap h' → SetG0 P w h' a L' → (k ∈ L.map (·.2) → L' = L) → (k ∉ L.map (·.2) → L'.Perm ((x, k) :: L)) → Q .none { s with heap := h', toks := tk }) : wpAny (model P w) A (call (.builtin "set.add") [.ref a, .ref x]) Q E s := by
  refine wpAny_call_entry F.slot_set_add R.type F.entry_set_add ?_ (F.args_set_add_2 _ _)
  unfold Builtin.«set.add» Builtin.Frozenset.oneOther
  simp only [List.isEmpty_nil, bind_assoc]
  unfold Builtin.Frozenset.addrOf
  refine wpAny_bind (wpAny_pure ?_)
  try dsimp only
  refine wpAny_bind (wpAny_pure ?_)
  try dsimp only
  refine wpAny_bind (add_in (A := A.in1) R hx (by show A.units + 1 + 8 < cLine; omega) few fun b h' L' tk z1 z2 z3 z4 => ?_)
  exact wpAny_pure ⟨_, rfl, h h' L' tk z1 z2 z3 z4⟩
end
/-- the set as a thing of the heap -/
def SetGO (P : Program) (w : World) (a : Addr) (L : List (Addr × List Int)) : HO := .ext fun h => SetG0 P w h a L
theorem SetG0.ok {P : Program} {w : World} {H : Hp} {h : Heap} {a : Addr} {L : List (Addr × List Int)} (R : SetG0 P w h a L) : ObjOk P w H h a (SetGO P w a L) := by
  have ⟨es, ep, t, ⟨o, ho, r⟩, q⟩ := R.ex
  refine ⟨R, ⟨o, ho⟩, fun h1 h2 p k => ?_⟩
  have ⟨es', ep', t', ⟨o', ho', r'⟩, q'⟩ := SetG0.ex p
  exact ⟨es', ep', t', ⟨o', k o' ho', r'⟩, q'⟩
theorem set_new {P : Program} {w : World} {h : Heap} {a : Addr} (ho : h.get? a = some { cls := .type "set", dict := none, data := .set #[] 0 (.fresh 0 0 (!w.params.followText "set-order")) }) : SetG0 P w h a [] :=
  ⟨#[], 0, _, ⟨_, ho, ⟨rfl, rfl, rfl⟩, rfl⟩, rfl, ⟨.nil, rfl, rfl, .inl rfl, fun x hx => (by cases hx), fun i h j hi => (by simp at hi)⟩, .nil, rfl, by
    show _ ∨ (!w.params.followText "set-order") = true
    cases w.params.followText "set-order" <;> simp, (by decide : 0 * 5 < 7 * 3)⟩
section
variable {X : Cx} {pins : List (Addr × Obj)} {σ : L2.St} {H : Hp} {s : Shared}
theorem setG_get {a : Addr} {L : List (Addr × List Int)} (I : Inv X pins σ H s) (e : H a = some (SetGO X.prog X.w a L)) (ht : Tups X.K H L) : ∃ es ep t, SetG X.prog X.w s.heap a L es ep t := by
  have R : SetG0 X.prog X.w s.heap a L := (I.hok a _ e).1
  exact R.full fun p hp => I.isT (ht p hp)
/-- x in seen, x not in seen -/
def rInG (neg : Bool) (K : PySem.W.Frag) (P : Program) (w : World) : R2 := fun x y H Q => ∃ (xa a : Addr) (k : List Int) (L : List (Addr × List Int)), x = .ref xa ∧ y = .ref a ∧ SqT K H xa (k.map V.int) ∧ H a = some (SetGO P w a L) ∧ Tups K H L ∧ Q (.bl (if neg then !decide (k ∈ L.map (·.2)) else decide (k ∈ L.map (·.2)))) H
theorem or_notinG (hu : X.A.units + 64 < cLine) : OpR X (compareOp .NotIn) (rInG true X.K X.prog X.w) := by
  intro pins s σ H x y v u Q I rx ry h
  obtain ⟨xa, a, k, L, rfl, rfl, hx, ha, ht, q⟩ := h
  cases rx
  cases ry
  obtain ⟨es, ep, t, R⟩ := setG_get I ha ht
  show wpAny _ _ (do return Value.bool (!(← contains (.ref a) (.ref xa)))) _ _ s
  exact wpAny_bind (in_is R (I.isT hx) (by omega) fun tk => wpAny_pure ⟨.bl _, H, I.tok tk, rfl, q⟩)
/-- seen.add(x) -/
def tAddG (K : PySem.W.Frag) (P : Program) (w : World) (to : TE) (t : TA) : TE := fun σ H Q => to σ H fun x H1 => (∃ a L, x = V.ref a ∧ H1 a = some (SetGO P w a L) ∧ Tups K H1 L) ∧ t σ H1 fun xs H2 => ∃ (xa a : Addr) (k : List Int) (L : List (Addr × List Int)), x = .ref a ∧ xs = [.ref xa] ∧ SqT K H2 xa (k.map V.int) ∧ H2 a = some (SetGO P w a L) ∧ Tups K H2 L ∧ L.length + 1 ≤ 4914 ∧
  ∀ L', (k ∈ L.map (·.2) → L' = L) → (k ∉ L.map (·.2) → L'.Perm ((xa, k) :: L)) → Q .non (upd H2 a (SetGO P w a L'))
theorem pe_addG {o e : Expr} {es : List Expr} {to : TE} {t : TA} {apos cpos : Pos} (hu : X.A.units + 64 < cLine) (ho : PE X o to) (ha : PA X (e :: es) t)
    (hbase : attributeBase o "add" X.env (eval o X.env) = eval o X.env := by rfl)
    (hfew : ((backTo cpos (starEach (e :: es) X.env)).all (fun x => !x.1) && (backToKw cpos (keywordEach [] X.env)).all (fun x => x.1.isSome) && decide ((e :: es).length + ([] : List Keyword).length + (if ([] : List Keyword).isEmpty then 0 else 1) < 30)) = true := by rfl)
    (hline : (apos.endLine == cpos.line) = true := by rfl) (hs : starEach (e :: es) X.env = (false, eval e X.env) :: starEach es X.env := by rfl) (hplain : (backTo cpos (starEach es X.env)).any (·.1) = false := by rfl) :
    PE X (.Call (.Attribute o "add" apos) (e :: es) [] cpos) (tAddG X.K X.prog X.w to t) := by
  refine ⟨fun pins s σ H Q I h => ?_⟩
  refine wpAny_Call_method_late hbase hfew hline rfl (thn (ho.run pins s σ H _ I h) fun v s1 hv => ?_)
  obtain ⟨x, H1, I1, r1, ⟨a, L, rfl, ea, ht⟩, q1⟩ := hv
  cases r1
  obtain ⟨es1, ep1, t1, R1⟩ := setG_get I1 ea ht
  obtain ⟨o1, z1, z2, z3⟩ := R1.ob
  refine ⟨"set", "set.add", F.plainAttrs_set, F.slot_set_add, F.type_set_add, ⟨o1, z1, z2.1⟩, fun b z => by cases z; exact ⟨o1, z1, z2.2.1⟩, ?_⟩
  have hA := ha.run cpos pins s1 σ H1 _ I1 q1
  rw [hs] at hA ⊢
  refine Calls.callWith_builtin (by show (false || (backTo cpos (starEach es X.env)).any (·.1)) = false; rw [hplain] <;> rfl) (Calls.evalArgs_plain (thn hA fun us s2 hu2 => ?_))
  obtain ⟨vs, H2, I2, r2, xa, a2, k, L2, e1, rfl, hx, ea2, ht2, few, q⟩ := hu2
  cases e1
  cases r2 with
  | cons ry rt =>
    cases rt
    cases ry
    obtain ⟨es2, ep2, t2, R2⟩ := setG_get I2 ea2 ht2
    refine call_add R2 (I2.isT hx) (by omega) few fun h' L' tk sb new z3 z4 => ?_
    have he : ∃ u, h'.get? a = some u := by
      obtain ⟨_, _, _, ⟨o9, y9, _⟩, _⟩ := new.ex
      exact ⟨o9, y9⟩
    exact ⟨.non, upd H2 a (SetGO X.prog X.w a L'), I2.write (e := a) (t' := tk) (by rw [ea2]; trivial) (.inl rfl) (fun b u hb hu => (sb.2 b hb).trans hu) he new.ok, rfl, q L' z3 z4⟩
/-- {e}, e a tuple of whole numbers -/
def tSetOneG (K : PySem.W.Frag) (P : Program) (w : World) (te : TE) : TE := fun σ H Q => ∀ a, H a = none → te σ (upd H a (SetGO P w a [])) fun x H1 => ∃ (xa : Addr) (k : List Int), x = .ref xa ∧ SqT K H1 xa (k.map V.int) ∧ H1 a = some (SetGO P w a []) ∧ Q (.ref a) (upd H1 a (SetGO P w a [(xa, k)]))
theorem pe_setOneG {e : Expr} {te : TE} {pos : Pos} (hu : X.A.units + 64 < cLine) (hcd : PySem.W.kdsCode X.K X.env.code = true) (he : PE X e te) (hs : starEach [e] X.env = [(false, eval e X.env)] := by rfl) : PE X (.Set [e] 0 pos) (tSetOneG X.K X.prog X.w te) := by
  refine ⟨fun pins s σ H Q I h => ?_⟩
  rw [arm_eval_Set]
  refine wpAny_bind (wpAny_standAt ?_)
  refine wpAny_bind (PySem.W.kds_main I.kIn hcd fun b => ?_)
  rw [hs]
  unfold setDisplay
  try dsimp only
  refine PySem.W.KFB.if_not (by rfl) ?_
  refine wpAny_bind (PySem.wpAny_newSet_raw fun led el => ?_)
  subst el
  have new := set_new (P := X.prog) (w := X.w) (h := s.heap.push { cls := .type "set", dict := none, data := .set #[] 0 (.fresh 0 0 (!X.w.params.followText "set-order")) }) (a := s.heap.objs.size) (Heap.get?_push_size _ rfl)
  have hn : H s.heap.objs.size = none := I.hok.fresh (Nat.le_refl _)
  have I1 := I.laid (t' := s.toks) (fun b u e => Heap.get?_push_of_some _ e) (Nat.le_refl _) (new.ok (H := upd H s.heap.objs.size (SetGO X.prog X.w s.heap.objs.size [])))
  dsimp only
  refine wpAny_bind (wpAny_holding ?_)
  show wpAny _ _ (evalAll [do let v ← eval e X.env; standAt pos; pure v] >>= _) _ _ _
  refine wpAny_bind ?_
  unfold evalAll
  refine wpAny_bind (wpAny_bind (thn (he.run pins _ σ _ _ I1 (h _ hn)) fun v s2 hv => wpAny_bind (wpAny_standAt (wpAny_pure ?_))))
  refine wpAny_bind (wpAny_holding ?_)
  unfold evalAll
  refine wpAny_pure (wpAny_pure ?_)
  obtain ⟨x, H2, I2, r2, xa, k, rfl, hx, ea, q⟩ := hv
  cases r2
  refine wpAny_bind (wpAny_holding ?_)
  simp only [List.forIn_cons, List.forIn_nil]
  obtain ⟨es, ep, t, R⟩ := setG_get I2 ea fun p hp => by cases hp
  refine wpAny_bind (wpAny_bind (wpAny_bind (add_in R (I2.isT hx) (by omega) (by show 0 + 1 ≤ 4914; decide) fun b h' L' tk sb new2 z3 z4 => wpAny_pure ?_)))
  dsimp only
  refine wpAny_pure ?_
  refine PySem.W.KFB.if_not (by rfl) ?_
  refine wpAny_pure ?_
  have hL : L' = [(xa, k)] := List.perm_singleton.mp (z4 (by simp))
  subst hL
  show wpAny _ _ (do forIn ([] : List (Bool × Sem Value)) PUnit.unit _; pure ()) _ _ _
  rw [List.forIn_nil]
  refine wpAny_bind (wpAny_pure (wpAny_pure (wpAny_pure ?_)))
  have he2 : ∃ u, h'.get? s.heap.objs.size = some u := by
    obtain ⟨_, _, _, ⟨o9, y9, _⟩, _⟩ := new2.ex
    exact ⟨o9, y9⟩
  exact ⟨.ref s.heap.objs.size, _, I2.write (e := s.heap.objs.size) (t' := tk) (by rw [ea]; trivial) (.inl rfl) (fun b u hb hu => (sb.2 b hb).trans hu) he2 new2.ok, rfl, q⟩
end
end TG
namespace VL
open PySem PySem.Spec PyProof.Rows L2 HM
inductive Dt where
  | non | bl (b : Bool) | int (i : Int) | str (x : Str) | ty (n : String) | obj (a : Addr)
  | lst (ds : List Dt) | tup (ds : List Dt)
  | dic (ks : List (List Key)) (ds : List Dt) | dik (ks : List Key) (ds : List Dt)
mutual
inductive Rp (F : Hp) : V → Dt → Prop
  | non : Rp F .non .non
  | bl (b : Bool) : Rp F (.bl b) (.bl b)
  | int (i : Int) : Rp F (.int i) (.int i)
  | str (x : Str) : Rp F (.str x) (.str x)
  | ty (n : String) : Rp F (.ty n) (.ty n)
  | obj (a : Addr) : Rp F (.ref a) (.obj a)
  | lst {a : Addr} {xs : List V} {ds : List Dt} : F a = some (.lst xs) → Rps F xs ds → Rp F (.ref a) (.lst ds)
  | tup {a : Addr} {xs : List V} {ds : List Dt} : F a = some (.tup xs) → Rps F xs ds → Rp F (.ref a) (.tup ds)
  | dic {a : Addr} {od : Obj} {kvs : List (List Key × V)} {ks : List (List Key)} {ds : List Dt} : F a = some (.frz od (.dT kvs)) → kvs.map (·.1) = ks → Rps F (kvs.map (·.2)) ds → Rp F (.ref a) (.dic ks ds)
  | dik {a : Addr} {od : Obj} {kvs : List (Key × V)} {ks : List Key} {ds : List Dt} : F a = some (.frz od (.dK kvs)) → kvs.map (·.1) = ks → Rps F (kvs.map (·.2)) ds → Rp F (.ref a) (.dik ks ds)
inductive Rps (F : Hp) : List V → List Dt → Prop
  | nil : Rps F [] []
  | cons {v : V} {vs : List V} {d : Dt} {ds : List Dt} : Rp F v d → Rps F vs ds → Rps F (v :: vs) (d :: ds)
end
/-- all of F is in F' -/
def Up (F F' : Hp) : Prop := ∀ a o, F a = some o → F' a = some o
theorem Up.refl (F : Hp) : Up F F := fun _ _ e => e
theorem Up.trans {a b c : Hp} (x : Up a b) (y : Up b c) : Up a c := fun q o e => y q o (x q o e)
theorem up_lay {H : Hp} {q : Addr} {o : HO} (n : H q = none) : Up H (upd H q o) := fun b u e => by rw [upd_ne (ne_of_none e n)]; exact e
mutual
theorem Rp.up {F F' : Hp} (u : Up F F') : ∀ {v : V} {d : Dt}, Rp F v d → Rp F' v d
  | _, _, .non => .non
  | _, _, .bl b => .bl b
  | _, _, .int i => .int i
  | _, _, .str x => .str x
  | _, _, .ty x => .ty x
  | _, _, .obj x => .obj x
  | _, _, .lst h t => .lst (u _ _ h) (Rps.up u t)
  | _, _, .tup h t => .tup (u _ _ h) (Rps.up u t)
  | _, _, .dic h e t => .dic (u _ _ h) e (Rps.up u t)
  | _, _, .dik h e t => .dik (u _ _ h) e (Rps.up u t)
theorem Rps.up {F F' : Hp} (u : Up F F') : ∀ {v : List V} {d : List Dt}, Rps F v d → Rps F' v d
  | _, _, .nil => .nil
  | _, _, .cons h t => .cons (Rp.up u h) (Rps.up u t)
end
mutual
/-- no lists in it -/
def flat : Dt → Bool
  | .lst _ => false
  | .tup ds => flats ds
  | .dic _ _ => false
  | .dik _ _ => false
  | _ => true
def flats : List Dt → Bool
  | [] => true
  | d :: ds => flat d && flats ds
end
mutual
theorem Rp.flat {F F' : Hp} (u : ∀ a xs, F a = some (.tup xs) → F' a = some (.tup xs)) : ∀ {v : V} {d : Dt}, Rp F v d → flat d = true → Rp F' v d
  | _, _, .non, _ => .non
  | _, _, .bl b, _ => .bl b
  | _, _, .int i, _ => .int i
  | _, _, .str x, _ => .str x
  | _, _, .ty x, _ => .ty x
  | _, _, .obj x, _ => .obj x
  | _, _, .lst h t, e => by simp [VL.flat] at e
  | _, _, .tup h t, e => .tup (u _ _ h) (Rps.flat u t (by simpa [VL.flat] using e))
  | _, _, .dic h _ t, e => by simp [VL.flat] at e
  | _, _, .dik h _ t, e => by simp [VL.flat] at e
theorem Rps.flat {F F' : Hp} (u : ∀ a xs, F a = some (.tup xs) → F' a = some (.tup xs)) : ∀ {v : List V} {d : List Dt}, Rps F v d → flats d = true → Rps F' v d
  | _, _, .nil, _ => .nil
  | _, d :: ds, .cons h t, e => by
    have e' : (VL.flat d && flats ds) = true := by simpa [flats] using e
    rw [Bool.and_eq_true] at e'
    exact .cons (Rp.flat u h e'.1) (Rps.flat u t e'.2)
end
theorem Rps.len {F : Hp} : ∀ {vs : List V} {ds : List Dt}, Rps F vs ds → vs.length = ds.length
  | _, _, .nil => rfl
  | _, _, .cons _ t => by rw [List.length_cons, List.length_cons, Rps.len t]
theorem Rps.get {F : Hp} : ∀ {vs : List V} {ds : List Dt} {i : Nat} {d : Dt}, Rps F vs ds → ds[i]? = some d → ∃ v, vs[i]? = some v ∧ Rp F v d
  | _, _, _, _, .nil, e => by simp at e
  | _, _, 0, _, .cons r _, e => by simp at e; subst e; exact ⟨_, rfl, r⟩
  | _, _, i + 1, d, .cons _ t, e => by
    obtain ⟨u, h1, h2⟩ := Rps.get (i := i) (d := d) t (by simpa using e)
    exact ⟨u, by simpa using h1, h2⟩
theorem Rps.append {F : Hp} : ∀ {vs ws : List V} {ds es : List Dt}, Rps F vs ds → Rps F ws es → Rps F (vs ++ ws) (ds ++ es)
  | _, _, _, _, .nil, s => s
  | _, _, _, _, .cons r t, s => .cons r (Rps.append t s)
theorem Rps.set {F : Hp} {v : V} {d : Dt} (r : Rp F v d) : ∀ {vs : List V} {ds : List Dt} (i : Nat), Rps F vs ds → Rps F (vs.set i v) (ds.set i d)
  | _, _, _, .nil => .nil
  | _, _, 0, .cons _ t => .cons r t
  | _, _, i + 1, .cons q t => .cons q (Rps.set r i t)
theorem Rps.erase {F : Hp} : ∀ {vs : List V} {ds : List Dt} (i : Nat), Rps F vs ds → Rps F (vs.eraseIdx i) (ds.eraseIdx i)
  | _, _, _, .nil => .nil
  | _, _, 0, .cons _ t => t
  | _, _, i + 1, .cons q t => .cons q (Rps.erase i t)
theorem Rps.dropLast {F : Hp} : ∀ {vs : List V} {ds : List Dt}, Rps F vs ds → Rps F vs.dropLast ds.dropLast
  | _, _, .nil => .nil
  | _, _, .cons _ .nil => .nil
  | _, _, .cons q (.cons r t) => .cons q (Rps.dropLast (.cons r t))
theorem Rps.take {F : Hp} : ∀ {vs : List V} {ds : List Dt} (i : Nat), Rps F vs ds → Rps F (vs.take i) (ds.take i)
  | _, _, 0, _ => .nil
  | _, _, _ + 1, .nil => .nil
  | _, _, i + 1, .cons q t => .cons q (Rps.take i t)
theorem Rps.drop {F : Hp} : ∀ {vs : List V} {ds : List Dt} (i : Nat), Rps F vs ds → Rps F (vs.drop i) (ds.drop i)
  | _, _, 0, r => r
  | _, _, _ + 1, .nil => .nil
  | _, _, i + 1, .cons q t => Rps.drop i t
theorem Rps.reverse {F : Hp} : ∀ {vs : List V} {ds : List Dt}, Rps F vs ds → Rps F vs.reverse ds.reverse
  | _, _, .nil => .nil
  | _, _, .cons q t => by
    rw [List.reverse_cons, List.reverse_cons]
    exact Rps.append (Rps.reverse t) (.cons q .nil)
theorem Rps.ints {F : Hp} : ∀ (ns : List Int), Rps F (ns.map V.int) (ns.map Dt.int)
  | [] => .nil
  | n :: ns => .cons (.int n) (Rps.ints ns)
theorem Rps.of_ints {F : Hp} : ∀ {vs : List V} {ns : List Int}, Rps F vs (ns.map Dt.int) → vs = ns.map V.int
  | _, [], .nil => rfl
  | _, n :: ns, .cons (.int _) t => by rw [List.map_cons, Rps.of_ints t]
/-- a thing that only its slot holds, and that may be written -/
inductive Con where
  | lst (ds : List Dt)
  | dK (kvs : List (Key × Dt))
  | dT (kvs : List (List Key × Dt))
  | set (w : World) (S : Int → Bool) (n : Nat)
  | setT (P : Program) (w : World) (ks : List (List Int))
inductive Sl where
  | no | fz (d : Dt) | ow (c : Con)
abbrev Ev := List Sl
def PrK {κ : Type} (F : Hp) : List (κ × V) → List (κ × Dt) → Prop := Paired fun (p : κ × V) (q : κ × Dt) => p.1 = q.1 ∧ Rp F p.2 q.2
def OwOk (F : Hp) (a : Addr) (o : HO) : Con → Prop
  | .lst ds => ∃ xs, o = .lst xs ∧ Rps F xs ds
  | .dK kvs => ∃ ks, o = .dK ks ∧ PrK F ks kvs
  | .dT kvs => ∃ ks, o = .dT ks ∧ PrK F ks kvs
  | .set w S n => o = SetO w a S n
  | .setT P w ks => ∃ L : List (Addr × List Int), o = TG.SetGO P w a L ∧ (L.map (·.2)).Perm ks ∧ ∀ p ∈ L, F p.1 = some (.tup (p.2.map V.int))
theorem PrK.up {κ : Type} {F F' : Hp} {a : List (κ × V)} {b : List (κ × Dt)} (u : Up F F') (h : PrK F a b) : PrK F' a b := Paired.mapP h fun _ _ z => ⟨z.1, z.2.up u⟩
theorem OwOk.up {F F' : Hp} {a : Addr} {o : HO} (u : Up F F') : ∀ {c : Con}, OwOk F a o c → OwOk F' a o c
  | .lst _, ⟨xs, e, r⟩ => ⟨xs, e, r.up u⟩
  | .dK _, ⟨ks, e, r⟩ => ⟨ks, e, PrK.up u r⟩
  | .dT _, ⟨ks, e, r⟩ => ⟨ks, e, PrK.up u r⟩
  | .set _ _ _, e => e
  | .setT _ _ _, ⟨L, e, h, r⟩ => ⟨L, e, h, fun p hp => u _ _ (r p hp)⟩
/-- no tuple -/
def NT (o : HO) : Prop := ∀ xs, o ≠ .tup xs
theorem OwOk.nt {F : Hp} {a : Addr} {o : HO} : ∀ {c : Con}, OwOk F a o c → NT o
  | .lst _, ⟨_, e, _⟩, _, z => by rw [e] at z; cases z
  | .dK _, ⟨_, e, _⟩, _, z => by rw [e] at z; cases z
  | .dT _, ⟨_, e, _⟩, _, z => by rw [e] at z; cases z
  | .set _ _ _, e, _, z => by
    have e' : o = SetO _ _ _ _ := e
    rw [e'] at z; cases z
  | .setT _ _ _, ⟨_, e, _⟩, _, z => by rw [e] at z; cases z
/-- code objects are kept -/
def CodeK (H H' : Hp) : Prop := ∀ b oc x, H b = some (.frz oc (.own x)) → H' b = H b
theorem codeK_upd {H : Hp} {p : Addr} {o : HO} (h : ∀ oc x, H p ≠ some (.frz oc (.own x))) : CodeK H (upd H p o) := fun b oc x e => upd_ne fun z => h oc x (z ▸ e)
theorem OwOk.nfrz {F : Hp} {a : Addr} {o : HO} : ∀ {c : Con}, OwOk F a o c → ∀ oc x, o ≠ .frz oc (.own x)
  | .lst _, ⟨_, e, _⟩, _, _, z => by rw [e] at z; cases z
  | .dK _, ⟨_, e, _⟩, _, _, z => by rw [e] at z; cases z
  | .dT _, ⟨_, e, _⟩, _, _, z => by rw [e] at z; cases z
  | .set _ _ _, e, _, _, z => by
    have e' : o = SetO _ _ _ _ := e
    rw [e'] at z; cases z
  | .setT _ _ _, ⟨_, e, _⟩, _, _, z => by rw [e] at z; cases z
/-- what runs along: the pen, the tables of generators -/
structure Am where
  sp : Addr → Prop
  ok : Nat → Hp → Prop
  trk : ∀ {n H a}, ok n H → sp a → H a ≠ none
  ntp : ∀ {n H a xs}, ok n H → sp a → H a ≠ some (.tup xs)
  mono : ∀ {n H H'}, ok n H → (∀ b, sp b → H' b = H b) → CodeK H H' → ok n H'
/-- where a def was entered: what was still, what stood -/
structure Fc where
  am : Am
  F0 : Hp
  H0 : Hp
def SlOk (c : Fc) (F H : Hp) (x : Option (Option V)) : Sl → Prop
  | .no => True
  | .fz d => ∃ v, x = some (some v) ∧ Rp F v d
  | .ow k => ∃ a o, x = some (some (.ref a)) ∧ F a = none ∧ c.H0 a = none ∧ ¬ c.am.sp a ∧ H a = some o ∧ OwOk F a o k
structure Rel (c : Fc) (F H : Hp) (σ : L2.St) (env : Ev) (n : Nat) : Prop where
  sub : Up F H
  spf : ∀ a, c.am.sp a → F a = none
  amb : c.am.ok n H
  up0 : Up c.F0 F
  out0 : ∀ a o, c.H0 a = some o → NT o → c.F0 a = none → F a = none
  keep0 : ∀ a o, c.H0 a = some o → ¬ c.am.sp a → H a = some o
  len : σ.length = env.length
  sl : ∀ (i : Nat) (s : Sl), env[i]? = some s → SlOk c F H σ[i]? s
  apart : ∀ (i j : Nat) (a : Addr) (k k' : Con), i ≠ j → env[i]? = some (.ow k) → env[j]? = some (.ow k') → σ[i]? = some (some (.ref a)) → σ[j]? ≠ some (some (.ref a))
section
variable {c : Fc} {F H : Hp} {σ : L2.St} {env : Ev} {n : Nat} {p a : Addr} {o : HO}
theorem Rel.new0 (r : Rel c F H σ env n) (hp : H p = none) : c.H0 p = none ∧ ¬ c.am.sp p ∧ F p = none := by
  have h2 : ¬ c.am.sp p := fun z => c.am.trk r.amb z hp
  refine ⟨?_, h2, ?_⟩
  · cases e : c.H0 p with
    | none => rfl
    | some o => rw [r.keep0 p o e h2] at hp; cases hp
  · cases e : F p with
    | none => rfl
    | some o => rw [r.sub p o e] at hp; cases hp
theorem Rel.amb' (r : Rel c F H σ env n) {H' : Hp} (h : ∀ b, c.am.sp b → H' b = H b) (hc : CodeK H H') : c.am.ok n H' := c.am.mono r.amb h hc
theorem SlOk.up {F' H' : Hp} {x : Option (Option V)} (u : Up F F') (k : ∀ a o, F a = none → H a = some o → c.H0 a = none → ¬ c.am.sp a → F' a = none ∧ H' a = some o) : ∀ {s : Sl}, SlOk c F H x s → SlOk c F' H' x s
  | .no, _ => trivial
  | .fz _, ⟨v, e, r⟩ => ⟨v, e, r.up u⟩
  | .ow _, ⟨a, o, e, f, h0, ns, h, w⟩ => ⟨a, o, e, (k a o f h h0 ns).1, h0, ns, (k a o f h h0 ns).2, w.up u⟩
/-- a new thing, not still -/
theorem Rel.lay (r : Rel c F H σ env n) (hp : H p = none) (o : HO) : Rel c F (upd H p o) σ env n := by
  obtain ⟨h0, ns, hf⟩ := r.new0 hp
  exact ⟨fun b u e => up_lay hp b u (r.sub b u e), r.spf, r.amb' (fun b hb => upd_ne fun z => ns (z ▸ hb)) (codeK_upd fun _ _ z => by rw [hp] at z; cases z), r.up0, r.out0, fun b u e nb => up_lay hp b u (r.keep0 b u e nb), r.len,
    fun i s e => (r.sl i s e).up (Up.refl F) fun b u fb hb _ _ => ⟨fb, up_lay hp b u hb⟩, r.apart⟩
/-- a new thing, still from now on -/
theorem Rel.layF (r : Rel c F H σ env n) (hp : H p = none) (o : HO) : Rel c (upd F p o) (upd H p o) σ env n := by
  obtain ⟨h0, ns, hf⟩ := r.new0 hp
  have r2 := r.lay hp o
  refine ⟨fun b u e => ?_, fun b hb => ?_, r2.amb, r.up0.trans (up_lay hf), fun b ob h1 nt h2 => ?_, r2.keep0, r.len, fun i s e => (r.sl i s e).up (up_lay hf) fun b u fb hb h0 nb => ?_, r.apart⟩
  · by_cases z : b = p
    · subst z; rw [upd_same] at e ⊢; exact e
    · rw [upd_ne z] at e ⊢; exact r.sub b u e
  · rw [upd_ne (fun (z : b = _) => ns (by rw [← z]; exact hb))]; exact r.spf b hb
  · rw [upd_ne (fun (z : b = _) => by rw [z, h0] at h1; cases h1)]; exact r.out0 b ob h1 nt h2
  · have z : b ≠ p := fun z => by rw [z, hp] at hb; cases hb
    rw [upd_ne z, upd_ne z]
    exact ⟨fb, hb⟩
/-- what is still may grow by what stands nowhere -/
theorem Rel.setF {v : V} {d : Dt} {i : Nat} (r : Rel c F H σ env n) (h : Rp F v d) : Rel c F H (σ.set i (some v)) (env.set i (.fz d)) n := by
  refine ⟨r.sub, r.spf, r.amb, r.up0, r.out0, r.keep0, by rw [List.length_set, List.length_set]; exact r.len, fun j s e => ?_, fun j l b k k' hjl e1 e2 e3 => ?_⟩
  · by_cases z : j = i
    · subst z
      have hl : j < env.length := by
        have := (List.getElem?_eq_some_iff.mp e).1
        rwa [List.length_set] at this
      rw [List.getElem?_set_self hl] at e
      cases e
      exact ⟨v, by rw [List.getElem?_set_self (by rw [r.len]; exact hl)], h⟩
    · rw [List.getElem?_set_ne (Ne.symm z)] at e ⊢
      exact r.sl j s e
  · have f : ∀ {j : Nat} {k : Con}, (env.set i (.fz d))[j]? = some (.ow k) → j ≠ i ∧ env[j]? = some (.ow k) := fun {j k} e => by
      by_cases z : j = i
      · subst z
        have hl : j < env.length := by
          have := (List.getElem?_eq_some_iff.mp e).1
          rwa [List.length_set] at this
        rw [List.getElem?_set_self hl] at e
        cases e
      · rw [List.getElem?_set_ne (Ne.symm z)] at e
        exact ⟨z, e⟩
    obtain ⟨n1, f1⟩ := f e1
    obtain ⟨n2, f2⟩ := f e2
    rw [List.getElem?_set_ne (Ne.symm n1)] at e3
    rw [List.getElem?_set_ne (Ne.symm n2)]
    exact r.apart j l b k k' hjl f1 f2 e3
/-- a new thing goes to its own slot -/
theorem Rel.setO {k : Con} {i : Nat} (r : Rel c F H σ env n) (hF : F a = none) (h0 : c.H0 a = none) (ns : ¬ c.am.sp a) (hH : H a = some o) (w : OwOk F a o k) (ha : ∀ (j : Nat) k', env[j]? = some (.ow k') → σ[j]? ≠ some (some (.ref a))) : Rel c F H (σ.set i (some (.ref a))) (env.set i (.ow k)) n := by
  refine ⟨r.sub, r.spf, r.amb, r.up0, r.out0, r.keep0, by rw [List.length_set, List.length_set]; exact r.len, fun j s e => ?_, fun j l b k1 k2 hjl e1 e2 e3 => ?_⟩
  · by_cases z : j = i
    · subst z
      have hl : j < env.length := by
        have := (List.getElem?_eq_some_iff.mp e).1
        rwa [List.length_set] at this
      rw [List.getElem?_set_self hl] at e
      cases e
      exact ⟨a, o, by rw [List.getElem?_set_self (by rw [r.len]; exact hl)], hF, h0, ns, hH, w⟩
    · rw [List.getElem?_set_ne (Ne.symm z)] at e ⊢
      exact r.sl j s e
  · by_cases zj : j = i
    · subst zj
      have hl : j < env.length := by
        have := (List.getElem?_eq_some_iff.mp e1).1
        rwa [List.length_set] at this
      rw [List.getElem?_set_self (by rw [r.len]; exact hl)] at e3
      cases e3
      rw [List.getElem?_set_ne hjl] at e2 ⊢
      exact ha l k2 e2
    · rw [List.getElem?_set_ne (Ne.symm zj)] at e1 e3
      by_cases zl : l = i
      · subst zl
        have hl : l < env.length := by
          have := (List.getElem?_eq_some_iff.mp e2).1
          rwa [List.length_set] at this
        rw [List.getElem?_set_self (by rw [r.len]; exact hl)]
        intro z
        cases z
        exact ha j k1 e1 e3
      · rw [List.getElem?_set_ne (Ne.symm zl)] at e2 ⊢
        exact r.apart j l b k1 k2 hjl e1 e2 e3
/-- the thing of a slot is written -/
theorem Rel.write {k k' : Con} {o' : HO} {i : Nat} (r : Rel c F H σ env n) (hi : env[i]? = some (.ow k)) (ha : σ[i]? = some (some (.ref a))) (w : OwOk F a o' k') : Rel c F (upd H a o') σ (env.set i (.ow k')) n := by
  obtain ⟨a', o, e1, hF, h0, ns, hH, wo⟩ := r.sl i _ hi
  rw [ha] at e1
  cases e1
  refine ⟨fun b u e => ?_, r.spf, r.amb' (fun b hb => upd_ne fun z => ns (z ▸ hb)) (codeK_upd fun oc x z => wo.nfrz oc x (by rw [hH] at z; exact Option.some.inj z)), r.up0, r.out0, fun b u e nb => ?_, by rw [List.length_set]; exact r.len, fun j s e => ?_, fun j l b k1 k2 hjl e1 e2 e3 => ?_⟩
  · rw [upd_ne fun z => by rw [z, hF] at e; cases e]; exact r.sub b u e
  · rw [upd_ne fun z => by rw [z, h0] at e; cases e]; exact r.keep0 b u e nb
  · by_cases z : j = i
    · subst z
      rw [List.getElem?_set_self (List.getElem?_eq_some_iff.mp hi).1] at e
      cases e
      exact ⟨a, o', ha, hF, h0, ns, upd_same, w⟩
    · rw [List.getElem?_set_ne (Ne.symm z)] at e
      have q := r.sl j s e
      cases s with
      | no => trivial
      | fz d => exact q
      | ow kk =>
        obtain ⟨a2, o2, g1, g2, g3, g4, g5, g6⟩ := q
        refine ⟨a2, o2, g1, g2, g3, g4, ?_, g6⟩
        rw [upd_ne fun z2 => r.apart i j a k kk (Ne.symm z) hi e ha (by rw [g1, z2])]
        exact g5
  · have f : ∀ {j : Nat} {k1 : Con}, (env.set i (.ow k'))[j]? = some (.ow k1) → ∃ k2, env[j]? = some (.ow k2) := fun {j k1} e => by
      by_cases z : j = i
      · exact ⟨k, z ▸ hi⟩
      · rw [List.getElem?_set_ne (Ne.symm z)] at e
        exact ⟨_, e⟩
    obtain ⟨_, f1⟩ := f e1
    obtain ⟨_, f2⟩ := f e2
    exact r.apart j l b _ _ hjl f1 f2 e3
/-- the thing of a slot is still from now on -/
theorem Rel.freeze {ds : List Dt} {i : Nat} (r : Rel c F H σ env n) (hi : env[i]? = some (.ow (.lst ds))) : ∃ a F', σ[i]? = some (some (.ref a)) ∧ Up F F' ∧ Rp F' (.ref a) (.lst ds) ∧ Rel c F' H σ (env.set i (.fz (.lst ds))) n := by
  obtain ⟨a, o, e1, hF, h0, ns, hH, xs, rfl, rx⟩ := r.sl i _ hi
  have hrp : Rp (upd F a (.lst xs)) (.ref a) (.lst ds) := .lst upd_same (rx.up (up_lay hF))
  refine ⟨a, upd F a (.lst xs), e1, up_lay hF, hrp, ?_⟩
  refine ⟨fun b u e => ?_, fun b hb => ?_, r.amb, r.up0.trans (up_lay hF), fun b ob h1 nt h2 => ?_, r.keep0, by rw [List.length_set]; exact r.len, fun j s e => ?_, fun j l b k1 k2 hjl e1 e2 e3 => ?_⟩
  · by_cases z : b = a
    · subst z; rw [upd_same] at e; cases e; exact hH
    · rw [upd_ne z] at e; exact r.sub b u e
  · rw [upd_ne (fun (z : b = _) => ns (by rw [← z]; exact hb))]; exact r.spf b hb
  · rw [upd_ne (fun (z : b = _) => by rw [z, h0] at h1; cases h1)]; exact r.out0 b ob h1 nt h2
  · by_cases z : j = i
    · subst z
      rw [List.getElem?_set_self (List.getElem?_eq_some_iff.mp hi).1] at e
      cases e
      exact ⟨_, e1, hrp⟩
    · rw [List.getElem?_set_ne (Ne.symm z)] at e
      have q := r.sl j s e
      cases s with
      | no => trivial
      | fz d => exact let ⟨v, g1, g2⟩ := q; ⟨v, g1, g2.up (up_lay hF)⟩
      | ow kk =>
        obtain ⟨a2, o2, g1, g2, g3, g4, g5, g6⟩ := q
        refine ⟨a2, o2, g1, ?_, g3, g4, g5, g6.up (up_lay hF)⟩
        rw [upd_ne fun z2 => r.apart i j a _ kk (Ne.symm z) hi e e1 (by rw [g1, z2])]
        exact g2
  · have f : ∀ {j : Nat} {k1 : Con}, (env.set i (.fz (.lst ds)))[j]? = some (.ow k1) → env[j]? = some (.ow k1) := fun {j k1} e => by
      by_cases z : j = i
      · subst z
        rw [List.getElem?_set_self (List.getElem?_eq_some_iff.mp hi).1] at e
        cases e
      · rw [List.getElem?_set_ne (Ne.symm z)] at e
        exact e
    exact r.apart j l b k1 k2 hjl (f e1) (f e2) e3
/-- slots may be forgotten -/
theorem Rel.weak {σ' : L2.St} {env' : Ev} (r : Rel c F H σ env n) (hl : σ'.length = env'.length) (h : ∀ (i : Nat) s, env'[i]? = some s → s = .no ∨ (env[i]? = some s ∧ σ'[i]? = σ[i]?)) : Rel c F H σ' env' n := by
  refine ⟨r.sub, r.spf, r.amb, r.up0, r.out0, r.keep0, hl, fun i s e => ?_, fun j l b k1 k2 hjl e1 e2 e3 => ?_⟩
  · rcases h i s e with rfl | ⟨h1, h2⟩
    · trivial
    · rw [h2]; exact r.sl i s h1
  · rcases h j _ e1 with z | ⟨h1, h2⟩
    · cases z
    · rcases h l _ e2 with z | ⟨h3, h4⟩
      · cases z
      · rw [h2] at e3
        rw [h4]
        exact r.apart j l b k1 k2 hjl h1 h3 e3
/-- behind a call that wrote nothing of ours -/
theorem Rel.call {F' H' : Hp} {n' : Nat} (r : Rel c F H σ env n) (u : Up F F') (sb : Up F' H') (sf : ∀ a, c.am.sp a → F' a = none) (ot : ∀ a o, H a = some o → NT o → F a = none → F' a = none) (kp : ∀ a o, H a = some o → ¬ c.am.sp a → H' a = some o) (am : c.am.ok n' H') : Rel c F' H' σ env n' := by
  refine ⟨sb, sf, am, r.up0.trans u, fun b ob h1 nt h2 => ?_, fun b o e nb => kp b o (r.keep0 b o e nb) nb, r.len, fun i s e => ?_, r.apart⟩
  · by_cases hs : c.am.sp b
    · exact sf b hs
    · exact ot b ob (r.keep0 b ob h1 hs) nt (r.out0 b ob h1 nt h2)
  · have q := r.sl i s e
    cases s with
    | no => trivial
    | fz d => exact let ⟨v, g1, g2⟩ := q; ⟨v, g1, g2.up u⟩
    | ow k =>
      obtain ⟨a, o, g1, g2, g3, g4, g5, g6⟩ := q
      exact ⟨a, o, g1, ot a o g5 g6.nt g2, g3, g4, kp a o g5 g4, g6.up u⟩
/-- a tuple that stands may be held still -/
theorem Rel.addT {xs : List V} (r : Rel c F H σ env n) (h : H a = some (.tup xs)) : Rel c (upd F a (.tup xs)) H σ env n ∧ Up F (upd F a (.tup xs)) := by
  have up : Up F (upd F a (.tup xs)) := fun b o e => by
    by_cases z : b = a
    · subst z
      rw [r.sub _ _ e] at h
      cases h
      exact upd_same
    · rw [upd_ne z]; exact e
  refine ⟨⟨fun b o e => ?_, fun b hb => ?_, r.amb, r.up0.trans up, fun b ob h1 nt h2 => ?_, r.keep0, r.len, fun i s e => ?_, r.apart⟩, up⟩
  · by_cases z : b = a
    · subst z; rw [upd_same] at e; cases e; exact h
    · rw [upd_ne z] at e; exact r.sub b o e
  · rw [upd_ne (fun (z : b = a) => c.am.ntp r.amb hb (by rw [z]; exact h))]; exact r.spf b hb
  · by_cases z : b = a
    · subst z
      by_cases hs : c.am.sp b
      · exact absurd h (c.am.ntp r.amb hs)
      · have := r.keep0 b ob h1 hs
        rw [h] at this
        cases this
        exact absurd rfl (nt xs)
    · rw [upd_ne z]; exact r.out0 b ob h1 nt h2
  · have q := r.sl i s e
    cases s with
    | no => trivial
    | fz d => exact let ⟨v, g1, g2⟩ := q; ⟨v, g1, g2.up up⟩
    | ow k =>
      obtain ⟨a2, o, g1, g2, g3, g4, g5, g6⟩ := q
      refine ⟨a2, o, g1, ?_, g3, g4, g5, g6.up up⟩
      rw [upd_ne fun z => by
        rw [z, h] at g5
        cases g5
        exact absurd rfl (g6.nt xs)]
      exact g2
end
end VL
namespace VL
open PySem PySem.Spec PyProof.Rows L2 HM
abbrev VTE := Ev → Nat → (Dt → Ev → Nat → Prop) → Prop
abbrev VTT := Ev → Nat → (Bool → Ev → Nat → Prop) → Prop
abbrev VTA := Ev → Nat → (List Dt → Ev → Nat → Prop) → Prop
abbrev VTN := Ev → Nat → (Con → Ev → Nat → Prop) → Prop
structure VEn where
  nx : Ev → Nat → Prop
  rt : Dt → Nat → Prop
  bk : Ev → Nat → Prop := fun _ _ => False
  ct : Ev → Nat → Prop := fun _ _ => False
abbrev VTS := VEn → Ev → Nat → Prop
abbrev VTG := Dt → Ev → Nat → (Ev → Nat → Prop) → Prop
abbrev VTGs := List Dt → Ev → Nat → (Ev → Nat → Prop) → Prop
abbrev VTI := Ev → Nat → (List Dt → Ev → Nat → Prop) → Prop
/-- a still value -/
def tOf (c : Fc) (te : VTE) : TE := fun σ H R => ∃ F env n Q, Rel c F H σ env n ∧ te env n Q ∧ ∀ v H' F' d env' n', Rel c F' H' σ env' n' → Up F F' → Rp F' v d → Q d env' n' → R v H'
/-- what is still, and some lists of one's own beside -/
structure Gx (c : Fc) (F H G : Hp) : Prop where
  u1 : Up F G
  u2 : Up G H
  sp : ∀ a, c.am.sp a → G a = none
  tp : ∀ a xs, G a = some (.tup xs) → F a = some (.tup xs)
theorem Rel.gx {c : Fc} {F H : Hp} {σ : L2.St} {env : Ev} {n : Nat} (r : Rel c F H σ env n) : Gx c F H F := ⟨Up.refl F, r.sub, r.spf, fun _ _ e => e⟩
/-- a value that is read at once -/
def rOf (c : Fc) (te : VTE) : TE := fun σ H R => ∃ F env n Q, Rel c F H σ env n ∧ te env n Q ∧ ∀ v H' F' G d env' n', Rel c F' H' σ env' n' → Up F F' → Gx c F' H' G → Rp G v d → Q d env' n' → R v H'
/-- a new thing -/
def nOf (c : Fc) (te : VTN) : TE := fun σ H R => ∃ F env n Q, Rel c F H σ env n ∧ te env n Q ∧ ∀ a o H' F' k env' n', Rel c F' H' σ env' n' → Up F F' → F' a = none → c.H0 a = none → ¬ c.am.sp a → H' a = some o → OwOk F' a o k → (∀ (j : Nat) k', env'[j]? = some (.ow k') → σ[j]? ≠ some (some (.ref a))) → Q k env' n' → R (.ref a) H'
def aOf (c : Fc) (ta : VTA) : TA := fun σ H R => ∃ F env n Q, Rel c F H σ env n ∧ ta env n Q ∧ ∀ vs H' F' ds env' n', Rel c F' H' σ env' n' → Up F F' → Rps F' vs ds → Q ds env' n' → R vs H'
def bOf (c : Fc) (ta : VTA) : TA := fun σ H R => ∃ F env n Q, Rel c F H σ env n ∧ ta env n Q ∧ ∀ vs H' F' G ds env' n', Rel c F' H' σ env' n' → Up F F' → Gx c F' H' G → Rps G vs ds → Q ds env' n' → R vs H'
def cOf (c : Fc) (tt : VTT) : TT := fun σ H R => ∃ F env n Q, Rel c F H σ env n ∧ tt env n Q ∧ ∀ b H' F' env' n', Rel c F' H' σ env' n' → Up F F' → Q b env' n' → R b H'
structure EnOk (c : Fc) (F : Hp) (V : VEn) (D : Ends) : Prop where
  nx : ∀ F' H' σ' env' n', Rel c F' H' σ' env' n' → Up F F' → V.nx env' n' → D.nx σ' H'
  rt : ∀ F' H' σ' env' n' v d, Rel c F' H' σ' env' n' → Up F F' → Rp F' v d → V.rt d n' → D.rt v H'
  bk : ∀ F' H' σ' env' n', Rel c F' H' σ' env' n' → Up F F' → V.bk env' n' → D.bk σ' H'
  ct : ∀ F' H' σ' env' n', Rel c F' H' σ' env' n' → Up F F' → V.ct env' n' → D.ct σ' H'
theorem EnOk.up {c : Fc} {F F' : Hp} {V : VEn} {D : Ends} (h : EnOk c F V D) (u : Up F F') : EnOk c F' V D :=
  ⟨fun F2 H' σ' env' n' r w => h.nx F2 H' σ' env' n' r (u.trans w), fun F2 H' σ' env' n' v d r w => h.rt F2 H' σ' env' n' v d r (u.trans w), fun F2 H' σ' env' n' r w => h.bk F2 H' σ' env' n' r (u.trans w), fun F2 H' σ' env' n' r w => h.ct F2 H' σ' env' n' r (u.trans w)⟩
def sOf (c : Fc) (ts : VTS) : TS := fun D σ H => ∃ F env n V, Rel c F H σ env n ∧ ts V env n ∧ EnOk c F V D
def gOf (c : Fc) (g : VTG) : TG := fun v σ H R => ∃ F env n d Q, Rel c F H σ env n ∧ Rp F v d ∧ g d env n Q ∧ ∀ σ' H' F' env' n', Rel c F' H' σ' env' n' → Up F F' → Q env' n' → R σ' H'
def gsOf (c : Fc) (g : VTGs) : TGs := fun vs σ H R => ∃ F env n ds Q, Rel c F H σ env n ∧ Rps F vs ds ∧ g ds env n Q ∧ ∀ σ' H' F' env' n', Rel c F' H' σ' env' n' → Up F F' → Q env' n' → R σ' H'
/-- what is walked: the things xs, one by one -/
def Wk (am : Am) (J : It) (F0 : Hp) (xs : List Dt) : Prop := ∀ (c : Fc), c.am = am → ∀ F H σ env n, Rel c F H σ env n → Up F0 F → ∀ i : Nat,
  (i < xs.length → J.go i H ∧ ∀ x H', J.yld i H x H' → ∃ F' d, Rel c F' H' σ env n ∧ Up F F' ∧ xs[i]? = some d ∧ Rp F' x d) ∧ (xs.length ≤ i → J.stop i H)
def iOf (c : Fc) (wi : VTI) : TI := fun σ H R => ∃ F env n Q, Rel c F H σ env n ∧ wi env n Q ∧ ∀ J H' F' xs env' n', Rel c F' H' σ env' n' → Up F F' → Wk c.am J F' xs → Q xs env' n' → R J H'
theorem PE.imp {X : Cx} {e : Expr} {t t' : TE} (h : PE X e t) (k : ∀ σ H R, t' σ H R → t σ H R) : PE X e t' := ⟨fun pins s σ H Q I q => h.run pins s σ H Q I (k _ _ _ q)⟩
theorem PT.imp {X : Cx} {e : Expr} {t t' : TT} (h : PT X e t) (k : ∀ σ H R, t' σ H R → t σ H R) : PT X e t' := ⟨fun pins s σ H Q I q => h.run pins s σ H Q I (k _ _ _ q)⟩
theorem PW.imp {X : Cx} {e : Expr} {t t' : TT} (h : PW X e t) (k : ∀ σ H R, t' σ H R → t σ H R) : PW X e t' := ⟨fun wh pins s σ H Q I q => h.run wh pins s σ H Q I (k _ _ _ q)⟩
theorem PA.imp {X : Cx} {e : List Expr} {t t' : TA} (h : PA X e t) (k : ∀ σ H R, t' σ H R → t σ H R) : PA X e t' := ⟨fun pos pins s σ H Q I q => h.run pos pins s σ H Q I (k _ _ _ q)⟩
theorem PS.imp {X : Cx} {e : Stmt} {t t' : TS} (h : PS X e t) (k : ∀ D σ H, t' D σ H → t D σ H) : PS X e t' := ⟨fun pins s σ H D I q => h.run pins s σ H D I (k _ _ _ q)⟩
theorem PSs.imp {X : Cx} {e : List Stmt} {t t' : TS} (h : PSs X e t) (k : ∀ D σ H, t' D σ H → t D σ H) : PSs X e t' := ⟨fun pins s σ H D I q => h.run pins s σ H D I (k _ _ _ q)⟩
theorem PG.imp {X : Cx} {e : Expr} {t t' : TG} (h : PG X e t) (k : ∀ v σ H R, t' v σ H R → t v σ H R) : PG X e t' := ⟨fun pins s σ H v u Q I r q => h.run pins s σ H v u Q I r (k _ _ _ _ q)⟩
theorem PGs.imp {X : Cx} {e : List Expr} {t t' : TGs} (h : PGs X e t) (k : ∀ v σ H R, t' v σ H R → t v σ H R) : PGs X e t' := ⟨fun pins s σ H v u Q I r q => h.run pins s σ H v u Q I r (k _ _ _ _ q)⟩
theorem PI.imp {X : Cx} {tg e : Expr} {t t' : TI} (h : PI X tg e t) (k : ∀ σ H R, t' σ H R → t σ H R) : PI X tg e t' := ⟨fun pins s σ H Q I q => h.run pins s σ H Q I (k _ _ _ q)⟩
section
variable {c : Fc} {X : Cx} {a b : Expr} {ta tb : VTE} {pos : Pos}
def vVar (i : Nat) : VTE := fun env n Q => ∃ d, env[i]? = some (.fz d) ∧ Q d env n
/-- a thing of one's own, still from now on -/
def vMv (i : Nat) : VTE := fun env n Q => ∃ ds, env[i]? = some (.ow (.lst ds)) ∧ Q (.lst ds) (env.set i (.fz (.lst ds))) n
/-- a thing of one's own, or a still one, just read -/
def vRd (i : Nat) : VTE := fun env n Q => ∃ d, (env[i]? = some (.fz d) ∨ ∃ ds, env[i]? = some (.ow (.lst ds)) ∧ d = .lst ds) ∧ Q d env n
def vC (d : Dt) : VTE := fun env n Q => Q d env n
theorem tVar_of {i : Nat} {σ : L2.St} {H : Hp} {R : VK} (h : tOf c (vVar i) σ H R) : tVar i σ H R := by
  obtain ⟨F, env, n, Q, r, ⟨d, e, q⟩, k⟩ := h
  obtain ⟨v, e2, rp⟩ := r.sl i _ e
  exact ⟨v, e2, k v H F d env n r (Up.refl F) rp q⟩
theorem ve_var {i : Nat} {x : Str} (h : PE X (.Name x pos) (tVar i)) : PE X (.Name x pos) (tOf c (vVar i)) := PE.imp h fun _ _ _ => tVar_of
theorem ve_mv {i : Nat} {x : Str} (h : PE X (.Name x pos) (tVar i)) : PE X (.Name x pos) (tOf c (vMv i)) := PE.imp h fun σ H R ⟨F, env, n, Q, r, ⟨ds, e, q⟩, k⟩ => by
  obtain ⟨a, F', e2, u, rp, r'⟩ := r.freeze e
  exact ⟨.ref a, e2, k _ H F' _ _ n r' u rp q⟩
theorem Rel.rdOwn {F H : Hp} {σ : L2.St} {env : Ev} {n : Nat} {i : Nat} {ds : List Dt} (r : Rel c F H σ env n) (e : env[i]? = some (.ow (.lst ds))) : ∃ a xs, σ[i]? = some (some (.ref a)) ∧ H a = some (.lst xs) ∧ Rps F xs ds := by
  obtain ⟨a, o, e2, _, _, _, hH, xs, rfl, rx⟩ := r.sl i _ e
  exact ⟨a, xs, e2, hH, rx⟩
/-- a list of one's own beside what is still -/
theorem Gx.add {F H G : Hp} {σ : L2.St} {env : Ev} {n : Nat} {i : Nat} {ds : List Dt} (r : Rel c F H σ env n) (g : Gx c F H G) (e : env[i]? = some (.ow (.lst ds))) : ∃ a G', σ[i]? = some (some (.ref a)) ∧ Gx c F H G' ∧ Up G G' ∧ Rp G' (.ref a) (.lst ds) := by
  obtain ⟨a, o, e2, hF, h0, ns, hH, xs, rfl, rx⟩ := r.sl i _ e
  have up : Up G (upd G a (.lst xs)) := fun b u q => by
    by_cases z : b = a
    · subst z
      rw [g.u2 _ _ q] at hH
      cases hH
      exact upd_same
    · rw [upd_ne z]; exact q
  refine ⟨a, upd G a (.lst xs), e2, ⟨g.u1.trans up, fun b u q => ?_, fun b hb => ?_, fun b ys q => ?_⟩, up, .lst upd_same (rx.up (g.u1.trans up))⟩
  · by_cases z : b = a
    · subst z; rw [upd_same] at q; cases q; exact hH
    · rw [upd_ne z] at q; exact g.u2 b u q
  · rw [upd_ne (fun (z : b = a) => ns (by rw [← z]; exact hb))]; exact g.sp b hb
  · by_cases z : b = a
    · subst z; rw [upd_same] at q; cases q
    · rw [upd_ne z] at q; exact g.tp b ys q
theorem vr_var {i : Nat} {x : Str} (h : PE X (.Name x pos) (tVar i)) : PE X (.Name x pos) (rOf c (vRd i)) := PE.imp h fun σ H R ⟨F, env, n, Q, r, ⟨d, e, q⟩, k⟩ => by
  rcases e with e | ⟨ds, e, rfl⟩
  · obtain ⟨v, e2, rp⟩ := r.sl i _ e
    exact ⟨v, e2, k v H F F d env n r (Up.refl F) r.gx rp q⟩
  · obtain ⟨a, G, e2, g, _, rp⟩ := r.gx.add r e
    exact ⟨_, e2, k _ H F G _ env n r (Up.refl F) g rp q⟩
theorem vr_of {te : VTE} {e : Expr} (h : PE X e (tOf c te)) : PE X e (rOf c te) := PE.imp h fun σ H R ⟨F, env, n, Q, r, h, k⟩ => ⟨F, env, n, Q, r, h, fun v H' F' d env' n' r' u rp q => k v H' F' F' d env' n' r' u r'.gx rp q⟩
theorem ve_c {e : Expr} {v : V} {d : Dt} (h : PE X e (tC v)) (hd : ∀ F, Rp F v d) : PE X e (tOf c (vC d)) := PE.imp h fun σ H R ⟨F, env, n, Q, r, q, k⟩ => k v H F d env n r (Up.refl F) (hd F) q
theorem ve_int {i j} : PE X (.Constant (.int i) j pos) (tOf c (vC (.int i))) := ve_c pe_int fun _ => .int i
theorem ve_bl {i j} : PE X (.Constant (.bool i) j pos) (tOf c (vC (.bl i))) := ve_c pe_bl fun _ => .bl i
theorem ve_non {j} : PE X (.Constant .none j pos) (tOf c (vC .non)) := ve_c pe_non fun _ => .non
/-- a new list, still from now on -/
theorem ve_new {te : VTN} {e : Expr} (h : PE X e (nOf c te)) : PE X e (tOf c (fun env n Q => te env n fun k env' n' => ∃ ds, k = .lst ds ∧ Q (.lst ds) env' n')) := PE.imp h fun σ H R ⟨F, env, n, Q, r, h, k⟩ => ⟨F, env, n, _, r, h, fun a o H' F' kk env' n' r' u hF h0 ns hH w ha q => by
    obtain ⟨ds, rfl, q⟩ := q
    obtain ⟨xs, rfl, rx⟩ := w
    have rp : Rp (upd F' a (.lst xs)) (.ref a) (.lst ds) := .lst upd_same (rx.up (up_lay hF))
    refine k _ H' (upd F' a (.lst xs)) _ env' n' ⟨fun b ob e => ?_, fun b hb => ?_, r'.amb, r'.up0.trans (up_lay hF), fun b ob h1 nt h2 => ?_, r'.keep0, r'.len, fun i s e => ?_, r'.apart⟩ (u.trans (up_lay hF)) rp q
    · by_cases z : b = a
      · subst z; rw [upd_same] at e; cases e; exact hH
      · rw [upd_ne z] at e; exact r'.sub b ob e
    · rw [upd_ne (fun (z : b = a) => ns (by rw [← z]; exact hb))]; exact r'.spf b hb
    · rw [upd_ne (fun (z : b = a) => by rw [z, h0] at h1; cases h1)]; exact r'.out0 b ob h1 nt h2
    · have q := r'.sl i s e
      cases s with
      | no => trivial
      | fz d => exact let ⟨v, g1, g2⟩ := q; ⟨v, g1, g2.up (up_lay hF)⟩
      | ow kk =>
        obtain ⟨a2, o2, g1, g2, g3, g4, g5, g6⟩ := q
        refine ⟨a2, o2, g1, ?_, g3, g4, g5, g6.up (up_lay hF)⟩
        rw [upd_ne fun z2 => ha i kk e (by rw [g1, z2])]
        exact g2⟩
def v2 (ta tb : VTE) (k : Dt → Dt → Ev → Nat → Prop) : Ev → Nat → Prop := fun env n => ta env n fun x env1 n1 => tb env1 n1 fun y env2 n2 => k x y env2 n2
theorem t2_of {σ : L2.St} {H : Hp} {F : Hp} {env : Ev} {n : Nat} {k : Dt → Dt → Ev → Nat → Prop} {K : V → V → Hp → Prop} (r : Rel c F H σ env n) (h : v2 ta tb k env n)
    (hk : ∀ x y d1 d2 H' F' env' n', Rel c F' H' σ env' n' → Up F F' → Rp F' x d1 → Rp F' y d2 → k d1 d2 env' n' → K x y H') : tOf c ta σ H fun x H1 => tOf c tb σ H1 fun y H2 => K x y H2 :=
  ⟨F, env, n, _, r, h, fun x H1 F1 d1 env1 n1 r1 u1 p1 q1 => ⟨F1, env1, n1, _, r1, q1, fun y H2 F2 d2 env2 n2 r2 u2 p2 q2 => hk x y d1 d2 H2 F2 env2 n2 r2 (u1.trans u2) (p1.up u2) p2 q2⟩⟩
theorem Rp.int_inv {F : Hp} {v : V} {i : Int} (h : Rp F v (.int i)) : v = .int i := by cases h; rfl
theorem Rp.bl_inv {F : Hp} {v : V} {i : Bool} (h : Rp F v (.bl i)) : v = .bl i := by cases h; rfl
theorem Rp.str_inv {F : Hp} {v : V} {i : Str} (h : Rp F v (.str i)) : v = .str i := by cases h; rfl
theorem Rp.lst_inv {F : Hp} {v : V} {ds : List Dt} (h : Rp F v (.lst ds)) : ∃ a xs, v = .ref a ∧ F a = some (.lst xs) ∧ Rps F xs ds := by cases h with | lst h t => exact ⟨_, _, rfl, h, t⟩
theorem Rp.tup_inv {F : Hp} {v : V} {ds : List Dt} (h : Rp F v (.tup ds)) : ∃ a xs, v = .ref a ∧ F a = some (.tup xs) ∧ Rps F xs ds := by cases h with | tup h t => exact ⟨_, _, rfl, h, t⟩
end
end VL
namespace VL
open PySem PySem.Spec PyProof.Rows L2 HM
abbrev R2D := Dt → Dt → (Dt → Prop) → Prop
def Lft2 (r : R2) (r' : R2D) : Prop := ∀ (F H : Hp) x y d1 d2 (Q : Dt → Prop) (R : VK), Up F H → Rp F x d1 → Rp F y d2 → r' d1 d2 Q → (∀ v d, Rp F v d → Q d → R v H) → r x y H R
def vOp (r' : R2D) (ta tb : VTE) : VTE := fun env n Q => v2 ta tb (fun x y env' n' => r' x y fun d => Q d env' n') env n
/-- what slot i holds, to be read -/
def rdS (env : Ev) (i : Nat) (d : Dt) : Prop := env[i]? = some (.fz d) ∨ ∃ ds, env[i]? = some (.ow (.lst ds)) ∧ d = .lst ds
/-- the left one a name whose thing is read at the end -/
def vOpN (r' : R2D) (i : Nat) (tb : VTE) : VTE := fun env n Q => (∃ d0, rdS env i d0) ∧ tb env n fun y env' n' => ∃ x, rdS env' i x ∧ r' x y fun d => flat d = true ∧ Q d env' n'
def vOpR (r' : R2D) (ta tb : VTE) : VTE := fun env n Q => v2 ta tb (fun x y env' n' => r' x y fun d => flat d = true ∧ Q d env' n') env n
section
variable {c : Fc} {X : Cx} {a b : Expr} {ta tb : VTE} {pos : Pos}
theorem Rel.rdS {F H G : Hp} {σ : L2.St} {env : Ev} {n : Nat} {i : Nat} {d : Dt} (r : Rel c F H σ env n) (g : Gx c F H G) (e : rdS env i d) : ∃ v G', σ[i]? = some (some v) ∧ Gx c F H G' ∧ Up G G' ∧ Rp G' v d := by
  rcases e with e | ⟨ds, e, rfl⟩
  · obtain ⟨v, e2, rp⟩ := r.sl i _ e
    exact ⟨v, G, e2, g, Up.refl G, rp.up g.u1⟩
  · obtain ⟨a, G', e2, g', u, rp⟩ := g.add r e
    exact ⟨_, G', e2, g', u, rp⟩
theorem op_of {r : R2} {r' : R2D} (L : Lft2 r r') {σ : L2.St} {H : Hp} {R : VK} (h : tOf c (vOp r' ta tb) σ H R) : tOp r (tOf c ta) (tOf c tb) σ H R := by
  obtain ⟨F, env, n, Q, rr, h, k⟩ := h
  exact t2_of rr h fun x y d1 d2 H' F' env' n' r' u p1 p2 q => L F' H' x y d1 d2 _ R r'.sub p1 p2 q fun v d rv qd => k v H' F' d env' n' r' u rv qd
/-- the right one just read -/
theorem opR_of {r : R2} {r' : R2D} (L : Lft2 r r') {σ : L2.St} {H : Hp} {R : VK} (h : tOf c (vOpR r' ta tb) σ H R) : tOp r (tOf c ta) (rOf c tb) σ H R := by
  obtain ⟨F, env, n, Q, rr, h, k⟩ := h
  exact ⟨F, env, n, _, rr, h, fun x H1 F1 d1 env1 n1 r1 u1 p1 q1 => ⟨F1, env1, n1, _, r1, q1, fun y H2 F2 G d2 env2 n2 r2 u2 g p2 q2 =>
    L G H2 x y d1 d2 _ R g.u2 ((p1.up u2).up g.u1) p2 q2 fun v d rv qd => k v H2 F2 d env2 n2 r2 (u1.trans u2) (rv.flat g.tp qd.1) qd.2⟩⟩
theorem opN_of {i : Nat} {r : R2} {r' : R2D} (L : Lft2 r r') {σ : L2.St} {H : Hp} {R : VK} (h : tOf c (vOpN r' i tb) σ H R) : tOp r (tVar i) (rOf c tb) σ H R := by
  obtain ⟨F, env, n, Q, rr, ⟨⟨d0, e0⟩, h⟩, k⟩ := h
  obtain ⟨v0, _, ev, _⟩ := rr.rdS rr.gx e0
  refine ⟨v0, ev, F, env, n, _, rr, h, fun y H2 F2 G d2 env2 n2 r2 u2 g p2 q2 => ?_⟩
  obtain ⟨x, ex, q2⟩ := q2
  obtain ⟨v1, G', ev1, g', ug, px⟩ := r2.rdS g ex
  rw [ev] at ev1
  cases ev1
  exact L G' H2 v0 y x d2 _ R g'.u2 px (p2.up ug) q2 fun v d rv qd => k v H2 F2 d env2 n2 r2 u2 (rv.flat g'.tp qd.1) qd.2
theorem ve_op {op : Operator} {r : R2} {r' : R2D} (ho : OpR X (binaryOp op) r) (L : Lft2 r r') (ha : PE X a (tOf c ta)) (hb : PE X b (tOf c tb)) : PE X (.BinOp a op b pos) (tOf c (vOp r' ta tb)) := PE.imp (pe_op ho ha hb) fun _ _ _ => op_of L
theorem ve_cmpR {op : CmpOp} {r : R2} {r' : R2D} (ho : OpR X (compareOp op) r) (L : Lft2 r r') (ha : PE X a (tOf c ta)) (hb : PE X b (rOf c tb)) (hm : behindInMarks op b = false) : PE X (.Compare a [op] [b] pos) (tOf c (vOpR r' ta tb)) := PE.imp (pe_cmpR ho ha hb hm) fun _ _ _ => opR_of L
theorem ve_cmpN {i : Nat} {op : CmpOp} {r : R2} {r' : R2D} (ho : OpR X (compareOp op) r) (L : Lft2 r r') (ha : PE X a (tVar i)) (hb : PE X b (rOf c tb)) (hm : behindInMarks op b = false) : PE X (.Compare a [op] [b] pos) (tOf c (vOpN r' i tb)) := PE.imp (pe_cmpR ho ha hb hm) fun _ _ _ => opN_of L
def vB (te : VTE) : VTT := fun env n Q => te env n fun d env' n' => ∃ b, d = .bl b ∧ Q b env' n'
theorem test_of {te : VTE} {t : TE} (h : ∀ {σ H R}, tOf c te σ H R → t σ H R) {σ : L2.St} {H : Hp} {R : Bool → Hp → Prop} (q : cOf c (vB te) σ H R) : tTest t σ H R := by
  obtain ⟨F, env, n, Q, rr, q, k⟩ := q
  refine h ⟨F, env, n, _, rr, q, fun v H' F' d env' n' r' u rp qd => ?_⟩
  obtain ⟨bb, rfl, qd⟩ := qd
  exact ⟨bb, rp.bl_inv, k bb H' F' env' n' r' u qd⟩
theorem vt_cmp {op : CmpOp} {r : R2} {r' : R2D} (ho : OpR X (compareOp op) r) (L : Lft2 r r') (ha : PE X a (tOf c ta)) (hb : PE X b (tOf c tb)) (hm : behindInMarks op b = false) : PT X (.Compare a [op] [b] pos) (cOf c (vB (vOp r' ta tb))) := PT.imp (pt_cmpR ho ha hb hm) fun _ _ _ => test_of (op_of L)
theorem vt_cmpR {op : CmpOp} {r : R2} {r' : R2D} (ho : OpR X (compareOp op) r) (L : Lft2 r r') (ha : PE X a (tOf c ta)) (hb : PE X b (rOf c tb)) (hm : behindInMarks op b = false) : PT X (.Compare a [op] [b] pos) (cOf c (vB (vOpR r' ta tb))) := PT.imp (pt_cmpR ho ha hb hm) fun _ _ _ => test_of (opR_of L)
theorem vt_cmpN {i : Nat} {op : CmpOp} {r : R2} {r' : R2D} (ho : OpR X (compareOp op) r) (L : Lft2 r r') (ha : PE X a (tVar i)) (hb : PE X b (rOf c tb)) (hm : behindInMarks op b = false) : PT X (.Compare a [op] [b] pos) (cOf c (vB (vOpN r' i tb))) := PT.imp (pt_cmpR ho ha hb hm) fun _ _ _ => test_of (opN_of L)
theorem vt_val {e : Expr} {te : VTE} (h : PE X e (tOf c te)) (he : ∀ whole, isTrue e X.env whole = (do let v ← whole; standAt e.pos; holding [v] (truthy v)) := by intro _; rfl) : PT X e (cOf c (vB te)) := PT.imp (pt_val h he) fun σ H R q => by
  obtain ⟨F, env, n, Q, rr, q, k⟩ := q
  refine ⟨F, env, n, _, rr, q, fun v H' F' d env' n' r' u rp qd => ?_⟩
  obtain ⟨bb, rfl, qd⟩ := qd
  exact ⟨bb, rp.bl_inv, k bb H' F' env' n' r' u qd⟩
def vAnd (t u : VTT) : VTT := fun env n Q => t env n fun b env1 n1 => if b = true then u env1 n1 Q else Q false env1 n1
def vOr (t u : VTT) : VTT := fun env n Q => t env n fun b env1 n1 => if b = true then Q true env1 n1 else u env1 n1 Q
def vNot (t : VTT) : VTT := fun env n Q => t env n fun b env1 n1 => Q (!b) env1 n1
variable {tA tB : VTT} {rest : List Expr}
theorem vt_and1 (h : PT X a (cOf c tA)) : PW X (.BoolOp .And [a] pos) (cOf c tA) := pw_and1 h
theorem vt_or1 (h : PT X a (cOf c tA)) : PW X (.BoolOp .Or [a] pos) (cOf c tA) := pw_or1 h
theorem vt_and (ha : PT X a (cOf c tA)) (hb : PW X (.BoolOp .And (b :: rest) pos) (cOf c tB)) : PW X (.BoolOp .And (a :: b :: rest) pos) (cOf c (vAnd tA tB)) := PW.imp (pw_and ha hb) fun σ H R q => by
  obtain ⟨F, env, n, Q, rr, q, k⟩ := q
  refine ⟨F, env, n, _, rr, q, fun b H' F' env' n' r' u qd => ?_⟩
  cases b with
  | true => exact ⟨F', env', n', _, r', qd, fun b2 H2 F2 env2 n2 r2 u2 q2 => k b2 H2 F2 env2 n2 r2 (u.trans u2) q2⟩
  | false => exact k false H' F' env' n' r' u qd
theorem vt_or (ha : PT X a (cOf c tA)) (hb : PW X (.BoolOp .Or (b :: rest) pos) (cOf c tB)) : PW X (.BoolOp .Or (a :: b :: rest) pos) (cOf c (vOr tA tB)) := PW.imp (pw_or ha hb) fun σ H R q => by
  obtain ⟨F, env, n, Q, rr, q, k⟩ := q
  refine ⟨F, env, n, _, rr, q, fun b H' F' env' n' r' u qd => ?_⟩
  cases b with
  | false => exact ⟨F', env', n', _, r', qd, fun b2 H2 F2 env2 n2 r2 u2 q2 => k b2 H2 F2 env2 n2 r2 (u.trans u2) q2⟩
  | true => exact k true H' F' env' n' r' u qd
theorem vt_not (ha : PT X a (cOf c tA)) : PT X (.UnaryOp .Not a pos) (cOf c (vNot tA)) := PT.imp (pt_not ha) fun σ H R q => by
  obtain ⟨F, env, n, Q, rr, q, k⟩ := q
  exact ⟨F, env, n, _, rr, q, fun b H' F' env' n' r' u qd => k (!b) H' F' env' n' r' u qd⟩
/-- and, or, not as values -/
def vAndV (ta tb : VTE) : VTE := fun env n Q => ta env n fun d env1 n1 => ∃ b, d = .bl b ∧ if b = true then tb env1 n1 Q else Q (.bl false) env1 n1
def vNotV (ta : VTE) : VTE := fun env n Q => ta env n fun d env1 n1 => ∃ b, d = .bl b ∧ Q (.bl (!b)) env1 n1
theorem ve_one {op} (h : PE X a (tOf c ta)) : PE X (.BoolOp op [a] pos) (tOf c ta) := pe_one h
theorem ve_and (ha : PE X a (tOf c ta)) (hb : PE X (.BoolOp .And (b :: rest) pos) (tOf c tb)) : PE X (.BoolOp .And (a :: b :: rest) pos) (tOf c (vAndV ta tb)) := PE.imp (pe_and ha hb) fun σ H R q => by
  obtain ⟨F, env, n, Q, rr, q, k⟩ := q
  refine ⟨F, env, n, _, rr, q, fun v H' F' d env' n' r' u rp qd => ?_⟩
  obtain ⟨bb, rfl, qd⟩ := qd
  refine ⟨bb, rp.bl_inv, ?_⟩
  cases bb with
  | true => exact ⟨F', env', n', _, r', qd, fun v2 H2 F2 d2 env2 n2 r2 u2 rp2 q2 => k v2 H2 F2 d2 env2 n2 r2 (u.trans u2) rp2 q2⟩
  | false => exact k _ H' F' _ env' n' r' u (.bl false) qd
theorem ve_not (ha : PE X a (tOf c ta)) : PE X (.UnaryOp .Not a pos) (tOf c (vNotV ta)) := PE.imp (pe_not ha) fun σ H R q => by
  obtain ⟨F, env, n, Q, rr, q, k⟩ := q
  refine ⟨F, env, n, _, rr, q, fun v H' F' d env' n' r' u rp qd => ?_⟩
  obtain ⟨bb, rfl, qd⟩ := qd
  exact ⟨bb, rp.bl_inv, k _ H' F' _ env' n' r' u (.bl _) qd⟩
def vNil : VTA := fun env n Q => Q [] env n
def vCons (te : VTE) (ta : VTA) : VTA := fun env n Q => te env n fun d env1 n1 => ta env1 n1 fun ds env2 n2 => Q (d :: ds) env2 n2
/-- a name whose thing is read when all stand -/
def vConsR (i : Nat) (ta : VTA) : VTA := fun env n Q => (∃ d0, rdS env i d0) ∧ ta env n fun ds env2 n2 => ∃ d, rdS env2 i d ∧ Q (d :: ds) env2 n2
variable {te : VTE} {tas : VTA} {e : Expr} {es : List Expr}
theorem va_nil : PA X [] (aOf c vNil) := PA.imp pa_nil fun σ H R ⟨F, env, n, Q, rr, q, k⟩ => k [] H F [] env n rr (Up.refl F) .nil q
theorem va_cons (ha : PE X e (tOf c te)) (hr : PA X es (aOf c tas)) (hs : starEach (e :: es) X.env = (false, eval e X.env) :: starEach es X.env := by rfl) : PA X (e :: es) (aOf c (vCons te tas)) := PA.imp (pa_cons ha hr hs) fun σ H R ⟨F, env, n, Q, rr, q, k⟩ =>
  ⟨F, env, n, _, rr, q, fun v H1 F1 d env1 n1 r1 u1 p1 q1 => ⟨F1, env1, n1, _, r1, q1, fun vs H2 F2 ds env2 n2 r2 u2 p2 q2 => k _ H2 F2 _ env2 n2 r2 (u1.trans u2) (.cons (p1.up u2) p2) q2⟩⟩
theorem vb_of (h : PA X es (aOf c tas)) : PA X es (bOf c tas) := PA.imp h fun σ H R ⟨F, env, n, Q, rr, q, k⟩ => ⟨F, env, n, _, rr, q, fun vs H2 F2 ds env2 n2 r2 u2 p2 q2 => k _ H2 F2 F2 _ env2 n2 r2 u2 r2.gx p2 q2⟩
theorem vb_nil : PA X [] (bOf c vNil) := vb_of va_nil
theorem vb_cons (ha : PE X e (tOf c te)) (hr : PA X es (bOf c tas)) (hs : starEach (e :: es) X.env = (false, eval e X.env) :: starEach es X.env := by rfl) : PA X (e :: es) (bOf c (vCons te tas)) := PA.imp (pa_cons ha hr hs) fun σ H R ⟨F, env, n, Q, rr, q, k⟩ =>
  ⟨F, env, n, _, rr, q, fun v H1 F1 d env1 n1 r1 u1 p1 q1 => ⟨F1, env1, n1, _, r1, q1, fun vs H2 F2 G ds env2 n2 r2 u2 g p2 q2 => k _ H2 F2 G _ env2 n2 r2 (u1.trans u2) g (.cons ((p1.up u2).up g.u1) p2) q2⟩⟩
theorem vb_rd {i : Nat} (ha : PE X e (tVar i)) (hr : PA X es (bOf c tas)) (hs : starEach (e :: es) X.env = (false, eval e X.env) :: starEach es X.env := by rfl) : PA X (e :: es) (bOf c (vConsR i tas)) := PA.imp (pa_cons ha hr hs) fun σ H R ⟨F, env, n, Q, rr, ⟨⟨d0, e0⟩, q⟩, k⟩ => by
  obtain ⟨v0, _, ev, _⟩ := rr.rdS rr.gx e0
  refine ⟨v0, ev, F, env, n, _, rr, q, fun vs H2 F2 G ds env2 n2 r2 u2 g p2 q2 => ?_⟩
  obtain ⟨d, ed, q2⟩ := q2
  obtain ⟨v1, G', ev1, g', ug, pd⟩ := r2.rdS g ed
  rw [ev] at ev1
  cases ev1
  exact k _ H2 F2 G' _ env2 n2 r2 u2 g' (.cons pd (p2.up ug)) q2
theorem small1000 {n : Nat} (h : n ≤ 5000) : n < sizeLine := Nat.lt_of_le_of_lt h (by decide)
theorem small1k {n : Nat} (h : n ≤ 5000) : n ≤ sizeLine := Nat.le_of_lt (small1000 h)
def vTup (ta : VTA) : VTE := fun env n Q => ta env n fun ds env1 n1 => ds.length ≤ 5000 ∧ Q (.tup ds) env1 n1
def vLst (ta : VTA) : VTN := fun env n Q => ta env n fun ds env1 n1 => ds.length ≤ 5000 ∧ Q (.lst ds) env1 n1
theorem ve_tup {x1} (h : PA X es (aOf c tas)) : PE X (.Tuple es x1 pos) (tOf c (vTup tas)) := PE.imp (pe_tup h) fun σ H R ⟨F, env, n, Q, rr, q, k⟩ => ⟨F, env, n, _, rr, q, fun vs H2 F2 ds env2 n2 r2 u2 p2 q2 => by
  refine ⟨small1k (by rw [p2.len]; exact q2.1), fun p np => ?_⟩
  obtain ⟨_, _, nf⟩ := r2.new0 np
  exact k _ _ (upd F2 p (.tup vs)) _ env2 n2 (r2.layF np _) (u2.trans (up_lay nf)) (.tup upd_same (p2.up (up_lay nf))) q2.2⟩
theorem nOf_new {σ : L2.St} {H F : Hp} {env : Ev} {n : Nat} {p : Addr} {o : HO} {kk : Con} {F0 : Hp} {Q : Con → Ev → Nat → Prop} {R : VK} (rr : Rel c F H σ env n) (u : Up F0 F) (np : H p = none) (w : OwOk F p o kk) (q : Q kk env n)
    (k : ∀ a o H' F' kk env' n', Rel c F' H' σ env' n' → Up F0 F' → F' a = none → c.H0 a = none → ¬ c.am.sp a → H' a = some o → OwOk F' a o kk → (∀ (j : Nat) k', env'[j]? = some (.ow k') → σ[j]? ≠ some (some (.ref a))) → Q kk env' n' → R (.ref a) H') : R (.ref p) (upd H p o) := by
  obtain ⟨h0, ns, nf⟩ := rr.new0 np
  refine k p o (upd H p o) F kk env n (rr.lay np o) u nf h0 ns upd_same w (fun j k' e z => ?_) q
  obtain ⟨a2, o2, g1, _, _, _, g5, _⟩ := rr.sl j _ e
  rw [g1] at z
  cases z
  rw [g5] at np
  cases np
theorem vn_lst (h : PA X es (aOf c tas)) : PE X (.List es pos) (nOf c (vLst tas)) := PE.imp (pe_lst h) fun σ H R ⟨F, env, n, Q, rr, q, k⟩ => ⟨F, env, n, _, rr, q, fun vs H2 F2 ds env2 n2 r2 u2 p2 q2 =>
  ⟨small1k (by rw [p2.len]; exact q2.1), fun p np => nOf_new r2 u2 np (kk := .lst ds) ⟨vs, rfl, p2⟩ q2.2 k⟩⟩
end
end VL
namespace VL
open PySem PySem.Spec PyProof.Rows L2 HM
section
variable {c : Fc} {X : Cx} {a b e : Expr} {es : List Expr} {te ta tb : VTE} {tas : VTA} {pos : Pos}
def vNext : VTS := fun V env n => V.nx env n
def vSeq (t u : VTS) : VTS := fun V env n => t { V with nx := u V } env n
theorem EnOk.seq {F : Hp} {V : VEn} {D : Ends} {u : VTS} {u' : TS} (h : EnOk c F V D) (k : ∀ F' H' σ' env' n', Rel c F' H' σ' env' n' → Up F F' → u V env' n' → u' D σ' H') : EnOk c F { V with nx := u V } { D with nx := u' D } :=
  ⟨fun F' H' σ' env' n' r w q => k F' H' σ' env' n' r w q, h.rt, h.bk, h.ct⟩
variable {st : Stmt} {rest body els : List Stmt} {t u : VTS}
theorem vss_nil : PSs X [] (sOf c vNext) := PSs.imp pss_nil fun D σ H ⟨F, env, n, V, r, q, k⟩ => k.nx F H σ env n r (Up.refl F) q
theorem vss_cons (h1 : PS X st (sOf c t)) (h2 : PSs X rest (sOf c u)) : PSs X (st :: rest) (sOf c (vSeq t u)) := PSs.imp (pss_cons h1 h2) fun D σ H ⟨F, env, n, V, r, q, k⟩ =>
  ⟨F, env, n, _, r, q, k.seq fun F' H' σ' env' n' r' w q' => ⟨F', env', n', V, r', q', k.up w⟩⟩
theorem vss_one (h1 : PS X st (sOf c t)) : PSs X [st] (sOf c t) := pss_one h1
def vNever : VTS := fun _ _ _ => False
theorem vs_never : PS X st (sOf c vNever) := PS.imp ps_never fun D σ H ⟨F, env, n, V, r, q, k⟩ => q
def vDrop (te : VTE) : VTS := fun V env n => te env n fun _ env1 n1 => V.nx env1 n1
theorem vs_expr (he : PE X e (tOf c te)) (hs : swapsWith e none pos.line X.env = pure false := by rfl) : PS X (.Expr e pos) (sOf c (vDrop te)) := PS.imp (ps_expr he hs) fun D σ H ⟨F, env, n, V, r, q, k⟩ =>
  ⟨F, env, n, _, r, q, fun v H' F' d env' n' r' u rp qd => k.nx F' H' σ env' n' r' u qd⟩
def vRet (te : VTE) : VTS := fun V env n => te env n fun d _ n1 => V.rt d n1
theorem vs_ret (he : PE X e (tOf c te)) : PS X (.Return (some e) pos) (sOf c (vRet te)) := PS.imp (ps_ret he) fun D σ H ⟨F, env, n, V, r, q, k⟩ =>
  ⟨F, env, n, _, r, q, fun v H' F' d env' n' r' u rp qd => k.rt F' H' σ env' n' v d r' u rp qd⟩
def vIf (tc : VTT) (t u : VTS) : VTS := fun V env n => tc env n fun b env1 n1 => if b = true then t V env1 n1 else u V env1 n1
theorem vs_if {tc : VTT} (hc : PT X e (cOf c tc)) (ha : PSs X body (sOf c t)) (hb : PSs X els (sOf c u)) : PS X (.If e body els pos) (sOf c (vIf tc t u)) := PS.imp (ps_if hc ha hb) fun D σ H ⟨F, env, n, V, r, q, k⟩ =>
  ⟨F, env, n, _, r, q, fun b H' F' env' n' r' w qd => by
    cases b with
    | true => exact ⟨F', env', n', V, r', qd, k.up w⟩
    | false => exact ⟨F', env', n', V, r', qd, k.up w⟩⟩
def vgName (i : Nat) : VTG := fun d env n Q => Q (env.set i (.fz d)) n
theorem vg_name {i : Nat} {x : Str} (h : PG X (.Name x pos) (gName i)) : PG X (.Name x pos) (gOf c (vgName i)) := PG.imp h fun v σ H R ⟨F, env, n, d, Q, r, rp, q, k⟩ => k _ H F _ n (r.setF rp) (Up.refl F) q
def vgNil : VTGs := fun ds env n Q => ds = [] ∧ Q env n
def vgCons (t : VTG) (u : VTGs) : VTGs := fun ds env n Q => ∃ d r, ds = d :: r ∧ t d env n fun env' n' => u r env' n' Q
theorem vgs_nil : PGs X [] (gsOf c vgNil) := PGs.imp pgs_nil fun v σ H R ⟨F, env, n, ds, Q, r, rp, ⟨e, q⟩, k⟩ => by
  subst e
  cases rp
  exact ⟨rfl, k _ H F _ n r (Up.refl F) q⟩
theorem vgs_cons {g : VTG} {gs : VTGs} (h1 : PG X e (gOf c g)) (h2 : PGs X es (gsOf c gs)) (hs : (assignEach (e :: es) X.env).map (·.2) = assign e X.env :: (assignEach es X.env).map (·.2) := by rfl) : PGs X (e :: es) (gsOf c (vgCons g gs)) := PGs.imp (pgs_cons h1 h2 hs) fun v σ H R ⟨F, env, n, ds, Q, r, rp, ⟨d, ds', e, q⟩, k⟩ => by
  subst e
  cases rp with
  | cons p ps => exact ⟨_, _, rfl, F, env, n, d, _, r, p, q, fun σ' H' F' env' n' r' w q' => ⟨F', env', n', ds', _, r', ps.up w, q', fun σ2 H2 F2 env2 n2 r2 w2 q2 => k σ2 H2 F2 env2 n2 r2 (w.trans w2) q2⟩⟩
def vgTup (m : Nat) (g : VTGs) : VTG := fun d env n Q => ∃ ds, d = .tup ds ∧ ds.length = m ∧ g ds env n Q
theorem vg_tup {k m : Nat} {gs : VTGs} (hc : X.calm = true) (h : PGs X es (gsOf c gs)) (hn : (assignEach es X.env).length = m := by rfl) (hst : (assignEach es X.env).findIdx? (·.1) = none := by rfl) : PG X (.Tuple es k pos) (gOf c (vgTup m gs)) := PG.imp (pg_tup hc h hn hst) fun v σ H R ⟨F, env, n, d, Q, r, rp, ⟨ds, e, hl, q⟩, k⟩ => by
  subst e
  obtain ⟨a, xs, rfl, hF, rx⟩ := rp.tup_inv
  exact ⟨a, xs, rfl, .inl (.inl (r.sub _ _ hF)), by rw [rx.len, hl], F, env, n, ds, Q, r, rx, q, k⟩
def vAsg (te : VTE) (g : VTG) : VTS := fun V env n => te env n fun d env1 n1 => g d env1 n1 V.nx
theorem asg_of {g : VTG} {σ : L2.St} {H : Hp} {D : Ends} (h : sOf c (vAsg te g) D σ H) : tAsg (tOf c te) (gOf c g) D σ H := by
  obtain ⟨F, env, n, V, r, q, k⟩ := h
  exact ⟨F, env, n, _, r, q, fun v H' F' d env' n' r' w rp qd => ⟨F', env', n', d, V.nx, r', rp, qd, fun σ2 H2 F2 env2 n2 r2 w2 q2 => k.nx F2 H2 σ2 env2 n2 r2 (w.trans w2) q2⟩⟩
theorem vs_asg {tg : Expr} {g : VTG} (he : PE X e (tOf c te)) (hg : PG X tg (gOf c g)) (hs : swapsWithSole [tg] e pos.line X.env = pure false := by rfl) (hw : swappedStores [tg] e X.env = pure none := by rfl)
    (h1 : (assignEach [tg] X.env).map (·.2) = [assign tg X.env] := by rfl) : PS X (.Assign [tg] e pos) (sOf c (vAsg te g)) := PS.imp (ps_asg he hg hs hw h1) fun D σ H => asg_of
/-- x = e -/
def vSet (i : Nat) (te : VTE) : VTS := fun V env n => te env n fun d env1 n1 => V.nx (env1.set i (.fz d)) n1
theorem set_of {i : Nat} {σ : L2.St} {H : Hp} {D : Ends} (h : sOf c (vSet i te) D σ H) : tAsg (tOf c te) (gName i) D σ H := by
  obtain ⟨F, env, n, V, r, q, k⟩ := h
  exact ⟨F, env, n, _, r, q, fun v H' F' d env' n' r' w rp qd => k.nx F' H' _ _ n' (r'.setF rp) w qd⟩
theorem vs_set {i : Nat} {x : Str} {pos' : Pos} (hN : X.N.Nodup) (hi : X.N[i]? = some x) (hx : Loc X.env.scope x) (he : PE X e (tOf c te)) (hs : swapsWith e (some (.Name x pos')) pos.line X.env = pure false := by rfl) (hf : X.fn x = true ∨ X.env.scope.names.lookup x = some .local := by first | exact .inl rfl | exact .inr rfl | assumption) :
    PS X (.Assign [.Name x pos'] e pos) (sOf c (vSet i te)) := PS.imp (ps_set hN hi hx he hs hf) fun D σ H => set_of
/-- x = a new thing -/
def vSetN (i : Nat) (tn : VTN) : VTS := fun V env n => tn env n fun k env1 n1 => V.nx (env1.set i (.ow k)) n1
theorem setN_of {i : Nat} {tn : VTN} {σ : L2.St} {H : Hp} {D : Ends} (h : sOf c (vSetN i tn) D σ H) : tAsg (nOf c tn) (gName i) D σ H := by
  obtain ⟨F, env, n, V, r, q, k⟩ := h
  exact ⟨F, env, n, _, r, q, fun a o H' F' kk env' n' r' w hF h0 ns hH ow ha qd => k.nx F' H' _ _ n' (r'.setO hF h0 ns hH ow ha) w qd⟩
theorem vs_setN {i : Nat} {tn : VTN} {x : Str} {pos' : Pos} (hN : X.N.Nodup) (hi : X.N[i]? = some x) (hx : Loc X.env.scope x) (he : PE X e (nOf c tn)) (hs : swapsWith e (some (.Name x pos')) pos.line X.env = pure false := by rfl) (hf : X.fn x = true ∨ X.env.scope.names.lookup x = some .local := by first | exact .inl rfl | exact .inr rfl | assumption) :
    PS X (.Assign [.Name x pos'] e pos) (sOf c (vSetN i tn)) := PS.imp (ps_set hN hi hx he hs hf) fun D σ H => setN_of
/-- x += e, whole numbers -/
def vAugI (i : Nat) (f : Int → Int → Int) (te : VTE) : VTS := fun V env n => ∃ x, env[i]? = some (.fz (.int x)) ∧ te env n fun d env1 n1 => ∃ y, d = .int y ∧ V.nx (env1.set i (.fz (.int (f x y)))) n1
theorem vs_augI {i : Nat} {x : Str} {op : Operator} {f : Int → Int → Int} {pos' : Pos} (hN : X.N.Nodup) (hi : X.N[i]? = some x) (hx : Loc X.env.scope x) (he : PE X e (tOf c te)) (ho : PIp X op (ipI f)) (hf : X.fn x = true ∨ X.env.scope.names.lookup x = some .local := by first | exact .inl rfl | exact .inr rfl | assumption) :
    PS X (.AugAssign (.Name x pos') op e pos) (sOf c (vAugI i f te)) := PS.imp (ps_aug hN hi hx he ho hf) fun D σ H ⟨F, env, n, V, r, ⟨x, ex, q⟩, k⟩ => by
  obtain ⟨v, e2, rp⟩ := r.sl i _ ex
  rw [rp.int_inv] at e2
  refine ⟨_, e2, F, env, n, _, r, q, fun v H' F' d env' n' r' w rp qd => ?_⟩
  obtain ⟨y, rfl, qd⟩ := qd
  exact ⟨_, _, rfl, rp.int_inv, k.nx F' H' _ _ n' (r'.setF (.int _)) w qd⟩
def vWhile (tc : VTT) (tb : VTS) : VTS := fun V env n => ∃ W : Nat → Ev → Nat → Prop, (∃ m, W m env n) ∧ ∀ m env n, W m env n →
  tc env n fun b env1 n1 => if b = true then tb { nx := fun e' n' => ∃ m', m' < m ∧ W m' e' n', ct := fun e' n' => ∃ m', m' < m ∧ W m' e' n', bk := V.nx, rt := V.rt } env1 n1 else V.nx env1 n1
theorem vs_while {tc : VTT} {tb : VTS} (hp : PassesOwn (model X.prog X.w) X.A X.env X.xe) (hc : PT X e (cOf c tc)) (hb : PSs X body (sOf c tb)) : PS X (.While e body [] pos) (sOf c (vWhile tc tb)) := PS.imp (ps_while hp hc hb) fun D σ H ⟨F, env, n, V, r, ⟨W, ⟨m0, w0⟩, turn⟩, k⟩ => by
  refine ⟨fun m σ H => ∃ F' env n, Rel c F' H σ env n ∧ Up F F' ∧ W m env n, ⟨m0, F, env, n, r, Up.refl F, w0⟩, ?_⟩
  rintro m σ1 H1 ⟨F1, env1, n1, r1, u1, w1⟩
  refine ⟨F1, env1, n1, _, r1, turn m env1 n1 w1, fun b H2 F2 env2 n2 r2 u2 q2 => ?_⟩
  cases b with
  | true => exact ⟨fun σ' H' => ∃ m', m' < m ∧ ∃ F' env n, Rel c F' H' σ' env n ∧ Up F F' ∧ W m' env n, fun σ' H' h => h, F2, env2, n2, _, r2, q2,
      ⟨fun F3 H3 σ3 env3 n3 r3 u3 q3 => let ⟨m', hm, w'⟩ := q3; ⟨m', hm, F3, env3, n3, r3, (u1.trans u2).trans u3, w'⟩, (k.up (u1.trans u2)).rt, (k.up (u1.trans u2)).nx, fun F3 H3 σ3 env3 n3 r3 u3 q3 => let ⟨m', hm, w'⟩ := q3; ⟨m', hm, F3, env3, n3, r3, (u1.trans u2).trans u3, w'⟩⟩⟩
  | false => exact k.nx F2 H2 σ1 env2 n2 r2 (u1.trans u2) q2
def vFor (wi : VTI) (g : VTG) (tb : VTS) : VTS := fun V env n => wi env n fun xs env1 n1 => ∃ P : Nat → Ev → Nat → Prop, P 0 env1 n1 ∧
  (∀ i x env n, xs[i]? = some x → P i env n → g x env n fun env2 n2 => tb { nx := P (i + 1), ct := P (i + 1), bk := V.nx, rt := V.rt } env2 n2) ∧ ∀ env n, P xs.length env n → V.nx env n
theorem vs_for {tg iter : Expr} {wi : VTI} {g : VTG} {tb : VTS} (hp : PassesOwn (model X.prog X.w) X.A X.env X.xe) (hc : X.calm = true) (hi : PI X tg iter (iOf c wi)) (hg : PG X tg (gOf c g)) (hb : PSs X body (sOf c tb))
    (hs : ∀ x, foldedSetIterable iter X.env x = pure x := by intro _; rfl) : PS X (.For tg iter body [] pos) (sOf c (vFor wi g tb)) := PS.imp (ps_for hp hc hi hg hb hs) fun D σ H ⟨F, env, n, V, r, q, k⟩ => by
  refine ⟨F, env, n, _, r, q, fun J H1 F1 xs env1 n1 r1 u1 wk q1 => ?_⟩
  obtain ⟨P, p0, turn, fin⟩ := q1
  refine ⟨fun i m σ H => m = xs.length - i ∧ i ≤ xs.length ∧ ∃ F' env n, Rel c F' H σ env n ∧ Up F1 F' ∧ P i env n, ⟨_, rfl, Nat.zero_le _, F1, env1, n1, r1, Up.refl F1, p0⟩, ?_⟩
  rintro i m σ2 H2 ⟨rfl, hi, F2, env2, n2, r2, u2, p2⟩
  obtain ⟨wg, ws⟩ := wk c rfl F2 H2 σ2 env2 n2 r2 u2 i
  by_cases hlt : i < xs.length
  · obtain ⟨go, yl⟩ := wg hlt
    refine .inr ⟨go, fun σ' H' => ∃ F' env n, Rel c F' H' σ' env n ∧ Up F1 F' ∧ P (i + 1) env n, fun σ' H' h => ⟨xs.length - (i + 1), by omega, rfl, hlt, h⟩, fun x H3 y => ?_⟩
    obtain ⟨F3, d, r3, u3, ed, rd⟩ := yl x H3 y
    refine ⟨F3, env2, n2, d, _, r3, rd, turn i d env2 n2 ed p2, fun σ4 H4 F4 env4 n4 r4 u4 q4 => ?_⟩
    have u14 := (u2.trans u3).trans u4
    exact ⟨F4, env4, n4, _, r4, q4, ⟨fun F5 H5 σ5 env5 n5 r5 u5 q5 => ⟨F5, env5, n5, r5, u14.trans u5, q5⟩, (k.up (u1.trans u14)).rt, (k.up (u1.trans u14)).nx, fun F5 H5 σ5 env5 n5 r5 u5 q5 => ⟨F5, env5, n5, r5, u14.trans u5, q5⟩⟩⟩
  · have e : i = xs.length := by omega
    subst e
    exact .inl ⟨ws (Nat.le_refl _), k.nx F2 H2 σ2 env2 n2 r2 (u1.trans u2) (fin env2 n2 p2)⟩
def viSeq (te : VTE) : VTI := fun env n Q => te env n fun d env1 n1 => ∃ ds, (d = .lst ds) ∧ Q ds env1 n1
def viTup (te : VTE) : VTI := fun env n Q => te env n fun d env1 n1 => ∃ ds, (d = .tup ds) ∧ Q ds env1 n1
theorem wk_list {K : PySem.W.Frag} {F : Hp} {a : Addr} {xs : List V} {ds : List Dt} (h : F a = some (.lst xs)) (rx : Rps F xs ds) : Wk c.am (Itl K a) F ds := fun c _ F1 H σ env n r u i => by
  have hH : SqL K H a xs := .inl (.inl (r.sub _ _ (u _ _ h)))
  refine ⟨fun hi => ?_, fun hi => ⟨xs, hH, by rw [rx.len]; exact hi⟩⟩
  obtain ⟨v, e1, e2⟩ := rx.get (List.getElem?_eq_getElem hi)
  refine ⟨⟨xs, v, hH, e1⟩, fun x H' y => ?_⟩
  obtain ⟨rfl, y⟩ := y
  have := y xs hH
  rw [e1] at this
  cases this
  exact ⟨F1, _, r, Up.refl F1, List.getElem?_eq_getElem hi, e2.up u⟩
theorem wk_tup {K : PySem.W.Frag} {F : Hp} {a : Addr} {xs : List V} {ds : List Dt} (h : F a = some (.tup xs)) (rx : Rps F xs ds) : Wk c.am (Itt K a) F ds := fun c _ F1 H σ env n r u i => by
  have hH : SqT K H a xs := .inl (.inl (r.sub _ _ (u _ _ h)))
  refine ⟨fun hi => ?_, fun hi => ⟨xs, hH, by rw [rx.len]; exact hi⟩⟩
  obtain ⟨v, e1, e2⟩ := rx.get (List.getElem?_eq_getElem hi)
  refine ⟨⟨xs, v, hH, e1⟩, fun x H' y => ?_⟩
  obtain ⟨rfl, y⟩ := y
  have := y xs hH
  rw [e1] at this
  cases this
  exact ⟨F1, _, r, Up.refl F1, List.getElem?_eq_getElem hi, e2.up u⟩
/-- lo, lo + 1, .., n of them -/
def rngD (lo : Int) (n : Nat) : List Dt := (List.range n).map fun i : Nat => Dt.int (lo + (i : Int))
theorem wk_range {F : Hp} {lo : Int} {n : Nat} : Wk c.am (Itr lo n) F (rngD lo n) := fun c _ F1 H σ env m r u i => by
  have hl : (rngD lo n).length = n := by simp [rngD]
  refine ⟨fun hi => ?_, fun hi => by rw [hl] at hi; exact hi⟩
  rw [hl] at hi
  refine ⟨hi, fun x H' y => ?_⟩
  obtain ⟨rfl, rfl⟩ := y
  exact ⟨F1,   .int (lo + (i : Int)), r, Up.refl F1, by simp [rngD, hi], .int _⟩
theorem vi_list {tg l : Expr} (hl : PE X l (tOf c te)) : PI X tg l (iOf c (viSeq te)) := PI.imp (pi_list hl) fun σ H R ⟨F, env, n, Q, r, q, k⟩ => ⟨F, env, n, _, r, q, fun v H' F' d env' n' r' w rp qd => by
  obtain ⟨ds, rfl, qd⟩ := qd
  obtain ⟨a, xs, rfl, hF, rx⟩ := rp.lst_inv
  exact ⟨a, rfl, ⟨xs, .inl (.inl (r'.sub _ _ hF))⟩, k _ H' F' ds env' n' r' w (wk_list hF rx) qd⟩⟩
theorem vi_tup {tg l : Expr} (hl : PE X l (tOf c te)) : PI X tg l (iOf c (viTup te)) := PI.imp (pi_tup hl) fun σ H R ⟨F, env, n, Q, r, q, k⟩ => ⟨F, env, n, _, r, q, fun v H' F' d env' n' r' w rp qd => by
  obtain ⟨ds, rfl, qd⟩ := qd
  obtain ⟨a, xs, rfl, hF, rx⟩ := rp.tup_inv
  exact ⟨a, rfl, ⟨xs, .inl (.inl (r'.sub _ _ hF))⟩, k _ H' F' ds env' n' r' w (wk_tup hF rx) qd⟩⟩
def viR1 (ta : VTA) : VTI := fun env n Q => ta env n fun ds env1 n1 => ∃ j : Int, ds = [.int j] ∧ (-1000000 ≤ j ∧ j ≤ 1000000) ∧ Q (rngD 0 j.toNat) env1 n1
theorem vi_range1 {tg : Expr} {p : Pos} (hg : Gl X "range") (hm : X.mg "range" = none) (ha : PA X [a] (bOf c tas)) (hs : starEach [a] X.env = [(false, eval a X.env)] := by rfl) : PI X tg (.Call (.Name "range" p) [a] [] pos) (iOf c (viR1 tas)) := PI.imp (pi_range1 hg hm ha hs) fun σ H R ⟨F, env, n, Q, r, q, k⟩ =>
  ⟨F, env, n, _, r, q, fun vs H' F' G ds env' n' r' w g rp qd => by
    obtain ⟨j, rfl, hj, qd⟩ := qd
    cases rp with
    | cons p ps =>
      cases ps
      rw [p.int_inv]
      exact ⟨j, rfl, by omega, by omega, k _ H' F' _ env' n' r' w wk_range qd⟩⟩
abbrev RCD := List Dt → (Dt → Prop) → Prop
abbrev RCN := List Dt → (Con → Prop) → Prop
abbrev RC := List V → Hp → VK → Prop
def LftC (r : RC) (r' : RCD) : Prop := ∀ (F H : Hp) vs ds (Q : Dt → Prop) (R : VK), Up F H → Rps F vs ds → r' ds Q → (∀ v d, Rp F v d → Q d → R v H) → r vs H R
def LftN (r : RC) (r' : RCN) : Prop := ∀ (F H : Hp) vs ds (Q : Con → Prop) (R : VK), Up F H → Rps F vs ds → r' ds Q → (∀ p o k, H p = none → OwOk F p o k → Q k → R (.ref p) (upd H p o)) → r vs H R
def LftT (r : RC) (r' : RCD) : Prop := ∀ (F H : Hp) vs ds (Q : Dt → Prop) (R : VK), Up F H → Rps F vs ds → r' ds Q → (∀ p xs zs, H p = none → Rps F xs zs → Q (.tup zs) → R (.ref p) (upd H p (.tup xs))) → r vs H R
def vCB (r' : RCD) (ta : VTA) : VTE := fun env n Q => ta env n fun ds env1 n1 => r' ds fun d => Q d env1 n1
def vCBR (r' : RCD) (ta : VTA) : VTE := fun env n Q => ta env n fun ds env1 n1 => r' ds fun d => flat d = true ∧ Q d env1 n1
def flatC : Con → Bool
  | .lst ds => flats ds
  | .dK kvs => flats (kvs.map (·.2))
  | .dT kvs => flats (kvs.map (·.2))
  | .set _ _ _ => true
  | .setT _ _ _ => true
def vCNR (r' : RCN) (ta : VTA) : VTN := fun env n Q => ta env n fun ds env1 n1 => r' ds fun d => flatC d = true ∧ Q d env1 n1
variable {r : RC} {r' : RCD} {rn : RCN}
theorem PrK.flat {κ : Type} {F F' : Hp} (u : ∀ a xs, F a = some (.tup xs) → F' a = some (.tup xs)) : ∀ {a : List (κ × V)} {b : List (κ × Dt)}, PrK F a b → flats (b.map (·.2)) = true → PrK F' a b
  | _, _, .nil, _ => .nil
  | _, q :: qs, .cons h t, e => by
    have e' : (VL.flat q.2 && flats (qs.map (·.2))) = true := by simpa [flats] using e
    rw [Bool.and_eq_true] at e'
    exact .cons ⟨h.1, h.2.flat u e'.1⟩ (PrK.flat u t e'.2)
theorem OwOk.flat {F F' : Hp} (u : ∀ a xs, F a = some (.tup xs) → F' a = some (.tup xs)) {a : Addr} {o : HO} : ∀ {k : Con}, OwOk F a o k → flatC k = true → OwOk F' a o k
  | .lst _, ⟨xs, e, r⟩, h => ⟨xs, e, r.flat u h⟩
  | .dK _, ⟨xs, e, r⟩, h => ⟨xs, e, PrK.flat u r h⟩
  | .dT _, ⟨xs, e, r⟩, h => ⟨xs, e, PrK.flat u r h⟩
  | .set _ _ _, e, _ => e
  | .setT _ _ _, ⟨L, e, h, r⟩, _ => ⟨L, e, h, fun p hp => u _ _ (r p hp)⟩
theorem cb_of (L : LftC r r') {σ : L2.St} {H : Hp} {R : VK} (h : tOf c (vCB r' tas) σ H R) : tCB r (aOf c tas) σ H R := by
  obtain ⟨F, env, n, Q, rr, q, k⟩ := h
  exact ⟨F, env, n, _, rr, q, fun vs H' F' ds env' n' r2 w rp qd => L F' H' vs ds _ R r2.sub rp qd fun v d rv qv => k v H' F' d env' n' r2 w rv qv⟩
theorem cbR_of (L : LftC r r') {σ : L2.St} {H : Hp} {R : VK} (h : tOf c (vCBR r' tas) σ H R) : tCB r (bOf c tas) σ H R := by
  obtain ⟨F, env, n, Q, rr, q, k⟩ := h
  exact ⟨F, env, n, _, rr, q, fun vs H' F' G ds env' n' r2 w g rp qd => L G H' vs ds _ R g.u2 rp qd fun v d rv qv => k v H' F' d env' n' r2 w (rv.flat g.tp qv.1) qv.2⟩
theorem cnR_of (L : LftN r rn) {σ : L2.St} {H : Hp} {R : VK} (h : nOf c (vCNR rn tas) σ H R) : tCB r (bOf c tas) σ H R := by
  obtain ⟨F, env, n, Q, rr, q, k⟩ := h
  exact ⟨F, env, n, _, rr, q, fun vs H' F' G ds env' n' r2 w g rp qd => L G H' vs ds _ R g.u2 rp qd fun p o kk np ow qv => nOf_new r2 w np (ow.flat g.tp qv.1) qv.2 k⟩
theorem ctR_of (L : LftT r r') {σ : L2.St} {H : Hp} {R : VK} (h : tOf c (vCBR r' tas) σ H R) : tCB r (bOf c tas) σ H R := by
  obtain ⟨F, env, n, Q, rr, q, k⟩ := h
  refine ⟨F, env, n, _, rr, q, fun vs H' F' G ds env' n' r2 w g rp qd => L G H' vs ds _ R g.u2 rp qd fun p xs zs np rz qv => ?_⟩
  obtain ⟨_, _, nf⟩ := r2.new0 np
  exact k _ _ (upd F' p (.tup xs)) _ env' n' (r2.layF np _) (w.trans (up_lay nf)) (.tup upd_same ((rz.flat g.tp (by have := qv.1; simpa [VL.flat] using this)).up (up_lay nf))) qv.2
end
end VL
namespace VL
open PySem PySem.Spec PyProof.Rows L2 HM
def dI0 (g : Int → Int → Dt) : R2D := fun x y Q => ∃ i j, x = .int i ∧ y = .int j ∧ Q (g i j)
def dI (C : Int → Int → Prop) (g : Int → Int → Dt) : R2D := fun x y Q => ∃ i j, x = .int i ∧ y = .int j ∧ C i j ∧ Q (g i j)
theorem lft_I0 {g : Int → Int → Int} : Lft2 (rI0 fun i j => .int (g i j)) (dI0 fun i j => .int (g i j)) := fun F H x y d1 d2 Q R u p1 p2 h k => by
  obtain ⟨i, j, rfl, rfl, h⟩ := h
  rw [p1.int_inv, p2.int_inv]
  exact ⟨i, j, rfl, rfl, k _ _ (.int _) h⟩
theorem lft_I {C : Int → Int → Prop} {g : Int → Int → Int} : Lft2 (rI C fun i j => .int (g i j)) (dI C fun i j => .int (g i j)) := fun F H x y d1 d2 Q R u p1 p2 h k => by
  obtain ⟨i, j, rfl, rfl, hc, h⟩ := h
  rw [p1.int_inv, p2.int_inv]
  exact ⟨i, j, rfl, rfl, hc, k _ _ (.int _) h⟩
theorem lft_B0 {g : Int → Int → Bool} : Lft2 (rI0 fun i j => .bl (g i j)) (dI0 fun i j => .bl (g i j)) := fun F H x y d1 d2 Q R u p1 p2 h k => by
  obtain ⟨i, j, rfl, rfl, h⟩ := h
  rw [p1.int_inv, p2.int_inv]
  exact ⟨i, j, rfl, rfl, k _ _ (.bl _) h⟩
/-- == of two whole numbers, of two truths -/
def dEq : R2D := fun x y Q => (∃ i j, x = .int i ∧ y = .int j ∧ Q (.bl (decide (i = j)))) ∨ (∃ i j, x = .bl i ∧ y = .bl j ∧ Q (.bl (decide (i = j))))
theorem dec_int (i j : Int) : decide (V.int i = V.int j) = decide (i = j) := by
  by_cases e : i = j
  · subst e; simp
  · rw [decide_eq_false e, decide_eq_false fun z => e (V.int.inj z)]
theorem dec_bl (i j : Bool) : decide (V.bl i = V.bl j) = decide (i = j) := by
  by_cases e : i = j
  · subst e; simp
  · rw [decide_eq_false e, decide_eq_false fun z => e (V.bl.inj z)]
theorem lft_eq : Lft2 rEq dEq := fun F H x y d1 d2 Q R u p1 p2 h k => by
  rcases h with ⟨i, j, rfl, rfl, h⟩ | ⟨i, j, rfl, rfl, h⟩
  · rw [p1.int_inv, p2.int_inv]
    exact ⟨rfl, by rw [dec_int]; exact k _ _ (.bl _) h⟩
  · rw [p1.bl_inv, p2.bl_inv]
    exact ⟨rfl, by rw [dec_bl]; exact k _ _ (.bl _) h⟩
mutual
def py : Dt → PyData
  | .bl b => .bool b
  | .int i => .int i
  | .str x => .str x
  | .lst ds => .list (pys ds)
  | .tup ds => .tuple (pys ds)
  | _ => .none
def pys : List Dt → List PyData
  | [] => []
  | d :: ds => py d :: pys ds
end
mutual
def isPy : Dt → Bool
  | .obj _ => false
  | .ty _ => false
  | .lst ds => isPys ds
  | .tup ds => isPys ds
  | .dic _ _ => false
  | .dik _ _ => false
  | _ => true
def isPys : List Dt → Bool
  | [] => true
  | d :: ds => isPy d && isPys ds
end
mutual
theorem Rp.dp {K : PySem.W.Frag} {F H : Hp} (u : Up F H) : ∀ {v : V} {d : Dt}, Rp F v d → isPy d = true → Dp K H v (py d)
  | _, _, .non, _ => by rw [py]; exact .non; all_goals (intros; contradiction)
  | _, _, .bl b, _ => by rw [py]; exact .bl b
  | _, _, .int b, _ => by rw [py]; exact .int b
  | _, _, .str b, _ => by rw [py]; exact .str b
  | _, _, .ty b, h => by simp [isPy] at h
  | _, _, .obj b, h => by simp [isPy] at h
  | _, _, .dic _ _ _, h => by simp [isPy] at h
  | _, _, .dik _ _ _, h => by simp [isPy] at h
  | _, _, .lst e t, h => by rw [py]; exact .lst (.inl (.inl (u _ _ e))) (Rps.dps u t (by simpa [isPy] using h))
  | _, _, .tup e t, h => by rw [py]; exact .tup (.inl (.inl (u _ _ e))) (Rps.dps u t (by simpa [isPy] using h))
theorem Rps.dps {K : PySem.W.Frag} {F H : Hp} (u : Up F H) : ∀ {v : List V} {d : List Dt}, Rps F v d → isPys d = true → DpAll K H v (pys d)
  | _, _, .nil, _ => by rw [pys]; exact .nil
  | _, d :: ds, .cons e t, h => by
    have h' : (isPy d && isPys ds) = true := by simpa [isPys] using h
    rw [Bool.and_eq_true] at h'
    rw [pys]
    exact .cons (Rp.dp u e h'.1) (Rps.dps u t h'.2)
end
def dEqD : R2D := fun x y Q => isPy x = true ∧ isPy y = true ∧ SeqAt.shaped (py x) = true ∧ SeqAt.shaped (py y) = true ∧ Q (.bl (PyData.eqv (py x) (py y)))
def dNeD : R2D := fun x y Q => isPy x = true ∧ isPy y = true ∧ SeqAt.shaped (py x) = true ∧ SeqAt.shaped (py y) = true ∧ Q (.bl (!PyData.eqv (py x) (py y)))
theorem lft_eqD {K : PySem.W.Frag} : Lft2 (rEqD K) dEqD := fun F H x y d1 d2 Q R u p1 p2 ⟨h1, h2, h3, h4, h⟩ k => ⟨_, _, p1.dp u h1, p2.dp u h2, h3, h4, k _ _ (.bl _) h⟩
theorem lft_neD {K : PySem.W.Frag} : Lft2 (rNeD K) dNeD := fun F H x y d1 d2 Q R u p1 p2 ⟨h1, h2, h3, h4, h⟩ k => ⟨_, _, p1.dp u h1, p2.dp u h2, h3, h4, k _ _ (.bl _) h⟩
theorem atI_rps {F : Hp} {xs : List V} {ds : List Dt} {i : Int} {d : Dt} (r : Rps F xs ds) (h : atI ds i = some d) : ∃ v, atI xs i = some v ∧ Rp F v d := by
  unfold atI at h ⊢
  rw [r.len]
  cases e : ixN ds.length i with
  | none => rw [e] at h; cases h
  | some j =>
    rw [e] at h
    obtain ⟨v, h1, h2⟩ := r.get (show ds[j]? = some d from h)
    exact ⟨v, h1, h2⟩
def dIxL : R2D := fun x y Q => ∃ ds i d, x = .lst ds ∧ y = .int i ∧ atI ds i = some d ∧ Q d
def dIxT : R2D := fun x y Q => ∃ ds i d, x = .tup ds ∧ y = .int i ∧ atI ds i = some d ∧ Q d
theorem lft_ixL {K : PySem.W.Frag} : Lft2 (rIxL K) dIxL := fun F H x y d1 d2 Q R u p1 p2 ⟨ds, i, d, e1, e2, h, q⟩ k => by
  subst e1 e2
  obtain ⟨a, xs, rfl, hF, rx⟩ := p1.lst_inv
  obtain ⟨v, h1, h2⟩ := atI_rps rx h
  exact ⟨a, xs, i, v, rfl, p2.int_inv, .inl (.inl (u _ _ hF)), h1, k _ _ h2 q⟩
theorem lft_ixT {K : PySem.W.Frag} : Lft2 (rIxT K) dIxT := fun F H x y d1 d2 Q R u p1 p2 ⟨ds, i, d, e1, e2, h, q⟩ k => by
  subst e1 e2
  obtain ⟨a, xs, rfl, hF, rx⟩ := p1.tup_inv
  obtain ⟨v, h1, h2⟩ := atI_rps rx h
  exact ⟨a, xs, i, v, rfl, p2.int_inv, .inl (.inl (u _ _ hF)), h1, k _ _ h2 q⟩
def dIn (neg : Bool) : R2D := fun x y Q => ∃ (k : Int) (ns : List Int), x = .int k ∧ (y = .lst (ns.map Dt.int) ∨ y = .tup (ns.map Dt.int)) ∧ Q (.bl (if neg then !decide (k ∈ ns) else decide (k ∈ ns)))
theorem inV_ints (k : Int) : ∀ ns : List Int, inV (.int k) (ns.map V.int) = decide (k ∈ ns) := by
  intro ns
  induction ns with
  | nil => rfl
  | cons n ns ih =>
    have : inV (.int k) (V.int n :: ns.map V.int) = ((n == k) || inV (.int k) (ns.map V.int)) := rfl
    rw [List.map_cons, this, ih]
    by_cases h : n = k
    · subst h; simp
    · have h' : ¬ k = n := fun z => h z.symm
      simp [h, h']
theorem flat_ints (ns : List Int) : (ns.map V.int).all flatV = true := by
  rw [List.all_eq_true]
  intro x hx
  obtain ⟨n, _, rfl⟩ := List.mem_map.mp hx
  rfl
theorem lft_in {K : PySem.W.Frag} {neg : Bool} : Lft2 (rIn K neg) (dIn neg) := fun F H x y d1 d2 Q R u p1 p2 ⟨k, ns, e1, e2, q⟩ kk => by
  subst e1
  rcases e2 with rfl | rfl
  · obtain ⟨a, xs, rfl, hF, rx⟩ := p2.lst_inv
    rw [rx.of_ints] at hF
    rw [p1.int_inv]
    exact ⟨a, _, rfl, .inl (.inl (.inl (u _ _ hF))), rfl, flat_ints ns, by rw [inV_ints]; exact kk _ _ (.bl _) q⟩
  · obtain ⟨a, xs, rfl, hF, rx⟩ := p2.tup_inv
    rw [rx.of_ints] at hF
    rw [p1.int_inv]
    exact ⟨a, _, rfl, .inr (.inl (.inl (u _ _ hF))), rfl, flat_ints ns, by rw [inV_ints]; exact kk _ _ (.bl _) q⟩
def dLen : RCD := fun ds Q => ∃ zs, (ds = [.lst zs] ∨ ds = [.tup zs]) ∧ Q (.int zs.length)
theorem Rps.one {F : Hp} {vs : List V} {d : Dt} (h : Rps F vs [d]) : ∃ v, vs = [v] ∧ Rp F v d := by
  cases h with
  | cons p t => cases t; exact ⟨_, rfl, p⟩
theorem Rps.two {F : Hp} {vs : List V} {d e : Dt} (h : Rps F vs [d, e]) : ∃ v w, vs = [v, w] ∧ Rp F v d ∧ Rp F w e := by
  cases h with
  | cons p t =>
    obtain ⟨w, rfl, q⟩ := t.one
    exact ⟨_, _, rfl, p, q⟩
theorem lft_len {K : PySem.W.Frag} : LftC (fun xs H Q => ∃ p ys, xs = [.ref p] ∧ (SqL K H p ys ∨ SqT K H p ys) ∧ Q (.int ys.length) H) dLen := fun F H vs ds Q R u rp ⟨zs, h, q⟩ k => by
  rcases h with rfl | rfl
  · obtain ⟨v, rfl, p⟩ := rp.one
    obtain ⟨a, xs, rfl, hF, rx⟩ := p.lst_inv
    exact ⟨a, xs, rfl, .inl (.inl (.inl (u _ _ hF))), by rw [rx.len]; exact k _ _ (.int _) q⟩
  · obtain ⟨v, rfl, p⟩ := rp.one
    obtain ⟨a, xs, rfl, hF, rx⟩ := p.tup_inv
    exact ⟨a, xs, rfl, .inr (.inl (.inl (u _ _ hF))), by rw [rx.len]; exact k _ _ (.int _) q⟩
def dListOf : RCN := fun ds Q => ∃ zs, (ds = [.lst zs] ∨ ds = [.tup zs]) ∧ Q (.lst zs)
theorem lft_listOf {K : PySem.W.Frag} : LftN (fun xs H Q => ∃ p ys, xs = [.ref p] ∧ (SqL K H p ys ∨ SqT K H p ys) ∧ ∀ l, H l = none → Q (.ref l) (upd H l (.lst ys))) dListOf := fun F H vs ds Q R u rp ⟨zs, h, q⟩ k => by
  rcases h with rfl | rfl
  · obtain ⟨v, rfl, p⟩ := rp.one
    obtain ⟨a, xs, rfl, hF, rx⟩ := p.lst_inv
    exact ⟨a, xs, rfl, .inl (.inl (.inl (u _ _ hF))), fun l hl => k l _ (.lst zs) hl ⟨xs, rfl, rx⟩ q⟩
  · obtain ⟨v, rfl, p⟩ := rp.one
    obtain ⟨a, xs, rfl, hF, rx⟩ := p.tup_inv
    exact ⟨a, xs, rfl, .inr (.inl (.inl (u _ _ hF))), fun l hl => k l _ (.lst zs) hl ⟨xs, rfl, rx⟩ q⟩
def dTupleOf : RCD := fun ds Q => ∃ zs, ds = [.lst zs] ∧ Q (.tup zs)
theorem lft_tupleOf {K : PySem.W.Frag} : LftT (fun xs H Q => ∃ p ys, xs = [.ref p] ∧ ((SqL K H p ys ∧ ∀ l, H l = none → Q (.ref l) (upd H l (.tup ys))) ∨ (SqT K H p ys ∧ Q (.ref p) H))) dTupleOf := fun F H vs ds Q R u rp ⟨zs, h, q⟩ k => by
  subst h
  obtain ⟨v, rfl, p⟩ := rp.one
  obtain ⟨a, xs, rfl, hF, rx⟩ := p.lst_inv
  exact ⟨a, xs, rfl, .inl ⟨.inl (.inl (u _ _ hF)), fun l hl => k l xs zs hl rx q⟩⟩
/-- sorted of whole numbers -/
def dSorted : RCN := fun ds Q => ∃ ns : List Int, ds = [.lst (ns.map Dt.int)] ∧ ns.length < 64 ∧ ∀ ns' : List Int, ns'.Perm ns → ns'.Pairwise (· ≤ ·) → Q (.lst (ns'.map Dt.int))
theorem lft_sorted {K : PySem.W.Frag} : LftN (rSorted K) dSorted := fun F H vs ds Q R u rp ⟨ns, h, hl, q⟩ k => by
  subst h
  obtain ⟨v, rfl, p⟩ := rp.one
  obtain ⟨a, xs, rfl, hF, rx⟩ := p.lst_inv
  rw [rx.of_ints] at hF
  exact ⟨a, ns, rfl, .inl (.inl (u _ _ hF)), hl, fun ns' l h1 h2 h3 => k l _ (.lst (ns'.map Dt.int)) h3 ⟨_, rfl, Rps.ints ns'⟩ (q ns' h1 h2)⟩
section
variable {c : Fc} {X : Cx} {a b e : Expr} {es : List Expr} {te ta tb : VTE} {tas : VTA} {pos p : Pos} {x : Str} {r : RC} {r' : RCD} {rn : RCN} {id T : String}
theorem ve_cb (hc : CallR X (.builtin id) r) (L : LftC r r') (hg : Gl X x) (hm : X.mg x = none) (hv : bootBuiltins x = some (.builtin id)) (ha : PA X (e :: es) (aOf c tas)) (hn : x ≠ "__name__" := by decide) (hdb : (x == ("__debug__" : Str)) = false := by decide)
    (he : starEach (e :: es) X.env = (false, eval e X.env) :: starEach es X.env := by rfl) (hpl : (backTo pos (starEach es X.env)).any (·.1) = false := by rfl) : PE X (.Call (.Name x p) (e :: es) [] pos) (tOf c (vCB r' tas)) := PE.imp (pe_callB hc hg hm hv ha hn hdb he hpl) fun _ _ _ => cb_of L
theorem ve_cbR (hc : CallR X (.builtin id) r) (L : LftC r r') (hg : Gl X x) (hm : X.mg x = none) (hv : bootBuiltins x = some (.builtin id)) (ha : PA X (e :: es) (bOf c tas)) (hn : x ≠ "__name__" := by decide) (hdb : (x == ("__debug__" : Str)) = false := by decide)
    (he : starEach (e :: es) X.env = (false, eval e X.env) :: starEach es X.env := by rfl) (hpl : (backTo pos (starEach es X.env)).any (·.1) = false := by rfl) : PE X (.Call (.Name x p) (e :: es) [] pos) (tOf c (vCBR r' tas)) := PE.imp (pe_callB hc hg hm hv ha hn hdb he hpl) fun _ _ _ => cbR_of L
theorem vn_cbR (hc : CallR X (.builtin id) r) (L : LftN r rn) (hg : Gl X x) (hm : X.mg x = none) (hv : bootBuiltins x = some (.builtin id)) (ha : PA X (e :: es) (bOf c tas)) (hn : x ≠ "__name__" := by decide) (hdb : (x == ("__debug__" : Str)) = false := by decide)
    (he : starEach (e :: es) X.env = (false, eval e X.env) :: starEach es X.env := by rfl) (hpl : (backTo pos (starEach es X.env)).any (·.1) = false := by rfl) : PE X (.Call (.Name x p) (e :: es) [] pos) (nOf c (vCNR rn tas)) := PE.imp (pe_callB hc hg hm hv ha hn hdb he hpl) fun _ _ _ => cnR_of L
theorem vn_tyR (hc : CallR X (.type T) r) (L : LftN r rn) (hg : Gl X x) (hm : X.mg x = none) (hv : bootBuiltins x = some (.type T)) (ha : PA X (e :: es) (bOf c tas)) (hn : x ≠ "__name__" := by decide) (hdb : (x == ("__debug__" : Str)) = false := by decide)
    (he : starEach (e :: es) X.env = (false, eval e X.env) :: starEach es X.env := by rfl) (hpl : (backTo pos (starEach es X.env)).any (·.1) = false := by rfl) : PE X (.Call (.Name x p) (e :: es) [] pos) (nOf c (vCNR rn tas)) := PE.imp (pe_callTy hc hg hm hv ha hn hdb he hpl) fun _ _ _ => cnR_of L
theorem ve_tyTR (hc : CallR X (.type T) r) (L : LftT r r') (hg : Gl X x) (hm : X.mg x = none) (hv : bootBuiltins x = some (.type T)) (ha : PA X (e :: es) (bOf c tas)) (hn : x ≠ "__name__" := by decide) (hdb : (x == ("__debug__" : Str)) = false := by decide)
    (he : starEach (e :: es) X.env = (false, eval e X.env) :: starEach es X.env := by rfl) (hpl : (backTo pos (starEach es X.env)).any (·.1) = false := by rfl) : PE X (.Call (.Name x p) (e :: es) [] pos) (tOf c (vCBR r' tas)) := PE.imp (pe_callTy hc hg hm hv ha hn hdb he hpl) fun _ _ _ => ctR_of L
theorem ve_tyC (hc : CallR X (.type T) r) (L : LftC r r') (hg : Gl X x) (hm : X.mg x = none) (hv : bootBuiltins x = some (.type T)) (ha : PA X (e :: es) (aOf c tas)) (hn : x ≠ "__name__" := by decide) (hdb : (x == ("__debug__" : Str)) = false := by decide)
    (he : starEach (e :: es) X.env = (false, eval e X.env) :: starEach es X.env := by rfl) (hpl : (backTo pos (starEach es X.env)).any (·.1) = false := by rfl) : PE X (.Call (.Name x p) (e :: es) [] pos) (tOf c (vCB r' tas)) := PE.imp (pe_callTy hc hg hm hv ha hn hdb he hpl) fun _ _ _ => cb_of L
theorem ve_ix {r : R2} {rd : R2D} (hr : IxR X r) (L : Lft2 r rd) (ha : PE X a (tOf c ta)) (hb : PE X b (tOf c tb)) (hs : PlainIx b) : PE X (.Subscript a b pos) (tOf c (vOp rd ta tb)) := PE.imp (pe_ix hr ha hb hs) fun _ _ _ => op_of L
/-- of a list of one's own -/
def vIxO (i : Nat) (tb : VTE) : VTE := fun env n Q => (∃ d0, rdS env i d0) ∧ tb env n fun y env' n' => ∃ ds k d, rdS env' i (.lst ds) ∧ y = .int k ∧ atI ds k = some d ∧ Q d env' n'
theorem Rel.rdL {F H : Hp} {σ : L2.St} {env : Ev} {n : Nat} {i : Nat} {ds : List Dt} (r : Rel c F H σ env n) (e : VL.rdS env i (.lst ds)) : ∃ a xs, σ[i]? = some (some (.ref a)) ∧ H a = some (.lst xs) ∧ Rps F xs ds := by
  rcases e with e | ⟨ds', e, h⟩
  · obtain ⟨v, e2, rp⟩ := r.sl i _ e
    obtain ⟨a, xs, rfl, hF, rx⟩ := rp.lst_inv
    exact ⟨a, xs, e2, r.sub _ _ hF, rx⟩
  · cases h
    exact r.rdOwn e
theorem ve_ixO {i : Nat} (ha : PE X a (tVar i)) (hb : PE X b (tOf c tb)) (hs : PlainIx b) : PE X (.Subscript a b pos) (tOf c (vIxO i tb)) := PE.imp (pe_ix ix_list ha hb hs) fun σ H R ⟨F, env, n, Q, r, ⟨⟨d0, e0⟩, q⟩, k⟩ => by
  obtain ⟨v0, _, ev, _⟩ := r.rdS r.gx e0
  refine ⟨v0, ev, F, env, n, _, r, q, fun y H2 F2 d2 env2 n2 r2 u2 p2 q2 => ?_⟩
  obtain ⟨ds, kk, d, ed, rfl, hat, q2⟩ := q2
  obtain ⟨a, xs, ea, hH, rx⟩ := r2.rdL ed
  rw [ev] at ea
  cases ea
  obtain ⟨v, h1, h2⟩ := atI_rps rx hat
  exact ⟨a, xs, kk, v, rfl, p2.int_inv, .inl (.inl hH), h1, k _ H2 F2 d env2 n2 r2 u2 h2 q2⟩
end
end VL
namespace VL
open PySem PySem.Spec PyProof.Rows L2 HM
/-- from F, H to F', H': nothing that stood is written, but what runs along -/
structure Out (am : Am) (F H F' H' : Hp) (n' : Nat) : Prop where
  u : Up F F'
  s : Up F' H'
  f : ∀ a, am.sp a → F' a = none
  o : ∀ a ob, H a = some ob → NT ob → F a = none → F' a = none
  k : ∀ a o, H a = some o → ¬ am.sp a → H' a = some o
  a : am.ok n' H'
abbrev VXK := Value → Option (List (Str × V)) → Nat → Prop
abbrev VSp := List Dt → Nat → (Dt → Nat → Prop) → VXK → Prop
/-- how an exception's own dict lies -/
def XOk (H H' F' : Hp) (od : Option Addr) (fs : Option (List (Str × V))) : Prop := (od = none ∧ fs = none) ∨ ∃ d l, od = some d ∧ fs = some l ∧ H d = none ∧ H' d = some (.xd l) ∧ F' d = none
def vsp (am : Am) (sp : VSp) : Sp := fun vs H Q E => ∃ F ds n Q' E', Up F H ∧ (∀ a, am.sp a → F a = none) ∧ am.ok n H ∧ Rps F vs ds ∧ sp ds n Q' E' ∧ (∀ v F' H' d n', Out am F H F' H' n' → Rp F' v d → Q' d n' → Q v H') ∧
  ∀ cls od fs F' H' n', Out am F H F' H' n' → XOk H H' F' od fs → E' cls fs n' → E cls od H'
abbrev VFn (gd : Around → Prop) (P : Program) (w : World) (K : PySem.W.Frag) (mg : Str → Option Value) (base : Heap) (CX : CXT) (k : Nat) (f : Addr) (fd : FuncData) (ps : List Str) (am : Am) (sp : VSp) : Prop := PFn gd P w K mg base CX k f fd ps (vsp am sp)
def startE (N : List Str) (ds : List Dt) : Ev := ds.map Sl.fz ++ List.replicate (N.length - ds.length) Sl.no
theorem rel_start {am : Am} {F H : Hp} {N : List Str} {vs : List V} {ds : List Dt} {n : Nat} (u : Up F H) (hs : ∀ a, am.sp a → F a = none) (ha : am.ok n H) (r : Rps F vs ds) : Rel ⟨am, F, H⟩ F H (L2.start N vs) (startE N ds) n := by
  have hl := r.len
  refine ⟨u, hs, ha, Up.refl F, fun _ _ _ _ e => e, fun _ _ e _ => e, by simp [L2.start, startE, hl], fun i s e => ?_, fun i j a k k' _ e1 _ _ => ?_⟩
  · unfold startE at e
    by_cases hi : i < ds.length
    · rw [List.getElem?_append_left (by simpa using hi), List.getElem?_map] at e
      obtain ⟨d, hd, rfl⟩ := Option.map_eq_some_iff.mp e
      obtain ⟨v, hv, rv⟩ := r.get hd
      refine ⟨v, ?_, rv⟩
      unfold L2.start
      rw [List.getElem?_append_left (by simp; omega), List.getElem?_map, hv]
      rfl
    · rw [List.getElem?_append_right (by simp; omega)] at e
      have := List.mem_of_getElem? e
      rw [List.mem_replicate] at this
      rw [this.2]
      trivial
  · unfold startE at e1
    by_cases hi : i < ds.length
    · rw [List.getElem?_append_left (by simpa using hi), List.getElem?_map] at e1
      obtain ⟨d, hd, z⟩ := Option.map_eq_some_iff.mp e1
      cases z
    · rw [List.getElem?_append_right (by simp; omega)] at e1
      have := List.mem_of_getElem? e1
      rw [List.mem_replicate] at this
      cases this.2
theorem Rel.out {am : Am} {F0 H0 F H : Hp} {σ : L2.St} {env : Ev} {n : Nat} (r : Rel ⟨am, F0, H0⟩ F H σ env n) : Out am F0 H0 F H n := ⟨r.up0, r.sub, r.spf, r.out0, r.keep0, r.amb⟩
section
variable {P : Program} {w : World} {K : PySem.W.Frag} {mg : Str → Option Value} {base : Heap} {am : Am} {gd : Around → Prop} {x qual : Str} {st : Stmt} {f : Addr} {fd : FuncData} {N ps : List Str} {k : Nat} {sp : VSp}
/-- a def that lets no exception out -/
theorem vfn_of (F : Fun K x qual st f fd) (S : FnScope N ps (defScope st)) (len : ∀ ds n Q E, sp ds n Q E → ds.length = ps.length)
    (body : ∃ ts : VTS, (∀ (cdv : Value) (A : Around) (out : List Env) (s : Shared) (H : Hp) (E : XK) (F0 H0 : Hp), fd.code = cdv → gd A → Room k (A.deeper (envOfC qual (defScope st) s.heap.objs.size f cdv)) → PSs (cxOf CX0 P w K mg base N qual (defScope st) f cdv A out s H E).nox (defBody st) (sOf ⟨am, F0, H0⟩ ts)) ∧
      ∀ ds n Q E, sp ds n Q E → ts { nx := fun _ n' => Q .non n', rt := Q } (startE N ds) n) : VFn gd P w K mg base CX0 (k + 1) f fd ps am sp := by
  obtain ⟨ts, hts, hsp⟩ := body
  refine pfn_of F S (fun vs H Q E h => ?_) (fun cdv A out s H vs Q E hcd hgd hr h => ?_)
  · obtain ⟨F0, ds, n, Q', E', _, _, _, r, h, _⟩ := h
    rw [r.len]
    exact len ds n Q' E' h
  · obtain ⟨F0, ds, n, Q', E', u, hs, ha, r, h, kq, ke⟩ := h
    refine ⟨_, hts cdv A out s H E F0 H hcd hgd hr, F0, startE N ds, n, _, rel_start u hs ha r, hsp ds n Q' E' h, ⟨fun F' H' σ' env' n' r' _ q => kq .non F' H' .non n' r'.out .non q, fun F' H' σ' env' n' v d r' _ rv q => kq v F' H' d n' r'.out rv q, fun _ _ _ _ _ _ _ z => z.elim, fun _ _ _ _ _ _ _ z => z.elim⟩⟩
variable {X : Cx} {c : Fc} {CX : CXT} {E : XK} {p pos : Pos} {e : Expr} {es : List Expr} {tas : VTA}
/-- f(..) -/
def vCall (sp : VSp) (ta : VTA) : VTE := fun env n Q => ta env n fun ds env1 n1 => sp ds n1 (fun d n2 => Q d env1 n2) fun _ _ _ => False
/-- f(..) of things just read: a flat answer -/
def vCallR (sp : VSp) (ta : VTA) : VTE := fun env n Q => ta env n fun ds env1 n1 => sp ds n1 (fun d n2 => flat d = true ∧ Q d env1 n2) fun _ _ _ => False
theorem call_of {σ : L2.St} {H : Hp} {R : VK} (h : tOf c (vCall sp tas) σ H R) : tCall (vsp c.am sp) [] E (aOf c tas) σ H R := by
  obtain ⟨F, env, n, Q, r, q, k⟩ := h
  refine ⟨F, env, n, _, r, q, fun vs H1 F1 ds env1 n1 r1 u1 p1 q1 => ?_⟩
  show vsp c.am sp (vs ++ []) H1 R E
  rw [List.append_nil]
  exact ⟨F1, ds, n1, _, _, r1.sub, r1.spf, r1.amb, p1, q1, fun v F' H' d n' o rv qv => k v H' F' d env1 n' (r1.call o.u o.s o.f o.o o.k o.a) (u1.trans o.u) rv qv, fun _ _ _ _ _ _ _ _ z => z.elim⟩
theorem callR_of {σ : L2.St} {H : Hp} {R : VK} (h : tOf c (vCallR sp tas) σ H R) : tCall (vsp c.am sp) [] E (bOf c tas) σ H R := by
  obtain ⟨F, env, n, Q, r, q, k⟩ := h
  refine ⟨F, env, n, _, r, q, fun vs H1 F1 G ds env1 n1 r1 u1 g p1 q1 => ?_⟩
  show vsp c.am sp (vs ++ []) H1 R E
  rw [List.append_nil]
  refine ⟨G, ds, n1, _, _, g.u2, g.sp, r1.amb, p1, q1, fun v F' H' d n' o rv qv => ?_, fun _ _ _ _ _ _ _ _ z => z.elim⟩
  -- of what the callee left still, the tuples alone
  let F3 : Hp := fun a => match F' a with
    | some (.tup xs) => some (.tup xs)
    | _ => F1 a
  have tpl : ∀ a xs, F' a = some (.tup xs) → F3 a = some (.tup xs) := fun a xs e => by simp only [F3, e]
  have inv : ∀ a o, F3 a = some o → (∃ xs, o = .tup xs ∧ F' a = some (.tup xs)) ∨ F1 a = some o := fun a ob e => by
    simp only [F3] at e
    split at e
    · rename_i xs e2
      exact .inl ⟨xs, (Option.some.inj e).symm, e2⟩
    · exact .inr e
  have up : Up F1 F3 := fun a ob e => by
    have e2 := o.u _ _ (g.u1 _ _ e)
    simp only [F3]
    split
    · rename_i xs e3
      rw [e3] at e2
      exact e2
    · exact e
  have r3 : Rel c F3 H' σ env1 n' := by
    refine r1.call up (fun a ob e => ?_) (fun a ha => ?_) (fun a oa h1 nt h2 => ?_) o.k o.a
    · rcases inv a ob e with ⟨xs, rfl, e2⟩ | e2
      · exact o.s _ _ e2
      · exact o.s _ _ (o.u _ _ (g.u1 _ _ e2))
    · cases e : F3 a with
      | none => rfl
      | some ob =>
        rcases inv a ob e with ⟨xs, rfl, e2⟩ | e2
        · rw [o.f a ha] at e2; cases e2
        · rw [r1.spf a ha] at e2; cases e2
    · cases e : F3 a with
      | none => rfl
      | some ob =>
        rcases inv a ob e with ⟨xs, rfl, e2⟩ | e2
        · cases eg : G a with
          | none => rw [o.o a oa h1 nt eg] at e2; cases e2
          | some og =>
            have e3 := o.u _ _ eg
            rw [e2] at e3
            cases e3
            rw [g.tp a xs eg] at h2
            cases h2
        · rw [h2] at e2; cases e2
  exact k v H' F3 d env1 n' r3 (u1.trans up) (rv.flat tpl qv.1) qv.2
theorem ve_call (G : VFn gd X.prog X.w X.K X.mg X.base CX k f fd ps c.am sp) (hgd : gd X.A) (hr : Room k X.A) (hg : Gl X x) (hm : X.mg x = some (.ref f)) (hk : PySem.W.keepIn X.K (.ref f) = true) (hb : Binds X.K fd ps []) (hx : Passes CX X (fun _ _ _ => False)) (ha : PA X (e :: es) (aOf c tas)) (hdb : (x == ("__debug__" : Str)) = false := by decide)
    (he : starEach (e :: es) X.env = (false, eval e X.env) :: starEach es X.env := by rfl) (hpl : (backTo pos (starEach es X.env)).any (·.1) = false := by rfl) : PE X (.Call (.Name x p) (e :: es) [] pos) (tOf c (vCall sp tas)) := PE.imp (pe_callP G hgd hr hg hm hk hb hx ha hdb he hpl) fun _ _ _ => call_of
theorem ve_callR (G : VFn gd X.prog X.w X.K X.mg X.base CX k f fd ps c.am sp) (hgd : gd X.A) (hr : Room k X.A) (hg : Gl X x) (hm : X.mg x = some (.ref f)) (hk : PySem.W.keepIn X.K (.ref f) = true) (hb : Binds X.K fd ps []) (hx : Passes CX X (fun _ _ _ => False)) (ha : PA X (e :: es) (bOf c tas)) (hdb : (x == ("__debug__" : Str)) = false := by decide)
    (he : starEach (e :: es) X.env = (false, eval e X.env) :: starEach es X.env := by rfl) (hpl : (backTo pos (starEach es X.env)).any (·.1) = false := by rfl) : PE X (.Call (.Name x p) (e :: es) [] pos) (tOf c (vCallR sp tas)) := PE.imp (pe_callP G hgd hr hg hm hk hb hx ha hdb he hpl) fun _ _ _ => callR_of
end
def Fc.wth (c : Fc) (D : Addr) (o : HO) : Fc := ⟨c.am, c.F0, upd c.H0 D o⟩
section
variable {c : Fc} {F H : Hp} {σ : L2.St} {env : Ev} {n : Nat} {D : Addr} {o : HO}
theorem Rel.push (r : Rel c F H σ env n) (hH : H D = some o) (hF : F D = none) (ns : ¬ c.am.sp D) (hn : ∀ (j : Nat) k', env[j]? = some (.ow k') → σ[j]? ≠ some (some (.ref D))) : Rel (c.wth D o) F H σ env n := by
  refine ⟨r.sub, r.spf, r.amb, r.up0, fun a oa h1 nt h2 => ?_, fun a ob e na => ?_, r.len, fun i s e => ?_, r.apart⟩
  · by_cases z : a = D
    · rw [z]; exact hF
    · exact r.out0 a oa (by have : upd c.H0 D o a = some oa := h1; rwa [upd_ne z] at this) nt h2
  · by_cases z : a = D
    · have e' : upd c.H0 D o a = some ob := e
      rw [z, upd_same] at e'
      cases e'
      rw [z]; exact hH
    · have e' : upd c.H0 D o a = some ob := e
      rw [upd_ne z] at e'
      exact r.keep0 a ob e' na
  · have q := r.sl i s e
    cases s with
    | no => trivial
    | fz d => exact q
    | ow k =>
      obtain ⟨a, ob, g1, g2, g3, g4, g5, g6⟩ := q
      exact ⟨a, ob, g1, g2, by show upd c.H0 D o a = none; rw [upd_ne fun z => hn i k e (by rw [g1, z])]; exact g3, g4, g5, g6⟩
theorem Rel.pop (nto : NT o) (r : Rel (c.wth D o) F H σ env n) (h0 : c.H0 D = none) (hF0 : c.F0 D = none) (ns : ¬ c.am.sp D) : Rel c F H σ env n ∧ H D = some o ∧ F D = none ∧ ∀ (j : Nat) k', env[j]? = some (.ow k') → σ[j]? ≠ some (some (.ref D)) := by
  refine ⟨⟨r.sub, r.spf, r.amb, r.up0, fun a oa h1 nt h2 => ?_, fun a ob e na => ?_, r.len, fun i s e => ?_, r.apart⟩, ?_, ?_, fun j k' e z => ?_⟩
  · refine r.out0 a oa ?_ nt h2
    show upd c.H0 D o a = some oa
    rw [upd_ne fun z => by rw [z, h0] at h1; cases h1]
    exact h1
  · refine r.keep0 a ob ?_ na
    show upd c.H0 D o a = some ob
    rw [upd_ne fun z => by rw [z, h0] at e; cases e]
    exact e
  · have q := r.sl i s e
    cases s with
    | no => trivial
    | fz d => exact q
    | ow k =>
      obtain ⟨a, ob, g1, g2, g3, g4, g5, g6⟩ := q
      refine ⟨a, ob, g1, g2, ?_, g4, g5, g6⟩
      have g3' : upd c.H0 D o a = none := g3
      by_cases z : a = D
      · rw [z]; exact h0
      · rw [upd_ne z] at g3'; exact g3'
  · exact r.keep0 D o (show upd c.H0 D o D = some o from upd_same) ns
  · exact r.out0 D o (show upd c.H0 D o D = some o from upd_same) nto hF0
  · obtain ⟨a, ob, g1, _, g3, _⟩ := r.sl j _ e
    rw [g1] at z
    cases z
    have g3' : upd c.H0 D o D = none := g3
    rw [upd_same] at g3'
    cases g3'
end
end VL
namespace VL
open PySem PySem.Spec PyProof.Rows L2 HM
def wipeE (env : Ev) : List Nat → Ev
  | [] => env
  | v :: vs => (wipeE env vs).set v .no
def restE (env1 env : Ev) : List Nat → Ev
  | [] => env
  | v :: vs => (restE env1 env vs).set v (env1.getD v .no)
theorem wipeE_length (env : Ev) : ∀ vs : List Nat, (wipeE env vs).length = env.length
  | [] => rfl
  | v :: vs => by unfold wipeE; rw [List.length_set, wipeE_length env vs]
theorem restE_length (env1 env : Ev) : ∀ vs : List Nat, (restE env1 env vs).length = env.length
  | [] => rfl
  | v :: vs => by unfold restE; rw [List.length_set, restE_length env1 env vs]
theorem wipeE_get {env : Ev} {i : Nat} {s : Sl} : ∀ {vs : List Nat}, (wipeE env vs)[i]? = some s → s = .no ∨ (env[i]? = some s ∧ i ∉ vs)
  | [], h => .inr ⟨h, by simp⟩
  | v :: vs, h => by
    unfold wipeE at h
    by_cases z : i = v
    · subst z
      have hl := (List.getElem?_eq_some_iff.mp h).1
      rw [List.length_set] at hl
      rw [List.getElem?_set_self hl] at h
      exact .inl (Option.some.inj h).symm
    · rw [List.getElem?_set_ne (Ne.symm z)] at h
      rcases wipeE_get h with h | ⟨h1, h2⟩
      · exact .inl h
      · exact .inr ⟨h1, by simp [z, h2]⟩
theorem restE_get {env1 env : Ev} {i : Nat} {s : Sl} : ∀ {vs : List Nat}, (restE env1 env vs)[i]? = some s → (s = env1.getD i .no ∧ i ∈ vs) ∨ (env[i]? = some s ∧ i ∉ vs)
  | [], h => .inr ⟨h, by simp⟩
  | v :: vs, h => by
    unfold restE at h
    by_cases z : i = v
    · subst z
      have hl := (List.getElem?_eq_some_iff.mp h).1
      rw [List.length_set] at hl
      rw [List.getElem?_set_self hl] at h
      exact .inl ⟨(Option.some.inj h).symm, by simp⟩
    · rw [List.getElem?_set_ne (Ne.symm z)] at h
      rcases restE_get h with ⟨h1, h2⟩ | ⟨h1, h2⟩
      · exact .inl ⟨h1, by simp [h2]⟩
      · exact .inr ⟨h1, by simp [z, h2]⟩
theorem wipe_get (σ : L2.St) (i : Nat) : ∀ vs : List Nat, (wipe σ vs)[i]? = if i ∈ vs ∧ i < σ.length then some none else σ[i]?
  | [] => by simp [wipe]
  | v :: vs => by
    unfold wipe
    by_cases z : i = v
    · subst z
      by_cases hl : i < σ.length
      · rw [List.getElem?_set_self (by rw [wipe_length]; exact hl), if_pos ⟨by simp, hl⟩]
      · rw [if_neg (fun h => hl h.2), List.getElem?_eq_none (by rw [List.length_set, wipe_length]; omega), List.getElem?_eq_none (by omega)]
    · rw [List.getElem?_set_ne (Ne.symm z), wipe_get σ i vs]
      simp [z]
theorem wipe_set {σ : L2.St} {i : Nat} {x : Option V} {vs : List Nat} (h : i ∈ vs) : wipe (σ.set i x) vs = wipe σ vs := by
  refine List.ext_getElem? fun j => ?_
  rw [wipe_get, wipe_get, List.length_set]
  by_cases z : j = i
  · subst z
    by_cases hl : j < σ.length
    · rw [if_pos ⟨h, hl⟩, if_pos ⟨h, hl⟩]
    · rw [if_neg (fun q => hl q.2), if_neg (fun q => hl q.2), List.getElem?_eq_none (by rw [List.length_set]; omega), List.getElem?_eq_none (by omega)]
  · rw [List.getElem?_set_ne (Ne.symm z)]
theorem Rel.wipe {c : Fc} {F H : Hp} {σ : L2.St} {env : Ev} {n : Nat} (r : Rel c F H σ env n) (vs : List Nat) : Rel c F H (L2.wipe σ vs) (wipeE env vs) n :=
  r.weak (by rw [wipe_length, wipeE_length, r.len]) fun i s e => by
    rcases wipeE_get e with h | ⟨h1, h2⟩
    · exact .inl h
    · exact .inr ⟨h1, wipe_out h2⟩
theorem Rel.wipe2 {c : Fc} {F H : Hp} {σ σ2 : L2.St} {env : Ev} {n : Nat} {vs : List Nat} (r : Rel c F H σ2 env n) (h : L2.wipe σ2 vs = L2.wipe σ vs) : Rel c F H (L2.wipe σ vs) (wipeE env vs) n := h ▸ r.wipe vs
theorem Rel.rest {c : Fc} {F1 H1 F H : Hp} {σ : L2.St} {env1 env : Ev} {n1 n : Nat} {vs : List Nat} (r1 : Rel c F1 H1 σ env1 n1) (u : Up F1 F) (no : ∀ i ∈ vs, ∀ k, env1[i]? ≠ some (.ow k)) (r : Rel c F H (L2.wipe σ vs) env n) : Rel c F H σ (restE env1 env vs) n := by
  have hl : σ.length = env.length := by rw [← r.len, wipe_length]
  refine ⟨r.sub, r.spf, r.amb, r.up0, r.out0, r.keep0, by rw [restE_length]; exact hl, fun i s e => ?_, fun i j a k k' hij e1 e2 e3 => ?_⟩
  · rcases restE_get e with ⟨rfl, h2⟩ | ⟨h1, h2⟩
    · cases e4 : env1[i]? with
      | none =>
        have : env1.getD i .no = .no := by rw [List.getD_eq_getElem?_getD, e4]; rfl
        rw [this]; trivial
      | some s =>
        have : env1.getD i .no = s := by rw [List.getD_eq_getElem?_getD, e4]; rfl
        rw [this]
        have q := r1.sl i s e4
        cases s with
        | no => trivial
        | fz d => exact let ⟨v, g1, g2⟩ := q; ⟨v, g1, g2.up u⟩
        | ow k => exact absurd e4 (no i h2 k)
    · have q := r.sl i s h1
      rw [wipe_out h2] at q
      exact q
  · have f : ∀ {i : Nat} {k : Con}, (restE env1 env vs)[i]? = some (.ow k) → i ∉ vs ∧ env[i]? = some (.ow k) := fun {i k} e => by
      rcases restE_get e with ⟨h1, h2⟩ | ⟨h1, h2⟩
      · cases e4 : env1[i]? with
        | none =>
          have : env1.getD i .no = .no := by rw [List.getD_eq_getElem?_getD, e4]; rfl
          rw [this] at h1; cases h1
        | some s =>
          have : env1.getD i .no = s := by rw [List.getD_eq_getElem?_getD, e4]; rfl
          rw [this] at h1
          rw [← h1] at e4
          exact absurd e4 (no i h2 k)
      · exact ⟨h2, h1⟩
    obtain ⟨n1, f1⟩ := f e1
    obtain ⟨n2, f2⟩ := f e2
    have q := r.apart i j a k k' hij f1 f2 (by rw [wipe_out n1]; exact e3)
    rw [wipe_out n2] at q
    exact q
/-- the target of a comprehension -/
def TgOk (g : TG) (gv : VTG) (vs : List Nat) : Prop := ∀ (c : Fc) F H σ env n v d (Q : Ev → Nat → Prop) (R : L2.St → Hp → Prop), Rel c F H σ env n → Rp F v d → gv d env n Q → (∀ σ' env' n', Rel c F H σ' env' n' → L2.wipe σ' vs = L2.wipe σ vs → Q env' n' → R σ' H) → g v σ H R
theorem tg_name {i : Nat} {vs : List Nat} (h : i ∈ vs) : TgOk (gName i) (vgName i) vs := fun c F H σ env n v d Q R r rp q k => k _ _ n (r.setF rp) (wipe_set h) q
theorem tg_two {K : PySem.W.Frag} {i j : Nat} {vs : List Nat} (hi : i ∈ vs) (hj : j ∈ vs) : TgOk (gTup K 2 (gCons (gName i) (gCons (gName j) gNil))) (vgTup 2 (vgCons (vgName i) (vgCons (vgName j) vgNil))) vs := fun c F H σ env n v d Q R r rp q k => by
  obtain ⟨ds, rfl, hl, d1, r1, rfl, d2, r2, rfl, rfl, q⟩ := q
  obtain ⟨a, xs, rfl, hF, rx⟩ := rp.tup_inv
  obtain ⟨v1, v2, rfl, p1, p2⟩ := rx.two
  exact ⟨a, _, rfl, .inl (.inl (r.sub _ _ hF)), rfl, _, _, rfl, _, _, rfl, rfl, k _ _ n ((r.setF p1).setF p2) (by rw [wipe_set hj, wipe_set hi]) q⟩
def vYes : VTT := fun env n Q => Q true env n
theorem vts_nil {c : Fc} {X : Cx} : PTs X [] (cOf c vYes) := ⟨fun pins s σ H Q I ⟨F, env, n, Q', r, q, k⟩ => (pts_nil (X := X)).run pins s σ H Q I (k true H F env n r (Up.refl F) q)⟩
theorem vts_one {c : Fc} {X : Cx} {e : Expr} {tt : VTT} (h : PT X e (cOf c tt)) : PTs X [e] (cOf c tt) := pts_one h
def LcBody (g : VTG) (tt : VTT) (te : VTE) (vs : List Nat) (xs : List Dt) (env1 : Ev) (n1 : Nat) (Q : Con → Ev → Nat → Prop) : Prop := (∀ i ∈ vs, ∀ k, env1[i]? ≠ some (.ow k)) ∧ xs.length ≤ 5000 ∧ ∃ P : Nat → List Dt → Ev → Nat → Prop, P 0 [] (wipeE env1 vs) n1 ∧
  (∀ i x acc env n, xs[i]? = some x → P i acc env n → g x env n fun env2 n2 => tt env2 n2 fun b env3 n3 => if b = true then te env3 n3 fun y env4 n4 => P (i + 1) (acc ++ [y]) (wipeE env4 vs) n4 else P (i + 1) acc (wipeE env3 vs) n3) ∧
  ∀ acc env n, acc.length ≤ xs.length → P xs.length acc env n → Q (.lst acc) (restE env1 env vs) n
def vLc (wi : VTI) (g : VTG) (tt : VTT) (te : VTE) (vs : List Nat) : VTN := fun env n Q => wi env n fun xs env1 n1 => LcBody g tt te vs xs env1 n1 Q
section
variable {am : Am} {F0 H0 : Hp} {X : Cx}
theorem lc_of {wi : VTI} {g : TG} {gv : VTG} {tt : VTT} {te : VTE} {vs : List Nat} {tt' : TT} {te' : TE} (hg : TgOk g gv vs) (ht : ∀ (F0 H0 : Hp) {σ H R}, cOf ⟨am, F0, H0⟩ tt σ H R → tt' σ H R) (he : ∀ (F0 H0 : Hp) {σ H R}, tOf ⟨am, F0, H0⟩ te σ H R → te' σ H R) {σ : L2.St} {H : Hp} {R : VK} (h : nOf ⟨am, F0, H0⟩ (vLc wi gv tt te vs) σ H R) :
    tLc (iOf ⟨am, F0, H0⟩ wi) g tt' te' vs σ H R := by
  obtain ⟨F, env, n, Q, r, q, k⟩ := h
  refine ⟨F, env, n, _, r, q, fun J H1 F1 xs env1 n1 r1 u1 wk q1 => ?_⟩
  obtain ⟨no, hlen, P, p0, turn, fin⟩ := q1
  intro D nD
  obtain ⟨h0, ns, nf⟩ := r1.new0 nD
  have hF0 : F0 D = none := by
    cases e : F0 D with
    | none => rfl
    | some o => rw [r1.up0 D o e] at nf; cases nf
  -- at each turn: what is made so far stands at D, apart
  refine ⟨fun i m H => m = xs.length - i ∧ i ≤ xs.length ∧ ∃ F' av acc env n, Rel (Fc.wth ⟨am, F0, H0⟩ D (.lst av)) F' H (L2.wipe σ vs) env n ∧ Up F1 F' ∧ Rps F' av acc ∧ acc.length ≤ i ∧ P i acc env n, ⟨_, rfl, Nat.zero_le _, F1, [], [], _, n1, (((r1.wipe vs).lay nD _).push upd_same nf ns fun j k' e z => ?_), Up.refl F1, .nil, Nat.zero_le _, p0⟩, ?_⟩
  · obtain ⟨a, o, g1, _, _, _, g5, _⟩ := (r1.wipe vs).sl j _ e
    rw [g1] at z
    cases z
    rw [g5] at nD
    cases nD
  · rintro i m H2 ⟨rfl, hi, F2, av, acc, env2, n2, r2, u2, ra, hal, p2⟩
    obtain ⟨wg, ws⟩ := wk (Fc.wth ⟨am, F0, H0⟩ D (.lst av)) rfl F2 H2 _ env2 n2 r2 u2 i
    by_cases hlt : i < xs.length
    · obtain ⟨go, yl⟩ := wg hlt
      refine .inr ⟨go, fun H' => ∃ F' av acc env n, Rel (Fc.wth ⟨am, F0, H0⟩ D (.lst av)) F' H' (L2.wipe σ vs) env n ∧ Up F1 F' ∧ Rps F' av acc ∧ acc.length ≤ i + 1 ∧ P (i + 1) acc env n, fun H' hN => ⟨xs.length - (i + 1), by omega, rfl, hlt, hN⟩, fun x H3 y => ?_⟩
      obtain ⟨F3, d, r3, u3, ed, rd⟩ := yl x H3 y
      refine hg _ F3 H3 _ env2 n2 x d _ _ r3 rd (turn i d acc env2 n2 ed p2) fun σ4 env4 n4 r4 hw q4 => ?_
      have hw' : L2.wipe σ4 vs = L2.wipe σ vs := hw.trans (List.ext_getElem? fun j => by
        rw [wipe_get, wipe_get, wipe_length]
        by_cases h : j ∈ vs ∧ j < σ.length
        · rw [if_pos h, if_pos h]
        · rw [if_neg h, if_neg h])
      refine ⟨hw', ht F0 (upd H0 D (.lst av)) ⟨F3, env4, n4, _, r4, q4, fun b H5 F5 env5 n5 r5 u5 q5 => ?_⟩⟩
      cases b with
      | true =>
        refine he F0 (upd H0 D (.lst av)) ⟨F5, env5, n5, _, r5, q5, fun v H6 F6 d6 env6 n6 r6 u6 rv q6 => ?_⟩
        obtain ⟨r7, eD, fD, nD7⟩ := Rel.pop (c := ⟨am, F0, H0⟩) (fun _ z => by cases z) r6 h0 hF0 ns
        have ulen : av.length = acc.length := ra.len
        refine ⟨av, eD, small1000 (by rw [ulen]; omega), F6, av ++ [v], acc ++ [d6], _, n6, ?_, ((u2.trans u3).trans u5).trans u6, (((ra.up u3).up u5).up u6).append (.cons rv .nil), by rw [List.length_append]; exact Nat.succ_le_succ hal, q6⟩
        have r8 : Rel ⟨am, F0, H0⟩ F6 (upd H6 D (.lst (av ++ [v]))) σ4 env6 n6 := by
          refine ⟨fun b o e => ?_, r7.spf, r7.amb' (fun b hb => upd_ne fun z => ns (z ▸ hb)) (codeK_upd fun oc x z => by rw [eD] at z; cases z), r7.up0, r7.out0, fun b o e nb => ?_, r7.len, fun j s e => ?_, r7.apart⟩
          · rw [upd_ne fun z => by rw [z, fD] at e; cases e]; exact r7.sub b o e
          · rw [upd_ne fun z => by
              have e' : H0 b = some o := e
              have h0' : H0 D = none := h0
              rw [z, h0'] at e'; cases e']
            exact r7.keep0 b o e nb
          · have q := r7.sl j s e
            cases s with
            | no => trivial
            | fz d => exact q
            | ow kk =>
              obtain ⟨a, o, g1, g2, g3, g4, g5, g6⟩ := q
              exact ⟨a, o, g1, g2, g3, g4, by rw [upd_ne fun z => nD7 j kk e (by rw [g1, z])]; exact g5, g6⟩
        exact (r8.push upd_same fD ns nD7).wipe2 hw'
      | false =>
        exact ⟨F5, av, acc, _, n5, r5.wipe2 hw', (u2.trans u3).trans u5, (ra.up u3).up u5, Nat.le_succ_of_le hal, q5⟩
    · have e : i = xs.length := by omega
      subst e
      refine .inl ⟨ws (Nat.le_refl _), ?_⟩
      obtain ⟨r7, eD, fD, nD7⟩ := Rel.pop (c := ⟨am, F0, H0⟩) (fun _ z => by cases z) r2 h0 hF0 ns
      refine k D (.lst av) H2 F2 (.lst acc) _ n2 (r1.rest u2 no r7) (u1.trans u2) fD h0 ns eD ⟨av, rfl, ra⟩ (fun j k' e z => ?_) (fin acc env2 n2 hal p2)
      have rr := r1.rest u2 no r7
      rcases restE_get e with ⟨h1, h2⟩ | ⟨h1, h2⟩
      · cases e4 : env1[j]? with
        | none =>
          have : env1.getD j .no = .no := by rw [List.getD_eq_getElem?_getD, e4]; rfl
          rw [this] at h1; cases h1
        | some s =>
          have : env1.getD j .no = s := by rw [List.getD_eq_getElem?_getD, e4]; rfl
          rw [this] at h1
          rw [← h1] at e4
          exact absurd e4 (no j h2 k')
      · exact nD7 j k' h1 (by rw [wipe_out h2]; exact z)
theorem vn_lc {elt tg iter : Expr} {ifs : List Expr} {scope : Scope} {own : List (Str × Nat)} {pos : Pos} {wi : VTI} {g : TG} {gv : VTG} {tt : VTT} {te : VTE} (hc : X.calm = true) (hN : X.N.Nodup) (hi : PI X tg iter (iOf ⟨am, F0, H0⟩ wi)) (ok : BlkOk X.N X.env.scope scope own) (hgk : TgOk g gv (own.map (·.2)))
    (hg : ∀ (s : Shared) (H : Hp) (C : Addr) (cl : List (Str × Addr)) (fp : List Addr), PG (X.blk s H scope (compEnvC scope cl C X.env) fp) tg g)
    (ht : ∀ (F0 H0 : Hp) (s : Shared) (H : Hp) (C : Addr) (cl : List (Str × Addr)) (fp : List Addr), PTs (X.blk s H scope (compEnvC scope cl C X.env) fp) ifs (cOf ⟨am, F0, H0⟩ tt))
    (he : ∀ (F0 H0 : Hp) (s : Shared) (H : Hp) (C : Addr) (cl : List (Str × Addr)) (fp : List Addr), PE (X.blk s H scope (compEnvC scope cl C X.env) fp) elt (tOf ⟨am, F0, H0⟩ te)) (hs : ∀ x, foldedSetIterable iter X.env x = pure x := by intro _; rfl) :
    PE X (.ListComp elt [⟨tg, iter, ifs, 0⟩] scope pos) (nOf ⟨am, F0, H0⟩ (vLc wi gv tt te (own.map (·.2)))) :=
  PE.imp (pe_lc (tt := fun σ H R => ∃ F0 H0, cOf ⟨am, F0, H0⟩ tt σ H R) (te := fun σ H R => ∃ F0 H0, tOf ⟨am, F0, H0⟩ te σ H R) hc hN hi ok hg
    (fun s H C cl fp => ⟨fun pins s' σ H' Q I ⟨F0, H0, q⟩ => (ht F0 H0 s H C cl fp).run pins s' σ H' Q I q⟩) (fun s H C cl fp => ⟨fun pins s' σ H' Q I ⟨F0, H0, q⟩ => (he F0 H0 s H C cl fp).run pins s' σ H' Q I q⟩) hs)
    fun σ H R h => lc_of hgk (fun F0 H0 _ _ _ q => ⟨F0, H0, q⟩) (fun F0 H0 _ _ _ q => ⟨F0, H0, q⟩) h
theorem vs_setLc {i : Nat} {y : Str} {py : Pos} {elt tg iter : Expr} {ifs : List Expr} {scope : Scope} {own : List (Str × Nat)} {pos spos : Pos} {wi : VTI} {g : TG} {gv : VTG} {tt : VTT} {te : VTE} (hc : X.calm = true) (hN : X.N.Nodup) (hy : X.N[i]? = some y) (hyl : X.env.scope.names.lookup y = some .local)
    (hsw : swapsWith (.ListComp elt [⟨tg, iter, ifs, 0⟩] scope pos) (some (.Name y py)) spos.line X.env = pure true) (hi : PI X tg iter (iOf ⟨am, F0, H0⟩ wi)) (ok : BlkOk X.N X.env.scope scope own) (hgk : TgOk g gv (own.map (·.2)))
    (hg : ∀ (s : Shared) (H : Hp) (C : Addr) (cl : List (Str × Addr)) (fp : List Addr), PG (X.blk s H scope (compEnvC scope cl C X.env) fp) tg g)
    (ht : ∀ (F0 H0 : Hp) (s : Shared) (H : Hp) (C : Addr) (cl : List (Str × Addr)) (fp : List Addr), PTs (X.blk s H scope (compEnvC scope cl C X.env) fp) ifs (cOf ⟨am, F0, H0⟩ tt))
    (he : ∀ (F0 H0 : Hp) (s : Shared) (H : Hp) (C : Addr) (cl : List (Str × Addr)) (fp : List Addr), PE (X.blk s H scope (compEnvC scope cl C X.env) fp) elt (tOf ⟨am, F0, H0⟩ te)) (hs : ∀ x, foldedSetIterable iter X.env x = pure x := by intro _; rfl) :
    PS X (.Assign [.Name y py] (.ListComp elt [⟨tg, iter, ifs, 0⟩] scope pos) spos) (sOf ⟨am, F0, H0⟩ (vSetN i (vLc wi gv tt te (own.map (·.2))))) :=
  PS.imp (ps_setLc (tt := fun σ H R => ∃ F0 H0, cOf ⟨am, F0, H0⟩ tt σ H R) (te := fun σ H R => ∃ F0 H0, tOf ⟨am, F0, H0⟩ te σ H R) hc hN hy hyl hsw hi ok hg
    (fun s H C cl fp => ⟨fun pins s' σ H' Q I ⟨F0, H0, q⟩ => (ht F0 H0 s H C cl fp).run pins s' σ H' Q I q⟩) (fun s H C cl fp => ⟨fun pins s' σ H' Q I ⟨F0, H0, q⟩ => (he F0 H0 s H C cl fp).run pins s' σ H' Q I q⟩) hs)
    fun D σ H h => by
      have h2 := setN_of h
      exact lc_of hgk (fun F0 H0 _ _ _ q => ⟨F0, H0, q⟩) (fun F0 H0 _ _ _ q => ⟨F0, H0, q⟩) h2
end
end VL
namespace VL
open PySem PySem.Spec PyProof.Rows L2 HM
abbrev RM := V → List V → Hp → VK → Prop
abbrev RMD := List Dt → List Dt → (Dt → List Dt → Prop) → Prop
def LftM (r : RM) (m : RMD) : Prop := ∀ (F H : Hp) (a : Addr) xs ds vs as (Q : Dt → List Dt → Prop) (R : VK), Up F H → F a = none → H a = some (.lst xs) → Rps F xs ds → Rps F vs as → m ds as Q → (∀ v d xs' ds', Rp F v d → Rps F xs' ds' → Q d ds' → R v (upd H a (.lst xs'))) → r (.ref a) vs H R
def vM (i : Nat) (m : RMD) (ta : VTA) : VTE := fun env n Q => (∃ ds0, env[i]? = some (.ow (.lst ds0))) ∧ ta env n fun as env1 n1 => ∃ ds, env1[i]? = some (.ow (.lst ds)) ∧ m ds as fun d ds' => Q d (env1.set i (.ow (.lst ds'))) n1
section
variable {c : Fc} {X : Cx} {a b e o : Expr} {es : List Expr} {te ta tb : VTE} {tas : VTA} {pos apos : Pos} {r : RM} {m : RMD} {name : Str} {id : String}
theorem m_of {i : Nat} (L : LftM r m) {σ : L2.St} {H : Hp} {R : VK} {K : PySem.W.Frag} (h : tOf c (vM i m tas) σ H R) : tBM K "list" r (tVar i) (aOf c tas) σ H R := by
  obtain ⟨F, env, n, Q, rr, ⟨⟨ds0, e0⟩, q⟩, k⟩ := h
  obtain ⟨a, xs, ea, hH, _⟩ := rr.rdOwn e0
  refine ⟨_, ea, .inl ⟨rfl, xs, .inl (.inl hH)⟩, F, env, n, _, rr, q, fun vs H' F' as env' n' r' u rp q' => ?_⟩
  obtain ⟨ds, ed, q'⟩ := q'
  obtain ⟨a', o', g1, g2, g3, g4, g5, xs', rfl, rx⟩ := r'.sl i _ ed
  rw [ea] at g1
  cases g1
  exact L F' H' a xs' ds vs as _ R r'.sub g2 g5 rx rp q' fun v d ys zs rv ry qv => k v _ F' d _ n' (r'.write (k' := .lst zs) ed ea ⟨ys, rfl, ry⟩) u rv qv
theorem m0_of {i : Nat} (L : LftM r m) {σ : L2.St} {H : Hp} {R : VK} {K : PySem.W.Frag} (h : tOf c (vM i m vNil) σ H R) : tBM0 K "list" r (tVar i) σ H R := by
  obtain ⟨F, env, n, Q, rr, ⟨⟨ds0, e0⟩, q⟩, k⟩ := h
  obtain ⟨a, xs, ea, hH, _⟩ := rr.rdOwn e0
  refine ⟨_, ea, .inl ⟨rfl, xs, .inl (.inl hH)⟩, ?_⟩
  obtain ⟨ds, ed, q'⟩ := q
  obtain ⟨a', o', g1, g2, g3, g4, g5, xs', rfl, rx⟩ := rr.sl i _ ed
  rw [ea] at g1
  cases g1
  exact L F H a xs' ds [] [] _ R rr.sub g2 g5 rx .nil q' fun v d ys zs rv ry qv => k v _ F d _ n (rr.write (k' := .lst zs) ed ea ⟨ys, rfl, ry⟩) (Up.refl F) rv qv
def mAppend : RMD := fun ds as Q => ∃ y, as = [y] ∧ ds.length ≤ 5000 ∧ Q .non (ds ++ [y])
theorem lft_append : LftM rAppend mAppend := fun F H a xs ds vs as Q R u hF hH rx ra ⟨y, e, hl, q⟩ k => by
  subst e
  obtain ⟨v, rfl, p⟩ := ra.one
  exact ⟨a, xs, v, rfl, rfl, hH, small1000 (by rw [rx.len]; exact hl), k _ _ _ _ .non (rx.append (.cons p .nil)) q⟩
def mPop : RMD := fun ds as Q => ∃ y, as = [] ∧ ds[ds.length - 1]? = some y ∧ Q y ds.dropLast
theorem lft_pop : LftM rPop mPop := fun F H a xs ds vs as Q R u hF hH rx ra ⟨y, e, hl, q⟩ k => by
  subst e
  cases ra
  obtain ⟨v, h1, h2⟩ := rx.get hl
  exact ⟨a, xs, v, rfl, rfl, hH, by rw [rx.len]; exact h1, k _ _ _ _ h2 rx.dropLast q⟩
def mPopAt : RMD := fun ds as Q => ∃ (j : Nat) (y : Dt), as = [.int (j : Int)] ∧ ds.length ≤ 5000 ∧ ds[j]? = some y ∧ Q y (ds.eraseIdx j)
theorem lft_popAt : LftM rPopAt mPopAt := fun F H a xs ds vs as Q R u hF hH rx ra ⟨j, y, e, hl, hj, q⟩ k => by
  subst e
  obtain ⟨v, rfl, p⟩ := ra.one
  rw [p.int_inv]
  obtain ⟨w, h1, h2⟩ := rx.get hj
  have hlt := (List.getElem?_eq_some_iff.mp hj).1
  obtain ⟨j', g1, g2, _⟩ := atI_get (atI_nat h1)
  have : j' = j := by
    have z := (ixN_seq (n := xs.length) (i := (j : Int)) (j := j) (by unfold ixN; rw [if_pos (by omega), if_pos (by rw [rx.len]; omega)]; simp)).1
    rw [z] at g1
    exact (Option.some.inj g1).symm
  subst this
  exact ⟨a, xs, (j' : Int), j', w, rfl, rfl, hH, by omega, by omega, g1, h1, k _ _ _ _ h2 (rx.erase j') q⟩
/-- x[i] = e -/
def vSetIx (j : Nat) (ti te : VTE) : VTS := fun V env n => te env n fun d env1 n1 => (∃ ds0, env1[j]? = some (.ow (.lst ds0))) ∧ ti env1 n1 fun y env2 n2 => ∃ (ds : List Dt) (k : Nat), env2[j]? = some (.ow (.lst ds)) ∧ y = .int (k : Int) ∧ k < ds.length ∧ V.nx (env2.set j (.ow (.lst (ds.set k d)))) n2
theorem ixN_nat {m k : Nat} (h : k < m) : ixN m (k : Int) = some k := by unfold ixN; rw [if_pos (by omega), if_pos (by omega)]; simp
theorem vs_setIx {j : Nat} {i v : Expr} {ti tv : VTE} {p2 : Pos} (ho : PE X o (tVar j)) (hi : PE X i (tOf c ti)) (hv : PE X v (tOf c tv)) (ha : ∀ v, assign (.Subscript o i p2) X.env v = (do
      let ov ← holding [v] (eval o X.env)
      let iv ← holding [v, ov] (eval i X.env)
      standAt p2
      holding [v, ov, iv] (setItem ov iv v)
      release [v, ov, iv] []) := by intro _; rfl) (hs : swapsWithSole [.Subscript o i p2] v pos.line X.env = pure false := by rfl) (hw : swappedStores [.Subscript o i p2] v X.env = pure none := by rfl)
    (h1 : (assignEach [.Subscript o i p2] X.env).map (·.2) = [assign (.Subscript o i p2) X.env] := by rfl) : PS X (.Assign [.Subscript o i p2] v pos) (sOf c (vSetIx j ti tv)) := PS.imp (ps_asg hv (pg_sub ho hi set_list ha) hs hw h1) fun D σ H ⟨F, env, n, V, rr, q, k⟩ => by
  refine ⟨F, env, n, _, rr, q, fun v H1 F1 d env1 n1 r1 u1 rv q1 => ?_⟩
  obtain ⟨⟨ds0, e0⟩, q1⟩ := q1
  obtain ⟨a, xs, ea, hH, _⟩ := r1.rdOwn e0
  refine ⟨_, ea, F1, env1, n1, _, r1, q1, fun y H2 F2 d2 env2 n2 r2 u2 p2 q2 => ?_⟩
  obtain ⟨ds, kk, ed, rfl, hk, q2⟩ := q2
  obtain ⟨a', o', g1, g2, g3, g4, g5, xs', rfl, rx⟩ := r2.sl j _ ed
  rw [ea] at g1
  cases g1
  exact ⟨a, xs', _, kk, rfl, p2.int_inv, g5, ixN_nat (by rw [rx.len]; exact hk), k.nx F2 _ σ _ n2 (r2.write (k' := .lst (ds.set kk d)) ed ea ⟨_, rfl, rx.set (rv.up u2) kk⟩) (u1.trans u2) q2⟩
/-- an operator that makes a new list -/
def LftO (r : R2) (r' : Dt → Dt → (List Dt → Prop) → Prop) : Prop := ∀ (F H : Hp) x y d1 d2 (Q : List Dt → Prop) (R : VK), Up F H → Rp F x d1 → Rp F y d2 → r' d1 d2 Q → (∀ p xs zs, H p = none → Rps F xs zs → Q zs → R (.ref p) (upd H p (.lst xs))) → r x y H R
def vOpNew (r' : Dt → Dt → (List Dt → Prop) → Prop) (ta tb : VTE) : VTN := fun env n Q => v2 ta tb (fun x y env' n' => r' x y fun ds => Q (.lst ds) env' n') env n
theorem vn_op {op : Operator} {r : R2} {r' : Dt → Dt → (List Dt → Prop) → Prop} (ho : OpR X (binaryOp op) r) (L : LftO r r') (ha : PE X a (tOf c ta)) (hb : PE X b (tOf c tb)) : PE X (.BinOp a op b pos) (nOf c (vOpNew r' ta tb)) := PE.imp (pe_op ho ha hb) fun σ H R ⟨F, env, n, Q, rr, h, k⟩ =>
  t2_of rr h fun x y d1 d2 H' F' env' n' r2 u p1 p2 q => L F' H' x y d1 d2 _ R r2.sub p1 p2 q fun p xs zs np rx qz => nOf_new r2 u np (kk := .lst zs) ⟨xs, rfl, rx⟩ qz k
def dCat : Dt → Dt → (List Dt → Prop) → Prop := fun x y Q => ∃ a b, x = .lst a ∧ y = .lst b ∧ a.length + b.length ≤ 5000 ∧ Q (a ++ b)
theorem lft_cat : LftO rCat dCat := fun F H x y d1 d2 Q R u p1 p2 ⟨a, b, e1, e2, hl, q⟩ k => by
  subst e1 e2
  obtain ⟨l, xs, rfl, h1, r1⟩ := p1.lst_inv
  obtain ⟨l2, ys, rfl, h2, r2⟩ := p2.lst_inv
  exact ⟨l, l2, xs, ys, rfl, rfl, u _ _ h1, u _ _ h2, small1k (by rw [r1.len, r2.len]; exact hl), fun p np => k p _ _ np (r1.append r2) q⟩
theorem rgV_ints (a b : Int) : rgV a b = ((List.range (b - a).toNat).map fun i : Nat => a + (i : Int)).map V.int := by
  unfold rgV
  rw [List.map_map]
  rfl
theorem rps_rg {F : Hp} (a b : Int) : Rps F (rgV a b) (rngD a (b - a).toNat) := by
  rw [rgV_ints]
  have : rngD a (b - a).toNat = ((List.range (b - a).toNat).map fun i : Nat => a + (i : Int)).map Dt.int := by unfold rngD; rw [List.map_map]; rfl
  rw [this]
  exact Rps.ints _
abbrev VRG := Ev → Nat → (Int → Int → Ev → Nat → Prop) → Prop
def rgOf (c : Fc) (tr : VRG) : L2.St → Hp → (Int → Int → Hp → Prop) → Prop := fun σ H R => ∃ F env n Q, Rel c F H σ env n ∧ tr env n Q ∧ ∀ i j H' F' env' n', Rel c F' H' σ env' n' → Up F F' → Q i j env' n' → R i j H'
theorem PRg.imp {X : Cx} {e : Expr} {t t' : L2.St → Hp → (Int → Int → Hp → Prop) → Prop} (h : PRg X e t) (k : ∀ σ H R, t' σ H R → t σ H R) : PRg X e t' := fun pins s σ H Q I q => h pins s σ H Q I (k _ _ _ q)
def vRg1 (ta : VTE) : VRG := fun env n Q => ta env n fun d env1 n1 => ∃ j, d = .int j ∧ Q 0 j env1 n1
theorem vrg_1 {p pos : Pos} (hg : Gl X "range") (hm : X.mg "range" = none) (ha : PE X a (tOf c ta)) (na : starEach [a] X.env = (false, eval a X.env) :: starEach [] X.env := by rfl) : PRg X (.Call (.Name "range" p) [a] [] pos) (rgOf c (vRg1 ta)) := PRg.imp (prg_1 hg hm ha na) fun σ H R ⟨F, env, n, Q, rr, h, k⟩ =>
  ⟨F, env, n, _, rr, h, fun v H' F' d env' n' r' u rp q => by
    obtain ⟨j, rfl, q⟩ := q
    exact ⟨j, rp.int_inv, k _ _ _ _ _ _ r' u q⟩⟩
def vLRg (tr : VRG) : VTN := fun env n Q => tr env n fun i j env1 n1 => (0 ≤ i ∧ j ≤ 1000000 ∧ i ≤ 1000000 ∧ 0 ≤ j) ∧ Q (.lst (rngD i (j - i).toNat)) env1 n1
def vTRg (tr : VRG) : VTE := fun env n Q => tr env n fun i j env1 n1 => (0 ≤ i ∧ j ≤ 1000000 ∧ i ≤ 1000000 ∧ 0 ≤ j) ∧ Q (.tup (rngD i (j - i).toNat)) env1 n1
theorem vn_listRg {tr : VRG} {p pos : Pos} (hc : X.calm = true) (hg : Gl X "list") (hm : X.mg "list" = none) (he : PRg X e (rgOf c tr)) (na : starEach [e] X.env = (false, eval e X.env) :: starEach [] X.env := by rfl) : PE X (.Call (.Name "list" p) [e] [] pos) (nOf c (vLRg tr)) := PE.imp (pe_listRg hc hg hm he na) fun σ H R ⟨F, env, n, Q, rr, h, k⟩ =>
  ⟨F, env, n, _, rr, h, fun i j H' F' env' n' r' u q => ⟨RgOk.of_le q.1.1 (by omega) (by omega) q.1.2.2.2, fun p np => nOf_new r' u np (kk := .lst (rngD i (j - i).toNat)) ⟨_, rfl, rps_rg i j⟩ q.2 k⟩⟩
theorem ve_tupRg {tr : VRG} {p pos : Pos} (hc : X.calm = true) (hg : Gl X "tuple") (hm : X.mg "tuple" = none) (he : PRg X e (rgOf c tr)) (na : starEach [e] X.env = (false, eval e X.env) :: starEach [] X.env := by rfl) : PE X (.Call (.Name "tuple" p) [e] [] pos) (tOf c (vTRg tr)) := PE.imp (pe_tupRg hc hg hm he na) fun σ H R ⟨F, env, n, Q, rr, h, k⟩ =>
  ⟨F, env, n, _, rr, h, fun i j H' F' env' n' r' u q => ⟨RgOk.of_le q.1.1 (by omega) (by omega) q.1.2.2.2, fun p np => by
    obtain ⟨_, _, nf⟩ := r'.new0 np
    exact k _ _ (upd F' p _) _ env' n' (r'.layF np _) (u.trans (up_lay nf)) (.tup upd_same (rps_rg i j)) q.2⟩⟩
def dRep : Dt → Dt → (List Dt → Prop) → Prop := fun x y Q => ∃ (a : List Dt) (k : Nat), x = .lst a ∧ y = .int (k : Int) ∧ k ≤ 5000 ∧ a.length * k ≤ 5000 ∧ Q (List.flatten (List.replicate k a))
theorem Rps.rep {F : Hp} {xs : List V} {ds : List Dt} (h : Rps F xs ds) : ∀ k : Nat, Rps F (List.flatten (List.replicate k xs)) (List.flatten (List.replicate k ds))
  | 0 => .nil
  | k + 1 => by
    rw [List.replicate_succ, List.replicate_succ, List.flatten_cons, List.flatten_cons]
    exact h.append (Rps.rep h k)
theorem lft_rep : LftO rRep dRep := fun F H x y d1 d2 Q R u p1 p2 ⟨a, kk, e1, e2, hk, hl, q⟩ k => by
  subst e1 e2
  obtain ⟨l, xs, rfl, h1, r1⟩ := p1.lst_inv
  rw [p2.int_inv]
  exact ⟨l, _, xs, rfl, rfl, u _ _ h1, by omega, by omega, small1k (by rw [Int.toNat_natCast, r1.len]; exact hl), fun p np => k p _ _ np (by rw [Int.toNat_natCast]; exact r1.rep kk) q⟩
abbrev VTO := Ev → Nat → (Option Int → Ev → Nat → Prop) → Prop
def oOf (c : Fc) (to : VTO) : TO := fun σ H R => ∃ F env n Q, Rel c F H σ env n ∧ to env n Q ∧ ∀ i H' F' env' n', Rel c F' H' σ env' n' → Up F F' → Q i env' n' → R i H'
def vNoPart : VTO := fun env n Q => Q none env n
def vPart (te : VTE) : VTO := fun env n Q => te env n fun d env1 n1 => ∃ i, d = .int i ∧ Q (some i) env1 n1
theorem PO.imp {X : Cx} {e : Option Expr} {t t' : TO} (h : PO X e t) (k : ∀ σ H R, t' σ H R → t σ H R) : PO X e t' := ⟨fun pins s σ H Q I q => h.run pins s σ H Q I (k _ _ _ q)⟩
theorem vo_none : PO X none (oOf c vNoPart) := PO.imp po_none fun σ H R ⟨F, env, n, Q, rr, h, k⟩ => k none H F env n rr (Up.refl F) h
theorem vo_some (he : PE X e (tOf c te)) : PO X (some e) (oOf c (vPart te)) := PO.imp (po_some he) fun σ H R ⟨F, env, n, Q, rr, h, k⟩ => ⟨F, env, n, _, rr, h, fun v H' F' d env' n' r' u rp q => by
  obtain ⟨i, rfl, q⟩ := q
  exact ⟨i, rp.int_inv, k _ H' F' env' n' r' u q⟩⟩
def cutD (xs : List Dt) (lo hi : Option Int) : List Dt := (xs.drop (HT.sIx xs.length 0 lo)).take (HT.sIx xs.length xs.length hi - HT.sIx xs.length 0 lo)
def vSlL (te : VTE) (tl th : VTO) : VTN := fun env n Q => te env n fun d env1 n1 => tl env1 n1 fun l env2 n2 => th env2 n2 fun h env3 n3 => ∃ ds, d = .lst ds ∧ Q (.lst (cutD ds l h)) env3 n3
theorem Rps.cut {F : Hp} {xs : List V} {ds : List Dt} (h : Rps F xs ds) (lo hi : Option Int) : Rps F (cutV xs lo hi) (cutD ds lo hi) := by
  unfold cutV cutD
  rw [h.len]
  exact (h.drop _).take _
theorem vn_slL {lo hi : Option Expr} {tl th : VTO} {p2 : Pos} (he : PE X e (tOf c te)) (hl : PO X lo (oOf c tl)) (hu : PO X hi (oOf c th)) : PE X (.Subscript e (.Slice lo hi none p2) pos) (nOf c (vSlL te tl th)) := PE.imp (pe_slice sl_list he hl hu) fun σ H R ⟨F, env, n, Q, rr, h, k⟩ =>
  ⟨F, env, n, _, rr, h, fun v H1 F1 d env1 n1 r1 u1 p1 q1 => ⟨F1, env1, n1, _, r1, q1, fun l H2 F2 env2 n2 r2 u2 q2 => ⟨F2, env2, n2, _, r2, q2, fun hh H3 F3 env3 n3 r3 u3 q3 => by
    obtain ⟨ds, rfl, q3⟩ := q3
    obtain ⟨a, xs, rfl, hF, rx⟩ := (p1.up (u2.trans u3)).lst_inv
    exact ⟨a, xs, rfl, .inl (.inl (r3.sub _ _ hF)), fun p np => nOf_new r3 ((u1.trans u2).trans u3) np (kk := .lst (cutD ds l hh)) ⟨_, rfl, rx.cut l hh⟩ q3 k⟩⟩⟩⟩
end
end VL
namespace HM
open PySem PySem.Spec PyProof.Rows L2
section
variable {P : Program} {w : World} {A : Around} {E : Value → Shared → Prop} {s : Shared} {a : Addr} {o : Obj} {es : Array DictEntry} {ep : Nat}
theorem walks_keys (hh : A.handled = none) (I : Addr) (hne : a ≠ I) (hd : o.data = .dict es ep) :
    Walks P w A I [I, a] [I] es.size (fun i v => (es.toList.map (·.key))[i]? = some v) (fun i h => h.IsKeyIter I a i es.size ep ∧ h.get? a = some o) where
  sub := fun b hb => by simp at hb; simp [hb]
  frame := fun _ _ _ st hk => ⟨st.1.at fun o e => hk I (by simp) o e, hk a (by simp) o st.2⟩
  item := fun i s Q E hi st hQ => by
    have hx : es[i]? = some es[i] := Array.getElem?_eq_getElem hi
    refine next_key_item st.1 st.2 hd rfl hx fun h' hit' hs' => ?_
    exact hQ es[i].key h' s.toks (by rw [List.getElem?_map, Array.getElem?_toList, hx]; rfl) ⟨hit', (hs'.2 a hne).trans st.2⟩ fun b o hb e => (hs'.2 b (fun h => hb (by simp [h]))).trans e
  done := fun s Q E st hQ => next_key_end hh st.1 st.2 hd rfl (Nat.le_refl _) fun h' he' => hQ h' s.toks fun b o hb e => he' b o (fun h => hb (by simp [h])) e
  self := fun _ _ _ _ st hQ => wpAny_pyIter_keyiter st.1 hQ
theorem collect_dict {Q : List Value → Shared → Prop} (hh : A.handled = none) (hsys : (a == sysModules) = false) (ho : s.heap.get? a = some o) (hx : o.ExactDict) (hd : o.data = .dict es ep) (hsz : es.size ≤ sizeLine)
    (hQ : ∀ s', (∀ b o, s.heap.get? b = some o → s'.heap.get? b = some o) → s.heap.objs.size ≤ s'.heap.objs.size → s'.gens = s.gens → s'.os = s.os → Q (es.toList.map (·.key)) s') :
    wpAny (model P w) A (collect (.ref a)) Q E s := by
  have hlt : a < s.heap.objs.size := Heap.lt_size ho
  have hSa : s.heap.objs.size ≠ a := Nat.ne_of_gt hlt
  unfold collect
  refine wpAny_bind (wpAny_runValue (codeAny_builtin PySem.F.entry_proto_collect ?_))
  rw [Around.under_plainId PySem.F.plain_proto_collect _]
  show wpAny _ A.in1 (newList [] >>= fun l => again (.builtin "list.__iadd__" ⟨[l, .ref a], []⟩)) _ _ s
  refine wpAny_bind (wpAny_newObj_type ?_)
  refine wpAny_pure ⟨plainId_quiet PySem.F.plain_list_iadd _, codeAny_builtin PySem.F.entry_list_iadd ?_⟩
  rw [Around.under_plainId PySem.F.plain_list_iadd _]
  have hS : (s.heap.push { cls := .type "list", data := .seq ([] : List Value).toArray }).get? s.heap.objs.size = some { cls := .type "list", data := .seq ([] : List Value).toArray } := Heap.get?_push_size _ rfl
  have ho1 : (s.heap.push { cls := .type "list", data := .seq ([] : List Value).toArray }).get? a = some o := Heap.get?_push_of_some _ ho
  have hz1 : (s.heap.push { cls := .type "list", data := .seq ([] : List Value).toArray }).objs.size = s.heap.objs.size + 1 := size_push' _ _
  show wpAny _ A.in1 (Builtin.List.listExtendWith (.ref s.heap.objs.size) (.ref a) (.ref s.heap.objs.size)) _ _ _
  unfold Builtin.List.listExtendWith
  refine wpAny_bind (wpAny_typeOf (T := "dict") ⟨o, ho1, hx.1⟩ ?_)
  have h1 : Builtin.List.listSameRef (.ref s.heap.objs.size) (.ref a) = false := by simp [Builtin.List.listSameRef, hSa]
  have h2 : (Value.type "dict" == Value.type "list") = false := by decide
  have h3 : (Value.type "dict" == Value.type "tuple") = false := by decide
  simp only [h1, h2, h3, Bool.or_false, Bool.false_eq_true, if_false]
  refine wpAny_bind (iter_keys (s := { s with heap := s.heap.push { cls := .type "list", data := .seq ([] : List Value).toArray } }) hsys ho1 hx hd ?_)
  dsimp only
  rw [hz1]
  generalize hh2 : (s.heap.push { cls := .type "list", data := .seq ([] : List Value).toArray }).push { cls := .type "dict_keyiterator", data := .fields #[.ref a, .int 0 0, .int es.size 0, .int ep 0] } = h2'
  have k2 : ∀ b u, (s.heap.push { cls := .type "list", data := .seq ([] : List Value).toArray }).get? b = some u → h2'.get? b = some u := fun b u e => by rw [← hh2]; exact Heap.get?_push_of_some _ e
  have ho2 : h2'.get? a = some o := k2 _ _ ho1
  have hT2 : Shared.TypeIs { s with heap := h2' } (.ref a) "dict" := ⟨o, ho2, hx.1⟩
  have hI : h2'.get? (s.heap.objs.size + 1) = some { cls := .type "dict_keyiterator", data := .fields #[.ref a, .int 0 0, .int es.size 0, .int ep 0] } := by
    rw [← hh2, ← hz1]
    exact Heap.get?_push_size _ rfl
  refine wpAny_bind (wpAny_holding ?_)
  unfold Builtin.List.listLengthHint
  refine wpAny_bind (wpAny_specialOf hT2 PySem.F.slot_dict_len.lookup ?_)
  (generalize hid : ("dict.__len__" : String) = id0; (fail_if_success (clear hid id0)); wp_delta; rw [show splitId id0 = some ("dict", "__len__") from by subst hid; decide +kernel]; subst hid)
  refine wpAny_bind (wpAny_isInstance (b := true) hT2 (by rw [isSubtype_type]; kernel_rfl) ?_)
  show wpAny _ A.in1 (typeOf (.ref a) >>= _) _ _ _
  refine wpAny_bind (wpAny_typeOf hT2 ?_)
  refine wpAny_pure ?_
  show wpAny _ A.in1 (rule "list.extend.makes-room" >>= fun _ => Builtin.List.listTouch (.ref s.heap.objs.size) >>= fun _ =>
    again (.builtin "list.extend.loop" ⟨[.ref s.heap.objs.size, .ref (s.heap.objs.size + 1), .ref s.heap.objs.size], []⟩)) _ _ _
  refine wpAny_bind (wpAny_rule ?_)
  have hS2 := k2 _ _ hS
  refine wpAny_bind ?_
  show wpAny _ A.in1 (updateSeq s.heap.objs.size (·.push .none) >>= fun _ => updateSeq s.heap.objs.size (·.pop)) _ _ _
  refine wpAny_bind (wpAny_updateSeq hS2 rfl ?_)
  have hS3 := Heap.get?_update_self (Obj.mapSeq (·.push Value.none)) hS2 rfl
  refine wpAny_updateSeq hS3 rfl ?_
  have hS4 := Heap.get?_update_self (Obj.mapSeq (·.pop)) hS3 rfl
  have oth : ∀ b u, b ≠ s.heap.objs.size → h2'.get? b = some u → ((h2'.update s.heap.objs.size (Obj.mapSeq (·.push Value.none))).update s.heap.objs.size (Obj.mapSeq (·.pop))).get? b = some u :=
    fun b u hb e => (Heap.get?_update_other _ _ (Ne.symm hb)).trans ((Heap.get?_update_other _ _ (Ne.symm hb)).trans e)
  have hne : a ≠ s.heap.objs.size + 1 := Nat.ne_of_lt (Nat.lt_succ_of_lt hlt)
  have W := walks_keys (P := P) (w := w) (A := A.in1) hh (s.heap.objs.size + 1) hne hd
  have hSf : s.heap.objs.size ∉ [s.heap.objs.size + 1, a] := by
    simp only [List.mem_cons, List.not_mem_nil, or_false, not_or]
    exact ⟨Nat.ne_of_lt (Nat.lt_succ_self _), hSa⟩
  refine wpAny_pure ⟨plainId_quiet PySem.F.plain_extend_loop _, codeAny_extend_loopS W.toS hsz _ hSf _ es.size 0 _ _ _ rfl (Nat.zero_le _) ⟨⟨_, oth _ _ (Nat.succ_ne_self _) hI, rfl, rfl⟩, oth _ _ (Ne.symm hSa) ho2⟩ hS4 (ItemsOf.nil _) fun s' acc' c' hm hS' hacc => ?_⟩
  show wpAny _ A (load s.heap.objs.size >>= _) _ _ s'
  refine wpAny_bind (wpAny_load hS' ?_)
  have hacc' : ItemsOf (fun i v => (es.toList.map (·.key))[i]? = some v) acc' (es.toList.map (·.key)).length := by
    rw [List.length_map, Array.length_toList]
    exact hacc
  have eo := items_out hacc' fun j v q => q
  refine wpAny_pure ?_
  show Q acc'.toList s'
  rw [eo]
  refine hQ s' (fun b u e => ?_) (Nat.le_of_lt (Heap.lt_size hS')) hm.gens hm.os
  have hbl : b < s.heap.objs.size := Heap.lt_size e
  refine hm.heap b u (fun z => ?_) (oth b u (Nat.ne_of_lt hbl) (k2 b u (Heap.get?_push_of_some _ e)))
  simp only [List.mem_cons, List.not_mem_nil, or_false] at z
  rcases z with z | z
  · exact absurd hbl (by rw [z]; exact Nat.lt_irrefl _)
  · exact absurd hbl (by rw [z]; exact Nat.not_lt_of_le (Nat.le_succ _))
end
end HM
namespace HM
open PySem PySem.Spec PyProof.Rows L2
theorem permInv {α β : Type} {f : α → β} : ∀ {F : List α} {ys : List β}, ys.Perm (F.map f) → ∃ F' : List α, F'.Perm F ∧ ys = F'.map f
  | [], ys, h => ⟨[], List.Perm.refl _, List.Perm.eq_nil h⟩
  | a :: F, ys, h => by
    have hm : f a ∈ ys := h.mem_iff.mpr List.mem_cons_self
    obtain ⟨l1, l2, rfl⟩ := List.append_of_mem hm
    have h2 : (l1 ++ l2).Perm (F.map f) := List.Perm.cons_inv (List.perm_middle.symm.trans h)
    obtain ⟨F', g1, g2⟩ := permInv h2
    obtain ⟨A, B, rfl, e1, e2⟩ := List.map_eq_append_iff.mp g2.symm
    exact ⟨A ++ a :: B, List.perm_middle.trans (List.Perm.cons _ g1), by rw [List.map_append, List.map_cons, e1, e2]⟩
section
variable {P : Program} {w : World} {A : Around} {E : Value → Shared → Prop} {s : Shared} {a : Addr} {o : Obj} {es : Array DictEntry} {ep : Nat}
/-- sorted(d), the keys whole numbers -/
theorem sorted_dictI {is : List Int} {Q : Value → Shared → Prop} (hh : A.handled = none) (hsys : (a == sysModules) = false) (ho : s.heap.get? a = some o) (hx : o.ExactDict) (hd : o.data = .dict es ep) (h64 : es.size < 64) (hI : IntsAre (es.toList.map (·.key)) is)
    (hQ : ∀ s' p (out : Array Value) (c : Nat) (ns : List Int), (∀ b o, s.heap.get? b = some o → s'.heap.get? b = some o) → s'.gens = s.gens → s'.os = s.os → s.heap.objs.size ≤ p →
      s'.heap.get? p = some (seqObj "list" out c) → IntsAre out.toList ns → ns.Perm is → ns.Pairwise (· ≤ ·) → Q (.ref p) s') :
    wpAny (model P w) A (call (.builtin "sorted") [.ref a]) Q E s := by
  refine Calls.call_function_entry kind_sorted plain_sorted entry_sorted (args_sorted1 _) ?_
  unfold Builtin.«sorted»
  refine wpAny_bind (m := checkCount "sorted" 1 1 _) (wpAny_pure ?_)
  refine wpAny_bind (collect_dict (A := A.in1) hh hsys ho hx hd (by rw [sizeLine_eq]; omega) fun s1 k1 hz g1 o1 => ?_)
  have hvl : (es.toList.map (·.key)).length < 64 := by rw [List.length_map, Array.length_toList]; exact h64
  generalize es.toList.map (·.key) = vs at hI hvl ⊢
  refine wpAny_bind (wpAny_newList ?_ (by rw [sizeLine_eq]; omega))
  have hoL : (s1.heap.push (seqObj "list" vs.toArray 0)).get? s1.heap.objs.size = some (seqObj "list" vs.toArray 0) := Heap.get?_push_size _ rfl
  refine wpAny_bind (wpAny_holding (wpAny_call_entry slot_list_sort ⟨_, hoL, rfl⟩ entry_list_sort (list_sort_tree hoL hI hvl fun out ns' a1 a2 a3 => ⟨_, rfl, ?_⟩) (args_list_sort _)))
  obtain ⟨c, hc⟩ := sortedHeap_at (vs := vs) (out := out) hoL
  refine wpAny_pure ⟨_, rfl, hQ _ s1.heap.objs.size out c ns' (fun b u e => ?_) g1 o1 hz hc a1 a2 a3⟩
  have q := k1 b u e
  have hlt := Heap.lt_size q
  show (sortedHeap (s1.heap.push (seqObj "list" vs.toArray 0)) s1.heap.objs.size vs out).get? b = some u
  rw [sortedHeap_old (Nat.ne_of_lt hlt) (by rw [size_push']; exact Nat.lt_succ_of_lt hlt)]
  exact Heap.get?_push_of_some _ q
/-- sorted(d), the keys tuples of whole numbers -/
theorem sorted_dictT {L : List (Addr × List Int)} {Q : Value → Shared → Prop} (hh : A.handled = none) (hsys : (a == sysModules) = false) (ho : s.heap.get? a = some o) (hx : o.ExactDict) (hd : o.data = .dict es ep) (h64 : es.size < 64)
    (hes : es.toList.map (·.key) = L.map fun q => Value.ref q.1) (hT : ∀ q ∈ L, IsT P w s.heap q.2 q.1) {d : Nat} {B : Int} (hd1 : 1 ≤ d) (hB : ∀ p ∈ L, p.2.length = d ∧ TS.Bd B p.2)
    (hQ : ∀ s' p (out : Array Value) (c : Nat) (L' : List (Addr × List Int)), (∀ b o, s.heap.get? b = some o → s'.heap.get? b = some o) → s'.gens = s.gens → s'.os = s.os → s.heap.objs.size ≤ p →
      s'.heap.get? p = some (seqObj "list" out c) → out.toList = L'.map (fun q => Value.ref q.1) → L'.Perm L → L'.Pairwise (fun q r => TS.code B q.2 ≤ TS.code B r.2) → Q (.ref p) s') :
    wpAny (model P w) A (call (.builtin "sorted") [.ref a]) Q E s := by
  refine Calls.call_function_entry kind_sorted plain_sorted entry_sorted (args_sorted1 _) ?_
  unfold Builtin.«sorted»
  refine wpAny_bind (m := checkCount "sorted" 1 1 _) (wpAny_pure ?_)
  refine wpAny_bind (collect_dict (A := A.in1) hh hsys ho hx hd (by rw [sizeLine_eq]; omega) fun s1 k1 hz g1 o1 => ?_)
  have hvl : (es.toList.map (·.key)).length < 64 := by rw [List.length_map, Array.length_toList]; exact h64
  generalize hvs : es.toList.map (·.key) = vs at hes hvl ⊢
  refine wpAny_bind (wpAny_newList ?_ (by rw [sizeLine_eq]; omega))
  have hoL : (s1.heap.push (seqObj "list" vs.toArray 0)).get? s1.heap.objs.size = some (seqObj "list" vs.toArray 0) := Heap.get?_push_size _ rfl
  have tk : ∀ q ∈ L, TS.TupInts (s1.heap.push (seqObj "list" vs.toArray 0)) (.ref q.1) q.2 := fun q hq => tupInts_of (P := P) (w := w) (isT_keep (hT q hq) fun b u e => Heap.get?_push_of_some _ (k1 b u e))
  have x : TS.TupsOk (s1.heap.push (seqObj "list" vs.toArray 0)) d B vs := fun v hv => by
    rw [hes] at hv
    obtain ⟨q, hq, e⟩ := List.mem_map.mp hv
    rw [← e]
    exact ⟨q.2, tk q hq, (hB q hq).1, (hB q hq).2⟩
  refine wpAny_bind (wpAny_holding (TS.call_sort_tups (s := { s1 with heap := s1.heap.push (seqObj "list" vs.toArray 0) }) hoL hvl hd1 x fun out a1 a2 => ?_))
  obtain ⟨c, hc⟩ := sortedHeap_at (vs := vs) (out := out) hoL
  obtain ⟨L', pL, e'⟩ := permInv (F := L) (f := fun q => Value.ref q.1) (ys := out.toList) (by rw [← hes]; exact a1)
  have hs' : ∀ q ∈ L', q ∈ L := fun q hq => pL.mem_iff.mp hq
  have pw : L'.Pairwise (fun q r => TS.code B q.2 ≤ TS.code B r.2) := by
    rw [e'] at a2
    refine List.Pairwise.imp_of_mem (fun {q r} hq hr hle => ?_) (List.pairwise_map.mp a2)
    have f1 : TS.intsOf (s1.heap.push (seqObj "list" vs.toArray 0)) (.ref q.1) = q.2 := (tk q (hs' q hq)).ints
    have f2 : TS.intsOf (s1.heap.push (seqObj "list" vs.toArray 0)) (.ref r.1) = r.2 := (tk r (hs' r hr)).ints
    rw [← f1, ← f2]
    exact hle
  refine wpAny_pure ⟨_, rfl, hQ _ s1.heap.objs.size out c L' (fun b u e => ?_) g1 o1 hz hc e' pL pw⟩
  have q := k1 b u e
  have hlt := Heap.lt_size q
  show (sortedHeap (s1.heap.push (seqObj "list" vs.toArray 0)) s1.heap.objs.size vs out).get? b = some u
  rw [sortedHeap_old (Nat.ne_of_lt hlt) (by rw [size_push']; exact Nat.lt_succ_of_lt hlt)]
  exact Heap.get?_push_of_some _ q
end
section
variable {X : Cx}
theorem ints_keys {P : Program} {w : World} {es : List DictEntry} {vs : List (Key × Value)} (h : Pairs (mixKind P w) es vs) : ∀ {is : List Int}, vs.map (·.1) = is.map Sum.inl → IntsAre (es.map (·.key)) is := by
  induction h with
  | nil =>
    intro is e
    cases is with
    | nil => exact .nil
    | cons i is => cases e
  | cons k v t ih =>
    intro is e
    cases is with
    | nil => cases e
    | cons i is =>
      rw [List.map_cons, List.map_cons] at e
      injection e with e1 e2
      obtain ⟨tk, e3⟩ := Value.isInt_shape (show Value.isInt i _ = true from by have k' := k; rw [e1] at k'; exact k')
      rw [List.map_cons, e3]
      exact .cons i tk (ih e2)
def rSortedK : List V → Hp → VK → Prop := fun vs H Q => ∃ (a : Addr) (kvs : List (Key × V)) (is : List Int), vs = [V.ref a] ∧ H a = some (.dK kvs) ∧ kvs.map (·.1) = is.map Sum.inl ∧ is.length < 64 ∧
  ∀ (ns : List Int) (p : Addr), ns.Perm is → ns.Pairwise (· ≤ ·) → H p = none → Q (.ref p) (upd H p (.lst (ns.map V.int)))
theorem cr_sortedK (hc : X.calm = true) : CallR X (.builtin "sorted") rSortedK := by
  intro pins s σ H vs us Q I r h
  obtain ⟨a, kvs, is, rfl, ha, hk, h64, q⟩ := h
  rw [Vals.ref1 r]
  obtain ⟨_, hsys, ws, rel, dof⟩ := dk_of I.hok ha
  obtain ⟨ep, dat⟩ := dof.dictAt
  obtain ⟨ob, es, ho, hex, hdat, hko, hpr, hnd⟩ := id dat
  have hkeys : ws.map (·.1) = is.map Sum.inl := (KV.keys rel).symm.trans hk
  have hI := ints_keys hpr hkeys
  have hlen : es.size < 64 := by
    have := IntsAre.length hI
    rw [List.length_map, Array.length_toList] at this
    omega
  refine sorted_dictI (I.ok.hd hc) hsys ho hex hdat hlen hI fun s' p out c ns k g o hp hg hi hs hm => ?_
  have hz : (ns.map V.int).length ≤ sizeLine := by rw [List.length_map, hs.length_eq, sizeLine_eq]; omega
  have hn : H p = none := I.hok.fresh hp
  have J : Inv X pins σ (upd H p (.lst (ns.map V.int))) { s with heap := s'.heap, gens := s'.gens, drawn := s'.drawn, toks := s'.toks } :=
    I.call (ch := []) (Un.laid k hp hn) (I.hok.laid k hp ⟨hz, out.toList, c, vals_of_ints hi, hg⟩) (by rw [g]; exact I.bare) (fun _ z => nomatch z)
  have e : s' = { s with heap := s'.heap, gens := s'.gens, drawn := s'.drawn, toks := s'.toks } := by
    cases s'
    have o' : _ = s.os := o
    subst o'
    rfl
  rw [e]
  exact ⟨.ref p, _, J, rfl, q ns p hs hm hn⟩
/-- the keys as tuples of whole numbers -/
def ikey (k : List Int) : List Key := k.map Sum.inl
theorem ikey_kV (k : List Int) : (ikey k).map kV = k.map V.int := by
  unfold ikey
  rw [List.map_map]
  rfl
def rSortedDT (P : Program) (w : World) : List V → Hp → VK → Prop := fun vs H Q => ∃ (a : Addr) (kvs : List (List Key × V)) (ks : List (List Int)) (d : Nat) (B : Int), vs = [V.ref a] ∧ H a = some (.dT kvs) ∧ kvs.map (·.1) = ks.map ikey ∧ ks.length < 64 ∧ 1 ≤ d ∧ (∀ k ∈ ks, k.length = d ∧ TS.Bd B k) ∧
  ∀ (L : List (Addr × List Int)) (p : Addr), (L.map (·.2)).Perm ks → L.Pairwise (fun q r => TS.code B q.2 ≤ TS.code B r.2) → (∀ q ∈ L, H q.1 = some (.tup (q.2.map V.int))) → H p = none → Q (.ref p) (upd H p (.lst (L.map fun q => V.ref q.1)))
theorem kt_list {P : Program} {w : World} {H : Hp} : ∀ {kvs : List (List Key × V)} {xs : List (List Key × Addr × Value)} {ks : List (List Int)}, KT H kvs xs → kvs.map (·.1) = ks.map ikey → ∃ L : List (Addr × List Int), xs.map (fun x => x.2.1) = L.map (·.1) ∧ L.map (·.2) = ks ∧ ∀ q ∈ L, H q.1 = some (.tup (q.2.map V.int))
  | [], _, [], .nil, _ => ⟨[], rfl, rfl, fun q hq => by cases hq⟩
  | [], _, _ :: _, .nil, e => by cases e
  | _ :: _, _, [], .cons _ _, e => by cases e
  | p :: kvs, x :: xs, k :: ks, .cons h t, e => by
    rw [List.map_cons, List.map_cons] at e
    injection e with e1 e2
    obtain ⟨L, h1, h2, h3⟩ := kt_list (P := P) (w := w) t e2
    obtain ⟨g1, g2, g3⟩ := h
    refine ⟨(x.2.1, k) :: L, by rw [List.map_cons, List.map_cons, h1], by rw [List.map_cons, h2], fun q hq => ?_⟩
    rcases List.mem_cons.mp hq with rfl | hq
    · rw [e1, ikey_kV] at g2
      exact g2
    · exact h3 q hq
theorem cr_sortedDT (hc : X.calm = true) : CallR X (.builtin "sorted") (rSortedDT X.prog X.w) := by
  intro pins s σ H vs us Q I r h
  obtain ⟨a, kvs, ks, d, B, rfl, ha, hk, h64, hd1, hB, q⟩ := h
  rw [Vals.ref1 r]
  obtain ⟨_, hsys, xs, rel, dof⟩ := dt_of I.hok ha
  obtain ⟨ob, es, ep, ho, hex, hdat, hes, _, hnd⟩ := id dof
  obtain ⟨L, h1, h2, h3⟩ := kt_list (P := X.prog) (w := X.w) rel hk
  have hes2 : es.toList.map (·.key) = L.map fun q => Value.ref q.1 := by
    have : es.toList.map (·.key) = (xs.map (fun x => x.2.1)).map Value.ref := by
      rw [hes, List.map_map, List.map_map]
      rfl
    rw [this, h1, List.map_map]
    rfl
  have hlen : es.size < 64 := by
    have e1 := congrArg List.length hes2
    rw [List.length_map, List.length_map, Array.length_toList] at e1
    have e2 := congrArg List.length h2
    rw [List.length_map] at e2
    omega
  have hT : ∀ q ∈ L, IsT X.prog X.w s.heap q.2 q.1 := fun q hq => I.isT (.inl (.inl (h3 q hq)))
  refine sorted_dictT (I.ok.hd hc) hsys ho hex hdat hlen hes2 hT hd1 (fun p hp => hB p.2 (by rw [← h2]; exact List.mem_map.mpr ⟨p, hp, rfl⟩)) fun s' p out c L' k g o hp hg hi hpm hpw => ?_
  have hz : (L'.map fun q => V.ref q.1).length ≤ sizeLine := by
    have e2 := congrArg List.length h2
    rw [List.length_map] at e2
    rw [List.length_map, hpm.length_eq, sizeLine_eq]
    omega
  have hn : H p = none := I.hok.fresh hp
  have J : Inv X pins σ (upd H p (.lst (L'.map fun q => V.ref q.1))) { s with heap := s'.heap, gens := s'.gens, drawn := s'.drawn, toks := s'.toks } :=
    I.call (ch := []) (Un.laid k hp hn) (I.hok.laid k hp ⟨hz, out.toList, c, by rw [hi]; exact vals_of_refs L', hg⟩) (by rw [g]; exact I.bare) (fun _ z => nomatch z)
  have e : s' = { s with heap := s'.heap, gens := s'.gens, drawn := s'.drawn, toks := s'.toks } := by
    cases s'
    have o' : _ = s.os := o
    subst o'
    rfl
  rw [e]
  exact ⟨.ref p, _, J, rfl, q L' p (by rw [← h2]; exact hpm.map _) hpw (fun q hq => h3 q (hpm.mem_iff.mp hq)) hn⟩
end
end HM
namespace HM
open PySem PySem.Spec PyProof.Rows L2
/-- a set as it is made -/
abbrev newSetO (w : World) : Obj := { cls := .type "set", dict := none, data := .set #[] 0 (.fresh 0 0 (!w.params.followText "set-order")) }
section
variable {P : Program} {w : World} {A : Around} {E : Value → Shared → Prop} {s : Shared}
set_option maxHeartbeats 8000000 in
/-- set(xs), xs a list of whole numbers -/
theorem set_of_ints {l : Addr} {items : Array Value} (ns : List Int) {Q : Value → Shared → Prop} (hh : A.handled = none) (hl : s.heap.IsList l items) (hit : IntsAre items.toList ns) (hb : ns.length + 1 < scanBound)
    (h : ∀ (h' : Heap) (tk c : Nat), SetR w h' s.heap.objs.size (fun j => decide (j ∈ ns)) c → c ≤ ns.length → (∀ b o, s.heap.get? b = some o → h'.get? b = some o) → Q (.ref s.heap.objs.size) { s with heap := h', toks := tk }) :
    wpAny (model P w) A (call (.type "set") [.ref l]) Q E s := by
  have hsize : items.size = ns.length := by rw [← Array.length_toList]; exact IntsAre.length hit
  have hlS : l < s.heap.objs.size := let ⟨_, e, _⟩ := hl; Heap.lt_size e
  obtain ⟨c0, tl, hmro⟩ := F.called_set.mro
  have hmade := F.called_set.made
  have hsub := F.called_set.sub
  refine wpAny_call (codeAny_of_tree (show wpAny _ _ (callAny (.type "set") _) _ _ _ from wpAny_pure ⟨Code.quiet_builtin _ (by decide +kernel), codeAny_builtin F.entry_type_call ?_⟩))
  rw [Around.under_plain (weight_type_call_type "set" [.ref l] []) rfl]
  have h1 := F.called_set.notType
  have h2 := F.called_set.canCreate
  have hct := F.typeCall_set_1 (.ref l)
  repeat (any_goals (first | assumption | wp_step))
  refine codeAny_mono (code_set_led1 (.ref l) (E := E) (Q₁ := fun obj s₁ => obj = .ref s.heap.objs.size ∧ s₁ = { s with heap := s.heap.push (newSetO w) }) ⟨rfl, rfl⟩) fun r s₁ hr => ?_
  match r, hr with
  | .error e, hr => exact hr
  | .ok .next, hr => exact hr.elim
  | .ok .brk, hr => exact hr.elim
  | .ok .cont, hr => exact hr.elim
  | .ok (.ret obj), hr =>
    obtain ⟨rfl, rfl⟩ := hr
    have hS : (s.heap.push (newSetO w)).get? s.heap.objs.size = some (newSetO w) := Heap.get?_push_size _ rfl
    have hT : Shared.TypeIs { s with heap := s.heap.push (newSetO w) } (.ref s.heap.objs.size) "set" := ⟨_, hS, rfl⟩
    have hz1 : (s.heap.push (newSetO w)).objs.size = s.heap.objs.size + 1 := Heap.size_push ..
    have hli := F.called_set.init.lookup
    have hbi := F.called_set.init.bind (.ref s.heap.objs.size)
    repeat (any_goals (first | assumption | wp_step))
    refine codeAny_mono (codeAny_call_builtin (R := wants (fun r s₂ => r = .none ∧ ∃ h' tk c, s₂ = { s with heap := h', toks := tk } ∧ SetR w h' s.heap.objs.size (fun j => decide (j ∈ ns)) c ∧ c ≤ ns.length ∧ (∀ b o, s.heap.get? b = some o → h'.get? b = some o)) E)
      F.called_set.init.plain F.entry_set_init (check_set_init_1 hT ?_)) fun r₂ s₂ hr₂ => ?_
    · obtain ⟨⟨ocls, odict, odata, oslots⟩, hol, hcl, nl, hdl⟩ := hl
      simp only at hcl hdl
      subst hcl hdl
      have hol1 : (s.heap.push (newSetO w)).get? l = some { cls := .type "list", dict := odict, data := .seq items nl, slots := oslots } := Heap.get?_push_of_some _ hol
      have hl1 : (s.heap.push (newSetO w)).IsList l items := ⟨_, hol1, rfl, nl, rfl⟩
      have hsls := F.sub_list_set
      have hslf := F.sub_list_frozenset
      have hne : (Value.type "list" == Value.type "dict") = false := by decide
      unfold Builtin.«set.__init__» noKeywords Builtin.Frozenset.updateFrom
      generalize hPI : pyIter = PI
      wp_walk
      subst hPI
      refine wpAny_pyIter_list hl1 (wpAny_bind (wpAny_runValue ?_))
      have hneI : l ≠ (s.heap.push (newSetO w)).objs.size := by rw [hz1]; exact Nat.ne_of_lt (Nat.lt_succ_of_lt hlS)
      have hSf : s.heap.objs.size ∉ [(s.heap.push (newSetO w)).objs.size, l] := by
        rw [hz1]
        simp only [List.mem_cons, List.not_mem_nil, or_false, not_or]
        exact ⟨Nat.ne_of_lt (Nat.lt_succ_self _), Nat.ne_of_gt hlS⟩
      refine set_update_ints ((Walks.list (by simp [hh]) _ l hneI items).toS) s.heap.objs.size hSf ns hsize hb (fun i v hv => ?_) (items.size - 0) 0 _ (by omega) (Nat.zero_le _)
        ⟨⟨_, Heap.get?_push_size _ rfl, rfl, rfl⟩, (hl1.push _)⟩ ⟨0, Nat.le_refl 0, setR_new_at (Heap.get?_push_of_some _ hS)⟩ ?hR
      · have hi : i < ns.length := by rw [← hsize]; exact (Array.getElem?_eq_some_iff.mp hv).1
        obtain ⟨t, e⟩ := PyProof.Rows.IntsAre.int_at hit i v (by rw [Array.getElem?_toList]; exact hv)
        refine ⟨ns[i], t, List.getElem?_eq_getElem hi, ?_⟩
        rw [e, List.getD_eq_getElem?_getD, List.getElem?_eq_getElem hi] <;> rfl
      case hR =>
        intro s' c' hm hc' hS'
        obtain ⟨h', g2, d', tk', os'⟩ := s'
        obtain rfl : g2 = s.gens := hm.gens
        obtain rfl : d' = s.drawn := hm.drawn
        obtain rfl : os' = s.os := hm.os
        rw [hsize] at hc'
        refine wpAny_pure (show wpAny _ _ (ret Value.none) _ _ _ from wpAny_pure ⟨rfl, h', tk', c', rfl, hS', hc', fun b o e => ?_⟩)
        have hb0 : b < s.heap.objs.size := Heap.lt_size e
        refine hm.heap b o ?_ (Heap.get?_push_of_some _ (Heap.get?_push_of_some _ e))
        rw [hz1]
        simp only [List.mem_cons, List.not_mem_nil, or_false, not_or]
        exact ⟨Nat.ne_of_lt hb0, Nat.ne_of_lt (Nat.lt_succ_of_lt hb0)⟩
    · match r₂, hr₂ with
      | .error e, hr₂ => exact hr₂
      | .ok .next, hr₂ => exact hr₂.elim
      | .ok .brk, hr₂ => exact hr₂.elim
      | .ok .cont, hr₂ => exact hr₂.elim
      | .ok (.ret r), hr₂ =>
        obtain ⟨rfl, h', tk, c', rfl, hS', hc', hk'⟩ := hr₂
        repeat (any_goals (first | assumption | wp_step))
        exact h _ _ _ hS' hc' hk'
end
end HM
namespace HM
open PySem PySem.Spec PyProof.Rows L2
theorem addI_at {P : Program} {w : World} {A : Around} {E : Value → Shared → Prop} {s : Shared} {a : Addr} {S : Int → Bool} {n : Nat} {k : Int} {tk : Tok} {Q : Bool → Shared → Prop} (R : SetR w s.heap a S n) (room : n + 1 < scanBound)
    (h : ∀ h', Heap.SameBut a s.heap h' → SetR w h' a (fun j => S j || decide (j = k)) (if S k = true then n else n + 1) → Q (!S k) { s with heap := h', toks := s.toks + 1 }) : wpAny (model P w) A (setAdd a (.int k tk)) Q E s := by
  unfold setAdd
  exact wpAny_holding (wpAny_bind ((intKind P w).pyHash (k := k) (intKind_is _ _ _ _) (setR_add_hashed (s := { s with toks := s.toks + 1 }) R room fun h' sb R2 => h h' sb R2)))
section
variable {X : Cx}
def rSetI (K : PySem.W.Frag) (w : World) : List V → Hp → VK → Prop := fun xs H Q => ∃ (l : Addr) (ns : List Int), xs = [V.ref l] ∧ SqL K H l (ns.map V.int) ∧ ns.length ≤ 1000 ∧
  ∀ a c, H a = none → c ≤ ns.length → Q (.ref a) (upd H a (SetO w a (fun j => decide (j ∈ ns)) c))
theorem cr_setI (hc : X.calm = true) : CallR X (.type "set") (rSetI X.K X.w) := by
  intro pins s σ H xs us Q I r h
  obtain ⟨l, ns, rfl, hq, hl, q⟩ := h
  obtain ⟨u, rfl, rx⟩ := vals1 r
  cases rx
  obtain ⟨its, rv, pl, hz⟩ := I.list hq
  refine set_of_ints ns (I.ok.hd hc) pl.isList (by simpa using rv.ints) (by unfold scanBound; omega) fun h' tk c hS hcl hk => ?_
  have hn : H s.heap.objs.size = none := I.hok.fresh (Nat.le_refl _)
  exact ⟨.ref _, _, I.laid (t' := tk) hk (Nat.le_refl _) (setO_new hS), rfl, q _ c hn hcl⟩
/-- {e}, e a whole number -/
def tSetOneI (w : World) (te : TE) : TE := fun σ H Q => ∀ a, H a = none → te σ (upd H a (SetO w a (fun _ => false) 0)) fun x H1 => ∃ k : Int, x = .int k ∧ H1 a = some (SetO w a (fun _ => false) 0) ∧ Q (.ref a) (upd H1 a (SetO w a (fun j => decide (j = k)) 1))
theorem pe_setOneI {e : Expr} {te : TE} {pos : Pos} (hcd : PySem.W.kdsCode X.K X.env.code = true) (he : PE X e te) (hs : starEach [e] X.env = [(false, eval e X.env)] := by rfl) : PE X (.Set [e] 0 pos) (tSetOneI X.w te) := by
  refine ⟨fun pins s σ H Q I h => ?_⟩
  rw [arm_eval_Set]
  refine wpAny_bind (wpAny_standAt (wpAny_bind (PySem.W.kds_main I.kIn hcd fun b => ?_)))
  rw [hs]
  unfold setDisplay
  try dsimp only
  refine PySem.W.KFB.if_not (by rfl) (wpAny_bind (PySem.wpAny_newSet_raw fun led el => ?_))
  subst el
  have new : SetR X.w (s.heap.push (newSetO X.w)) s.heap.objs.size (fun _ => false) 0 := (setR_new_at (ns := []) (Heap.get?_push_size _ rfl)).congr fun j => by simp
  have hn : H s.heap.objs.size = none := I.hok.fresh (Nat.le_refl _)
  have I1 := I.laid (t' := s.toks) (fun b u e => Heap.get?_push_of_some _ e) (Nat.le_refl _) (setO_new (H := upd H s.heap.objs.size (SetO X.w s.heap.objs.size (fun _ => false) 0)) (P := X.prog) new)
  dsimp only
  refine wpAny_bind (wpAny_holding (show wpAny _ _ (evalAll [do let v ← eval e X.env; standAt pos; pure v] >>= _) _ _ _ from wpAny_bind ?_))
  unfold evalAll
  refine wpAny_bind (wpAny_bind (thn (he.run pins _ σ _ _ I1 (h _ hn)) fun v s2 hv => wpAny_bind (wpAny_standAt (wpAny_pure ?_))))
  refine wpAny_bind (wpAny_holding ?_)
  unfold evalAll
  refine wpAny_pure (wpAny_pure ?_)
  obtain ⟨x, H2, I2, r2, k, rfl, ea, q⟩ := hv
  obtain ⟨tk, rfl⟩ := r2
  refine wpAny_bind (wpAny_holding ?_)
  simp only [List.forIn_cons, List.forIn_nil]
  have R := setO_get I2 ea
  refine wpAny_bind (wpAny_bind (wpAny_bind (addI_at R (by decide) fun h' sb R2 => wpAny_pure ?_)))
  dsimp only
  refine wpAny_pure (PySem.W.KFB.if_not (by rfl) (wpAny_pure ?_))
  show wpAny _ _ (do forIn ([] : List (Bool × Sem Value)) PUnit.unit _; pure ()) _ _ _
  rw [List.forIn_nil]
  refine wpAny_bind (wpAny_pure (wpAny_pure (wpAny_pure ?_)))
  have R3 : SetR X.w h' s.heap.objs.size (fun j => decide (j = k)) 1 := by
    have := R2.congr (S' := fun j => decide (j = k)) fun j => by simp
    simpa using this
  have he2 : ∃ u, h'.get? s.heap.objs.size = some u := let ⟨o9, _, _, _, y9, _⟩ := R3; ⟨o9, y9⟩
  exact ⟨.ref s.heap.objs.size, _, I2.write (e := s.heap.objs.size) (t' := _) (by rw [ea]; trivial) (.inl rfl) (fun b u hb hu => (sb.2 b hb).trans hu) he2 (setO_new R3), rfl, q⟩
def tDispT (tk tv : TE) : TE := fun σ H Q => ∀ p, H p = none → tk σ (upd H p (.dT [])) fun x H1 => tv σ H1 fun y H2 => ∃ b k, x = .ref b ∧ H2 b = some (.tup (k.map kV)) ∧ H2 p = some (.dT []) ∧ Q (.ref p) (upd H2 p (.dT [(k, y)]))
theorem pe_dispT {ke ve : Expr} {tk tv : TE} {pos : Pos} (hu : X.A.units + 1 < cLine) (hk : PE X ke tk) (hv : PE X ve tv) : PE X (.Dict [some ke] [ve] pos) (tDispT tk tv) := by
  refine ⟨fun pins s σ H Q I h => ?_⟩
  have hsh : (evalEachOpt [some ke] X.env).zip ((evalEach [ve] X.env).map fun v => do let x ← v; standAt pos; pure x) = ([(eval ke X.env, do let x ← eval ve X.env; standAt pos; pure x)] : List (Sem Value × Sem Value)).map fun p => (some p.1, p.2) := rfl
  rw [arm_eval_Dict, hsh, dictDisplay_pairs _ (by simp) (by simp)]
  refine wpAny_bind (wpAny_standAt (wpAny_bind ?_))
  unfold subDict
  refine wpAny_bind (wpAny_alloc ?_)
  have hn : H s.heap.objs.size = none := I.hok.fresh (Nat.le_refl _)
  have I1 := I.laid (a := s.heap.objs.size) (o := .dT []) (t' := s.toks) (fun _ _ q => Heap.get?_push_of_some _ q) (Nat.le_refl _) (dt_empty s.heap I.big)
  refine wpAny_bind (wpAny_holding ?_)
  rw [if_pos (by simp)]
  refine wpAny_bind (evalPairs_cons (thn (hk.run pins _ σ _ _ I1 (h _ hn)) fun u s1 ⟨x, H1, J1, rx, q1⟩ => wpAny_bind (thn (hv.run pins s1 σ H1 _ J1 q1) fun v s2 ⟨y, H2, J2, ry, b, k, ex, eb, ep, q2⟩ => wpAny_bind (wpAny_standAt (wpAny_pure (evalPairs_nil ?_))))))
  subst ex
  cases rx
  refine wpAny_holding ?_
  simp only [List.forIn_cons, List.forIn_nil]
  obtain ⟨z, hd, xs, rel, dd⟩ := dt_of J2.hok ep
  cases rel
  refine wpAny_bind (wpAny_bind (wpAny_bind (wpAny_dictSet_heap (hsz := by simp) (show X.A.units < cLine by omega) (key_of J2.hok eb) dd fun h' dd' hs => wpAny_pure (wpAny_pure (wpAny_pure (wpAny_pure (wpAny_pure ?_)))))))
  obtain ⟨q, es, ep', hq, h2, h3, h4, _, h5⟩ := dd'
  refine ⟨.ref s.heap.objs.size, upd H2 s.heap.objs.size (.dT [(k, y)]), d_write J2 (by rw [ep]; exact True.intro) hs ⟨q, hq⟩ ⟨by show 1 ≤ sizeLine; decide, hd, _, .cons ⟨rfl, ?_, ry⟩ .nil, q, es, ep', hq, h2, h3, h4, h5⟩, rfl, q2⟩
  rw [upd_ne (ne_of eb ep (fun z => nomatch z))]
  exact eb
end
end HM
namespace VL
open PySem PySem.Spec PyProof.Rows L2 HM
def keyD : Key → Dt
  | .inl i => .int i
  | .inr s => .str s
def tupD (k : List Key) : Dt := .tup (k.map keyD)
section
variable {κ : Type} [DecidableEq κ]
def valD (kvs : List (κ × Dt)) (k : κ) : Option Dt := (kvs.find? fun kv => decide (kv.1 = k)).map (·.2)
def putD (kvs : List (κ × Dt)) (k : κ) (v : Dt) : List (κ × Dt) :=
  if (kvs.any fun kv => decide (kv.1 = k)) = true then kvs.map (fun kv => if kv.1 = k then (kv.1, v) else kv) else kvs ++ [(k, v)]
theorem PrK.val {F : Hp} {k : κ} : ∀ {a : List (κ × V)} {b : List (κ × Dt)}, PrK F a b → (valV a k = none ∧ valD b k = none) ∨ ∃ v d, valV a k = some v ∧ valD b k = some d ∧ Rp F v d
  | _, _, .nil => .inl ⟨rfl, rfl⟩
  | p :: a, q :: b, .cons h t => by
    obtain ⟨h1, h2⟩ := h
    unfold valV valD
    by_cases e : p.1 = k
    · refine .inr ⟨p.2, q.2, ?_, ?_, h2⟩
      · rw [List.find?_cons_of_pos (by simpa using e)]; rfl
      · rw [List.find?_cons_of_pos (by rw [← h1]; simpa using e)]; rfl
    · rw [List.find?_cons_of_neg (by simpa using e), List.find?_cons_of_neg (by rw [← h1]; simpa using e)]
      exact PrK.val t
theorem PrK.any {F : Hp} {k : κ} : ∀ {a : List (κ × V)} {b : List (κ × Dt)}, PrK F a b → (a.any fun kv => decide (kv.1 = k)) = b.any fun kv => decide (kv.1 = k)
  | _, _, .nil => rfl
  | p :: a, q :: b, .cons h t => by rw [List.any_cons, List.any_cons, h.1, PrK.any t]
theorem PrK.mapp {F : Hp} {k : κ} {v : V} {d : Dt} (r : Rp F v d) : ∀ {a : List (κ × V)} {b : List (κ × Dt)}, PrK F a b → PrK F (a.map fun kv => if kv.1 = k then (kv.1, v) else kv) (b.map fun kv => if kv.1 = k then (kv.1, d) else kv)
  | _, _, .nil => .nil
  | p :: a, q :: b, .cons h t => by
    rw [List.map_cons, List.map_cons]
    refine .cons ?_ (PrK.mapp r t)
    by_cases e : p.1 = k
    · rw [if_pos e, if_pos (by rw [← h.1]; exact e)]
      exact ⟨h.1, r⟩
    · rw [if_neg e, if_neg (by rw [← h.1]; exact e)]
      exact h
theorem PrK.app {F : Hp} : ∀ {a a2 : List (κ × V)} {b b2 : List (κ × Dt)}, PrK F a b → PrK F a2 b2 → PrK F (a ++ a2) (b ++ b2)
  | _, _, _, _, .nil, s => s
  | _, _, _, _, .cons h t, s => .cons h (PrK.app t s)
theorem PrK.put {F : Hp} {k : κ} {v : V} {d : Dt} (r : Rp F v d) {a : List (κ × V)} {b : List (κ × Dt)} (h : PrK F a b) : PrK F (putK a k v) (putD b k d) := by
  unfold putK putD
  rw [h.any]
  split
  · exact PrK.mapp r h
  · exact PrK.app h (.cons ⟨rfl, r⟩ .nil)
theorem PrK.len {F : Hp} {a : List (κ × V)} {b : List (κ × Dt)} (h : PrK F a b) : a.length = b.length := Paired.length h
theorem PrK.keys {F : Hp} : ∀ {a : List (κ × V)} {b : List (κ × Dt)}, PrK F a b → a.map (·.1) = b.map (·.1)
  | _, _, .nil => rfl
  | _, _, .cons h t => by rw [List.map_cons, List.map_cons, h.1, PrK.keys t]
end
theorem Rp.key {F : Hp} {v : V} {k : Key} (h : Rp F v (keyD k)) : v = kV k := by
  cases k with
  | inl i => exact h.int_inv
  | inr s => exact h.str_inv
theorem Rps.keys {F : Hp} : ∀ {vs : List V} {k : List Key}, Rps F vs (k.map keyD) → vs = k.map kV
  | _, [], .nil => rfl
  | _, k :: ks, .cons h t => by rw [List.map_cons, h.key, Rps.keys t]
theorem Rp.tupk {F : Hp} {v : V} {k : List Key} (h : Rp F v (tupD k)) : ∃ b, v = .ref b ∧ F b = some (.tup (k.map kV)) := by
  obtain ⟨a, xs, rfl, hF, rx⟩ := Rp.tup_inv h
  exact ⟨a, rfl, by rw [← rx.keys]; exact hF⟩
section
variable {c : Fc} {X : Cx} {a b e o : Expr} {es : List Expr} {te ta tb : VTE} {tas : VTA} {pos apos p : Pos}
/-- slot i holds a dict: what stands at k -/
def hasD (env : Ev) (i : Nat) (d : Dt) (r : Option Dt) : Prop := (∃ kvs k, env[i]? = some (.ow (.dK kvs)) ∧ d = keyD k ∧ r = valD kvs k) ∨ ∃ kvs k, env[i]? = some (.ow (.dT kvs)) ∧ d = tupD k ∧ r = valD kvs k
def isDk (env : Ev) (i : Nat) : Prop := (∃ kvs, env[i]? = some (.ow (.dK kvs))) ∨ ∃ kvs, env[i]? = some (.ow (.dT kvs))
theorem Rel.slotA {F H : Hp} {σ : L2.St} {env : Ev} {n i : Nat} {k : Con} (r : Rel c F H σ env n) (e : env[i]? = some (.ow k)) : ∃ a o, σ[i]? = some (some (.ref a)) ∧ H a = some o ∧ OwOk F a o k := by
  obtain ⟨a, o, g1, _, _, _, g5, g6⟩ := r.sl i _ e
  exact ⟨a, o, g1, g5, g6⟩
theorem hasD.get {F H : Hp} {σ : L2.St} {env : Ev} {n i : Nat} {y : V} {d : Dt} {r : Option Dt} (rr : Rel c F H σ env n) (ry : Rp F y d) (h : hasD env i d r) : ∃ a v, σ[i]? = some (some (.ref a)) ∧ DGet H a y v ∧ ((v = none ∧ r = none) ∨ ∃ x z, v = some x ∧ r = some z ∧ Rp F x z) := by
  rcases h with ⟨kvs, k, e, rfl, rfl⟩ | ⟨kvs, k, e, rfl, rfl⟩
  · obtain ⟨a, o, g1, g5, ks, rfl, pr⟩ := rr.slotA e
    rw [ry.key]
    refine ⟨a, valV ks k, g1, .inl ⟨ks, k, .inl g5, rfl, rfl⟩, ?_⟩
    rcases pr.val (k := k) with ⟨h1, h2⟩ | ⟨x, z, h1, h2, h3⟩
    · exact .inl ⟨h1, h2⟩
    · exact .inr ⟨x, z, h1, h2, h3⟩
  · obtain ⟨a, o, g1, g5, ks, rfl, pr⟩ := rr.slotA e
    obtain ⟨bb, rfl, hb⟩ := ry.tupk
    refine ⟨a, valV ks k, g1, .inr ⟨ks, k, bb, .inl g5, rfl, rr.sub _ _ hb, rfl⟩, ?_⟩
    rcases pr.val (k := k) with ⟨h1, h2⟩ | ⟨x, z, h1, h2, h3⟩
    · exact .inl ⟨h1, h2⟩
    · exact .inr ⟨x, z, h1, h2, h3⟩
theorem isDk.at {F H : Hp} {σ : L2.St} {env : Ev} {n i : Nat} (rr : Rel c F H σ env n) (h : isDk env i) : ∃ a, σ[i]? = some (some (.ref a)) := by
  rcases h with ⟨kvs, e⟩ | ⟨kvs, e⟩
  · obtain ⟨a, _, g, _⟩ := rr.slotA e
    exact ⟨a, g⟩
  · obtain ⟨a, _, g, _⟩ := rr.slotA e
    exact ⟨a, g⟩
/-- k in d -/
def vDIn (neg : Bool) (i : Nat) (te : VTE) : VTE := fun env n Q => te env n fun d env1 n1 => ∃ r, hasD env1 i d r ∧ Q (.bl (if neg then !r.isSome else r.isSome)) env1 n1
theorem dnotin_of {i : Nat} {σ : L2.St} {H : Hp} {R : VK} (h : tOf c (vDIn true i te) σ H R) : tDNotIn (tOf c te) (tVar i) σ H R := by
  obtain ⟨F, env, n, Q, rr, h, k⟩ := h
  refine ⟨F, env, n, _, rr, h, fun y H1 F1 d env1 n1 r1 u1 p1 q1 => ?_⟩
  obtain ⟨r, hd, q1⟩ := q1
  obtain ⟨a, v, e1, g, hv⟩ := hd.get r1 p1
  refine ⟨_, e1, a, v, rfl, g, ?_⟩
  have : v.isSome = r.isSome := by rcases hv with ⟨rfl, rfl⟩ | ⟨x, z, rfl, rfl, _⟩ <;> rfl
  rw [this]
  exact k _ H1 F1 _ env1 n1 r1 u1 (.bl _) q1
theorem testB_of {te : VTE} {t : TE} (h : ∀ {σ H R}, tOf c te σ H R → t σ H R) {σ : L2.St} {H : Hp} {R : Bool → Hp → Prop} (q : cOf c (vB te) σ H R) : tB t σ H R := by
  obtain ⟨F, env, n, Q, rr, q, k⟩ := q
  refine h ⟨F, env, n, _, rr, q, fun v H' F' d env' n' r' u rp qd => ?_⟩
  obtain ⟨bb, rfl, qd⟩ := qd
  exact ⟨bb, rp.bl_inv, k bb H' F' env' n' r' u qd⟩
theorem vt_dnotin {i : Nat} (hu : X.A.units + 1 < cLine) (ha : PE X a (tOf c te)) (hb : PE X b (tVar i)) (h1 : behindInMarks .NotIn b = false := by rfl) : PT X (.Compare a [.NotIn] [b] pos) (cOf c (vB (vDIn true i te))) := PT.imp (pt_cmp (pc_dnotin hu ha hb) h1) fun _ _ _ => testB_of dnotin_of
/-- d[k] -/
def vDGet (i : Nat) (te : VTE) : VTE := fun env n Q => isDk env i ∧ te env n fun d env1 n1 => ∃ z, hasD env1 i d (some z) ∧ Q z env1 n1
theorem ve_dget {i : Nat} (hu : X.A.units + 1 < cLine) (ho : PE X o (tVar i)) (hi : PE X e (tOf c te)) (hs : NoSl e) : PE X (.Subscript o e pos) (tOf c (vDGet i te)) := PE.imp (pe_dget hu ho hi hs) fun σ H R ⟨F, env, n, Q, rr, ⟨h0, h⟩, k⟩ => by
  obtain ⟨a, ea⟩ := h0.at rr
  refine ⟨_, ea, F, env, n, _, rr, h, fun y H1 F1 d env1 n1 r1 u1 p1 q1 => ?_⟩
  obtain ⟨z, hd, q1⟩ := q1
  obtain ⟨a2, v, e1, g, hv⟩ := hd.get r1 p1
  rw [ea] at e1
  cases e1
  rcases hv with ⟨_, z2⟩ | ⟨x, z2, rfl, e2, rz⟩
  · cases z2
  · cases e2
    exact ⟨a, x, rfl, g, k _ H1 F1 _ env1 n1 r1 u1 rz q1⟩
/-- d[k] = v -/
def vDPut (i : Nat) (tk tv : VTE) : VTS := fun V env n => tv env n fun z env1 n1 => isDk env1 i ∧ tk env1 n1 fun d env2 n2 =>
  (∃ kvs k, env2[i]? = some (.ow (.dK kvs)) ∧ d = keyD k ∧ kvs.length ≤ 5000 ∧ V.nx (env2.set i (.ow (.dK (putD kvs k z)))) n2) ∨ (∃ kvs k, env2[i]? = some (.ow (.dT kvs)) ∧ d = tupD k ∧ kvs.length ≤ 5000 ∧ V.nx (env2.set i (.ow (.dT (putD kvs k z)))) n2)
theorem vs_dput {i : Nat} {v : Expr} {tk tv : VTE} {p2 : Pos} (hu : X.A.units + 1 < cLine) (ho : PE X o (tVar i)) (hi : PE X e (tOf c tk)) (hv : PE X v (tOf c tv)) (hs : swapsWith v (some (.Subscript o e p2)) pos.line X.env = pure false) : PS X (.Assign [.Subscript o e p2] v pos) (sOf c (vDPut i tk tv)) := PS.imp (ps_dput hu ho hi hv hs) fun D σ H ⟨F, env, n, V, rr, h, k⟩ => by
  refine ⟨F, env, n, _, rr, h, fun v H1 F1 z env1 n1 r1 u1 p1 q1 => ?_⟩
  obtain ⟨h0, q1⟩ := q1
  obtain ⟨a, ea⟩ := h0.at r1
  refine ⟨_, ea, F1, env1, n1, _, r1, q1, fun y H2 F2 d env2 n2 r2 u2 p2 q2 => ?_⟩
  rcases q2 with ⟨kvs, kk, e, rfl, hl, q2⟩ | ⟨kvs, kk, e, rfl, hl, q2⟩
  · obtain ⟨a2, o2, g1, g5, ks, rfl, pr⟩ := r2.slotA e
    rw [ea] at g1
    cases g1
    rw [p2.key]
    exact ⟨a, _, rfl, .inl ⟨ks, kk, g5, rfl, small1000 (by rw [pr.len]; exact hl), rfl⟩, k.nx F2 _ σ _ n2 (r2.write (k' := .dK (putD kvs kk z)) e ea ⟨_, rfl, pr.put (p1.up u2)⟩) (u1.trans u2) q2⟩
  · obtain ⟨a2, o2, g1, g5, ks, rfl, pr⟩ := r2.slotA e
    rw [ea] at g1
    cases g1
    obtain ⟨bb, rfl, hb⟩ := p2.tupk
    exact ⟨a, _, rfl, .inr ⟨ks, kk, bb, g5, rfl, r2.sub _ _ hb, small1000 (by rw [pr.len]; exact hl), rfl⟩, k.nx F2 _ σ _ n2 (r2.write (k' := .dT (putD kvs kk z)) e ea ⟨_, rfl, pr.put (p1.up u2)⟩) (u1.trans u2) q2⟩
/-- len(d), keys tuples -/
def vDLenT (i : Nat) : VTE := fun env n Q => ∃ kvs, env[i]? = some (.ow (.dT kvs)) ∧ Q (.int kvs.length) env n
theorem ve_dlenT {i : Nat} {p : Pos} (hg : Gl X "len") (hm : X.mg "len" = none) (ho : PE X o (tVar i)) (he : starEach [o] X.env = (false, eval o X.env) :: starEach [] X.env := by rfl) (hpl : (backTo pos (starEach [] X.env)).any (·.1) = false := by rfl) :
    PE X (.Call (.Name "len" p) [o] [] pos) (tOf c (vDLenT i)) := PE.imp (pe_callB call_len_dT hg hm PySem.boot_len (pa_cons ho pa_nil he) (by decide) (by decide) he hpl) fun σ H R ⟨F, env, n, Q, rr, ⟨kvs, e, q⟩, k⟩ => by
  obtain ⟨a, o, g1, g5, ks, rfl, pr⟩ := rr.slotA e
  exact ⟨_, g1, a, ks, rfl, g5, by rw [pr.len]; exact k _ H F _ env n rr (Up.refl F) (.int _) q⟩
/-- {} -/
theorem vn_dnewK : PE X (.Dict [] [] pos) (nOf c (fun env n Q => Q (.dK []) env n)) := PE.imp pe_dnewK fun σ H R ⟨F, env, n, Q, rr, q, k⟩ p np => nOf_new rr (Up.refl F) np (kk := .dK []) ⟨[], rfl, .nil⟩ q k
/-- sorted(d) -/
def vDSortK (i : Nat) : VTN := fun env n Q => ∃ kvs is, env[i]? = some (.ow (.dK kvs)) ∧ kvs.map (·.1) = is.map Sum.inl ∧ is.length < 64 ∧ ∀ ns : List Int, ns.Perm is → ns.Pairwise (· ≤ ·) → Q (.lst (ns.map Dt.int)) env n
theorem vn_dsortK {i : Nat} {p : Pos} (hc : X.calm = true) (hg : Gl X "sorted") (hm : X.mg "sorted" = none) (ho : PE X o (tVar i)) (he : starEach [o] X.env = (false, eval o X.env) :: starEach [] X.env := by rfl) (hpl : (backTo pos (starEach [] X.env)).any (·.1) = false := by rfl) :
    PE X (.Call (.Name "sorted" p) [o] [] pos) (nOf c (vDSortK i)) := PE.imp (pe_callB (cr_sortedK hc) hg hm (by decide +kernel) (pa_cons ho pa_nil he) (by decide) (by decide) he hpl) fun σ H R ⟨F, env, n, Q, rr, ⟨kvs, is, e, hk, hl, q⟩, k⟩ => by
  obtain ⟨a, o, g1, g5, ks, rfl, pr⟩ := rr.slotA e
  exact ⟨_, g1, a, ks, is, rfl, g5, by rw [pr.keys]; exact hk, hl, fun ns p h1 h2 np => nOf_new rr (Up.refl F) np (kk := .lst (ns.map Dt.int)) ⟨_, rfl, Rps.ints ns⟩ (q ns h1 h2) k⟩
def vDSortT (i : Nat) : VTN := fun env n Q => ∃ kvs ks d B, env[i]? = some (.ow (.dT kvs)) ∧ kvs.map (·.1) = ks.map ikey ∧ ks.length < 64 ∧ 1 ≤ d ∧ (∀ k ∈ ks, k.length = d ∧ TS.Bd B k) ∧ ∀ ls : List (List Int), ls.Perm ks → ls.Pairwise (fun q r => TS.code B q ≤ TS.code B r) → Q (.lst (ls.map fun l => .tup (l.map Dt.int))) env n
end
end VL
namespace VL
open PySem PySem.Spec PyProof.Rows L2 HM
section
variable {c : Fc} {X : Cx} {a b e o : Expr} {es : List Expr} {te ta tb : VTE} {tas : VTA} {pos apos p : Pos}
theorem Rel.addTs {F H : Hp} {σ : L2.St} {env : Ev} {n : Nat} : ∀ {L : List (Addr × List Int)} (r : Rel c F H σ env n), (∀ q ∈ L, H q.1 = some (.tup (q.2.map V.int))) → ∃ F', Rel c F' H σ env n ∧ Up F F' ∧ Rps F' (L.map fun q => V.ref q.1) (L.map fun q => Dt.tup (q.2.map Dt.int))
  | [], r, _ => ⟨F, r, Up.refl F, .nil⟩
  | q :: L, r, h => by
    obtain ⟨r1, u1⟩ := r.addT (h q List.mem_cons_self)
    obtain ⟨F', r2, u2, rp⟩ := Rel.addTs (L := L) r1 fun p hp => h p (List.mem_cons_of_mem _ hp)
    exact ⟨F', r2, u1.trans u2, .cons (.tup (u2 _ _ upd_same) (Rps.ints _)) rp⟩
theorem vn_dsortT {i : Nat} {p : Pos} (hc : X.calm = true) (hg : Gl X "sorted") (hm : X.mg "sorted" = none) (ho : PE X o (tVar i)) (he : starEach [o] X.env = (false, eval o X.env) :: starEach [] X.env := by rfl) (hpl : (backTo pos (starEach [] X.env)).any (·.1) = false := by rfl) :
    PE X (.Call (.Name "sorted" p) [o] [] pos) (nOf c (vDSortT i)) := PE.imp (pe_callB (cr_sortedDT hc) hg hm (by decide +kernel) (pa_cons ho pa_nil he) (by decide) (by decide) he hpl) fun σ H R ⟨F, env, n, Q, rr, ⟨kvs, ks, d, B, e, hk, hl, hd, hB, q⟩, k⟩ => by
  obtain ⟨a, o, g1, g5, kws, rfl, pr⟩ := rr.slotA e
  refine ⟨_, g1, a, kws, ks, d, B, rfl, g5, by rw [pr.keys]; exact hk, hl, hd, hB, fun L p h1 h2 h3 np => ?_⟩
  obtain ⟨F', r', u', rp⟩ := rr.addTs h3
  have e1 : L.map (fun q => Dt.tup (q.2.map Dt.int)) = (L.map (·.2)).map fun l => Dt.tup (l.map Dt.int) := by rw [List.map_map]; rfl
  rw [e1] at rp
  exact nOf_new r' u' np (kk := .lst ((L.map (·.2)).map fun l => Dt.tup (l.map Dt.int))) ⟨_, rfl, rp⟩ (q (L.map (·.2)) h1 (List.pairwise_map.mpr h2)) k
end
section
variable {am : Am} {F0 H0 : Hp} {X : Cx} {a b e o : Expr} {te ta tb tk tv : VTE} {pos : Pos}
theorem Rel.laid {c : Fc} {F H : Hp} {σ : L2.St} {env : Ev} {n : Nat} {p : Addr} (r : Rel c F H σ env n) (np : H p = none) (o : HO) : Rel (c.wth p o) F (upd H p o) σ env n ∧ c.H0 p = none ∧ c.F0 p = none ∧ ¬ c.am.sp p := by
  obtain ⟨h0, ns, nf⟩ := r.new0 np
  refine ⟨(r.lay np o).push upd_same nf ns fun j k' e z => ?_, h0, ?_, ns⟩
  · obtain ⟨a2, o2, g1, _, _, _, g5, _⟩ := r.sl j _ e
    rw [g1] at z
    cases z
    rw [g5] at np
    cases np
  · cases e : c.F0 p with
    | none => rfl
    | some o => rw [r.up0 p o e] at nf; cases nf
/-- a kept thing is written, and is new -/
theorem nOf_wth {σ : L2.St} {H F F1 : Hp} {env : Ev} {n : Nat} {p : Addr} {o o' : HO} {kk : Con} {Q : Con → Ev → Nat → Prop} {R : VK} {c : Fc} (nto : NT o) (r : Rel (c.wth p o) F H σ env n) (h0 : c.H0 p = none) (hF0 : c.F0 p = none) (ns : ¬ c.am.sp p) (u : Up F1 F) (w : OwOk F p o' kk) (q : Q kk env n)
    (k : ∀ a o H' F' kk env' n', Rel c F' H' σ env' n' → Up F1 F' → F' a = none → c.H0 a = none → ¬ c.am.sp a → H' a = some o → OwOk F' a o kk → (∀ (j : Nat) k', env'[j]? = some (.ow k') → σ[j]? ≠ some (some (.ref a))) → Q kk env' n' → R (.ref a) H') (nf : ∀ oc x, o ≠ .frz oc (.own x) := by intro _ _ z; cases z) : R (.ref p) (upd H p o') := by
  obtain ⟨r7, eD, fD, nD7⟩ := Rel.pop nto r h0 hF0 ns
  have r8 : Rel c F (upd H p o') σ env n := by
    refine ⟨fun b o e => ?_, r7.spf, r7.amb' (fun b hb => upd_ne fun z => ns (z ▸ hb)) (codeK_upd fun oc x z => nf oc x (by rw [eD] at z; exact Option.some.inj z)), r7.up0, r7.out0, fun b o e nb => ?_, r7.len, fun j s e => ?_, r7.apart⟩
    · rw [upd_ne fun z => by rw [z, fD] at e; cases e]; exact r7.sub b o e
    · rw [upd_ne fun z => by rw [z, h0] at e; cases e]; exact r7.keep0 b o e nb
    · have q := r7.sl j s e
      cases s with
      | no => trivial
      | fz d => exact q
      | ow kk =>
        obtain ⟨a, o, g1, g2, g3, g4, g5, g6⟩ := q
        exact ⟨a, o, g1, g2, g3, g4, by rw [upd_ne fun z => nD7 j kk e (by rw [g1, z])]; exact g5, g6⟩
  exact k p o' _ F kk env n r8 u fD h0 ns upd_same w nD7 q
/-- {k: v}, k a tuple; k a number or a text -/
def vDispT (tk tv : VTE) : VTN := fun env n Q => tk env n fun d env1 n1 => tv env1 n1 fun z env2 n2 => ∃ k, d = tupD k ∧ Q (.dT [(k, z)]) env2 n2
theorem vn_dispT {ke ve : Expr} (hu : X.A.units + 1 < cLine) (hk : ∀ F0 H0, PE X ke (tOf ⟨am, F0, H0⟩ tk)) (hv : ∀ F0 H0, PE X ve (tOf ⟨am, F0, H0⟩ tv)) : PE X (.Dict [some ke] [ve] pos) (nOf ⟨am, F0, H0⟩ (vDispT tk tv)) :=
  PE.imp (pe_dispT (tk := fun σ H R => ∃ F0 H0, tOf ⟨am, F0, H0⟩ tk σ H R) (tv := fun σ H R => ∃ F0 H0, tOf ⟨am, F0, H0⟩ tv σ H R) hu
    ⟨fun pins s σ H Q I ⟨F0, H0, q⟩ => (hk F0 H0).run pins s σ H Q I q⟩ ⟨fun pins s σ H Q I ⟨F0, H0, q⟩ => (hv F0 H0).run pins s σ H Q I q⟩) fun σ H R ⟨F, env, n, Q, rr, q, k⟩ p np => by
  obtain ⟨r1, h0, hF0, ns⟩ := rr.laid np (.dT [])
  refine ⟨F0, upd H0 p (.dT []), F, env, n, _, r1, q, fun x H2 F2 d env2 n2 r2 u2 p2 q2 => ⟨F0, upd H0 p (.dT []), F2, env2, n2, _, r2, q2, fun y H3 F3 z env3 n3 r3 u3 p3 q3 => ?_⟩⟩
  obtain ⟨kk, rfl, q3⟩ := q3
  obtain ⟨bb, rfl, hb⟩ := (p2.up u3).tupk
  obtain ⟨r7, eD, _, _⟩ := Rel.pop (c := ⟨am, F0, H0⟩) (fun _ z => by cases z) r3 h0 hF0 ns
  exact ⟨bb, kk, rfl, r3.sub _ _ hb, eD, nOf_wth (c := ⟨am, F0, H0⟩) (fun _ z => by cases z) r3 h0 hF0 ns (u2.trans u3) (kk := .dT [(kk, z)]) ⟨[(kk, y)], rfl, .cons ⟨rfl, p3⟩ .nil⟩ q3 k⟩
def vDispK (tk tv : VTE) : VTN := fun env n Q => tk env n fun d env1 n1 => tv env1 n1 fun z env2 n2 => ∃ k, d = keyD k ∧ Q (.dK [(k, z)]) env2 n2
theorem vn_dispK {ke ve : Expr} (hk : ∀ F0 H0, PE X ke (tOf ⟨am, F0, H0⟩ tk)) (hv : ∀ F0 H0, PE X ve (tOf ⟨am, F0, H0⟩ tv)) : PE X (.Dict [some ke] [ve] pos) (nOf ⟨am, F0, H0⟩ (vDispK tk tv)) :=
  PE.imp (pe_disp (pps_cons (tk := fun σ H R => ∃ F0 H0, tOf ⟨am, F0, H0⟩ tk σ H R) (tv := fun σ H R => ∃ F0 H0, tOf ⟨am, F0, H0⟩ tv σ H R) ⟨fun pins s σ H Q I ⟨F0, H0, q⟩ => (hk F0 H0).run pins s σ H Q I q⟩ ⟨fun pins s σ H Q I ⟨F0, H0, q⟩ => (hv F0 H0).run pins s σ H Q I q⟩ pps_nil) rfl rfl (by simp) (by simp)) fun σ H R ⟨F, env, n, Q, rr, q, k⟩ p np => by
  obtain ⟨r1, h0, hF0, ns⟩ := rr.laid np (.dK [])
  refine ⟨F0, upd H0 p (.dK []), F, env, n, _, r1, q, fun x H2 F2 d env2 n2 r2 u2 p2 q2 => ⟨F0, upd H0 p (.dK []), F2, env2, n2, _, r2, q2, fun y H3 F3 z env3 n3 r3 u3 p3 q3 => ?_⟩⟩
  obtain ⟨kk, rfl, q3⟩ := q3
  rw [p2.key]
  obtain ⟨r7, eD, _, _⟩ := Rel.pop (c := ⟨am, F0, H0⟩) (fun _ z => by cases z) r3 h0 hF0 ns
  refine ⟨eD, [(kk, y)], rfl, by simp, ?_⟩
  have em : mergeK [] [(kk, y)] = [(kk, y)] := by simp [mergeK, putK]
  rw [em]
  exact nOf_wth (c := ⟨am, F0, H0⟩) (fun _ z => by cases z) r3 h0 hF0 ns (u2.trans u3) (kk := .dK [(kk, z)]) ⟨[(kk, y)], rfl, .cons ⟨rfl, p3⟩ .nil⟩ q3 k
def vSetOneI (w : World) (te : VTE) : VTN := fun env n Q => te env n fun d env1 n1 => ∃ i : Int, d = .int i ∧ Q (.set w (fun j => decide (j = i)) 1) env1 n1
theorem vn_setOneI0 (hcd : PySem.W.kdsCode X.K X.env.code = true) (he : ∀ F0 H0, PE X e (tOf ⟨am, F0, H0⟩ te)) (hs : starEach [e] X.env = [(false, eval e X.env)] := by rfl) : PE X (.Set [e] 0 pos) (nOf ⟨am, F0, H0⟩ (vSetOneI X.w te)) :=
  PE.imp (pe_setOneI (te := fun σ H R => ∃ F0 H0, tOf ⟨am, F0, H0⟩ te σ H R) hcd ⟨fun pins s σ H Q I ⟨F0, H0, q⟩ => (he F0 H0).run pins s σ H Q I q⟩ hs) fun σ H R ⟨F, env, n, Q, rr, q, k⟩ p np => by
  obtain ⟨r1, h0, hF0, ns⟩ := rr.laid np (SetO X.w p (fun _ => false) 0)
  refine ⟨F0, _, F, env, n, _, r1, q, fun x H2 F2 d env2 n2 r2 u2 p2 q2 => ?_⟩
  obtain ⟨i, rfl, q2⟩ := q2
  have nto : NT (SetO X.w p (fun _ => false) 0) := fun _ z => by cases z
  obtain ⟨r7, eD, _, _⟩ := Rel.pop (c := ⟨am, F0, H0⟩) nto r2 h0 hF0 ns
  exact ⟨i, p2.int_inv, eD, nOf_wth (c := ⟨am, F0, H0⟩) nto r2 h0 hF0 ns u2 (kk := .set X.w (fun j => decide (j = i)) 1) rfl q2 k⟩
end
section
variable {c : Fc} {X : Cx} {a b e o : Expr} {es : List Expr} {te ta tb : VTE} {tas : VTA} {tn : VTN} {pos apos cpos p : Pos}
/-- s.add(k) -/
def vSAddW (w : World) (i : Nat) (te : VTE) : VTE := fun env n Q => (∃ S m, env[i]? = some (.ow (.set w S m))) ∧ te env n fun d env1 n1 => ∃ S m, ∃ k : Int, env1[i]? = some (.ow (.set w S m)) ∧ d = .int k ∧ m ≤ 1000 ∧ Q .non (env1.set i (.ow (.set w (fun j => S j || decide (j = k)) (if S k = true then m else m + 1)))) n1
theorem ve_sadd0 {i : Nat} (ho : PE X o (tVar i)) (ha : PE X e (tOf c te))
    (hbase : attributeBase o "add" X.env (eval o X.env) = eval o X.env := by rfl)
    (hfew : ((backTo cpos (starEach [e] X.env)).all (fun x => !x.1) && (backToKw cpos (keywordEach [] X.env)).all (fun x => x.1.isSome)
      && decide (([e] : List Expr).length + ([] : List Keyword).length + (if ([] : List Keyword).isEmpty then 0 else 1) < 30)) = true := by rfl)
    (hline : (apos.endLine == cpos.line) = true := by rfl) (hs : starEach [e] X.env = (false, eval e X.env) :: starEach [] X.env := by rfl) (hplain : (backTo cpos (starEach [] X.env)).any (·.1) = false := by rfl) :
    PE X (.Call (.Attribute o "add" apos) [e] [] cpos) (tOf c (vSAddW X.w i te)) := PE.imp (pe_sadd ho (pa_cons ha pa_nil hs) hbase hfew hline hs hplain) fun σ H R ⟨F, env, n, Q, rr, ⟨⟨S, m, e0⟩, h⟩, k⟩ => by
  obtain ⟨a, o, g1, g5, ow⟩ := rr.slotA e0
  have ow' : o = SetO X.w a S m := ow
  subst ow'
  refine ⟨_, g1, ⟨a, S, m, rfl, g5⟩, F, env, n, _, rr, h, fun v H1 F1 d env1 n1 r1 u1 p1 q1 => ?_⟩
  obtain ⟨S1, m1, kk, e1, rfl, hm, q1⟩ := q1
  obtain ⟨a2, o2, g2, g6, ow2⟩ := r1.slotA e1
  have ow2' : o2 = SetO X.w a2 S1 m1 := ow2
  subst ow2'
  rw [g1] at g2
  cases g2
  rw [p1.int_inv]
  exact ⟨a, kk, S1, m1, rfl, rfl, g6, by unfold scanBound; omega, k _ _ F1 _ _ n1 (r1.write (k' := .set X.w (fun j => S1 j || decide (j = kk)) (if S1 kk = true then m1 else m1 + 1)) e1 g1 rfl) u1 .non q1⟩
/-- k in s, k not in s -/
def vSIn (w : World) (neg : Bool) (i : Nat) (te : VTE) : VTE := fun env n Q => te env n fun d env1 n1 => ∃ S m, ∃ k : Int, env1[i]? = some (.ow (.set w S m)) ∧ d = .int k ∧ Q (.bl (if neg then !S k else S k)) env1 n1
theorem snotin_of {i : Nat} {w : World} {σ : L2.St} {H : Hp} {R : VK} (h : tOf c (vSIn w true i te) σ H R) : tOp (rSNotIn w) (tOf c te) (tVar i) σ H R := by
  obtain ⟨F, env, n, Q, rr, h, k⟩ := h
  refine ⟨F, env, n, _, rr, h, fun y H1 F1 d env1 n1 r1 u1 p1 q1 => ?_⟩
  obtain ⟨S, m, kk, e1, rfl, q1⟩ := q1
  obtain ⟨a2, o2, g2, g6, ow2⟩ := r1.slotA e1
  have ow2' : o2 = SetO w a2 S m := ow2
  subst ow2'
  exact ⟨_, g2, kk, a2, S, m, p1.int_inv, rfl, g6, k _ H1 F1 _ env1 n1 r1 u1 (.bl _) q1⟩
theorem vt_snotin0 {i : Nat} (ha : PE X a (tOf c te)) (hb : PE X b (tVar i)) (hm : behindInMarks .NotIn b = false) : PT X (.Compare a [.NotIn] [b] pos) (cOf c (vB (vSIn X.w true i te))) := PT.imp (pt_cmpR or_snotin ha hb hm) fun _ _ _ => test_of snotin_of
/-- set(xs) -/
def dSetI (w : World) : RCN := fun ds Q => ∃ ns : List Int, ds = [.lst (ns.map Dt.int)] ∧ ns.length ≤ 1000 ∧ ∀ m, m ≤ ns.length → Q (.set w (fun j => decide (j ∈ ns)) m)
theorem lft_setI {K : PySem.W.Frag} {w : World} : LftN (rSetI K w) (dSetI w) := fun F H vs ds Q R u rp ⟨ns, h, hl, q⟩ k => by
  subst h
  obtain ⟨v, rfl, p⟩ := rp.one
  obtain ⟨a, xs, rfl, hF, rx⟩ := p.lst_inv
  rw [rx.of_ints] at hF
  exact ⟨a, ns, rfl, .inl (.inl (u _ _ hF)), hl, fun b m np hm => k b _ (.set w (fun j => decide (j ∈ ns)) m) np rfl (q m hm)⟩
/-- sorted(a set just made) -/
def vSortS (w : World) (tn : VTN) : VTN := fun env n Q => tn env n fun k env1 n1 => ∃ S m, k = .set w S m ∧ m < 64 ∧ ∀ ns : List Int, ns.Pairwise (· < ·) → (∀ j : Int, j ∈ ns ↔ S j = true) → ns.length = m → Q (.lst (ns.map Dt.int)) env1 n1
theorem vn_sortS0 {p : Pos} (hc : X.calm = true) (hg : Gl X "sorted") (hm : X.mg "sorted" = none) (ho : PE X o (nOf c tn)) (he : starEach [o] X.env = (false, eval o X.env) :: starEach [] X.env := by rfl) (hpl : (backTo pos (starEach [] X.env)).any (·.1) = false := by rfl) :
    PE X (.Call (.Name "sorted" p) [o] [] pos) (nOf c (vSortS X.w tn)) := PE.imp (pe_callB (cr_sortedSet hc) hg hm (by decide +kernel) (pa_cons ho pa_nil he) (by decide) (by decide) he hpl) fun σ H R ⟨F, env, n, Q, rr, h, k⟩ => by
  refine ⟨F, env, n, _, rr, h, fun a o H' F' kk env' n' r' u hF h0 ns hH w ha q => ?_⟩
  obtain ⟨S, m, rfl, hlt, q⟩ := q
  have w' : o = SetO X.w a S m := w
  subst w'
  exact ⟨a, S, m, rfl, hH, hlt, fun ns p h1 h2 h3 np => nOf_new r' u np (kk := .lst (ns.map Dt.int)) ⟨_, rfl, Rps.ints ns⟩ (q ns h1 h2 h3) k⟩
theorem cr_setW (w : World) (hw : X.w = w) (hc : X.calm = true) : CallR X (.type "set") (rSetI X.K w) := hw ▸ cr_setI hc
theorem ve_sadd {i : Nat} (w : World) (hw : X.w = w) (ho : PE X o (tVar i)) (ha : PE X e (tOf c te))
    (hbase : attributeBase o "add" X.env (eval o X.env) = eval o X.env := by rfl)
    (hfew : ((backTo cpos (starEach [e] X.env)).all (fun x => !x.1) && (backToKw cpos (keywordEach [] X.env)).all (fun x => x.1.isSome)
      && decide (([e] : List Expr).length + ([] : List Keyword).length + (if ([] : List Keyword).isEmpty then 0 else 1) < 30)) = true := by rfl)
    (hline : (apos.endLine == cpos.line) = true := by rfl) (hs : starEach [e] X.env = (false, eval e X.env) :: starEach [] X.env := by rfl) (hplain : (backTo cpos (starEach [] X.env)).any (·.1) = false := by rfl) :
    PE X (.Call (.Attribute o "add" apos) [e] [] cpos) (tOf c (vSAddW w i te)) := by
  subst hw
  exact ve_sadd0 ho ha hbase hfew hline hs hplain
theorem vt_snotin {i : Nat} (w : World) (hw : X.w = w) (ha : PE X a (tOf c te)) (hb : PE X b (tVar i)) (hm : behindInMarks .NotIn b = false) : PT X (.Compare a [.NotIn] [b] pos) (cOf c (vB (vSIn w true i te))) := by
  subst hw
  exact vt_snotin0 ha hb hm
theorem vn_sortS {p : Pos} (w : World) (hw : X.w = w) (hc : X.calm = true) (hg : Gl X "sorted") (hm : X.mg "sorted" = none) (ho : PE X o (nOf c tn)) (he : starEach [o] X.env = (false, eval o X.env) :: starEach [] X.env := by rfl) (hpl : (backTo pos (starEach [] X.env)).any (·.1) = false := by rfl) :
    PE X (.Call (.Name "sorted" p) [o] [] pos) (nOf c (vSortS w tn)) := by
  subst hw
  exact vn_sortS0 hc hg hm ho he hpl
end
section
variable {am : Am} {F0 H0 : Hp} {X : Cx} {e : Expr} {te : VTE} {pos : Pos}
theorem vn_setOneI (w : World) (hw : X.w = w) (hcd : PySem.W.kdsCode X.K X.env.code = true) (he : ∀ F0 H0, PE X e (tOf ⟨am, F0, H0⟩ te)) (hs : starEach [e] X.env = [(false, eval e X.env)] := by rfl) : PE X (.Set [e] 0 pos) (nOf ⟨am, F0, H0⟩ (vSetOneI w te)) := by
  subst hw
  exact vn_setOneI0 hcd he hs
end
end VL
namespace VL
open PySem PySem.Spec PyProof.Rows L2 HM
section
variable {c : Fc} {X : Cx} {a b d e o : Expr} {es : List Expr} {te ta tb tc : VTE} {tas : VTA} {tn : VTN} {pos apos cpos p : Pos} {x : Str}
def vNeg (ta : VTE) : VTE := fun env n Q => ta env n fun d env1 n1 => ∃ i, d = .int i ∧ Q (.int (-i)) env1 n1
theorem ve_neg (h : PE X a (tOf c ta)) : PE X (.UnaryOp .USub a pos) (tOf c (vNeg ta)) := PE.imp (pe_un un_neg h) fun σ H R ⟨F, env, n, Q, rr, q, k⟩ => ⟨F, env, n, _, rr, q, fun v H' F' d env' n' r' u rp qd => by
  obtain ⟨i, rfl, qd⟩ := qd
  exact ⟨i, rp.int_inv, k _ H' F' _ env' n' r' u (.int _) qd⟩⟩
/-- int(truth) -/
def dIntB : RCD := fun ds Q => ∃ b, ds = [.bl b] ∧ Q (.int (if b then 1 else 0))
theorem lft_intB : LftC (fun xs H Q => (∃ i, xs = [.int i] ∧ Q (.int i) H) ∨ ∃ k, xs = [.bl k] ∧ Q (.int (if k then 1 else 0)) H) dIntB := fun F H vs ds Q R u rp ⟨i, h, q⟩ k => by
  subst h
  obtain ⟨v, rfl, p⟩ := rp.one
  rw [p.bl_inv]
  exact .inr ⟨i, rfl, k _ _ (.int _) q⟩
theorem ve_intB (hg : Gl X "int") (hm : X.mg "int" = none) (h : PE X a (tOf c ta)) (he : starEach [a] X.env = (false, eval a X.env) :: starEach [] X.env := by rfl) (hpl : (backTo pos (starEach [] X.env)).any (·.1) = false := by rfl) : PE X (.Call (.Name "int" p) [a] [] pos) (tOf c (vCB dIntB (vCons ta vNil))) := ve_tyC call_int1 lft_intB hg hm (by decide +kernel) (va_cons h va_nil he) (by decide) (by decide) he hpl
def tyD : Dt → String
  | .non => "NoneType"
  | .bl _ => "bool"
  | .int _ => "int"
  | .str _ => "str"
  | .lst _ => "list"
  | .tup _ => "tuple"
  | _ => ""
theorem Rp.tyX {K : PySem.W.Frag} {F H : Hp} {v : V} {d : Dt} (u : Up F H) (h : Rp F v d) (ht : tyD d ≠ "") : TyX K H v (.type (tyD d)) := by
  cases h with
  | non => exact .base .non
  | bl b => exact .base (.bl b)
  | int b => exact .base (.int b)
  | str b => exact .base (.str b)
  | ty b => exact absurd rfl ht
  | obj b => exact absurd rfl ht
  | lst e _ => exact .base (.lst (u _ _ e))
  | tup e _ => exact .base (.tup (u _ _ e))
  | dic _ _ _ => exact absurd rfl ht
  | dik _ _ _ => exact absurd rfl ht
def dIsi : RCD := fun ds Q => ∃ d T b, ds = [d, .ty T] ∧ tyD d ≠ "" ∧ kitB (tyD d) T = some b ∧ Q (.bl b)
theorem lft_isi {K : PySem.W.Frag} : LftC (rIsi K) dIsi := fun F H vs ds Q R u rp ⟨d, T, b, h, ht, hb, q⟩ k => by
  subst h
  obtain ⟨v, w, rfl, p1, p2⟩ := rp.two
  cases p2
  exact ⟨v, .ty T, _, _, b, rfl, .ty T, p1.tyX u ht, kit_ty hb, k _ _ (.bl _) q⟩
def vIsi (T : String) (ta : VTE) : VTE := vCB dIsi (vCons ta (vCons (vC (.ty T)) vNil))
theorem ve_isi {T : Str} {T' : String} {p2 : Pos} (hg : Gl X "isinstance") (hm : X.mg "isinstance" = none) (hg2 : Gl X T) (hm2 : X.mg T = none) (h : PE X a (tOf c ta)) (hT : bootBuiltins T = some (.type T') := by decide +kernel) (hn : T ≠ "__name__" := by decide) (hd : (T == ("__debug__" : Str)) = false := by decide)
    (he : starEach [a, .Name T p2] X.env = (false, eval a X.env) :: starEach [.Name T p2] X.env := by rfl) (he2 : starEach [.Name T p2] X.env = (false, eval (.Name T p2) X.env) :: starEach [] X.env := by rfl) (hpl : (backTo pos (starEach [.Name T p2] X.env)).any (·.1) = false := by rfl) :
    PE X (.Call (.Name "isinstance" p) [a, .Name T p2] [] pos) (tOf c (vIsi T' ta)) :=
  ve_cb call_isi lft_isi hg hm PyProof.Rows.boot_isinstance (va_cons h (va_cons (ve_c (pe_bltn (v := .ty T') hg2 hm2 hT rfl hn hd) fun _ => .ty T') va_nil he2) he) (by decide) (by decide) he hpl
def vChain (r r' : R2D) (ta tb tc : VTE) : VTE := fun env n Q => ta env n fun x env1 n1 => tb env1 n1 fun y env2 n2 => r x y fun z => ∃ k, z = .bl k ∧ if k = true then tc env2 n2 fun w env3 n3 => r' y w fun v => Q v env3 n3 else Q (.bl false) env2 n2
theorem chain_of {r r' : R2} {rd rd' : R2D} (L : Lft2 r rd) (L' : Lft2 r' rd') {σ : L2.St} {H : Hp} {R : VK} (h : tOf c (vChain rd rd' ta tb tc) σ H R) : tChain r r' (tOf c ta) (tOf c tb) (tOf c tc) σ H R := by
  obtain ⟨F, env, n, Q, rr, h, k⟩ := h
  refine ⟨F, env, n, _, rr, h, fun x H1 F1 d1 env1 n1 r1 u1 p1 q1 => ⟨F1, env1, n1, _, r1, q1, fun y H2 F2 d2 env2 n2 r2 u2 p2 q2 => ?_⟩⟩
  refine L F2 H2 x y d1 d2 _ _ r2.sub (p1.up u2) p2 q2 fun v dd rv q3 => ?_
  obtain ⟨kk, rfl, q3⟩ := q3
  refine ⟨kk, rv.bl_inv, ?_⟩
  cases kk with
  | false => exact k _ H2 F2 _ env2 n2 r2 (u1.trans u2) (.bl false) q3
  | true => exact ⟨F2, env2, n2, _, r2, q3, fun w H3 F3 d3 env3 n3 r3 u3 p3 q4 => L' F3 H3 y w d2 d3 _ _ r3.sub (p2.up u3) p3 q4 fun v dd rv q5 => k v H3 F3 dd env3 n3 r3 ((u1.trans u2).trans u3) rv q5⟩
theorem ve_chain {op op' : CmpOp} {r r' : R2} {rd rd' : R2D} (ho : OpR X (compareOp op) r) (ho' : OpR X (compareOp op') r') (L : Lft2 r rd) (L' : Lft2 r' rd') (ha : PE X a (tOf c ta)) (hb : PE X b (tOf c tb)) (hd : PE X d (tOf c tc))
    (hm : lastMarks [op, op'] [b, d] = false := by with_unfolding_all rfl) : PE X (.Compare a [op, op'] [b, d] pos) (tOf c (vChain rd rd' ta tb tc)) := PE.imp (pe_chain ho ho' ha hb hd hm) fun _ _ _ => chain_of L L'
theorem ve_m {i : Nat} {r : RM} {m : RMD} (h : PE X e (tBM X.K "list" r (tVar i) (aOf c tas))) (L : LftM r m) : PE X e (tOf c (vM i m tas)) := PE.imp h fun _ _ _ => m_of L
theorem ve_m0 {i : Nat} {r : RM} {m : RMD} (h : PE X e (tBM0 X.K "list" r (tVar i))) (L : LftM r m) : PE X e (tOf c (vM i m vNil)) := PE.imp h fun _ _ _ => m0_of L
/-- x = a new list, which is still from then on -/
def vSetF (i : Nat) (tn : VTN) : VTS := fun V env n => tn env n fun k env1 n1 => ∃ ds, k = .lst ds ∧ V.nx (env1.set i (.fz (.lst ds))) n1
theorem Rel.frzNew {F H : Hp} {σ : L2.St} {env : Ev} {n : Nat} {a : Addr} {xs : List V} {ds : List Dt} (r : Rel c F H σ env n) (hF : F a = none) (h0 : c.H0 a = none) (ns : ¬ c.am.sp a) (hH : H a = some (.lst xs)) (rx : Rps F xs ds) (ha : ∀ (j : Nat) k', env[j]? = some (.ow k') → σ[j]? ≠ some (some (.ref a))) :
    Rel c (upd F a (.lst xs)) H σ env n ∧ Rp (upd F a (.lst xs)) (.ref a) (.lst ds) := by
  refine ⟨⟨fun b ob e => ?_, fun b hb => ?_, r.amb, r.up0.trans (up_lay hF), fun b ob h1 nt h2 => ?_, r.keep0, r.len, fun i s e => ?_, r.apart⟩, .lst upd_same (rx.up (up_lay hF))⟩
  · by_cases z : b = a
    · subst z; rw [upd_same] at e; cases e; exact hH
    · rw [upd_ne z] at e; exact r.sub b ob e
  · rw [upd_ne (fun (z : b = a) => ns (by rw [← z]; exact hb))]; exact r.spf b hb
  · rw [upd_ne (fun (z : b = a) => by rw [z, h0] at h1; cases h1)]; exact r.out0 b ob h1 nt h2
  · have q := r.sl i s e
    cases s with
    | no => trivial
    | fz d => exact let ⟨v, g1, g2⟩ := q; ⟨v, g1, g2.up (up_lay hF)⟩
    | ow kk =>
      obtain ⟨a2, o2, g1, g2, g3, g4, g5, g6⟩ := q
      refine ⟨a2, o2, g1, ?_, g3, g4, g5, g6.up (up_lay hF)⟩
      rw [upd_ne fun z2 => ha i kk e (by rw [g1, z2])]
      exact g2
theorem setF_of {i : Nat} {σ : L2.St} {H : Hp} {D : Ends} (h : sOf c (vSetF i tn) D σ H) : tAsg (nOf c tn) (gName i) D σ H := by
  obtain ⟨F, env, n, V, r, q, k⟩ := h
  refine ⟨F, env, n, _, r, q, fun a o H' F' kk env' n' r' w hF h0 ns hH ow ha qd => ?_⟩
  obtain ⟨ds, rfl, qd⟩ := qd
  obtain ⟨xs, rfl, rx⟩ := ow
  obtain ⟨r2, rp⟩ := r'.frzNew hF h0 ns hH rx ha
  exact k.nx _ H' _ _ n' (r2.setF rp) (w.trans (up_lay hF)) qd
end
section
variable {am : Am} {F0 H0 : Hp} {X : Cx}
theorem vs_setLcF {i : Nat} {y : Str} {py : Pos} {elt tg iter : Expr} {ifs : List Expr} {scope : Scope} {own : List (Str × Nat)} {pos spos : Pos} {wi : VTI} {g : TG} {gv : VTG} {tt : VTT} {te : VTE} (hc : X.calm = true) (hN : X.N.Nodup) (hy : X.N[i]? = some y) (hyl : X.env.scope.names.lookup y = some .local)
    (hsw : swapsWith (.ListComp elt [⟨tg, iter, ifs, 0⟩] scope pos) (some (.Name y py)) spos.line X.env = pure true) (hi : PI X tg iter (iOf ⟨am, F0, H0⟩ wi)) (ok : BlkOk X.N X.env.scope scope own) (hgk : TgOk g gv (own.map (·.2)))
    (hg : ∀ (s : Shared) (H : Hp) (C : Addr) (cl : List (Str × Addr)) (fp : List Addr), PG (X.blk s H scope (compEnvC scope cl C X.env) fp) tg g)
    (ht : ∀ (F0 H0 : Hp) (s : Shared) (H : Hp) (C : Addr) (cl : List (Str × Addr)) (fp : List Addr), PTs (X.blk s H scope (compEnvC scope cl C X.env) fp) ifs (cOf ⟨am, F0, H0⟩ tt))
    (he : ∀ (F0 H0 : Hp) (s : Shared) (H : Hp) (C : Addr) (cl : List (Str × Addr)) (fp : List Addr), PE (X.blk s H scope (compEnvC scope cl C X.env) fp) elt (tOf ⟨am, F0, H0⟩ te)) (hs : ∀ x, foldedSetIterable iter X.env x = pure x := by intro _; rfl) :
    PS X (.Assign [.Name y py] (.ListComp elt [⟨tg, iter, ifs, 0⟩] scope pos) spos) (sOf ⟨am, F0, H0⟩ (vSetF i (vLc wi gv tt te (own.map (·.2))))) :=
  PS.imp (ps_setLc (tt := fun σ H R => ∃ F0 H0, cOf ⟨am, F0, H0⟩ tt σ H R) (te := fun σ H R => ∃ F0 H0, tOf ⟨am, F0, H0⟩ te σ H R) hc hN hy hyl hsw hi ok hg
    (fun s H C cl fp => ⟨fun pins s' σ H' Q I ⟨F0, H0, q⟩ => (ht F0 H0 s H C cl fp).run pins s' σ H' Q I q⟩) (fun s H C cl fp => ⟨fun pins s' σ H' Q I ⟨F0, H0, q⟩ => (he F0 H0 s H C cl fp).run pins s' σ H' Q I q⟩) hs)
    fun D σ H h => by
      have h2 := setF_of h
      exact lc_of hgk (fun F0 H0 _ _ _ q => ⟨F0, H0, q⟩) (fun F0 H0 _ _ _ q => ⟨F0, H0, q⟩) h2
end
end VL
namespace VL
open PySem PySem.Spec PyProof.Rows L2 HM
mutual
def pl : Dt → Bool
  | .int _ => true
  | .lst ds => pls ds
  | .tup ds => pls ds
  | _ => false
def pls : List Dt → Bool
  | [] => true
  | d :: ds => pl d && pls ds
end
mutual
def dep : Dt → Nat
  | .lst ds => deps ds + 1
  | .tup ds => deps ds + 1
  | _ => 0
def deps : List Dt → Nat
  | [] => 0
  | d :: ds => max (dep d) (deps ds)
end
mutual
theorem pl_isPy : ∀ {d : Dt}, pl d = true → isPy d = true
  | .int _, _ => rfl
  | .lst ds, h => pls_isPy (ds := ds) h
  | .tup ds, h => pls_isPy (ds := ds) h
  | .non, h => by cases h
  | .bl _, h => by cases h
  | .str _, h => by cases h
  | .ty _, h => by cases h
  | .obj _, h => by cases h
  | .dic _ _, h => by cases h
  | .dik _ _, h => by cases h
theorem pls_isPy : ∀ {ds : List Dt}, pls ds = true → isPys ds = true
  | [], _ => rfl
  | d :: ds, h => by
    have h' : (pl d && pls ds) = true := h
    rw [Bool.and_eq_true] at h'
    show (isPy d && isPys ds) = true
    rw [pl_isPy h'.1, pls_isPy h'.2]
    rfl
end
mutual
theorem pl_lay : ∀ {d : Dt}, pl d = true → (py d).canLay0 = true ∧ (py d).depth = dep d
  | .int _, _ => ⟨rfl, rfl⟩
  | .lst ds, h => by
    obtain ⟨h1, h2⟩ := pls_lay (ds := ds) h
    exact ⟨h1, by show PyData.depthAll (pys ds) + 1 = deps ds + 1; rw [h2]⟩
  | .tup ds, h => by
    obtain ⟨h1, h2⟩ := pls_lay (ds := ds) h
    exact ⟨h1, by show PyData.depthAll (pys ds) + 1 = deps ds + 1; rw [h2]⟩
  | .non, h => by cases h
  | .bl _, h => by cases h
  | .str _, h => by cases h
  | .ty _, h => by cases h
  | .obj _, h => by cases h
  | .dic _ _, h => by cases h
  | .dik _ _, h => by cases h
theorem pls_lay : ∀ {ds : List Dt}, pls ds = true → PyData.canLayAll0 (pys ds) = true ∧ PyData.depthAll (pys ds) = deps ds
  | [], _ => ⟨rfl, rfl⟩
  | d :: ds, h => by
    have h' : (pl d && pls ds) = true := h
    rw [Bool.and_eq_true] at h'
    obtain ⟨a1, a2⟩ := pl_lay h'.1
    obtain ⟨b1, b2⟩ := pls_lay h'.2
    refine ⟨?_, ?_⟩
    · show ((py d).canLay0 && PyData.canLayAll0 (pys ds)) = true
      rw [a1, b1]
      rfl
    · show max (py d).depth (PyData.depthAll (pys ds)) = max (dep d) (deps ds)
      rw [a2, b2]
end
theorem pl_shaped {d : Dt} (h : pl d = true) (hd : dep d ≤ 64) : SeqAt.shaped (py d) = true := by
  obtain ⟨a1, a2⟩ := pl_lay h
  show ((py d).canLay0 && decide ((py d).depth ≤ 64)) = true
  rw [a1, a2, decide_eq_true hd]
  rfl
mutual
theorem pl_eqv : ∀ {d e : Dt}, pl d = true → pl e = true → (PyData.eqv (py d) (py e) = true ↔ d = e)
  | .int i, .int j, _, _ => by
    show PyData.eqv (.int i) (.int j) = true ↔ _
    have e : PyData.eqv (.int i) (.int j) = (i == j) := by simp [PyData.eqv]
    rw [e, beq_iff_eq]
    exact ⟨fun h => by rw [h], fun h => by injection h⟩
  | .int i, .lst es, _, _ => by
    have e : PyData.eqv (py (.int i)) (py (.lst es)) = false := by simp [py, PyData.eqv]
    rw [e]
    exact ⟨(fun h => nomatch h), (fun h => nomatch h)⟩
  | .int i, .tup es, _, _ => by
    have e : PyData.eqv (py (.int i)) (py (.tup es)) = false := by simp [py, PyData.eqv]
    rw [e]
    exact ⟨(fun h => nomatch h), (fun h => nomatch h)⟩
  | .lst ds, .int i, _, _ => by
    have e : PyData.eqv (py (.lst ds)) (py (.int i)) = false := by simp [py, PyData.eqv]
    rw [e]
    exact ⟨(fun h => nomatch h), (fun h => nomatch h)⟩
  | .tup ds, .int i, _, _ => by
    have e : PyData.eqv (py (.tup ds)) (py (.int i)) = false := by simp [py, PyData.eqv]
    rw [e]
    exact ⟨(fun h => nomatch h), (fun h => nomatch h)⟩
  | .lst ds, .tup es, _, _ => by
    have e : PyData.eqv (py (.lst ds)) (py (.tup es)) = false := by simp [py, PyData.eqv]
    rw [e]
    exact ⟨(fun h => nomatch h), (fun h => nomatch h)⟩
  | .tup ds, .lst es, _, _ => by
    have e : PyData.eqv (py (.tup ds)) (py (.lst es)) = false := by simp [py, PyData.eqv]
    rw [e]
    exact ⟨(fun h => nomatch h), (fun h => nomatch h)⟩
  | .lst ds, .lst es, h1, h2 => by
    have e : PyData.eqv (py (.lst ds)) (py (.lst es)) = PyData.eqvAll (pys ds) (pys es) := by simp [py, PyData.eqv]
    rw [e, pls_eqv (ds := ds) (es := es) h1 h2]
    exact ⟨fun h => by rw [h], fun h => by injection h⟩
  | .tup ds, .tup es, h1, h2 => by
    have e : PyData.eqv (py (.tup ds)) (py (.tup es)) = PyData.eqvAll (pys ds) (pys es) := by simp [py, PyData.eqv]
    rw [e, pls_eqv (ds := ds) (es := es) h1 h2]
    exact ⟨fun h => by rw [h], fun h => by injection h⟩
  | .non, _, h, _ => by cases h
  | .bl _, _, h, _ => by cases h
  | .str _, _, h, _ => by cases h
  | .ty _, _, h, _ => by cases h
  | .obj _, _, h, _ => by cases h
  | .dic _ _, _, h, _ => by cases h
  | .dik _ _, _, h, _ => by cases h
  | _, .non, _, h => by cases h
  | _, .bl _, _, h => by cases h
  | _, .str _, _, h => by cases h
  | _, .ty _, _, h => by cases h
  | _, .obj _, _, h => by cases h
  | _, .dic _ _, _, h => by cases h
  | _, .dik _ _, _, h => by cases h
theorem pls_eqv : ∀ {ds es : List Dt}, pls ds = true → pls es = true → (PyData.eqvAll (pys ds) (pys es) = true ↔ ds = es)
  | [], [], _, _ => by simp [pys, PyData.eqvAll]
  | [], e :: es, _, _ => by simp [pys, PyData.eqvAll]
  | d :: ds, [], _, _ => by simp [pys, PyData.eqvAll]
  | d :: ds, e :: es, h1, h2 => by
    have h1' : (pl d && pls ds) = true := h1
    have h2' : (pl e && pls es) = true := h2
    rw [Bool.and_eq_true] at h1' h2'
    have z : PyData.eqvAll (pys (d :: ds)) (pys (e :: es)) = (PyData.eqv (py d) (py e) && PyData.eqvAll (pys ds) (pys es)) := by simp [pys, PyData.eqvAll]
    rw [z, Bool.and_eq_true, pl_eqv h1'.1 h2'.1, pls_eqv h1'.2 h2'.2, List.cons.injEq]
end
theorem dEqD_pl {x y : Dt} {Q : Dt → Prop} (px : pl x = true) (qy : pl y = true) (dx : dep x ≤ 64) (dy : dep y ≤ 64) (h : ∀ b : Bool, (b = true ↔ x = y) → Q (.bl b)) : dEqD x y Q :=
  ⟨pl_isPy px, pl_isPy qy, pl_shaped px dx, pl_shaped qy dy, h _ (pl_eqv px qy)⟩
theorem dNeD_pl {x y : Dt} {Q : Dt → Prop} (px : pl x = true) (qy : pl y = true) (dx : dep x ≤ 64) (dy : dep y ≤ 64) (h : ∀ b : Bool, (b = true ↔ x ≠ y) → Q (.bl b)) : dNeD x y Q :=
  ⟨pl_isPy px, pl_isPy qy, pl_shaped px dx, pl_shaped qy dy, h _ (by
    have := pl_eqv px qy
    cases e : PyData.eqv (py x) (py y) with
    | true => rw [e] at this; simp [this.mp rfl]
    | false =>
      rw [e] at this
      have hn : x ≠ y := fun z => by have := this.mpr z; cases this
      simp [hn])⟩
theorem pls_map {α : Type} {f : α → Dt} (h : ∀ a, pl (f a) = true) : ∀ l : List α, pls (l.map f) = true
  | [] => rfl
  | a :: l => by
    show (pl (f a) && pls (l.map f)) = true
    rw [h a, pls_map h l]
    rfl
theorem deps_map {α : Type} {f : α → Dt} {k : Nat} (h : ∀ a, dep (f a) ≤ k) : ∀ l : List α, deps (l.map f) ≤ k
  | [] => Nat.zero_le _
  | a :: l => Nat.max_le.mpr ⟨h a, deps_map h l⟩
end VL
namespace VL
open PySem PySem.Spec PyProof.Rows L2 HM
theorem wipeE_at (env : Ev) (i : Nat) : ∀ vs : List Nat, (wipeE env vs)[i]? = if i ∈ vs ∧ i < env.length then some .no else env[i]?
  | [] => by simp [wipeE]
  | v :: vs => by
    unfold wipeE
    by_cases z : i = v
    · subst z
      by_cases hl : i < env.length
      · rw [List.getElem?_set_self (by rw [wipeE_length]; exact hl), if_pos ⟨by simp, hl⟩]
      · rw [if_neg (fun h => hl h.2), List.getElem?_eq_none (by rw [List.length_set, wipeE_length]; omega), List.getElem?_eq_none (by omega)]
    · rw [List.getElem?_set_ne (Ne.symm z), wipeE_at env i vs]
      simp [z]
theorem wipeE_set {env : Ev} {i : Nat} {x : Sl} {vs : List Nat} (h : i ∈ vs) : wipeE (env.set i x) vs = wipeE env vs := by
  refine List.ext_getElem? fun j => ?_
  rw [wipeE_at, wipeE_at, List.length_set]
  by_cases z : j = i
  · subst z
    by_cases hl : j < env.length
    · rw [if_pos ⟨h, hl⟩, if_pos ⟨h, hl⟩]
    · rw [if_neg (fun q => hl q.2), if_neg (fun q => hl q.2), List.getElem?_eq_none (by rw [List.length_set]; omega), List.getElem?_eq_none (by omega)]
  · rw [List.getElem?_set_ne (Ne.symm z)]
theorem wipeE_idem (env : Ev) (vs : List Nat) : wipeE (wipeE env vs) vs = wipeE env vs := by
  refine List.ext_getElem? fun j => ?_
  rw [wipeE_at, wipeE_length, wipeE_at]
  by_cases h : j ∈ vs ∧ j < env.length
  · rw [if_pos h, if_pos h]
  · rw [if_neg h, if_neg h]
theorem restE_at (env1 env : Ev) (i : Nat) : ∀ vs : List Nat, (restE env1 env vs)[i]? = if i ∈ vs ∧ i < env.length then some (env1.getD i .no) else env[i]?
  | [] => by simp [restE]
  | v :: vs => by
    unfold restE
    by_cases z : i = v
    · subst z
      by_cases hl : i < env.length
      · rw [List.getElem?_set_self (by rw [restE_length]; exact hl), if_pos ⟨by simp, hl⟩]
      · rw [if_neg (fun h => hl h.2), List.getElem?_eq_none (by rw [List.length_set, restE_length]; omega), List.getElem?_eq_none (by omega)]
    · rw [List.getElem?_set_ne (Ne.symm z), restE_at env1 env i vs]
      simp [z]
theorem rest_wipe (env : Ev) (vs : List Nat) : restE env (wipeE env vs) vs = env := by
  refine List.ext_getElem? fun j => ?_
  rw [restE_at, wipeE_length, wipeE_at]
  by_cases h : j ∈ vs ∧ j < env.length
  · rw [if_pos h, List.getD_eq_getElem?_getD, List.getElem?_eq_getElem h.2]
    rfl
  · rw [if_neg h, if_neg h]
/-- [e for x in xs], e without draws: by what e is at each place -/
theorem lc_map {te : VTE} {vs : List Nat} {xs : List Dt} {env1 : Ev} {n1 : Nat} {Q : Con → Ev → Nat → Prop} {i : Nat} (f : Nat → Dt) (hi : i ∈ vs) (no : ∀ i ∈ vs, ∀ k, env1[i]? ≠ some (.ow k)) (hl : xs.length ≤ 5000)
    (h : ∀ (j : Nat) (x : Dt), xs[j]? = some x → ∀ R : Dt → Ev → Nat → Prop, R (f j) ((wipeE env1 vs).set i (.fz x)) n1 → te ((wipeE env1 vs).set i (.fz x)) n1 R) (q : Q (.lst ((List.range xs.length).map f)) env1 n1) : LcBody (vgName i) vYes te vs xs env1 n1 Q := by
  refine ⟨no, hl, fun j acc env n => acc = (List.range j).map f ∧ env = wipeE env1 vs ∧ n = n1, ⟨rfl, rfl, rfl⟩, fun j x acc env n hx hP => ?_, fun acc env n _ hP => ?_⟩
  · obtain ⟨rfl, rfl, rfl⟩ := hP
    show te _ _ _
    refine h j x hx _ ⟨by rw [List.range_succ, List.map_append]; rfl, by rw [wipeE_set hi, wipeE_idem], rfl⟩
  · obtain ⟨rfl, rfl, rfl⟩ := hP
    rw [rest_wipe]
    exact q
/-- [e for x in xs], e by draws -/
theorem lc_any {te : VTE} {vs : List Nat} {xs : List Dt} {env1 : Ev} {n1 : Nat} {Q : Con → Ev → Nat → Prop} {i : Nat} (P : Nat → List Dt → Prop) (hi : i ∈ vs) (no : ∀ i ∈ vs, ∀ k, env1[i]? ≠ some (.ow k)) (hl : xs.length ≤ 5000) (p0 : P 0 [])
    (h : ∀ (j : Nat) (x : Dt) (acc : List Dt), xs[j]? = some x → P j acc → ∀ R : Dt → Ev → Nat → Prop, (∀ y, P (j + 1) (acc ++ [y]) → R y ((wipeE env1 vs).set i (.fz x)) n1) → te ((wipeE env1 vs).set i (.fz x)) n1 R) (q : ∀ acc, P xs.length acc → Q (.lst acc) env1 n1) : LcBody (vgName i) vYes te vs xs env1 n1 Q := by
  refine ⟨no, hl, fun j acc env n => P j acc ∧ env = wipeE env1 vs ∧ n = n1, ⟨p0, rfl, rfl⟩, fun j x acc env n hx hP => ?_, fun acc env n _ hP => ?_⟩
  · obtain ⟨hp, rfl, rfl⟩ := hP
    show te _ _ _
    refine h j x acc hx hp _ fun y hy => ⟨hy, by rw [wipeE_set hi, wipeE_idem], rfl⟩
  · obtain ⟨hp, rfl, rfl⟩ := hP
    rw [rest_wipe]
    exact q acc hp
/-- [e for a, b in xs] -/
theorem lc_map2 {te : VTE} {vs : List Nat} {xs : List Dt} {env1 : Ev} {n1 : Nat} {Q : Con → Ev → Nat → Prop} {i i2 : Nat} (f : Nat → Dt) (hi : i ∈ vs) (hi2 : i2 ∈ vs) (no : ∀ i ∈ vs, ∀ k, env1[i]? ≠ some (.ow k)) (hl : xs.length ≤ 5000)
    (h : ∀ (j : Nat) (x : Dt), xs[j]? = some x → ∃ u v, x = .tup [u, v] ∧ ∀ R : Dt → Ev → Nat → Prop, R (f j) (((wipeE env1 vs).set i (.fz u)).set i2 (.fz v)) n1 → te (((wipeE env1 vs).set i (.fz u)).set i2 (.fz v)) n1 R) (q : Q (.lst ((List.range xs.length).map f)) env1 n1) :
    LcBody (vgTup 2 (vgCons (vgName i) (vgCons (vgName i2) vgNil))) vYes te vs xs env1 n1 Q := by
  refine ⟨no, hl, fun j acc env n => acc = (List.range j).map f ∧ env = wipeE env1 vs ∧ n = n1, ⟨rfl, rfl, rfl⟩, fun j x acc env n hx hP => ?_, fun acc env n _ hP => ?_⟩
  · obtain ⟨rfl, rfl, rfl⟩ := hP
    obtain ⟨u, v, rfl, h2⟩ := h j x hx
    refine ⟨_, rfl, rfl, _, _, rfl, _, _, rfl, rfl, ?_⟩
    show te _ _ _
    refine h2 _ ⟨by rw [List.range_succ, List.map_append]; rfl, by rw [wipeE_set hi2, wipeE_set hi, wipeE_idem], rfl⟩
  · obtain ⟨rfl, rfl, rfl⟩ := hP
    rw [rest_wipe]
    exact q
theorem noOw1 {env : Ev} {i : Nat} {s : Sl} (h : env[i]? = some s) (hs : ∀ k, s ≠ .ow k) : ∀ j ∈ [i], ∀ k, env[j]? ≠ some (.ow k) := fun j hj k e => by
  rw [List.mem_singleton.mp hj, h] at e
  exact hs k (Option.some.inj e)
theorem noOw2 {env : Ev} {i j : Nat} {s s2 : Sl} (h : env[i]? = some s) (h2 : env[j]? = some s2) (hs : ∀ k, s ≠ .ow k) (hs2 : ∀ k, s2 ≠ .ow k) : ∀ j' ∈ [i, j], ∀ k, env[j']? ≠ some (.ow k) := fun j' hj k e => by
  rcases List.mem_cons.mp hj with rfl | hj
  · rw [h] at e; exact hs k (Option.some.inj e)
  · rw [List.mem_singleton.mp hj, h2] at e; exact hs2 k (Option.some.inj e)
theorem no_ow (k : Con) : Sl.no ≠ .ow k := nofun
theorem fz_ow (d : Dt) (k : Con) : Sl.fz d ≠ .ow k := nofun
theorem vseq_set {i : Nat} {te : VTE} {B : VTS} {V : VEn} {env : Ev} {n : Nat} (h : te env n fun d env1 n1 => B V (env1.set i (.fz d)) n1) : vSeq (vSet i te) B V env n := h
theorem vseq_setN {i : Nat} {tn : VTN} {B : VTS} {V : VEn} {env : Ev} {n : Nat} (h : tn env n fun k env1 n1 => B V (env1.set i (.ow k)) n1) : vSeq (vSetN i tn) B V env n := h
/-- cut: what is so behind the first row -/
theorem vcut {A B : VTS} {V : VEn} {env : Ev} {n : Nat} (M : Ev → Nat → Prop) (h1 : ∀ N : Ev → Nat → Prop, (∀ e n', M e n' → N e n') → A { V with nx := N } env n) (h2 : ∀ e n', M e n' → B V e n') : vSeq A B V env n := h1 _ h2
theorem rngD_len (lo : Int) (n : Nat) : (rngD lo n).length = n := by simp [rngD]
theorem rngD_get {lo : Int} {n i : Nat} {x : Dt} (h : (rngD lo n)[i]? = some x) : x = .int (lo + (i : Int)) ∧ i < n := by
  have hl := (List.getElem?_eq_some_iff.mp h).1
  rw [rngD_len] at hl
  unfold rngD at h
  rw [List.getElem?_map, List.getElem?_range hl] at h
  exact ⟨(Option.some.inj h).symm, hl⟩
theorem rngD_get0 {n i : Nat} {x : Dt} (h : (rngD 0 n)[i]? = some x) : x = .int (i : Int) ∧ i < n := by
  obtain ⟨h1, h2⟩ := rngD_get h
  rw [Int.zero_add] at h1
  exact ⟨h1, h2⟩
section
variable {c : Fc} {X : Cx} {es : List Expr} {e : Expr} {pos : Pos} {ds : List Dt} {d : Dt} {t t' : VTE}
theorem ve_weak (h : PE X e (tOf c t)) (w : ∀ env n Q, t' env n Q → t env n Q) : PE X e (tOf c t') := PE.imp h fun σ H R ⟨F, env, n, Q, rr, q, k⟩ => ⟨F, env, n, Q, rr, w env n Q q, k⟩
def vKs (ds : List Dt) : VTA := fun env n Q => Q ds env n
theorem ka_nil : PA X [] (aOf c (vKs [])) := va_nil
theorem ka_cons (h : PE X e (tOf c (vC d))) (hr : PA X es (aOf c (vKs ds))) (hs : starEach (e :: es) X.env = (false, eval e X.env) :: starEach es X.env := by rfl) : PA X (e :: es) (aOf c (vKs (d :: ds))) := va_cons h hr hs
theorem ve_tupK {x1} (h : PA X es (aOf c (vKs ds))) (hl : ds.length ≤ 5000) : PE X (.Tuple es x1 pos) (tOf c (vC (.tup ds))) := ve_weak (ve_tup h) fun env n Q q => ⟨hl, q⟩
theorem ve_lstK (h : PA X es (aOf c (vKs ds))) (hl : ds.length ≤ 5000) : PE X (.List es pos) (tOf c (vC (.lst ds))) := ve_weak (ve_new (vn_lst h)) fun env n Q q => ⟨hl, _, rfl, q⟩
end
end VL
namespace VL
open PySem PySem.Spec PyProof.Rows L2 HM
end VL
namespace VL
open PySem PySem.Spec PyProof.Rows L2 HM
open Classical in
/-- H0, and rows r 0, .., r (n - 1) at A 0, .., A (n - 1) -/
noncomputable def mat (H0 : Hp) (n : Nat) (A : Nat → Addr) (r : Nat → List Int) : Hp := fun a => if h : ∃ i, i < n ∧ A i = a then some (.lst ((r h.choose).map V.int)) else H0 a
structure MatOk (am : Am) (F0 H0 : Hp) (n : Nat) (A : Nat → Addr) : Prop where
  inj : ∀ i j, i < n → j < n → A i = A j → i = j
  h0 : ∀ i, i < n → H0 (A i) = none
  f0 : ∀ i, i < n → F0 (A i) = none
  ns : ∀ i, i < n → ¬ am.sp (A i)
section
variable {am : Am} {F0 H0 F H : Hp} {n t : Nat} {A : Nat → Addr} {r r' : Nat → List Int} {σ : L2.St} {env : Ev} {a : Addr}
theorem mat_at (inj : ∀ i j, i < n → j < n → A i = A j → i = j) {i : Nat} (hi : i < n) : mat H0 n A r (A i) = some (.lst ((r i).map V.int)) := by
  have h : ∃ j, j < n ∧ A j = A i := ⟨i, hi, rfl⟩
  unfold mat
  rw [dif_pos h, inj _ i h.choose_spec.1 hi h.choose_spec.2]
theorem mat_out (h : ∀ i, i < n → A i ≠ a) : mat H0 n A r a = H0 a := by
  unfold mat
  rw [dif_neg fun ⟨i, hi, e⟩ => h i hi e]
def addA (n : Nat) (A : Nat → Addr) (p : Addr) : Nat → Addr := fun i => if i = n then p else A i
theorem addA_old {p : Addr} {i : Nat} (h : i < n) : addA n A p i = A i := if_neg (by omega)
theorem addA_new {p : Addr} : addA n A p n = p := if_pos rfl
theorem MatOk.add {p : Addr} (m : MatOk am F0 H0 n A) (hp : mat H0 n A r p = none) (hf : F0 p = none) (hs : ¬ am.sp p) : MatOk am F0 H0 (n + 1) (addA n A p) := by
  have ne : ∀ i, i < n → A i ≠ p := fun i hi z => by rw [← z, mat_at m.inj hi] at hp; cases hp
  have h0 : H0 p = none := by rw [mat_out ne] at hp; exact hp
  refine ⟨fun i j hi hj e => ?_, fun i hi => ?_, fun i hi => ?_, fun i hi => ?_⟩
  · by_cases ei : i = n
    · by_cases ej : j = n
      · omega
      · rw [ei, addA_new, addA_old (by omega)] at e
        exact absurd e.symm (ne j (by omega))
    · by_cases ej : j = n
      · rw [ej, addA_new, addA_old (by omega)] at e
        exact absurd e (ne i (by omega))
      · rw [addA_old (by omega), addA_old (by omega)] at e
        exact m.inj i j (by omega) (by omega) e
  · by_cases ei : i = n
    · rw [ei, addA_new]; exact h0
    · rw [addA_old (by omega)]; exact m.h0 i (by omega)
  · by_cases ei : i = n
    · rw [ei, addA_new]; exact hf
    · rw [addA_old (by omega)]; exact m.f0 i (by omega)
  · by_cases ei : i = n
    · rw [ei, addA_new]; exact hs
    · rw [addA_old (by omega)]; exact m.ns i (by omega)
/-- a row is written -/
theorem Rel.row (m : MatOk am F0 H0 n A) (q : Rel ⟨am, F0, mat H0 n A r⟩ F H σ env t) {i : Nat} (hi : i < n) (l : List Int) : Rel ⟨am, F0, mat H0 n A (fun j => if j = i then l else r j)⟩ F (upd H (A i) (.lst (l.map V.int))) σ env t := by
  have hm : mat H0 n A r (A i) = some (.lst ((r i).map V.int)) := mat_at m.inj hi
  have fi : F (A i) = none := q.out0 (A i) _ hm (fun _ z => by cases z) (m.f0 i hi)
  have out : ∀ b, b ≠ A i → mat H0 n A (fun j => if j = i then l else r j) b = mat H0 n A r b := fun b hb => by
    by_cases e : ∃ j, j < n ∧ A j = b
    · obtain ⟨j, hj, rfl⟩ := e
      rw [mat_at m.inj hj, mat_at m.inj hj, if_neg fun z => hb (by rw [z])]
    · have e' : ∀ j, j < n → A j ≠ b := fun j hj z => e ⟨j, hj, z⟩
      rw [mat_out e', mat_out e']
  refine ⟨fun b u e => ?_, q.spf, q.amb' (fun b hb => upd_ne fun z => m.ns i hi (z ▸ hb)) (codeK_upd fun oc x z => by rw [q.keep0 (A i) _ hm (m.ns i hi)] at z; cases z), q.up0, fun b ob h1 nt h2 => ?_, fun b u e nb => ?_, q.len, fun j s e => ?_, q.apart⟩
  · rw [upd_ne fun z => by rw [z, fi] at e; cases e]; exact q.sub b u e
  · by_cases z : b = A i
    · rw [z]; exact fi
    · have h1' : mat H0 n A (fun j => if j = i then l else r j) b = some ob := h1
      rw [out b z] at h1'
      exact q.out0 b ob h1' nt h2
  · have e' : mat H0 n A (fun j => if j = i then l else r j) b = some u := e
    by_cases z : b = A i
    · rw [z, mat_at m.inj hi, if_pos rfl] at e'
      rw [z, upd_same]; exact e'
    · rw [out b z] at e'
      rw [upd_ne z]; exact q.keep0 b u e' nb
  · have qs := q.sl j s e
    cases s with
    | no => trivial
    | fz d => exact qs
    | ow kk =>
      obtain ⟨a2, o2, g1, g2, g3, g4, g5, g6⟩ := qs
      have g3' : mat H0 n A r a2 = none := g3
      have z : a2 ≠ A i := fun z => by rw [z, hm] at g3'; cases g3'
      exact ⟨a2, o2, g1, g2, (out a2 z).trans g3', g4, by rw [upd_ne z]; exact g5, g6⟩
end
structure XEn where
  nx : Hp → Ev → Nat → Prop
  rt : Hp → Dt → Nat → Prop
  bk : Hp → Ev → Nat → Prop := fun _ _ _ => False
  ct : Hp → Ev → Nat → Prop := fun _ _ _ => False
abbrev XTS := XEn → Hp → Ev → Nat → Prop
structure EnX (am : Am) (F0 F : Hp) (V : XEn) (D : Ends) : Prop where
  nx : ∀ H0 F' H' σ' env' n', Rel ⟨am, F0, H0⟩ F' H' σ' env' n' → Up F F' → V.nx H0 env' n' → D.nx σ' H'
  rt : ∀ H0 F' H' σ' env' n' v d, Rel ⟨am, F0, H0⟩ F' H' σ' env' n' → Up F F' → Rp F' v d → V.rt H0 d n' → D.rt v H'
  bk : ∀ H0 F' H' σ' env' n', Rel ⟨am, F0, H0⟩ F' H' σ' env' n' → Up F F' → V.bk H0 env' n' → D.bk σ' H'
  ct : ∀ H0 F' H' σ' env' n', Rel ⟨am, F0, H0⟩ F' H' σ' env' n' → Up F F' → V.ct H0 env' n' → D.ct σ' H'
theorem EnX.up {am : Am} {F0 F F' : Hp} {V : XEn} {D : Ends} (h : EnX am F0 F V D) (u : Up F F') : EnX am F0 F' V D :=
  ⟨fun H0 F2 H' σ' env' n' r w => h.nx H0 F2 H' σ' env' n' r (u.trans w), fun H0 F2 H' σ' env' n' v d r w => h.rt H0 F2 H' σ' env' n' v d r (u.trans w), fun H0 F2 H' σ' env' n' r w => h.bk H0 F2 H' σ' env' n' r (u.trans w), fun H0 F2 H' σ' env' n' r w => h.ct H0 F2 H' σ' env' n' r (u.trans w)⟩
end VL
namespace VL
open PySem PySem.Spec PyProof.Rows L2 HM
end VL
namespace VL
open PySem PySem.Spec PyProof.Rows L2 HM
theorem Rel.rest2 {c1 c : Fc} {F1 H1 F H : Hp} {σ : L2.St} {env1 env : Ev} {n1 n : Nat} {vs : List Nat} (r1 : Rel c1 F1 H1 σ env1 n1) (u : Up F1 F) (no : ∀ i ∈ vs, ∀ k, env1[i]? ≠ some (.ow k)) (r : Rel c F H (L2.wipe σ vs) env n) : Rel c F H σ (restE env1 env vs) n := by
  have hl : σ.length = env.length := by rw [← r.len, wipe_length]
  refine ⟨r.sub, r.spf, r.amb, r.up0, r.out0, r.keep0, by rw [restE_length]; exact hl, fun i s e => ?_, fun i j a k k' hij e1 e2 e3 => ?_⟩
  · rcases restE_get e with ⟨rfl, h2⟩ | ⟨h1, h2⟩
    · cases e4 : env1[i]? with
      | none =>
        have : env1.getD i .no = .no := by rw [List.getD_eq_getElem?_getD, e4]; rfl
        rw [this]; trivial
      | some s =>
        have : env1.getD i .no = s := by rw [List.getD_eq_getElem?_getD, e4]; rfl
        rw [this]
        have q := r1.sl i s e4
        cases s with
        | no => trivial
        | fz d => exact let ⟨v, g1, g2⟩ := q; ⟨v, g1, g2.up u⟩
        | ow k => exact absurd e4 (no i h2 k)
    · have q := r.sl i s h1
      rw [wipe_out h2] at q
      exact q
  · have f : ∀ {i : Nat} {k : Con}, (restE env1 env vs)[i]? = some (.ow k) → i ∉ vs ∧ env[i]? = some (.ow k) := fun {i k} e => by
      rcases restE_get e with ⟨h1, h2⟩ | ⟨h1, h2⟩
      · cases e4 : env1[i]? with
        | none =>
          have : env1.getD i .no = .no := by rw [List.getD_eq_getElem?_getD, e4]; rfl
          rw [this] at h1; cases h1
        | some s =>
          have : env1.getD i .no = s := by rw [List.getD_eq_getElem?_getD, e4]; rfl
          rw [this] at h1
          rw [← h1] at e4
          exact absurd e4 (no i h2 k)
      · exact ⟨h2, h1⟩
    obtain ⟨n1, f1⟩ := f e1
    obtain ⟨n2, f2⟩ := f e2
    have q := r.apart i j a k k' hij f1 f2 (by rw [wipe_out n1]; exact e3)
    rw [wipe_out n2] at q
    exact q
/-- a kept thing is written -/
theorem Rel.rewr {σ : L2.St} {H F : Hp} {env : Ev} {n : Nat} {p : Addr} {o : HO} {c : Fc} (nto : NT o) (r : Rel (c.wth p o) F H σ env n) (h0 : c.H0 p = none) (hF0 : c.F0 p = none) (ns : ¬ c.am.sp p) (o' : HO) (nf : ∀ oc x, o ≠ .frz oc (.own x) := by intro _ _ z; cases z) : Rel (c.wth p o') F (upd H p o') σ env n := by
  obtain ⟨r7, eD, fD, nD7⟩ := Rel.pop nto r h0 hF0 ns
  have r8 : Rel c F (upd H p o') σ env n := by
    refine ⟨fun b o e => ?_, r7.spf, r7.amb' (fun b hb => upd_ne fun z => ns (z ▸ hb)) (codeK_upd fun oc x z => nf oc x (by rw [eD] at z; exact Option.some.inj z)), r7.up0, r7.out0, fun b o e nb => ?_, r7.len, fun j s e => ?_, r7.apart⟩
    · rw [upd_ne fun z => by rw [z, fD] at e; cases e]; exact r7.sub b o e
    · rw [upd_ne fun z => by rw [z, h0] at e; cases e]; exact r7.keep0 b o e nb
    · have q := r7.sl j s e
      cases s with
      | no => trivial
      | fz d => exact q
      | ow kk =>
        obtain ⟨a, o, g1, g2, g3, g4, g5, g6⟩ := q
        exact ⟨a, o, g1, g2, g3, g4, by rw [upd_ne fun z => nD7 j kk e (by rw [g1, z])]; exact g5, g6⟩
  exact r8.push upd_same fD ns nD7
end VL
namespace VL
open PySem PySem.Spec PyProof.Rows L2 HM
def zipD (xs ys : List Dt) : List Dt := List.zipWith (fun a b => Dt.tup [a, b]) xs ys
theorem zipD_get {xs ys : List Dt} {i : Nat} {z : Dt} (h : (zipD xs ys)[i]? = some z) : ∃ a b, xs[i]? = some a ∧ ys[i]? = some b ∧ z = .tup [a, b] := by
  unfold zipD at h
  rw [List.getElem?_zipWith] at h
  cases ea : xs[i]? with
  | none => rw [ea] at h; cases h
  | some a =>
    cases eb : ys[i]? with
    | none => rw [ea, eb] at h; cases h
    | some b =>
      rw [ea, eb] at h
      exact ⟨a, b, rfl, rfl, (Option.some.inj h).symm⟩
theorem zipD_len (xs ys : List Dt) : (zipD xs ys).length = min xs.length ys.length := by unfold zipD; rw [List.length_zipWith]
section
variable {c : Fc} {X : Cx} {te : VTE} {tas : VTA}
theorem wk_zipT {K : PySem.W.Frag} {F : Hp} {a b : Addr} {xs ys : List V} {ds es : List Dt} (h : F a = some (.tup xs)) (rx : Rps F xs ds) (h2 : F b = some (.tup ys)) (ry : Rps F ys es) : Wk c.am (RZ.ItzT K a b) F (zipD ds es) := fun c _ F1 H σ env n r u i => by
  have hA : SqT K H a xs := .inl (.inl (r.sub _ _ (u _ _ h)))
  have hB : SqT K H b ys := .inl (.inl (r.sub _ _ (u _ _ h2)))
  refine ⟨fun hi => ?_, fun hi => ⟨xs, ys, hA, hB, ?_⟩⟩
  · obtain ⟨da, db, ea, eb, ez⟩ := zipD_get (List.getElem?_eq_getElem hi)
    obtain ⟨v, e1, p1⟩ := rx.get ea
    obtain ⟨v2, e2, p2⟩ := ry.get eb
    refine ⟨⟨xs, ys, v, v2, hA, hB, e1, e2⟩, fun x H' y => ?_⟩
    obtain ⟨T, x1, y1, rfl, nT, rfl, hx, hy⟩ := y
    have q1 := hx xs hA
    have q2 := hy ys hB
    rw [e1] at q1
    rw [e2] at q2
    cases q1
    cases q2
    obtain ⟨_, _, nf⟩ := r.new0 nT
    exact ⟨upd F1 T (.tup [v, v2]), _, r.layF nT _, up_lay nf, List.getElem?_eq_getElem hi, by rw [ez]; exact .tup upd_same (.cons ((p1.up u).up (up_lay nf)) (.cons ((p2.up u).up (up_lay nf)) .nil))⟩
  · rw [zipD_len] at hi
    rw [rx.len, ry.len]
    omega
theorem wk_zipL {K : PySem.W.Frag} {F : Hp} {a b : Addr} {xs ys : List V} {ds es : List Dt} (h : F a = some (.lst xs)) (rx : Rps F xs ds) (h2 : F b = some (.lst ys)) (ry : Rps F ys es) : Wk c.am (Itz K a b) F (zipD ds es) := fun c _ F1 H σ env n r u i => by
  have hA : SqL K H a xs := .inl (.inl (r.sub _ _ (u _ _ h)))
  have hB : SqL K H b ys := .inl (.inl (r.sub _ _ (u _ _ h2)))
  refine ⟨fun hi => ?_, fun hi => ⟨xs, ys, hA, hB, ?_⟩⟩
  · obtain ⟨da, db, ea, eb, ez⟩ := zipD_get (List.getElem?_eq_getElem hi)
    obtain ⟨v, e1, p1⟩ := rx.get ea
    obtain ⟨v2, e2, p2⟩ := ry.get eb
    refine ⟨⟨xs, ys, v, v2, hA, hB, e1, e2⟩, fun x H' y => ?_⟩
    obtain ⟨T, x1, y1, rfl, nT, rfl, hx, hy⟩ := y
    have q1 := hx xs hA
    have q2 := hy ys hB
    rw [e1] at q1
    rw [e2] at q2
    cases q1
    cases q2
    obtain ⟨_, _, nf⟩ := r.new0 nT
    exact ⟨upd F1 T (.tup [v, v2]), _, r.layF nT _, up_lay nf, List.getElem?_eq_getElem hi, by rw [ez]; exact .tup upd_same (.cons ((p1.up u).up (up_lay nf)) (.cons ((p2.up u).up (up_lay nf)) .nil))⟩
  · rw [zipD_len] at hi
    rw [rx.len, ry.len]
    omega
def viZip (ta : VTA) : VTI := fun env n Q => ta env n fun ds env1 n1 => ∃ xs ys, (ds = [.tup xs, .tup ys] ∨ ds = [.lst xs, .lst ys]) ∧ Q (zipD xs ys) env1 n1
theorem vi_zip {e e2 : Expr} {p pos tpos : Pos} {elts : List Expr} {kk : Nat} (hg : Gl X "zip") (hm : X.mg "zip" = none) (ha : PA X [e, e2] (aOf c tas))
    (hs : starEach [e, e2] X.env = (false, eval e X.env) :: starEach [e2] X.env := by rfl) (hpl : (backTo pos (starEach [e2] X.env)).any (·.1) = false := by rfl) :
    PI X (.Tuple elts kk tpos) (.Call (.Name "zip" p) [e, e2] [] pos) (iOf c (viZip tas)) := PI.imp (RZ.pi_zipA hg hm ha hs hpl) fun σ H R ⟨F, env, n, Q, r, q, k⟩ => ⟨F, env, n, _, r, q, fun vs H' F' ds env' n' r' w rp qd => by
  obtain ⟨xs, ys, e, qd⟩ := qd
  rcases e with rfl | rfl
  · obtain ⟨v, v2, rfl, p1, p2⟩ := rp.two
    obtain ⟨a, us, rfl, hF, rx⟩ := p1.tup_inv
    obtain ⟨b, us2, rfl, hF2, ry⟩ := p2.tup_inv
    exact ⟨a, b, us, us2, rfl, .inr ⟨.inl (.inl (r'.sub _ _ hF)), .inl (.inl (r'.sub _ _ hF2)), k _ H' F' _ env' n' r' w (wk_zipT hF rx hF2 ry) qd⟩⟩
  · obtain ⟨v, v2, rfl, p1, p2⟩ := rp.two
    obtain ⟨a, us, rfl, hF, rx⟩ := p1.lst_inv
    obtain ⟨b, us2, rfl, hF2, ry⟩ := p2.lst_inv
    exact ⟨a, b, us, us2, rfl, .inl ⟨.inl (.inl (r'.sub _ _ hF)), .inl (.inl (r'.sub _ _ hF2)), k _ H' F' _ env' n' r' w (wk_zipL hF rx hF2 ry) qd⟩⟩⟩
end
end VL
namespace VL
open PySem PySem.Spec PyProof.Rows L2 HM
section
variable {P : Program} {w : World} {K : PySem.W.Frag} {mg : Str → Option Value} {base : Heap} {am : Am} {gd : Around → Prop} {f : Addr} {fd : FuncData} {ps : List Str} {k : Nat} {sp sp' : VSp} {CX : CXT}
/-- a promise that asks more -/
theorem VFn.imp (h : VFn gd P w K mg base CX k f fd ps am sp) (i : ∀ ds n Q E, sp' ds n Q E → sp ds n Q E) : VFn gd P w K mg base CX k f fd ps am sp' :=
  ⟨fun vs H Q E ⟨F, ds, n, Q', E', h1, h2, h3, h4, h5, h6⟩ => h.len vs H Q E ⟨F, ds, n, Q', E', h1, h2, h3, h4, i _ _ _ _ h5, h6⟩,
   fun A out s H args us vs Q E hg hr hb hu hI ⟨F, ds, n, Q', E', h1, h2, h3, h4, h5, h6⟩ => h.go A out s H args us vs Q E hg hr hb hu hI ⟨F, ds, n, Q', E', h1, h2, h3, h4, i _ _ _ _ h5, h6⟩⟩
end
end VL
namespace VL
open PySem PySem.Spec PyProof.Rows L2 HM
theorem PrK.get {κ : Type} {F : Hp} : ∀ {a : List (κ × V)} {b : List (κ × Dt)} {i : Nat} {k : κ} {v : V}, PrK F a b → a[i]? = some (k, v) → ∃ q, b[i]? = some q ∧ Rp F v q.2
  | _, _, _, _, _, .nil, e => by simp at e
  | _, q :: _, 0, _, _, .cons h _, e => by simp at e; subst e; exact ⟨q, rfl, h.2⟩
  | _, _, i + 1, k, v, .cons _ t, e => by
    obtain ⟨q, h1, h2⟩ := PrK.get (i := i) (k := k) (v := v) t (by simpa using e)
    exact ⟨q, by simpa using h1, h2⟩
end VL
namespace HG
open PySem PySem.Spec PyProof.Rows L2 HM GenW
/-- the frame of a generator expression: A where it runs; s, H what stood when it was made; fp its iterator's objects; pn its own object -/
abbrev gx (X : Cx) (A : Around) (s : Shared) (H : Hp) (cenv : Env) (fp : List Addr) (pn : List (Addr × Obj)) : Cx :=
  { X with A := A, s_0 := s, H_0 := H, env := cenv, outer := X.stack, stack := cenv :: X.stack, ex := fp, fn := fun _ => false, pn := pn, xe := fun _ _ => False }
end HG
namespace HG
open PySem PySem.Spec PyProof.Rows L2 HM GenW
end HG
namespace HG
open PySem PySem.Spec PyProof.Rows L2 HM GenW
end HG
namespace HG
open PySem PySem.Spec PyProof.Rows L2 HM GenW
end HG
namespace HG
open PySem PySem.Spec PyProof.Rows L2 HM GenW
open AutoSeq1 (wpAny_loadPart')
theorem GMade.ty {P : Program} {w : World} {k : Nat} {outer : List Env} {H : Hp} {sc s : Shared} {ex : List Addr} {Q : List V → Hp → Prop} {E : XK} {u : Value} (h : GMade P w k outer H sc ex Q E u s) : s.TypeIs u "generator" := by
  obtain ⟨a, g, c, rfl, ha1, ha2, hg, _⟩ := h
  exact hg.typeIs
theorem GMade.sz {P : Program} {w : World} {k : Nat} {outer : List Env} {H : Hp} {sc s : Shared} {ex : List Addr} {Q : List V → Hp → Prop} {E : XK} {u : Value} (h : GMade P w k outer H sc ex Q E u s) : sc.heap.objs.size ≤ s.heap.objs.size := by
  obtain ⟨a, g, c, rfl, ha1, ha2, hg, _⟩ := h
  exact Nat.le_trans ha1 (Nat.le_of_lt ha2)
end HG
namespace HG
open PySem PySem.Spec PyProof.Rows L2 HM GenW
end HG
namespace HG
open PySem PySem.Spec PyProof.Rows L2 HM GenW
end HG
namespace HG
open PySem PySem.Spec PyProof.Rows L2 HM GenW
end HG
namespace HG
open PySem PySem.Spec PyProof.Rows L2 HM GenW
end HG
namespace VL
open PySem PySem.Spec PyProof.Rows L2 HM HG
/-- the table of generators at P runs along -/
structure TabIn (am : Am) (P : Addr) : Prop where
  sp : am.sp P
  rd : ∀ {n H}, am.ok n H → GxR.TabG H P
  wr : ∀ {n H H'}, am.ok n H → GxR.Tabbed P H H' → am.ok n H'
section
variable {c : Fc} {F H H' : Hp} {σ : L2.St} {env : Ev} {n : Nat} {P : Addr}
theorem Rel.tab (T : TabIn c.am P) (r : Rel c F H σ env n) (h : GxR.Tabbed P H H') : Rel c F H' σ env n := by
  have hF : F P = none := r.spf P T.sp
  refine ⟨fun b u e => ?_, r.spf, T.wr r.amb h, r.up0, r.out0, fun b u e nb => ?_, r.len, fun i s e => ?_, r.apart⟩
  · rw [h.2 b fun z => by rw [z, hF] at e; cases e]; exact r.sub b u e
  · rw [h.2 b fun z => nb (by rw [z]; exact T.sp)]; exact r.keep0 b u e nb
  · have q := r.sl i s e
    cases s with
    | no => trivial
    | fz d => exact q
    | ow kk =>
      obtain ⟨a, o, g1, g2, g3, g4, g5, g6⟩ := q
      exact ⟨a, o, g1, g2, g3, g4, by rw [h.2 a fun z => g4 (by rw [z]; exact T.sp)]; exact g5, g6⟩
end
end VL
namespace HG
open PySem PySem.Spec PyProof.Rows L2 HM GenW
end HG
namespace VL
open PySem PySem.Spec PyProof.Rows L2 HM HG
end VL
namespace VL
open PySem PySem.Spec PyProof.Rows L2 HM
def vCatT (ta tb : VTE) : VTE := fun env n Q => v2 ta tb (fun x y env' n' => ∃ a b, x = .tup a ∧ y = .tup b ∧ a.length + b.length ≤ 5000 ∧ Q (.tup (a ++ b)) env' n') env n
section
variable {X : Cx} {c : Fc} {a b e : Expr} {ta tb te : VTE} {pos : Pos}
theorem ve_catT (ha : PE X a (tOf c ta)) (hb : PE X b (tOf c tb)) : PE X (.BinOp a .Add b pos) (tOf c (vCatT ta tb)) := PE.imp (pe_op op_catA ha hb) fun σ H R ⟨F, env, n, Q, rr, h, k⟩ =>
  t2_of rr h fun x y d1 d2 H' F' env' n' r2 u p1 p2 q => by
    obtain ⟨a, b, rfl, rfl, hl, q⟩ := q
    obtain ⟨l, xs, rfl, h1, r1⟩ := p1.tup_inv
    obtain ⟨l2, ys, rfl, h2, r2'⟩ := p2.tup_inv
    refine ⟨l, l2, xs, ys, rfl, rfl, .inl (.inl (r2.sub _ _ h1)), .inl (.inl (r2.sub _ _ h2)), small1k (by rw [r1.len, r2'.len]; exact hl), fun ex => ?_, fun _ ey => ?_, fun _ _ p np => ?_⟩
    · subst ex
      cases r1
      exact k _ _ F' _ env' n' r2 u p2 q
    · subst ey
      cases r2'
      rw [List.append_nil] at q
      exact k _ _ F' _ env' n' r2 u p1 q
    · obtain ⟨_, _, nf⟩ := r2.new0 np
      exact k _ _ (upd F' p (.tup (xs ++ ys))) _ env' n' (r2.layF np _) (u.trans (up_lay nf)) (.tup upd_same ((r1.append r2').up (up_lay nf))) q
end
end VL
namespace VL
open PySem PySem.Spec PyProof.Rows L2 HM
theorem kds_ok {K : PySem.W.Frag} {x qual : Str} {st : Stmt} {f : Addr} {fd : FuncData} {cdv : Value} (F : Fun K x qual st f fd) (h : fd.code = cdv) : PySem.W.kdsCode K cdv = true := by
  obtain ⟨oc, od, kV, doc, pm, an, cd2, ct, osl, rfl, lk, hcd⟩ := F.ex
  rw [← h]
  exact kdsCode_of hcd
/-- a whole number from 0 on, below m -/
def nuD (m : Int) : Dt → Bool
  | .int i => decide (0 ≤ i) && decide (i < m)
  | _ => false
def whoD : Dt → Bool
  | .int _ => true
  | _ => false
def intD : Dt → Bool
  | .int _ => true
  | .bl _ => true
  | _ => false
def blD : Dt → Bool
  | .bl _ => true
  | _ => false
theorem kit_int : ∀ {d : Dt}, tyD d ≠ "" → kitB (tyD d) "int" = some (intD d)
  | .non, _ => show kitB "NoneType" "int" = some false by decide +kernel
  | .bl _, _ => show kitB "bool" "int" = some true by decide +kernel
  | .int _, _ => show kitB "int" "int" = some true by decide +kernel
  | .str _, _ => show kitB "str" "int" = some false by decide +kernel
  | .lst _, _ => show kitB "list" "int" = some false by decide +kernel
  | .tup _, _ => show kitB "tuple" "int" = some false by decide +kernel
  | .ty _, h => absurd rfl h
  | .obj _, h => absurd rfl h
  | .dic _ _, h => absurd rfl h
  | .dik _ _, h => absurd rfl h
theorem kit_bool : ∀ {d : Dt}, tyD d ≠ "" → kitB (tyD d) "bool" = some (blD d)
  | .non, _ => show kitB "NoneType" "bool" = some false by decide +kernel
  | .bl _, _ => show kitB "bool" "bool" = some true by decide +kernel
  | .int _, _ => show kitB "int" "bool" = some false by decide +kernel
  | .str _, _ => show kitB "str" "bool" = some false by decide +kernel
  | .lst _, _ => show kitB "list" "bool" = some false by decide +kernel
  | .tup _, _ => show kitB "tuple" "bool" = some false by decide +kernel
  | .ty _, h => absurd rfl h
  | .obj _, h => absurd rfl h
  | .dic _ _, h => absurd rfl h
  | .dik _ _, h => absurd rfl h
theorem iteB {a b : Prop} {k : Bool} (h1 : k = true → a) (h2 : k = false → b) : if k = true then a else b := by
  cases k with
  | true => exact h1 rfl
  | false => exact h2 rfl
end VL
namespace VL
open PySem PySem.Spec PyProof.Rows L2 HM
def spWhole : VSp := fun ds n Q _ => ∃ d, ds = [d] ∧ tyD d ≠ "" ∧ Q (.bl (whoD d)) n
def spNumber : VSp := fun ds n Q _ => ∃ d m, ds = [d, .int m] ∧ tyD d ≠ "" ∧ Q (.bl (nuD m d)) n
def spCheck : VSp := fun ds n Q _ => ∃ rows d, ds = [.lst rows, d] ∧ tyD d ≠ "" ∧ nuD rows.length d = true ∧ Q .non n
end VL
namespace VL
open PySem PySem.Spec PyProof.Rows L2 HM
def nD (i : Nat) : Dt := .int (i : Int)
def nsD (l : List Nat) : List Dt := l.map nD
def rowD (n : Nat) (m : Nat → Nat) : Dt := .lst (nsD ((List.range n).map m))
def houD (n : Nat) (m : Nat → Nat → Nat) : Dt := .lst ((List.range n).map fun a => rowD n (m a))
theorem flats_int : ∀ ns : List Int, flats (ns.map Dt.int) = true
  | [] => rfl
  | n :: ns => by rw [List.map_cons]; show (true && flats (ns.map Dt.int)) = true; rw [flats_int ns]; rfl
theorem tyN (g : Nat) : tyD (nD g) ≠ "" := by show ("int" : String) ≠ ""; decide
theorem nsD_len (l : List Nat) : (nsD l).length = l.length := List.length_map _
theorem nsD_get {l : List Nat} {i : Nat} {x : Nat} (h : l[i]? = some x) : atI (nsD l) (i : Int) = some (nD x) := atI_nat (by unfold nsD; rw [List.getElem?_map, h]; rfl)
theorem nsD_ints (l : List Nat) : nsD l = (l.map fun i : Nat => (i : Int)).map Dt.int := by unfold nsD; rw [List.map_map]; rfl
theorem row_at {n : Nat} {m : Nat → Nat} {i : Nat} (h : i < n) : atI (nsD ((List.range n).map m)) (i : Int) = some (nD (m i)) := nsD_get (by rw [List.getElem?_map, List.getElem?_range h]; rfl)
theorem hou_at {n : Nat} {m : Nat → Nat → Nat} {i : Nat} (h : i < n) : atI ((List.range n).map fun a => rowD n (m a)) (i : Int) = some (rowD n (m i)) := atI_nat (by rw [List.getElem?_map, List.getElem?_range h]; rfl)
theorem nsD_inj : ∀ {a b : List Nat}, nsD a = nsD b → a = b
  | [], [], _ => rfl
  | [], _ :: _, h => by cases h
  | _ :: _, [], h => by cases h
  | x :: a, y :: b, h => by
    unfold nsD at h
    rw [List.map_cons, List.map_cons] at h
    injection h with h1 h2
    have : x = y := by
      unfold nD at h1
      injection h1 with h1
      omega
    rw [this, nsD_inj h2]
/-- what comes of some numbers, from 0 on -/
inductive Rch (m : Nat → Nat → Nat) (gs : List Nat) : Nat → Prop
  | zero : Rch m gs 0
  | step {a g : Nat} : Rch m gs a → g ∈ gs → Rch m gs (m a g)
theorem Rch.lt {n : Nat} {m : Nat → Nat → Nat} {gs : List Nat} (h0 : 0 < n) (hm : ∀ a b, a < n → b < n → m a b < n) (hg : ∀ g ∈ gs, g < n) : ∀ {x : Nat}, Rch m gs x → x < n
  | _, .zero => h0
  | _, .step h g => hm _ _ (Rch.lt h0 hm hg h) (hg _ g)
theorem Rch.mono {m : Nat → Nat → Nat} {gs hs : List Nat} (h : ∀ g ∈ gs, g ∈ hs) : ∀ {x : Nat}, Rch m gs x → Rch m hs x
  | _, .zero => .zero
  | _, .step a g => .step (Rch.mono h a) (h _ g)
/-- the part of some numbers: rising, all that comes of them -/
structure IsPt (m : Nat → Nat → Nat) (gs : List Nat) (l : List Nat) : Prop where
  up : l.Pairwise (· < ·)
  mem : ∀ x, x ∈ l ↔ Rch m gs x
theorem rising_eq {a b : List Nat} (ha : a.Pairwise (· < ·)) (hb : b.Pairwise (· < ·)) (h : ∀ x, x ∈ a ↔ x ∈ b) : a = b := by
  have na : a.Nodup := ha.imp fun h => Nat.ne_of_lt h
  have nb : b.Nodup := hb.imp fun h => Nat.ne_of_lt h
  refine List.Perm.eq_of_pairwise (le := (· < ·)) (fun x y _ _ h1 h2 => absurd (Nat.lt_trans h1 h2) (Nat.lt_irrefl _)) ha hb ((List.perm_ext_iff_of_nodup na nb).mpr h)
/-- what is found on the way -/
structure Fnd (m : Nat → Nat → Nat) (gs : List Nat) (fs : List Nat) (at_ : Nat) : Prop where
  nd : fs.Nodup
  rc : ∀ x ∈ fs, Rch m gs x
  ze : 0 ∈ fs
  cl : ∀ i x, i < at_ → fs[i]? = some x → ∀ g ∈ gs, m x g ∈ fs
theorem Fnd.start (m : Nat → Nat → Nat) (gs : List Nat) : Fnd m gs [0] 0 := ⟨by simp, fun x hx => by rw [List.mem_singleton.mp hx]; exact .zero, by simp, fun i x h => absurd h (Nat.not_lt_zero i)⟩
theorem Fnd.more {m : Nat → Nat → Nat} {gs fs : List Nat} {at_ y : Nat} (h : Fnd m gs fs at_) (hl : at_ ≤ fs.length) (hy : y ∉ fs) (ry : Rch m gs y) : Fnd m gs (fs ++ [y]) at_ := by
  refine ⟨?_, fun x hx => ?_, List.mem_append_left _ h.ze, fun i x hi hx g hg => List.mem_append_left _ (h.cl i x hi ?_ g hg)⟩
  · rw [List.nodup_append]
    exact ⟨h.nd, by simp, fun a ha b hb z => hy (by rw [List.mem_singleton.mp hb] at z; rw [← z]; exact ha)⟩
  · rcases List.mem_append.mp hx with hx | hx
    · exact h.rc x hx
    · rw [List.mem_singleton.mp hx]; exact ry
  · rw [List.getElem?_append_left (by omega)] at hx
    exact hx
theorem Fnd.all {m : Nat → Nat → Nat} {gs fs : List Nat} (h : Fnd m gs fs fs.length) : ∀ x, x ∈ fs ↔ Rch m gs x := fun x => ⟨h.rc x, fun r => by
  induction r with
  | zero => exact h.ze
  | step _ hg ih =>
    obtain ⟨i, hi, e⟩ := List.getElem_of_mem ih
    exact h.cl i _ hi (by rw [List.getElem?_eq_getElem hi, e]) _ hg⟩
theorem few_of_nodup {n : Nat} {l : List Nat} (nd : l.Nodup) (h : ∀ x ∈ l, x < n) : l.length ≤ n := by
  have := List.Nodup.length_le_of_subset nd (l₂ := List.range n) fun x hx => List.mem_range.mpr (h x hx)
  rw [List.length_range] at this
  exact this
theorem take_snoc' {α : Type} {l : List α} {j : Nat} {x : α} (h : l[j]? = some x) : l.take (j + 1) = l.take j ++ [x] := by rw [List.take_add_one, h]; rfl
theorem cast_ints {ns : List Int} {l : List Nat} (h : ∀ j : Int, j ∈ ns ↔ ∃ i ∈ l, j = (i : Nat)) : ∃ k : List Nat, ns = k.map (fun i : Nat => (i : Int)) ∧ ∀ i, i ∈ k ↔ i ∈ l := by
  refine ⟨ns.map Int.toNat, ?_, fun i => ?_⟩
  · rw [List.map_map]
    refine (List.map_id _).symm.trans (List.map_congr_left fun x hx => ?_)
    obtain ⟨i, _, rfl⟩ := (h x).mp hx
    simp
  · rw [List.mem_map]
    constructor
    · rintro ⟨x, hx, rfl⟩
      obtain ⟨i, hi, rfl⟩ := (h x).mp hx
      simpa using hi
    · intro hi
      exact ⟨(i : Int), (h _).mpr ⟨i, hi, rfl⟩, by simp⟩
theorem perm_cast {l : List Nat} {ns : List Int} (h : ns.Perm (l.map fun i : Nat => (i : Int))) : ∃ k : List Nat, ns = k.map (fun i : Nat => (i : Int)) ∧ k.Perm l := by
  obtain ⟨k, h1, h2⟩ := permInv h
  exact ⟨k, h2, h1⟩
theorem lt_of_le_nodup' {l : List Nat} (h : (l.map fun i : Nat => (i : Int)).Pairwise (· ≤ ·)) (nd : l.Nodup) : l.Pairwise (· < ·) := by
  rw [List.pairwise_map] at h
  exact (List.Pairwise.and h nd).imp fun {a b} ⟨h1, h2⟩ => by omega
end VL
namespace VL
open PySem PySem.Spec PyProof.Rows L2 HM
def spPart : VSp := fun ds t Q _ => ∃ (n : Nat) (m : Nat → Nat → Nat) (gs : List Nat), ds = [houD n m, .lst (nsD gs)] ∧ 0 < n ∧ n ≤ 60 ∧ gs.length < 64 ∧ (∀ a b, a < n → b < n → m a b < n) ∧ (∀ g ∈ gs, g < n) ∧ ∀ l : List Nat, IsPt m gs l → Q (.tup (nsD l)) t
end VL
namespace VL
open PySem PySem.Spec PyProof.Rows L2 HM
theorem valD_some {κ : Type} [DecidableEq κ] {kvs : List (κ × Dt)} {k : κ} : (valD kvs k).isSome = decide (k ∈ kvs.map (·.1)) := by
  induction kvs with
  | nil => rfl
  | cons p r ih =>
    unfold valD at ih ⊢
    by_cases h : p.1 = k
    · rw [List.find?_cons_of_pos (by simpa using h)]
      simp [h]
    · rw [List.find?_cons_of_neg (by simpa using h), ih]
      have h' : ¬ k = p.1 := fun z => h z.symm
      simp [h']
theorem putD_new {κ : Type} [DecidableEq κ] {kvs : List (κ × Dt)} {k : κ} {v : Dt} (h : k ∉ kvs.map (·.1)) : putD kvs k v = kvs ++ [(k, v)] := by
  unfold putD
  rw [if_neg]
  intro z
  rw [List.any_eq_true] at z
  obtain ⟨p, hp, e⟩ := z
  exact h (List.mem_map.mpr ⟨p, hp, of_decide_eq_true e⟩)
theorem keyN_mem {fs : List Nat} {x : Nat} : (Sum.inl (x : Int) : Key) ∈ fs.map (fun i : Nat => (Sum.inl (i : Int) : Key)) ↔ x ∈ fs := by
  rw [List.mem_map]
  constructor
  · rintro ⟨i, hi, e⟩
    have : (i : Int) = x := Sum.inl.inj e
    have : i = x := by omega
    rw [← this]; exact hi
  · exact fun h => ⟨x, h, rfl⟩
/-- what is found, and what waits -/
structure Wt (m : Nat → Nat → Nat) (gs : List Nat) (fs ws : List Nat) : Prop where
  nd : fs.Nodup
  rc : ∀ x ∈ fs, Rch m gs x
  ze : 0 ∈ fs
  sb : ∀ x ∈ ws, x ∈ fs
  wn : ws.Nodup
  cl : ∀ x ∈ fs, x ∉ ws → ∀ g ∈ gs, m x g ∈ fs
theorem Wt.all {m : Nat → Nat → Nat} {gs fs : List Nat} (h : Wt m gs fs []) : ∀ x, x ∈ fs ↔ Rch m gs x := fun x => ⟨h.rc x, fun r => by
  induction r with
  | zero => exact h.ze
  | step _ hg ih => exact h.cl _ ih (by simp) _ hg⟩
theorem nsD_last {l : List Nat} {x : Nat} : (nsD (l ++ [x]))[(nsD (l ++ [x])).length - 1]? = some (nD x) := by
  rw [nsD_len]
  unfold nsD
  rw [List.getElem?_map, List.length_append, List.length_singleton, Nat.add_sub_cancel, List.getElem?_append_right (Nat.le_refl _)]
  simp
theorem nsD_dropLast {l : List Nat} {x : Nat} : (nsD (l ++ [x])).dropLast = nsD l := by
  unfold nsD
  rw [List.map_append, List.map_cons, List.map_nil, List.dropLast_concat]
theorem nsD_app (l : List Nat) (x : Nat) : nsD l ++ [nD x] = nsD (l ++ [x]) := by unfold nsD; rw [List.map_append]; rfl
theorem pl_ns (l : List Nat) : pl (.lst (nsD l)) = true := pls_map (fun _ => rfl) l
theorem pl_nt (l : List Nat) : pl (.tup (nsD l)) = true := pls_map (fun _ => rfl) l
theorem dep_ns (l : List Nat) : dep (.lst (nsD l)) ≤ 64 := Nat.le_trans (Nat.succ_le_succ (deps_map (f := nD) (k := 0) (fun _ => Nat.le_refl 0) l)) (by decide)
theorem nsD_nil {l : List Nat} : Dt.lst (nsD l) = .lst [] ↔ l = [] := by
  cases l with
  | nil => exact ⟨fun _ => rfl, fun _ => rfl⟩
  | cons a l => exact ⟨(fun h => nomatch h), (fun h => nomatch h)⟩
end VL
namespace VL
open PySem PySem.Spec PyProof.Rows L2 HM
end VL
namespace VL
open PySem PySem.Spec PyProof.Rows L2 HM
end VL
namespace VL
open PySem PySem.Spec PyProof.Rows L2 HM
def pk4 (a : Addr) (t l : Int) (g : Bool) : List (Key × V) := [(.inr "script", .ref a), (.inr "at", .int t), (.inr "left", .int l), (.inr "great", .bl g)]
/-- the pen runs along -/
structure PenIn (K : PySem.W.Frag) (am : Am) (p : Addr) : Prop where
  sp : am.sp p
  rd : ∀ {n H}, am.ok n H → ∃ a ns t l g, H p = some (.dK (pk4 a t l g)) ∧ Scr K H a ns ∧ ns.length ≤ 63 ∧ 0 ≤ t ∧ 0 ≤ l
  wr : ∀ {n H a t l g}, am.ok n H → H p = some (.dK (pk4 a t l g)) → ∀ (t' l' : Int) (g' : Bool), 0 ≤ t' → 0 ≤ l' → am.ok n (upd H p (.dK (pk4 a t' l' g')))
/-- nothing but the pen is written -/
theorem PenIn.out {K : PySem.W.Frag} {am : Am} {p a : Addr} (h : PenIn K am p) {F H : Hp} {n : Nat} {t l : Int} {g : Bool} (u : Up F H) (hs : ∀ a, am.sp a → F a = none) (ha : am.ok n H) (hp : H p = some (.dK (pk4 a t l g))) {t' l' : Int} {g' : Bool} (h1 : 0 ≤ t') (h2 : 0 ≤ l') :
    Out am F H F (upd H p (.dK (pk4 a t' l' g'))) n :=
  ⟨Up.refl F, fun b o e => by rw [upd_ne (fun (z : b = p) => by rw [z, hs p h.sp] at e; cases e)]; exact u b o e, hs, fun _ _ _ _ e => e, fun b o e nb => by rw [upd_ne (fun (z : b = p) => nb (by rw [z]; exact h.sp))]; exact e, h.wr ha hp t' l' g' h1 h2⟩
end VL
namespace VL
open PySem PySem.Spec PyProof.Rows L2 HM
def spTake (p : Addr) : VSp := fun ds t Q _ => ∃ m : Nat, ds = [.obj p, nD m] ∧ 0 < m ∧ m ≤ 10000 ∧ ∀ r : Nat, r < m → Q (nD r) t
end VL
namespace VL
open PySem PySem.Spec PyProof.Rows L2 HM
end VL
namespace VL
open PySem PySem.Spec PyProof.Rows L2 HM
end VL
namespace VL
open PySem PySem.Spec PyProof.Rows L2 HM
def Tn (m : Nat) (l : List Nat) : Prop := l.Perm (List.range m)
theorem Tn.len {m : Nat} {l : List Nat} (h : Tn m l) : l.length = m := by rw [List.Perm.length_eq h, List.length_range]
theorem Tn.lt {m : Nat} {l : List Nat} (h : Tn m l) {x : Nat} (hx : x ∈ l) : x < m := List.mem_range.mp ((List.Perm.mem_iff h).mp hx)
theorem Tn.nd {m : Nat} {l : List Nat} (h : Tn m l) : l.Nodup := (List.Perm.nodup_iff h).mpr List.nodup_range
theorem Tn.all {m : Nat} {l : List Nat} (h : Tn m l) {x : Nat} (hx : x < m) : x ∈ l := (List.Perm.mem_iff h).mpr (List.mem_range.mpr hx)
theorem tn_of {m : Nat} {l : List Nat} (hl : l.length = m) (h : ∀ x ∈ l, x < m) (nd : l.Nodup) : Tn m l := by
  refine (List.perm_ext_iff_of_nodup nd List.nodup_range).mpr fun x => ⟨fun hx => List.mem_range.mpr (h x hx), fun hx => ?_⟩
  rcases Classical.em (x ∈ l) with z | z
  · exact z
  · have hx := List.mem_range.mp hx
    have := few_of_nodup (n := m) (l := x :: l) (List.nodup_cons.mpr ⟨z, nd⟩) fun y hy => by
      rcases List.mem_cons.mp hy with rfl | hy
      · exact hx
      · exact h y hy
    rw [List.length_cons, hl] at this
    omega
theorem flats_ns (l : List Nat) : flats (nsD l) = true := by rw [nsD_ints]; exact flats_int _
def tA (l : List Nat) (k : Nat) : Nat := l.getD k 0
theorem tA_get {l : List Nat} {k : Nat} (h : k < l.length) : l[k]? = some (tA l k) := by
  unfold tA
  rw [List.getD_eq_getElem?_getD, List.getElem?_eq_getElem h]
  rfl
theorem tA_mem {l : List Nat} {k : Nat} (h : k < l.length) : tA l k ∈ l := List.mem_of_getElem? (tA_get h)
theorem Tn.at_lt {m : Nat} {l : List Nat} (h : Tn m l) {k : Nat} (hk : k < m) : tA l k < m := h.lt (tA_mem (by rw [h.len]; exact hk))
theorem Tn.inj {m : Nat} {l : List Nat} (h : Tn m l) {i j : Nat} (hi : i < m) (hj : j < m) (e : tA l i = tA l j) : i = j := by
  have h1 : l[i]? = l[j]? := by rw [tA_get (by rw [h.len]; exact hi), tA_get (by rw [h.len]; exact hj), e]
  exact (List.getElem?_inj (by rw [h.len]; exact hi) h.nd).mp h1
theorem Tn.onto {m : Nat} {l : List Nat} (h : Tn m l) {x : Nat} (hx : x < m) : ∃ k, k < m ∧ tA l k = x := by
  obtain ⟨k, hk, e⟩ := List.getElem_of_mem (h.all hx)
  refine ⟨k, by rw [← h.len]; exact hk, ?_⟩
  have := tA_get hk
  rw [List.getElem?_eq_getElem hk, e] at this
  exact (Option.some.inj this).symm
theorem nsD_tA {l : List Nat} {k : Nat} (h : k < l.length) : atI (nsD l) (k : Int) = some (nD (tA l k)) := nsD_get (tA_get h)
end VL
namespace VL
open PySem PySem.Spec PyProof.Rows L2 HM
end VL
namespace VL
open PySem PySem.Spec PyProof.Rows L2 HM
def tnB (m : Nat) (l : List Nat) : Bool := l.length == m && l.all (fun x => decide (x < m)) && decide l.Nodup
theorem tn_B {m : Nat} {l : List Nat} (h : tnB m l = true) : Tn m l := by
  unfold tnB at h
  rw [Bool.and_eq_true, Bool.and_eq_true, beq_iff_eq, List.all_eq_true, decide_eq_true_iff] at h
  exact tn_of h.1.1 (fun x hx => of_decide_eq_true (h.1.2 x hx)) h.2
def tnsD (ls : List (List Nat)) : List Dt := ls.map fun l => .tup (nsD l)
end VL
namespace VL
open PySem PySem.Spec PyProof.Rows L2 HM
end VL
namespace VL
open PySem PySem.Spec PyProof.Rows L2 HM
def thn (a b : List Nat) : List Nat := a.map (tA b)
def stay (m : Nat) : List Nat := List.range m
theorem thn_tn {m : Nat} {a b : List Nat} (ha : Tn m a) (hb : Tn m b) : Tn m (thn a b) := by
  refine tn_of (by unfold thn; rw [List.length_map, ha.len]) (fun x hx => ?_) ?_
  · obtain ⟨k, hk, rfl⟩ := List.mem_map.mp hx
    exact hb.at_lt (ha.lt hk)
  · unfold thn
    exact List.pairwise_map.mpr ((List.Pairwise.and_mem.mp ha.nd).imp fun {x y} h e => h.2.2 (hb.inj (ha.lt h.1) (ha.lt h.2.1) e))
theorem stay_tn (m : Nat) : Tn m (stay m) := List.Perm.refl _
theorem thn_stay {m : Nat} {a : List Nat} (ha : Tn m a) : thn a (stay m) = a := by
  unfold thn
  refine (List.map_congr_left fun x hx => ?_).trans (List.map_id a)
  unfold tA stay
  rw [List.getD_eq_getElem?_getD, List.getElem?_range (ha.lt hx)]
  rfl
theorem stay_thn {m : Nat} {a : List Nat} (ha : Tn m a) : thn (stay m) a = a := by
  refine List.ext_getElem? fun i => ?_
  unfold thn stay
  rw [List.getElem?_map]
  by_cases h : i < m
  · rw [List.getElem?_range h, tA_get (by rw [ha.len]; exact h)]
    rfl
  · rw [List.getElem?_eq_none (by rw [List.length_range]; omega), List.getElem?_eq_none (by rw [ha.len]; omega)]
    rfl
theorem tA_thn {a b : List Nat} {k : Nat} (h : k < a.length) : tA (thn a b) k = tA b (tA a k) := by
  have h1 : (thn a b)[k]? = some (tA b (tA a k)) := by
    unfold thn
    rw [List.getElem?_map, tA_get h]
    rfl
  unfold tA at h1 ⊢
  rw [List.getD_eq_getElem?_getD (l := thn a b), h1]
  rfl
theorem thn_assoc {m : Nat} {a b c : List Nat} (ha : Tn m a) (hb : Tn m b) : thn (thn a b) c = thn a (thn b c) := by
  unfold thn
  rw [List.map_map]
  refine List.map_congr_left fun x hx => ?_
  exact (tA_thn (b := c) (by rw [hb.len]; exact ha.lt hx)).symm
theorem thn_inj {m : Nat} {a b c : List Nat} (ha : Tn m a) (hb : Tn m b) (hc : Tn m c) (e : thn a b = thn a c) : b = c := by
  refine List.ext_getElem? fun i => ?_
  by_cases h : i < m
  · obtain ⟨k, hk, rfl⟩ := ha.onto h
    have e2 : tA (thn a b) k = tA (thn a c) k := by rw [e]
    rw [tA_thn (by rw [ha.len]; exact hk), tA_thn (by rw [ha.len]; exact hk)] at e2
    rw [tA_get (by rw [hb.len]; exact h), tA_get (by rw [hc.len]; exact h), e2]
  · rw [List.getElem?_eq_none (by rw [hb.len]; omega), List.getElem?_eq_none (by rw [hc.len]; omega)]
def itr (f : Nat → Nat) : Nat → Nat → Nat
  | 0, x => x
  | i + 1, x => f (itr f i x)
theorem itr_add (f : Nat → Nat) (i j x : Nat) : itr f (i + j) x = itr f i (itr f j x) := by
  induction i with
  | zero => rw [Nat.zero_add]; rfl
  | succ i ih => rw [Nat.succ_add]; show f _ = f _; rw [ih]
theorem itr_mul {f : Nat → Nat} {c x : Nat} (h : itr f c x = x) : ∀ q, itr f (q * c) x = x
  | 0 => by rw [Nat.zero_mul]; rfl
  | q + 1 => by rw [Nat.succ_mul, itr_add, h, itr_mul h q]
theorem itr_lt {m : Nat} {g : List Nat} (h : Tn m g) {x : Nat} (hx : x < m) : ∀ i, itr (tA g) i x < m
  | 0 => hx
  | i + 1 => h.at_lt (itr_lt h hx i)
theorem itr_inj {m : Nat} {g : List Nat} (h : Tn m g) {x y : Nat} (hx : x < m) (hy : y < m) : ∀ i, itr (tA g) i x = itr (tA g) i y → x = y
  | 0, e => e
  | i + 1, e => itr_inj h hx hy i (h.inj (itr_lt h hx i) (itr_lt h hy i) e)
theorem itr_back {m : Nat} {g : List Nat} (h : Tn m g) {x i j : Nat} (hx : x < m) (hij : i ≤ j) (e : itr (tA g) i x = itr (tA g) j x) : itr (tA g) (j - i) x = x := by
  have e2 : itr (tA g) i x = itr (tA g) i (itr (tA g) (j - i) x) := by rw [← itr_add, show i + (j - i) = j by omega]; exact e
  exact (itr_inj h hx (itr_lt h hx _) i e2).symm
theorem itr_ring {m : Nat} {g : List Nat} (h : Tn m g) {x : Nat} (hx : x < m) : ∃ c, 1 ≤ c ∧ c ≤ m ∧ itr (tA g) c x = x := by
  rcases Classical.em (∃ i j, i < j ∧ j ≤ m ∧ itr (tA g) i x = itr (tA g) j x) with ⟨i, j, hij, hj, e⟩ | no
  · exact ⟨j - i, by omega, by omega, itr_back h hx (by omega) e⟩
  · exfalso
    have nd : ((List.range (m + 1)).map fun i => itr (tA g) i x).Nodup := by
      refine List.pairwise_map.mpr (List.Pairwise.imp_of_mem (fun {a b} ha hb hab e => ?_) (List.pairwise_lt_range (n := m + 1)))
      exact no ⟨a, b, hab, by have := List.mem_range.mp hb; omega, e⟩
    have := few_of_nodup (n := m) nd fun y hy => by
      obtain ⟨i, _, rfl⟩ := List.mem_map.mp hy
      exact itr_lt h hx i
    rw [List.length_map, List.length_range] at this
    omega
theorem ring60 {m : Nat} {g : List Nat} (h : Tn m g) (hm : m ≤ 7) : (∀ x, x < m → itr (tA g) 60 x = x) ∨ ∀ x, x < m → itr (tA g) 7 x = x := by
  rcases Classical.em (∀ x, x < m → ∃ c, 1 ≤ c ∧ c ≤ 6 ∧ itr (tA g) c x = x) with al | no
  · refine .inl fun x hx => ?_
    obtain ⟨c, h1, h6, e⟩ := al x hx
    have hd : ∃ q, 60 = q * c := by
      rcases (by omega : c = 1 ∨ c = 2 ∨ c = 3 ∨ c = 4 ∨ c = 5 ∨ c = 6) with rfl | rfl | rfl | rfl | rfl | rfl
      · exact ⟨60, rfl⟩
      · exact ⟨30, rfl⟩
      · exact ⟨20, rfl⟩
      · exact ⟨15, rfl⟩
      · exact ⟨12, rfl⟩
      · exact ⟨10, rfl⟩
    obtain ⟨q, hq⟩ := hd
    rw [hq]
    exact itr_mul e q
  · refine .inr ?_
    obtain ⟨x, hn⟩ := Classical.not_forall.mp no
    obtain ⟨hx, hno⟩ := Classical.not_imp.mp hn
    clear hn
    obtain ⟨c, h1, hc, e⟩ := itr_ring h hx
    have hc7 : c = 7 := by
      rcases Nat.lt_or_ge c 7 with z | z
      · exact absurd ⟨c, h1, by omega, e⟩ hno
      · omega
    have hm7 : m = 7 := by omega
    subst hm7
    subst hc7
    have tn : Tn 7 ((List.range 7).map fun i => itr (tA g) i x) := by
      refine tn_of (by rw [List.length_map, List.length_range]) (fun y hy => ?_) ?_
      · obtain ⟨i, _, rfl⟩ := List.mem_map.mp hy
        exact itr_lt h hx i
      · refine List.pairwise_map.mpr (List.Pairwise.imp_of_mem (fun {a b} ha hb hab e2 => ?_) (List.pairwise_lt_range (n := 7)))
        have := List.mem_range.mp hb
        exact hno ⟨b - a, by omega, by omega, itr_back h hx (by omega) e2⟩
    intro y hy
    obtain ⟨i, _, rfl⟩ := List.mem_map.mp (tn.all hy)
    rw [← itr_add, Nat.add_comm, itr_add, e]
/-- what comes of some turns -/
inductive GR (m : Nat) (ts : List (List Nat)) : List Nat → Prop
  | stay : GR m ts (stay m)
  | step {a g : List Nat} : GR m ts a → g ∈ ts → GR m ts (thn a g)
theorem GR.tn {m : Nat} {ts : List (List Nat)} (h : ∀ g ∈ ts, Tn m g) : ∀ {a : List Nat}, GR m ts a → Tn m a
  | _, .stay => stay_tn m
  | _, .step a g => thn_tn (GR.tn h a) (h _ g)
theorem GR.mul {m : Nat} {ts : List (List Nat)} (h : ∀ g ∈ ts, Tn m g) {a : List Nat} (ha : GR m ts a) : ∀ {b : List Nat}, GR m ts b → GR m ts (thn a b)
  | _, .stay => by rw [thn_stay (ha.tn h)]; exact ha
  | _, .step b g => by rw [← thn_assoc (ha.tn h) (b.tn h)]; exact .step (GR.mul h ha b) g
def gpw (m : Nat) (g : List Nat) (i : Nat) : List Nat := (List.range m).map (itr (tA g) i)
theorem gpw_thn {m : Nat} {g : List Nat} (i : Nat) : thn (gpw m g i) g = gpw m g (i + 1) := by
  unfold thn gpw
  rw [List.map_map]
  rfl
theorem gpw_wrap {m : Nat} {g : List Nat} {c : Nat} (hc : ∀ x, x < m → itr (tA g) c x = x) : gpw m g c = gpw m g 0 := List.map_congr_left fun x hx => hc x (List.mem_range.mp hx)
theorem GR.one {m c : Nat} {g : List Nat} (h0 : 0 < c) (hc : ∀ x, x < m → itr (tA g) c x = x) : ∀ {a : List Nat}, GR m [g] a → ∃ i, i < c ∧ a = gpw m g i
  | _, .stay => ⟨0, h0, (List.map_id _).symm⟩
  | _, .step a g' => by
    obtain ⟨i, hi, rfl⟩ := GR.one h0 hc a
    rw [List.mem_singleton.mp g', gpw_thn]
    rcases Nat.lt_or_ge (i + 1) c with z | z
    · exact ⟨i + 1, z, rfl⟩
    · exact ⟨0, h0, by rw [show i + 1 = c by omega, gpw_wrap hc]⟩
theorem GR.few {m : Nat} {ts fs : List (List Nat)} (h : ∀ g ∈ ts, Tn m g) (hm : m ≤ 7) (h1 : ts.length ≤ 1) (nd : fs.Nodup) (hf : ∀ a ∈ fs, GR m ts a) : fs.length ≤ 60 := by
  match ts, h1 with
  | [], _ =>
    have : fs.length ≤ [VL.stay m].length := List.Nodup.length_le_of_subset nd fun a ha => by
      cases hf a ha with
      | stay => exact List.mem_singleton.mpr rfl
      | step _ z => cases z
    exact Nat.le_trans this (show 1 ≤ 60 by decide)
  | [g], _ =>
    obtain ⟨c, h0, h60, hc⟩ : ∃ c, 0 < c ∧ c ≤ 60 ∧ ∀ x, x < m → itr (tA g) c x = x := by
      rcases ring60 (h g (List.mem_singleton.mpr rfl)) hm with z | z
      · exact ⟨60, by decide, by decide, z⟩
      · exact ⟨7, by decide, by decide, z⟩
    have : fs.length ≤ ((List.range c).map (gpw m g)).length := List.Nodup.length_le_of_subset nd fun a ha => by
      obtain ⟨i, hi, rfl⟩ := GR.one h0 hc (hf a ha)
      exact List.mem_map.mpr ⟨i, List.mem_range.mpr hi, rfl⟩
    rw [List.length_map, List.length_range] at this
    omega
  | _ :: _ :: _, z => simp at z
end VL
namespace VL
open PySem PySem.Spec PyProof.Rows L2 HM
/-- a group of turns, the stay first -/
structure IsGr (m : Nat) (gl : List (List Nat)) : Prop where
  few : gl.length ≤ 60
  nd : gl.Nodup
  tn : ∀ a ∈ gl, Tn m a
  mul : ∀ a ∈ gl, ∀ b ∈ gl, thn a b ∈ gl
  hd : gl[0]? = some (stay m)
def iN (l : List Nat) : List Int := l.map fun i : Nat => (i : Int)
def kN (l : List Nat) : List Key := l.map fun i : Nat => (Sum.inl (i : Int) : Key)
theorem tup_key (l : List Nat) : Dt.tup (nsD l) = tupD (kN l) := by
  unfold tupD kN nsD
  rw [List.map_map]
  rfl
theorem kN_ikey (l : List Nat) : ikey (iN l) = kN l := by
  unfold ikey iN kN
  rw [List.map_map]
  rfl
theorem kN_inj : ∀ {a b : List Nat}, kN a = kN b → a = b := fun {a b} h => by
  refine nsD_inj ?_
  have : Dt.tup (nsD a) = Dt.tup (nsD b) := by rw [tup_key, tup_key, h]
  injection this
theorem kN_mem {fs : List (List Nat)} {x : List Nat} : kN x ∈ fs.map kN ↔ x ∈ fs := by
  rw [List.mem_map]
  exact ⟨fun ⟨y, hy, e⟩ => kN_inj e ▸ hy, fun h => ⟨x, h, rfl⟩⟩
theorem tns_int (gl : List (List Nat)) : (gl.map iN).map (fun l => Dt.tup (l.map Dt.int)) = tnsD gl := by
  unfold tnsD
  rw [List.map_map]
  refine List.map_congr_left fun l _ => ?_
  show Dt.tup ((iN l).map Dt.int) = _
  rw [nsD_ints]
  rfl
theorem tnsD_len (l : List (List Nat)) : (tnsD l).length = l.length := List.length_map _
theorem tnsD_last {l : List (List Nat)} {x : List Nat} : (tnsD (l ++ [x]))[(tnsD (l ++ [x])).length - 1]? = some (.tup (nsD x)) := by
  rw [tnsD_len]
  unfold tnsD
  rw [List.getElem?_map, List.length_append, List.length_singleton, Nat.add_sub_cancel, List.getElem?_append_right (Nat.le_refl _)]
  simp
theorem tnsD_dropLast {l : List (List Nat)} {x : List Nat} : (tnsD (l ++ [x])).dropLast = tnsD l := by
  unfold tnsD
  rw [List.map_append, List.map_cons, List.map_nil, List.dropLast_concat]
theorem tnsD_app (l : List (List Nat)) (x : List Nat) : tnsD l ++ [.tup (nsD x)] = tnsD (l ++ [x]) := by unfold tnsD; rw [List.map_append]; rfl
theorem tnsD_nil {l : List (List Nat)} : Dt.lst (tnsD l) = .lst [] ↔ l = [] := by
  cases l with
  | nil => exact ⟨fun _ => rfl, fun _ => rfl⟩
  | cons a l => exact ⟨(fun h => nomatch h), (fun h => nomatch h)⟩
theorem pl_tns (l : List (List Nat)) : pl (.lst (tnsD l)) = true := pls_map (fun x => pl_nt x) l
theorem dep_tns (l : List (List Nat)) : dep (.lst (tnsD l)) ≤ 64 := Nat.le_trans (Nat.succ_le_succ (deps_map (f := fun x => Dt.tup (nsD x)) (k := 1) (fun x => Nat.succ_le_succ (deps_map (f := nD) (k := 0) (fun _ => Nat.le_refl 0) x)) l)) (by decide)
theorem thn_lc (a g : List Nat) : (List.range (nsD a).length).map (fun j => nD (tA g (tA a j))) = nsD (thn a g) := by
  rw [nsD_len]
  unfold nsD thn
  rw [List.map_map]
  refine List.ext_getElem? fun i => ?_
  rw [List.getElem?_map, List.getElem?_map]
  by_cases h : i < a.length
  · rw [List.getElem?_range h, tA_get h]
    rfl
  · rw [List.getElem?_eq_none (by rw [List.length_range]; omega), List.getElem?_eq_none (by omega)]
    rfl
/-- of all turns the stay comes first -/
theorem stay_least {B : Int} : ∀ {n i : Nat} {l : List Nat}, l.length = n → l.Nodup → (∀ x ∈ l, i ≤ x) → TS.Bd B (iN (List.range' i n)) → TS.Bd B (iN l) → l = List.range' i n ∨ TS.code B (iN (List.range' i n)) < TS.code B (iN l)
  | 0, _, l, hl, _, _, _, _ => .inl (by rw [List.length_eq_zero_iff.mp hl]; rfl)
  | n + 1, i, [], hl, _, _, _, _ => by simp at hl
  | n + 1, i, x :: r, hl, nd, hx, b1, b2 => by
    rw [List.nodup_cons] at nd
    have hl' : r.length = n := by simpa using hl
    have hx0 := hx x List.mem_cons_self
    rw [List.range'_succ] at b1 ⊢
    have ll : (iN (List.range' (i + 1) n)).length = (iN r).length := by unfold iN; rw [List.length_map, List.length_map, List.length_range', hl']
    rcases Nat.lt_or_ge i x with z | z
    · exact .inr (TS.code_lt ll (TS.Bd.tail b1) (TS.Bd.tail b2) (by show (i : Int) < (x : Int); omega))
    · have e : x = i := by omega
      subst e
      rcases stay_least (i := x + 1) hl' nd.2 (fun y hy => by
        have h1 := hx y (List.mem_cons_of_mem _ hy)
        have h2 : y ≠ x := fun z => nd.1 (z ▸ hy)
        omega) (TS.Bd.tail b1) (TS.Bd.tail b2) with h | h
      · exact .inl (by rw [h])
      · exact .inr ((TS.code_same ll).mpr h)
theorem bd_tn {m : Nat} {a : List Nat} (h : Tn m a) : TS.Bd (m : Int) (iN a) := fun x hx => by
  obtain ⟨y, hy, rfl⟩ := List.mem_map.mp hx
  have := h.lt hy
  exact ⟨by omega, by omega⟩
theorem stay_first {m : Nat} {gl : List (List Nat)} (h : ∀ a ∈ gl, Tn m a) (hs : stay m ∈ gl) (hp : (gl.map iN).Pairwise fun q r => TS.code (m : Int) q ≤ TS.code (m : Int) r) : gl[0]? = some (stay m) := by
  match gl, h, hs, hp with
  | a :: r, h, hs, hp =>
    rw [List.map_cons, List.pairwise_cons] at hp
    have ha := h a List.mem_cons_self
    have e : stay m = List.range' 0 m := List.range_eq_range'
    rcases List.mem_cons.mp hs with z | z
    · rw [z]; rfl
    · have h1 := hp.1 (iN (stay m)) (List.mem_map.mpr ⟨_, z, rfl⟩)
      rcases stay_least (B := (m : Int)) (n := m) (i := 0) ha.len ha.nd (fun x _ => Nat.zero_le x) (by rw [← e]; exact bd_tn (stay_tn m)) (bd_tn ha) with h2 | h2
      · rw [h2, ← e]; rfl
      · rw [← e] at h2
        omega
theorem cut1 (ts : List (List Nat)) : cutD (tnsD ts) none (some 1) = tnsD (ts.take 1) := by
  unfold cutD
  rw [show HT.sIx (tnsD ts).length 0 none = 0 from rfl]
  match ts with
  | [] => rfl
  | a :: r =>
    rw [show HT.sIx (tnsD (a :: r)).length (tnsD (a :: r)).length (some 1) = 1 by
      rw [tnsD_len, List.length_cons]
      unfold HT.sIx
      simp]
    rfl
/-- what is found, and what waits -/
structure GWt (m : Nat) (ts fs ws : List (List Nat)) : Prop where
  nd : fs.Nodup
  rc : ∀ x ∈ fs, GR m ts x
  ze : stay m ∈ fs
  sb : ∀ x ∈ ws, x ∈ fs
  wn : ws.Nodup
  cl : ∀ x ∈ fs, x ∉ ws → ∀ g ∈ ts, thn x g ∈ fs
theorem GWt.all {m : Nat} {ts fs : List (List Nat)} (h : GWt m ts fs []) : ∀ x, x ∈ fs ↔ GR m ts x := fun x => ⟨h.rc x, fun r => by
  induction r with
  | stay => exact h.ze
  | step _ hg ih => exact h.cl _ ih (by simp) _ hg⟩
theorem rg_stay (m : Nat) : rngD 0 m = nsD (stay m) := by
  unfold rngD nsD stay
  refine List.map_congr_left fun i _ => ?_
  rw [Int.zero_add]
  rfl
end VL
namespace VL
open PySem PySem.Spec PyProof.Rows L2 HM
section
variable {P : Program} {w : World} {K : PySem.W.Frag} {mg : Str → Option Value} {base : Heap} {am : Am} {gd : Around → Prop} {k : Nat}
theorem never {f : Addr} {fd : FuncData} {ps : List Str} : VFn gd P w K mg base CX0 k f fd ps am (fun _ _ _ _ => False) :=
  ⟨fun vs H Q E ⟨_, _, _, _, _, _, _, _, _, h, _⟩ => h.elim, fun A out s H args us vs Q E hgd hr e0 hb r ⟨_, _, _, _, _, _, _, _, _, h, _⟩ => h.elim⟩
end
end VL
namespace VL
open PySem PySem.Spec PyProof.Rows L2 HM
end VL
namespace VL
open PySem PySem.Spec PyProof.Rows L2 HM
def glA (gl : List (List Nat)) (a : Nat) : List Nat := gl.getD a []
def tblM (gl : List (List Nat)) (a b : Nat) : Nat := gl.idxOf (thn (glA gl a) (glA gl b))
theorem glA_get {gl : List (List Nat)} {a : Nat} (h : a < gl.length) : gl[a]? = some (glA gl a) := by
  unfold glA
  rw [List.getD_eq_getElem?_getD, List.getElem?_eq_getElem h]
  rfl
theorem glA_mem {gl : List (List Nat)} {a : Nat} (h : a < gl.length) : glA gl a ∈ gl := List.mem_of_getElem? (glA_get h)
theorem tns_get {gl : List (List Nat)} {j : Nat} {x : Dt} (h : (tnsD gl)[j]? = some x) : x = .tup (nsD (glA gl j)) ∧ j < gl.length := by
  have hj := (List.getElem?_eq_some_iff.mp h).1
  rw [tnsD_len] at hj
  unfold tnsD at h
  rw [List.getElem?_map, glA_get hj] at h
  exact ⟨(Option.some.inj h).symm, hj⟩
/-- the numbers of the turns -/
def numK (gl : List (List Nat)) (j : Nat) : List (List Key × Dt) := (List.range j).map fun i => (kN (glA gl i), nD i)
theorem glA_inj {gl : List (List Nat)} (nd : gl.Nodup) {i j : Nat} (hi : i < gl.length) (hj : j < gl.length) (e : glA gl i = glA gl j) : i = j :=
  (List.getElem?_inj hi nd).mp (by rw [glA_get hi, glA_get hj, e])
theorem glA_idx {gl : List (List Nat)} {x : List Nat} (h : x ∈ gl) : glA gl (gl.idxOf x) = x := by
  have hl := List.idxOf_lt_length_of_mem h
  have := glA_get hl
  rw [List.getElem?_eq_getElem hl, List.getElem_idxOf hl] at this
  exact (Option.some.inj this).symm
theorem numK_val {gl : List (List Nat)} (nd : gl.Nodup) : ∀ {j a : Nat}, j ≤ gl.length → a < j → valD (numK gl j) (kN (glA gl a)) = some (nD a) := fun {j a} hj ha => by
  unfold valD numK
  rw [List.find?_map]
  have : (List.range j).find? ((fun p : List Key × Dt => decide (p.1 = kN (glA gl a))) ∘ fun i => (kN (glA gl i), nD i)) = some a := by
    rw [List.find?_eq_some_iff_getElem]
    refine ⟨by simp, a, by rw [List.length_range]; exact ha, by simp, fun i hi => ?_⟩
    rw [List.getElem_range]
    simp only [Function.comp, Bool.not_eq_true', decide_eq_false_iff_not]
    intro e
    have := glA_inj nd (by omega) (by omega) (kN_inj e)
    omega
  rw [this]
  rfl
end VL
namespace VL
open PySem PySem.Spec PyProof.Rows L2 HM
def spTable : VSp := fun ds t Q _ => ∃ (m : Nat) (gl : List (List Nat)), ds = [.lst (tnsD gl)] ∧ m ≤ 7 ∧ IsGr m gl ∧ Q (houD gl.length (tblM gl)) t
end VL
namespace VL
open PySem PySem.Spec PyProof.Rows L2 HM
structure Hse (n : Nat) (m : Nat → Nat → Nat) : Prop where
  pos : 0 < n
  lt : ∀ a b, a < n → b < n → m a b < n
  zl : ∀ a, a < n → m 0 a = a
  zr : ∀ a, a < n → m a 0 = a
  as : ∀ a b c, a < n → b < n → c < n → m (m a b) c = m a (m b c)
  cn : ∀ a b c, a < n → b < n → c < n → m a b = m a c → b = c
/-- each number has a contrary -/
theorem Hse.inv {n : Nat} {m : Nat → Nat → Nat} (h : Hse n m) {a : Nat} (ha : a < n) : ∃ b, b < n ∧ m a b = 0 := by
  have tn : Tn n ((List.range n).map (m a)) := by
    refine tn_of (by rw [List.length_map, List.length_range]) (fun x hx => ?_) ?_
    · obtain ⟨b, hb, rfl⟩ := List.mem_map.mp hx
      exact h.lt a b ha (List.mem_range.mp hb)
    · refine List.pairwise_map.mpr (List.Pairwise.imp_of_mem (fun {x y} hx hy hxy e => ?_) (List.pairwise_lt_range (n := n)))
      have := h.cn a x y ha (List.mem_range.mp hx) (List.mem_range.mp hy) e
      omega
  obtain ⟨b, hb, e⟩ := List.mem_map.mp (tn.all h.pos)
  exact ⟨b, List.mem_range.mp hb, e⟩
theorem Hse.rch {n : Nat} {m : Nat → Nat → Nat} (h : Hse n m) {gs : List Nat} (hg : ∀ g ∈ gs, g < n) {a b : Nat} (ha : Rch m gs a) (hb : Rch m gs b) : Rch m gs (m a b) := by
  induction hb with
  | zero => rw [h.zr a (ha.lt h.pos h.lt hg)]; exact ha
  | step r g ih => rw [← h.as a _ _ (ha.lt h.pos h.lt hg) (r.lt h.pos h.lt hg) (hg _ g)]; exact .step ih g
/-- the house of a group of turns -/
theorem hse_tbl {m : Nat} {gl : List (List Nat)} (h : IsGr m gl) : Hse gl.length (tblM gl) := by
  have h0 : 0 < gl.length := by
    have := h.hd
    exact (List.getElem?_eq_some_iff.mp this).1
  have e0 : glA gl 0 = stay m := Option.some.inj ((glA_get h0).symm.trans h.hd)
  have hin : ∀ {a b}, a < gl.length → b < gl.length → thn (glA gl a) (glA gl b) ∈ gl := fun ha hb => h.mul _ (glA_mem ha) _ (glA_mem hb)
  have lt : ∀ a b, a < gl.length → b < gl.length → tblM gl a b < gl.length := fun a b ha hb => List.idxOf_lt_length_of_mem (hin ha hb)
  have at_ : ∀ {a b}, a < gl.length → b < gl.length → glA gl (tblM gl a b) = thn (glA gl a) (glA gl b) := fun ha hb => glA_idx (hin ha hb)
  have tn : ∀ {a}, a < gl.length → Tn m (glA gl a) := fun ha => h.tn _ (glA_mem ha)
  refine ⟨h0, lt, fun a ha => ?_, fun a ha => ?_, fun a b c ha hb hc => ?_, fun a b c ha hb hc e => ?_⟩
  · exact glA_inj h.nd (lt 0 a h0 ha) ha (by rw [at_ h0 ha, e0, stay_thn (tn ha)])
  · exact glA_inj h.nd (lt a 0 ha h0) ha (by rw [at_ ha h0, e0, thn_stay (tn ha)])
  · refine glA_inj h.nd (lt _ _ (lt _ _ ha hb) hc) (lt _ _ ha (lt _ _ hb hc)) ?_
    rw [at_ (lt _ _ ha hb) hc, at_ ha (lt _ _ hb hc), at_ ha hb, at_ hb hc, thn_assoc (tn ha) (tn hb)]
  · refine glA_inj h.nd hb hc (thn_inj (tn ha) (tn hb) (tn hc) ?_)
    rw [← at_ ha hb, ← at_ ha hc, e]
end VL
namespace VL
open PySem PySem.Spec PyProof.Rows L2 HM
end VL
namespace VL
open PySem PySem.Spec PyProof.Rows L2 HM
end VL
namespace VL
open PySem PySem.Spec PyProof.Rows L2 HM
end VL
namespace VL
open PySem PySem.Spec PyProof.Rows L2 HM
end VL
namespace VL
open PySem PySem.Spec PyProof.Rows L2 HM
end VL
namespace VL
open PySem PySem.Spec PyProof.Rows L2 HM
def wd : Nat → Dt → Prop
  | _, .int _ => True
  | d + 1, .lst ds => ds.length ≤ 5000 ∧ ∀ x ∈ ds, wd d x
  | d + 1, .tup ds => ds.length ≤ 5000 ∧ ∀ x ∈ ds, wd d x
  | _, _ => False
end VL
namespace VL
open PySem PySem.Spec PyProof.Rows L2 HM
theorem scr_out {K : PySem.W.Frag} {H : Hp} {a : Addr} {ns : List Int} (h : Scr K H a ns) (n : ¬ ∃ ob, H a = some (.frz ob (.lst (ns.map V.int)))) (H' : Hp) : Scr K H' a ns := by
  rcases h with h | h
  · exact absurd h n
  · exact .inr h
end VL
namespace VL
open PySem PySem.Spec PyProof.Rows L2 HM
structure Sub (n : Nat) (m : Nat → Nat → Nat) (l : List Nat) : Prop where
  up : l.Pairwise (· < ·)
  lt : ∀ x ∈ l, x < n
  ze : 0 ∈ l
  mul : ∀ x ∈ l, ∀ y ∈ l, m x y ∈ l
theorem IsPt.sub {n : Nat} {m : Nat → Nat → Nat} {gs l : List Nat} (h : Hse n m) (hg : ∀ g ∈ gs, g < n) (hl : IsPt m gs l) : Sub n m l :=
  ⟨hl.up, fun x hx => ((hl.mem x).mp hx).lt h.pos h.lt hg, (hl.mem 0).mpr .zero, fun x hx y hy => (hl.mem _).mpr (h.rch hg ((hl.mem x).mp hx) ((hl.mem y).mp hy))⟩
theorem len_le_of_sub {k l : List Nat} (nd : k.Nodup) (sub : ∀ x ∈ k, x ∈ l) : k.length ≤ l.length := by
  have := few_of_nodup (n := l.length) (l := k.map fun x => l.idxOf x) (by
    refine List.pairwise_map.mpr (List.Pairwise.imp_of_mem (fun {x y} hx hy hxy e => hxy ?_) nd)
    have h1 : l.idxOf x < l.length := List.idxOf_lt_length_of_mem (sub x hx)
    have h2 : l.idxOf y < l.length := List.idxOf_lt_length_of_mem (sub y hy)
    have e1 : l[l.idxOf x] = x := List.getElem_idxOf h1
    have e2 : l[l.idxOf y] = y := List.getElem_idxOf h2
    rw [← e1, ← e2]
    congr 1) fun x hx => by
    obtain ⟨y, hy, rfl⟩ := List.mem_map.mp hx
    exact List.idxOf_lt_length_of_mem (sub y hy)
  rwa [List.length_map] at this
theorem full_of_nodup {k l : List Nat} (nd : k.Nodup) (sub : ∀ x ∈ k, x ∈ l) (len : l.length ≤ k.length) : ∀ x ∈ l, x ∈ k := fun x hx => by
  rcases Classical.em (x ∈ k) with z | z
  · exact z
  · have := len_le_of_sub (k := x :: k) (l := l) (List.nodup_cons.mpr ⟨z, nd⟩) fun y hy => by
      rcases List.mem_cons.mp hy with rfl | hy
      · exact hx
      · exact sub y hy
    rw [List.length_cons] at this
    omega
section
variable {n : Nat} {m : Nat → Nat → Nat} {P O : List Nat}
theorem Hse.inv2 (h : Hse n m) {a : Nat} (ha : a < n) : ∃ b, b < n ∧ m a b = 0 ∧ m b a = 0 := by
  obtain ⟨b, hb, e⟩ := h.inv ha
  obtain ⟨c, hc, e2⟩ := h.inv hb
  have : a = c := by
    have := h.as a b c ha hb hc
    rw [e, e2, h.zl c hc, h.zr a ha] at this
    exact this.symm
  exact ⟨b, hb, e, by rw [this]; exact e2⟩
theorem Hse.rc (h : Hse n m) {a b c : Nat} (ha : a < n) (hb : b < n) (hc : c < n) (e : m a c = m b c) : a = b := by
  obtain ⟨d, hd, e1, _⟩ := h.inv2 hc
  have h1 := h.as a c d ha hc hd
  have h2 := h.as b c d hb hc hd
  rw [e1, h.zr _ ha] at h1
  rw [e1, h.zr _ hb] at h2
  rw [← h1, ← h2, e]
theorem Sub.nd (s : Sub n m P) : P.Nodup := s.up.imp fun h => Nat.ne_of_lt h
theorem Sub.inv (h : Hse n m) (s : Sub n m P) {x : Nat} (hx : x ∈ P) : ∃ y ∈ P, m x y = 0 ∧ m y x = 0 := by
  have nd : (P.map (m x)).Nodup := List.pairwise_map.mpr (List.Pairwise.imp_of_mem (fun {a b} ha hb hab e => hab (h.cn x a b (s.lt x hx) (s.lt a ha) (s.lt b hb) e)) s.nd)
  have := full_of_nodup nd (fun z hz => by
    obtain ⟨y, hy, rfl⟩ := List.mem_map.mp hz
    exact s.mul x hx y hy) (by rw [List.length_map]; exact Nat.le_refl _) 0 s.ze
  obtain ⟨y, hy, e⟩ := List.mem_map.mp this
  obtain ⟨b, hb, e1, e2⟩ := h.inv2 (s.lt x hx)
  have : y = b := h.cn x y b (s.lt x hx) (s.lt y hy) hb (by rw [e, e1])
  exact ⟨y, hy, e, by rw [this]; exact e2⟩
def cls (m : Nat → Nat → Nat) (P : List Nat) (g h : Nat) : Prop := ∃ x ∈ P, m x g = h
theorem Sub.refl (h : Hse n m) (s : Sub n m P) {g : Nat} (hg : g < n) : cls m P g g := ⟨0, s.ze, h.zl g hg⟩
theorem Sub.lt2 (h : Hse n m) (s : Sub n m P) {g k : Nat} (hg : g < n) (c : cls m P g k) : k < n := by
  obtain ⟨x, hx, rfl⟩ := c
  exact h.lt x g (s.lt x hx) hg
theorem Sub.symm (h : Hse n m) (s : Sub n m P) {g k : Nat} (hg : g < n) (c : cls m P g k) : cls m P k g := by
  obtain ⟨x, hx, rfl⟩ := c
  obtain ⟨y, hy, _, e⟩ := s.inv h hx
  exact ⟨y, hy, by rw [← h.as y x g (s.lt y hy) (s.lt x hx) hg, e, h.zl g hg]⟩
theorem Sub.trans (h : Hse n m) (s : Sub n m P) {g k l : Nat} (hg : g < n) (c : cls m P g k) (d : cls m P k l) : cls m P g l := by
  obtain ⟨x, hx, rfl⟩ := c
  obtain ⟨y, hy, rfl⟩ := d
  exact ⟨m y x, s.mul y hy x hx, h.as y x g (s.lt y hy) (s.lt x hx) hg⟩
def rp (m : Nat → Nat → Nat) (P : List Nat) (g : Nat) : Nat := P.foldr (fun x r => min (m x g) r) g
theorem rp_le (g : Nat) : ∀ P : List Nat, rp m P g ≤ g ∧ ∀ x ∈ P, rp m P g ≤ m x g
  | [] => ⟨Nat.le_refl _, fun x hx => by cases hx⟩
  | y :: P => by
    obtain ⟨h1, h2⟩ := rp_le g P
    have e : rp m (y :: P) g = min (m y g) (rp m P g) := rfl
    rw [e]
    refine ⟨by omega, fun x hx => ?_⟩
    rcases List.mem_cons.mp hx with rfl | hx
    · omega
    · have := h2 x hx
      omega
theorem rp_is (g : Nat) : ∀ P : List Nat, rp m P g = g ∨ ∃ x ∈ P, m x g = rp m P g
  | [] => .inl rfl
  | y :: P => by
    have e : rp m (y :: P) g = min (m y g) (rp m P g) := rfl
    rcases Nat.le_total (m y g) (rp m P g) with hle | hle
    · exact .inr ⟨y, List.mem_cons_self, by rw [e]; omega⟩
    · rw [e, Nat.min_eq_right hle]
      rcases rp_is g P with h | ⟨x, hx, h⟩
      · exact .inl h
      · exact .inr ⟨x, List.mem_cons_of_mem _ hx, h⟩
theorem Sub.rp_cls (h : Hse n m) (s : Sub n m P) {g : Nat} (hg : g < n) : cls m P g (rp m P g) := by
  rcases rp_is (m := m) g P with e | ⟨x, hx, e⟩
  · rw [e]; exact s.refl h hg
  · exact ⟨x, hx, e⟩
theorem rp_min {g k : Nat} (c : cls m P g k) : rp m P g ≤ k := by
  obtain ⟨x, hx, rfl⟩ := c
  exact (rp_le g P).2 x hx
theorem Sub.rp_eq (h : Hse n m) (s : Sub n m P) {g k : Nat} (hg : g < n) (c : cls m P g k) : rp m P g = rp m P k := by
  have hk := s.lt2 h hg c
  have h1 := rp_min (s.trans h hg c (s.rp_cls h hk))
  have h2 := rp_min (s.trans h hk (s.symm h hg c) (s.rp_cls h hg))
  omega
theorem Sub.cls_of_rp (h : Hse n m) (s : Sub n m P) {g k : Nat} (hg : g < n) (hk : k < n) (e : rp m P g = rp m P k) : cls m P g k := by
  have h1 := s.rp_cls h hg
  rw [e] at h1
  exact s.trans h hg h1 (s.symm h hk (s.rp_cls h hk))
theorem Sub.rp_lt (h : Hse n m) (s : Sub n m P) {g : Nat} (hg : g < n) : rp m P g < n := Nat.lt_of_le_of_lt (rp_le g P).1 hg
theorem Sub.rp_rp (h : Hse n m) (s : Sub n m P) {g : Nat} (hg : g < n) : rp m P (rp m P g) = rp m P g := (s.rp_eq h hg (s.rp_cls h hg)).symm
def isL (m : Nat → Nat → Nat) (P : List Nat) (g : Nat) : Bool := decide (rp m P g = g)
def lst (m : Nat → Nat → Nat) (P : List Nat) (j : Nat) : List Nat := (List.range j).filter (isL m P)
def plc (m : Nat → Nat → Nat) (P : List Nat) (g : Nat) : Nat := (lst m P (rp m P g)).length
theorem lst_succ (j : Nat) : lst m P (j + 1) = lst m P j ++ (if isL m P j = true then [j] else []) := by
  unfold lst
  rw [List.range_succ, List.filter_append]
  congr 1
  by_cases e : isL m P j = true
  · rw [if_pos e]; simp [e]
  · rw [if_neg e]; simp [e]
theorem lst_mono {i j : Nat} (h : i ≤ j) : (lst m P i).length ≤ (lst m P j).length := by
  induction h with
  | refl => exact Nat.le_refl _
  | step h ih => rw [lst_succ, List.length_append]; omega
theorem plc_inj {a b : Nat} (ha : isL m P a = true) (hb : isL m P b = true) (e : (lst m P a).length = (lst m P b).length) : a = b := by
  have key : ∀ {a b : Nat}, isL m P a = true → a < b → (lst m P a).length < (lst m P b).length := fun {a b} ha hab => by
    have := lst_mono (m := m) (P := P) (show a + 1 ≤ b by omega)
    rw [lst_succ, if_pos ha, List.length_append, List.length_singleton] at this
    omega
  rcases Nat.lt_trichotomy a b with z | z | z
  · have := key ha z; omega
  · exact z
  · have := key hb z; omega
theorem Sub.isL_rp (h : Hse n m) (s : Sub n m P) {g : Nat} (hg : g < n) : isL m P (rp m P g) = true := decide_eq_true (s.rp_rp h hg)
theorem Sub.plc_iff (h : Hse n m) (s : Sub n m P) {g k : Nat} (hg : g < n) (hk : k < n) : plc m P g = plc m P k ↔ rp m P g = rp m P k :=
  ⟨fun e => plc_inj (s.isL_rp h hg) (s.isL_rp h hk) e, fun e => by unfold plc; rw [e]⟩
def phi (m : Nat → Nat → Nat) (P O : List Nat) (g : Nat) : Bool := O.all fun k => decide (rp m P (m g k) = rp m P g)
def mkN (n : Nat) (m : Nat → Nat → Nat) (P O : List Nat) : Nat := ((lst m P n).filter (phi m P O)).length
def PhiN (n : Nat) (m : Nat → Nat → Nat) (P O : List Nat) : Nat := ((List.range n).filter (phi m P O)).length
theorem phi_iff (h : Hse n m) (s : Sub n m P) (ho : ∀ k ∈ O, k < n) {g : Nat} (hg : g < n) : phi m P O g = true ↔ ∀ k ∈ O, cls m P g (m g k) := by
  unfold phi
  rw [List.all_eq_true]
  exact ⟨fun q k hk => s.cls_of_rp h hg (h.lt g k hg (ho k hk)) (of_decide_eq_true (q k hk)).symm, fun q k hk => decide_eq_true (s.rp_eq h hg (q k hk)).symm⟩
theorem phi_cls (h : Hse n m) (s : Sub n m P) (ho : ∀ k ∈ O, k < n) {g k : Nat} (hg : g < n) (c : cls m P g k) : phi m P O g = phi m P O k := by
  have hk := s.lt2 h hg c
  have one : ∀ {g k : Nat}, g < n → cls m P g k → phi m P O g = true → phi m P O k = true := fun {g k} hg c e => by
    have hk := s.lt2 h hg c
    rw [phi_iff h s ho hg] at e
    rw [phi_iff h s ho hk]
    intro q hq
    have hqn := ho q hq
    obtain ⟨x, hx, rfl⟩ := id c
    refine s.trans h hk (s.symm h hg c) (s.trans h hg (e q hq) ⟨x, hx, (h.as x g q (s.lt x hx) hg hqn).symm⟩)
  cases e : phi m P O g with
  | true => exact (one hg c e).symm
  | false =>
    cases e2 : phi m P O k with
    | true => rw [one hk (s.symm h hg c) e2] at e; cases e
    | false => rfl
theorem len_flat {f : Nat → List Nat} {c : Nat} : ∀ {l : List Nat}, (∀ g ∈ l, (f g).length = c) → (l.flatMap f).length = l.length * c
  | [], _ => by simp
  | g :: l, h => by
    rw [List.flatMap_cons, List.length_append, len_flat fun x hx => h x (List.mem_cons_of_mem _ hx), h g List.mem_cons_self, List.length_cons, Nat.succ_mul]
    omega
theorem lst_mem {j g : Nat} : g ∈ lst m P j ↔ g < j ∧ rp m P g = g := by
  unfold lst isL
  rw [List.mem_filter, List.mem_range, decide_eq_true_iff]
theorem mk_mul (h : Hse n m) (s : Sub n m P) (ho : ∀ k ∈ O, k < n) : mkN n m P O * P.length = PhiN n m P O := by
  have pm : (((lst m P n).filter (phi m P O)).flatMap fun g => P.map fun x => m x g).Perm ((List.range n).filter (phi m P O)) := by
    refine (List.perm_ext_iff_of_nodup ?_ (List.nodup_range.filter _)).mpr fun k => ?_
    · refine List.pairwise_flatMap.mpr ⟨fun g hg => ?_, ?_⟩
      · obtain ⟨hg1, _⟩ := lst_mem.mp (List.mem_filter.mp hg).1
        exact List.pairwise_map.mpr (List.Pairwise.imp_of_mem (fun {a b} ha hb hab e => hab (h.rc (s.lt a ha) (s.lt b hb) hg1 e)) s.nd)
      · refine List.Pairwise.imp_of_mem (fun {a b} ha hb hab x hx y hy e => hab ?_) (List.Pairwise.filter (phi m P O) (List.Pairwise.filter (isL m P) (show List.Pairwise (· ≠ ·) (List.range n) from List.nodup_range)))
        obtain ⟨a1, a2⟩ := lst_mem.mp (List.mem_filter.mp ha).1
        obtain ⟨b1, b2⟩ := lst_mem.mp (List.mem_filter.mp hb).1
        obtain ⟨p, hp, rfl⟩ := List.mem_map.mp hx
        obtain ⟨q, hq, rfl⟩ := List.mem_map.mp hy
        have c1 := s.rp_eq h a1 ⟨p, hp, rfl⟩
        have c2 := s.rp_eq h b1 ⟨q, hq, rfl⟩
        rw [← a2, ← b2, c1, c2, e]
    · rw [List.mem_flatMap, List.mem_filter, List.mem_range]
      constructor
      · rintro ⟨g, hg, hk⟩
        obtain ⟨g1, g2⟩ := List.mem_filter.mp hg
        obtain ⟨g3, _⟩ := lst_mem.mp g1
        obtain ⟨x, hx, rfl⟩ := List.mem_map.mp hk
        exact ⟨h.lt x g (s.lt x hx) g3, by rw [← phi_cls h s ho g3 ⟨x, hx, rfl⟩]; exact g2⟩
      · rintro ⟨hk, e⟩
        have c := s.rp_cls h hk
        refine ⟨rp m P k, List.mem_filter.mpr ⟨lst_mem.mpr ⟨s.rp_lt h hk, s.rp_rp h hk⟩, by rw [← phi_cls h s ho hk c]; exact e⟩, ?_⟩
        obtain ⟨x, hx, e⟩ := s.symm h hk c
        exact List.mem_map.mpr ⟨x, hx, e⟩
  have := pm.length_eq
  rw [len_flat (c := P.length) fun g _ => by rw [List.length_map]] at this
  exact this
/-- l is P led by g -/
structure Led (n : Nat) (m : Nat → Nat → Nat) (P : List Nat) (g : Nat) (l : List Nat) : Prop where
  up : l.Pairwise (· < ·)
  ex : ∃ b, b < n ∧ m g b = 0 ∧ m b g = 0 ∧ ∀ y, y ∈ l ↔ ∃ x ∈ P, m (m b x) g = y
theorem Led.sub (h : Hse n m) (s : Sub n m P) {g : Nat} (hg : g < n) {l : List Nat} (L : Led n m P g l) : Sub n m l := by
  obtain ⟨b, hb, e1, e2, mem⟩ := L.ex
  refine ⟨L.up, fun y hy => ?_, ?_, fun y hy z hz => ?_⟩
  · obtain ⟨x, hx, rfl⟩ := (mem y).mp hy
    exact h.lt _ _ (h.lt b x hb (s.lt x hx)) hg
  · exact (mem 0).mpr ⟨0, s.ze, by rw [h.zr b hb]; exact e2⟩
  · obtain ⟨x, hx, rfl⟩ := (mem y).mp hy
    obtain ⟨x2, hx2, rfl⟩ := (mem z).mp hz
    have hx' := s.lt x hx
    have hx2' := s.lt x2 hx2
    refine (mem _).mpr ⟨m x x2, s.mul x hx x2 hx2, ?_⟩
    have hbx := h.lt b x hb hx'
    have hbx2 := h.lt b x2 hb hx2'
    rw [h.as (m b x) g (m (m b x2) g) hbx hg (h.lt _ _ hbx2 hg), ← h.as g (m b x2) g hg hbx2 hg, ← h.as g b x2 hg hb hx2', e1, h.zl x2 hx2', ← h.as b x x2 hb hx' hx2', h.as (m b x) x2 g hbx hx2' hg]
theorem Led.len (h : Hse n m) (s : Sub n m P) {g : Nat} (hg : g < n) {l : List Nat} (L : Led n m P g l) : l.length = P.length := by
  obtain ⟨b, hb, e1, e2, mem⟩ := L.ex
  have nd : (P.map fun x => m (m b x) g).Nodup := List.pairwise_map.mpr (List.Pairwise.imp_of_mem (fun {x y} hx hy hxy e => hxy (h.cn b x y hb (s.lt x hx) (s.lt y hy) (h.rc (h.lt b x hb (s.lt x hx)) (h.lt b y hb (s.lt y hy)) hg e))) s.nd)
  have pm : l.Perm (P.map fun x => m (m b x) g) := (List.perm_ext_iff_of_nodup (L.up.imp fun z => Nat.ne_of_lt z) nd).mpr fun y => by
    rw [mem y, List.mem_map]
  rw [pm.length_eq, List.length_map]
theorem sub_whole (h : Hse n m) : Sub n m (List.range n) := ⟨List.pairwise_lt_range, fun x hx => List.mem_range.mp hx, List.mem_range.mpr h.pos, fun x hx y hy => List.mem_range.mpr (h.lt x y (List.mem_range.mp hx) (List.mem_range.mp hy))⟩
end
def spShares : VSp := fun ds t Q _ => ∃ (n : Nat) (m : Nat → Nat → Nat) (P : List Nat), ds = [houD n m, .tup (nsD P)] ∧ Hse n m ∧ n ≤ 60 ∧ Sub n m P ∧ Q (.tup [.lst (nsD (lst m P n)), .lst (nsD ((List.range n).map (plc m P)))]) t
theorem sorted_ns {L : List Nat} (nd : L.Nodup) {ns : List Int} (h : ns.Perm (L.map fun i : Nat => (i : Int))) (hp : ns.Pairwise (· ≤ ·)) : ∃ l : List Nat, ns.map Dt.int = nsD l ∧ l.Perm L ∧ l.Pairwise (· < ·) := by
  obtain ⟨k, rfl, hk⟩ := perm_cast h
  refine ⟨k, (nsD_ints k).symm, hk, ?_⟩
  have nk : k.Nodup := (List.Perm.nodup_iff hk).mpr nd
  have h1 : k.Pairwise (fun a b : Nat => ((a : Nat) : Int) ≤ ((b : Nat) : Int)) := List.pairwise_map.mp hp
  exact (List.pairwise_and_iff.mpr ⟨h1, nk⟩).imp fun {a b} z => by have := z.1; have := z.2; omega
theorem rep_m1 (n : Nat) : List.flatten (List.replicate n [Dt.int (-1)]) = (List.replicate n (-1 : Int)).map Dt.int := by
  induction n with
  | zero => rfl
  | succ n ih => rw [List.replicate_succ, List.flatten_cons, ih, List.replicate_succ]; rfl
/-- places on the way: j numbers gone through, i of the part at the next one -/
def pJ (n : Nat) (m : Nat → Nat → Nat) (P : List Nat) (j i : Nat) : List Int := (List.range n).map fun g => if rp m P g < j then ((plc m P g : Nat) : Int) else if g ∈ (P.take i).map (m · j) then (((lst m P j).length : Nat) : Int) else -1
section
variable {n : Nat} {m : Nat → Nat → Nat} {P : List Nat}
theorem pJ_len (j i : Nat) : (pJ n m P j i).length = n := by unfold pJ; rw [List.length_map, List.length_range]
theorem pJ_start : pJ n m P 0 0 = List.replicate n (-1) := by
  refine List.ext_getElem? fun g => ?_
  unfold pJ
  rw [List.getElem?_map, List.getElem?_replicate]
  by_cases hg : g < n
  · rw [List.getElem?_range hg, if_pos hg]
    show some (if rp m P g < 0 then _ else _) = _
    rw [if_neg (Nat.not_lt_zero _), if_neg (by simp)]
  · rw [List.getElem?_eq_none (by rw [List.length_range]; omega), if_neg hg]
    rfl
theorem pJ_get {j i g : Nat} (hg : g < n) : (pJ n m P j i)[g]? = some (if rp m P g < j then ((plc m P g : Nat) : Int) else if g ∈ (P.take i).map (m · j) then (((lst m P j).length : Nat) : Int) else -1) := by
  unfold pJ
  rw [List.getElem?_map, List.getElem?_range hg]
  rfl
theorem pJ_zero {j g : Nat} (hg : g < n) : (pJ n m P j 0)[g]? = some (if rp m P g < j then ((plc m P g : Nat) : Int) else -1) := by
  rw [pJ_get hg]
  simp
theorem pJ_set (h : Hse n m) (s : Sub n m P) {j i x : Nat} (hj : j < n) (hr : rp m P j = j) (hx : P[i]? = some x) : (pJ n m P j i).set (m x j) (((lst m P j).length : Nat) : Int) = pJ n m P j (i + 1) := by
  have hxP := List.mem_of_getElem? hx
  have hxj := h.lt x j (s.lt x hxP) hj
  have et : P.take (i + 1) = P.take i ++ [x] := by rw [List.take_add_one, hx]; rfl
  refine List.ext_getElem? fun g => ?_
  by_cases hg : g < n
  · by_cases z : g = m x j
    · subst z
      rw [List.getElem?_set_self (by rw [pJ_len]; exact hg), pJ_get hg, ← s.rp_eq h hj ⟨x, hxP, rfl⟩, hr, if_neg (Nat.lt_irrefl _), if_pos (List.mem_map.mpr ⟨x, by rw [et]; simp, rfl⟩)]
    · rw [List.getElem?_set_ne (Ne.symm z), pJ_get hg, pJ_get hg]
      have : g ∈ (P.take (i + 1)).map (m · j) ↔ g ∈ (P.take i).map (m · j) := by
        rw [et, List.map_append, List.mem_append]
        constructor
        · rintro (q | q)
          · exact q
          · exact absurd (List.mem_singleton.mp q) z
        · exact .inl
      simp only [this]
  · rw [List.getElem?_eq_none (by rw [List.length_set, pJ_len]; omega), List.getElem?_eq_none (by rw [pJ_len]; omega)]
theorem pJ_next (h : Hse n m) (s : Sub n m P) {j : Nat} (hj : j < n) (hr : rp m P j = j) : pJ n m P j P.length = pJ n m P (j + 1) 0 := by
  refine List.ext_getElem? fun g => ?_
  by_cases hg : g < n
  · rw [pJ_get hg, pJ_zero hg, List.take_of_length_le (Nat.le_refl _)]
    have : g ∈ P.map (m · j) ↔ rp m P g = j := by
      rw [List.mem_map]
      constructor
      · rintro ⟨x, hx, rfl⟩
        rw [← s.rp_eq h hj ⟨x, hx, rfl⟩, hr]
      · intro e
        obtain ⟨x, hx, e2⟩ := s.cls_of_rp h hj hg (by rw [hr, e])
        exact ⟨x, hx, e2⟩
    by_cases h1 : rp m P g < j
    · rw [if_pos h1, if_pos (by omega)]
    · rw [if_neg h1]
      by_cases h2 : rp m P g = j
      · rw [if_pos (this.mpr h2), if_pos (by omega)]
        unfold plc
        rw [h2]
      · rw [if_neg fun z => h2 (this.mp z), if_neg (by omega)]
  · rw [List.getElem?_eq_none (by rw [pJ_len]; omega), List.getElem?_eq_none (by rw [pJ_len]; omega)]
theorem pJ_skip (h : Hse n m) (s : Sub n m P) {j : Nat} (hj : j < n) (hr : rp m P j ≠ j) : pJ n m P j 0 = pJ n m P (j + 1) 0 := by
  refine List.ext_getElem? fun g => ?_
  by_cases hg : g < n
  · rw [pJ_zero hg, pJ_zero hg]
    have : rp m P g ≠ j := fun e => hr (by rw [← e, s.rp_rp h hg])
    by_cases h1 : rp m P g < j
    · rw [if_pos h1, if_pos (by omega)]
    · rw [if_neg h1, if_neg (by omega)]
  · rw [List.getElem?_eq_none (by rw [pJ_len]; omega), List.getElem?_eq_none (by rw [pJ_len]; omega)]
theorem pJ_end (h : Hse n m) (s : Sub n m P) : (pJ n m P n 0).map Dt.int = nsD ((List.range n).map (plc m P)) := by
  refine List.ext_getElem? fun g => ?_
  unfold nsD
  rw [List.getElem?_map, List.getElem?_map, List.getElem?_map]
  by_cases hg : g < n
  · rw [pJ_zero hg, List.getElem?_range hg, if_pos (s.rp_lt h hg)]
    rfl
  · rw [List.getElem?_eq_none (by rw [pJ_len]; omega), List.getElem?_eq_none (by rw [List.length_range]; omega)]
    rfl
end
end VL
namespace VL
open PySem PySem.Spec PyProof.Rows L2 HM
def vIndex (ta tb : VTE) : VTE := fun env n Q => ta env n fun d1 env1 n1 => (∃ ds, d1 = .lst ds) ∧ vCons tb vNil env1 n1 fun as env2 n2 => ∃ (ns : List Int) (k : Int) (j : Nat), d1 = .lst (ns.map Dt.int) ∧ as = [.int k] ∧ ns[j]? = some k ∧ (∀ i z, i < j → ns[i]? = some z → z ≠ k) ∧ Q (nD j) env2 n2
section
variable {X : Cx} {c : Fc} {o e : Expr} {ta tb : VTE} {apos cpos : Pos}
theorem ve_index (ha : PE X o (tOf c ta)) (hb : PE X e (tOf c tb))
    (hbase : attributeBase o "index" X.env (eval o X.env) = eval o X.env := by rfl)
    (hfew : ((backTo cpos (starEach [e] X.env)).all (fun x => !x.1) && (backToKw cpos (keywordEach [] X.env)).all (fun x => x.1.isSome)
      && decide ([e].length + ([] : List Keyword).length + (if ([] : List Keyword).isEmpty then 0 else 1) < 30)) = true := by rfl)
    (hline : (apos.endLine == cpos.line) = true := by rfl) (hs : starEach [e] X.env = (false, eval e X.env) :: starEach [] X.env := by rfl) (hplain : (backTo cpos (starEach [] X.env)).any (·.1) = false := by rfl) :
    PE X (.Call (.Attribute o "index" apos) [e] [] cpos) (tOf c (vIndex ta tb)) :=
  PE.imp (pe_bm PySem.F.plainAttrs_list PySem.F.slot_list_index PySem.F.type_list_index mt_index ha (va_cons hb va_nil hs) hbase hfew hline hs hplain) fun σ H R ⟨F, env, n, Q, rr, q, k⟩ => by
    refine ⟨F, env, n, _, rr, q, fun v H1 F1 d1 env1 n1 r1 u1 p1 q1 => ?_⟩
    obtain ⟨⟨ds, rfl⟩, q1⟩ := q1
    obtain ⟨a, xs, rfl, hF, rx⟩ := p1.lst_inv
    refine ⟨.inl ⟨rfl, xs, .inl (.inl (r1.sub _ _ hF))⟩, F1, env1, n1, _, r1, q1, fun vs H2 F2 ds2 env2 n2 r2 u2 p2 q2 => ?_⟩
    · obtain ⟨ns, k', j, e1, rfl, e3, e4, q3⟩ := q2
      cases e1
      obtain ⟨v2, rfl, pv⟩ := p2.one
      rw [pv.int_inv]
      have ex : xs = ns.map V.int := rx.of_ints
      refine ⟨a, ns.map V.int, .int k', j, .int k', rfl, rfl, .inl (.inl (by rw [← ex]; exact r2.sub _ _ (u2 _ _ hF))), rfl, List.all_eq_true.mpr fun z hz => ?_, by rw [List.getElem?_map, e3]; rfl, by simp [eqV], fun i z hi hz => ?_, k _ _ F2 _ env2 n2 r2 (u1.trans u2) (.int _) q3⟩
      · obtain ⟨y, _, rfl⟩ := List.mem_map.mp hz
        rfl
      · rw [List.getElem?_map] at hz
        obtain ⟨y, hy, rfl⟩ := Option.map_eq_some_iff.mp hz
        have := e4 i y hi hy
        simpa [eqV] using this
end
def tabAm (am : Am) (Ps : List Addr) : Am where
  sp b := am.sp b ∨ b ∈ Ps
  ok n H := am.ok n H ∧ ∀ P ∈ Ps, GxR.TabG H P
  trk := fun {n H b} ⟨h1, h2⟩ hb z => by
    rcases hb with hb | hb
    · exact am.trk h1 hb z
    · obtain ⟨ps, e, _⟩ := h2 b hb
      rw [e] at z; cases z
  ntp := fun {n H b xs} ⟨h1, h2⟩ hb z => by
    rcases hb with hb | hb
    · exact am.ntp h1 hb z
    · obtain ⟨ps, e, _⟩ := h2 b hb
      rw [e] at z; cases z
  mono := fun {n H H'} ⟨h1, h2⟩ e c => ⟨am.mono h1 (fun b hb => e b (.inl hb)) c, fun P hP => by
    obtain ⟨ps, h3, h4⟩ := h2 P hP
    exact ⟨ps, by rw [e P (.inr hP)]; exact h3, h4⟩⟩
theorem tab_in {am : Am} {P : Addr} {Ps : List Addr} (no : ∀ {n H b}, am.ok n H → am.sp b → ∀ ps, H b ≠ some (.tbl ps)) (hP : P ∈ Ps) : TabIn (tabAm am Ps) P where
  sp := .inr hP
  rd := fun {n H} h => h.2 P hP
  wr := fun {n H H'} h t => ⟨am.mono h.1 (fun b hb => t.2 b fun z => by
    obtain ⟨ps, e, _⟩ := h.2 P hP
    exact no h.1 hb ps (by rw [z]; exact e)) (fun b oc x e2 => t.2 b fun z => by
    obtain ⟨ps, e, _⟩ := h.2 P hP
    rw [z, e] at e2
    cases e2), fun P' hP' => by
    by_cases z : P' = P
    · rw [z]; exact t.1
    · obtain ⟨ps, e1, e2⟩ := h.2 P' hP'
      exact ⟨ps, by rw [t.2 P' z]; exact e1, e2⟩⟩
end VL
namespace VL
open PySem PySem.Spec PyProof.Rows L2 HM
def pl3 (a : Addr) (t l : Int) : List V := [.ref a, .int t, .int l]
structure PenL (K : PySem.W.Frag) (am : Am) (p : Addr) : Prop where
  sp : am.sp p
  rd : ∀ {n H}, am.ok n H → ∃ a ns t l, H p = some (.lst (pl3 a t l)) ∧ Scr K H a ns ∧ ns.length ≤ 63 ∧ 0 ≤ t ∧ 0 ≤ l
  wr : ∀ {n H a t l}, am.ok n H → H p = some (.lst (pl3 a t l)) → ∀ (t' l' : Int), 0 ≤ t' → 0 ≤ l' → am.ok n (upd H p (.lst (pl3 a t' l')))
theorem PenL.out {K : PySem.W.Frag} {am : Am} {p a : Addr} (h : PenL K am p) {F H : Hp} {n : Nat} {t l : Int} (u : Up F H) (hs : ∀ a, am.sp a → F a = none) (ha : am.ok n H) (hp : H p = some (.lst (pl3 a t l))) {t' l' : Int} (h1 : 0 ≤ t') (h2 : 0 ≤ l') :
    Out am F H F (upd H p (.lst (pl3 a t' l'))) n :=
  ⟨Up.refl F, fun b o e => by rw [upd_ne (fun (z : b = p) => by rw [z, hs p h.sp] at e; cases e)]; exact u b o e, hs, fun _ _ _ _ e => e, fun b o e nb => by rw [upd_ne (fun (z : b = p) => nb (by rw [z]; exact h.sp))]; exact e, h.wr ha hp t' l' h1 h2⟩
def spPenL : Sp := fun vs H Q _ => ∃ a : Addr, vs = [.ref a] ∧ ∀ p, H p = none → Q (.ref p) (upd H p (.lst (pl3 a 0 0)))
def penLAm (K : PySem.W.Frag) (p a : Addr) (ns : List Int) (q : Prop) : Am where
  sp b := b = p ∨ (q ∧ b = a)
  ok _ H := (∃ t l, H p = some (.lst (pl3 a t l)) ∧ 0 ≤ t ∧ 0 ≤ l) ∧ (q → ∃ ob, H a = some (.frz ob (.lst (ns.map V.int)))) ∧ (¬ q → ∀ H', Scr K H' a ns)
  trk := fun {n H b} ⟨⟨t, l, h, _⟩, h2, _⟩ hb z => by
    rcases hb with rfl | ⟨hq, rfl⟩
    · rw [h] at z; cases z
    · obtain ⟨ob, h3⟩ := h2 hq
      rw [h3] at z; cases z
  ntp := fun {n H b xs} ⟨⟨t, l, h, _⟩, h2, _⟩ hb z => by
    rcases hb with rfl | ⟨hq, rfl⟩
    · rw [h] at z; cases z
    · obtain ⟨ob, h3⟩ := h2 hq
      rw [h3] at z; cases z
  mono := fun {n H H'} ⟨⟨t, l, h, h0⟩, h2, h3⟩ e _ => ⟨⟨t, l, by rw [e p (.inl rfl)]; exact h, h0⟩, fun hq => by
    obtain ⟨ob, h4⟩ := h2 hq
    exact ⟨ob, by rw [e a (.inr ⟨hq, rfl⟩)]; exact h4⟩, h3⟩
theorem penL_in {K : PySem.W.Frag} {p a : Addr} {ns : List Int} {q : Prop} (hl : ns.length ≤ 63) : PenL K (penLAm K p a ns q) p where
  sp := .inl rfl
  rd := fun {n H} ⟨⟨t, l, h, h1, h2⟩, h3, h4⟩ => ⟨a, ns, t, l, h, by
    by_cases hq : q
    · obtain ⟨ob, h5⟩ := h3 hq
      exact .inl ⟨ob, h5⟩
    · exact h4 hq H, hl, h1, h2⟩
  wr := fun {n H a' t l} ⟨⟨t1, l1, h, _⟩, h3, h4⟩ hp t' l' h1 h2 => by
    rw [h] at hp
    have ea : a = a' := by
      have : pl3 a t1 l1 = pl3 a' t l := by injection (Option.some.inj hp)
      injection this with e1
      injection e1
    refine ⟨⟨t', l', by rw [upd_same, ea], h1, h2⟩, fun hq => ?_, h4⟩
    obtain ⟨ob, h5⟩ := h3 hq
    refine ⟨ob, ?_⟩
    rw [upd_ne fun z => by rw [z, h] at h5; cases h5]
    exact h5
theorem tab_penL {K : PySem.W.Frag} {am : Am} {p : Addr} {Ps : List Addr} (h : PenL K am p) : PenL K (tabAm am Ps) p where
  sp := .inl h.sp
  rd := fun {n H} h1 => h.rd h1.1
  wr := fun {n H a t l} h1 e t' l' h2 h3 => ⟨h.wr h1.1 e t' l' h2 h3, fun P hP => by
    obtain ⟨ps, e1, e2⟩ := h1.2 P hP
    exact ⟨ps, by rw [upd_ne fun z => by rw [z, e] at e1; cases e1]; exact e1, e2⟩⟩
theorem penL_notab {K : PySem.W.Frag} {p a : Addr} {ns : List Int} {q : Prop} {n : Nat} {H : Hp} {b : Addr} (h : (penLAm K p a ns q).ok n H) (hb : (penLAm K p a ns q).sp b) (ps : Array Value) : H b ≠ some (.tbl ps) := fun z => by
  obtain ⟨⟨t, l, h1, _⟩, h2, _⟩ := h
  rcases hb with rfl | ⟨hq, rfl⟩
  · rw [h1] at z; cases z
  · obtain ⟨ob, h3⟩ := h2 hq
    rw [h3] at z; cases z
end VL
namespace HM
open PySem PySem.Spec PyProof.Rows L2
end HM
namespace VL
open PySem PySem.Spec PyProof.Rows L2 HM
def enD (xs : List Dt) : List Dt := zipD (rngD 0 xs.length) xs
theorem enD_get {xs : List Dt} {i : Nat} {z : Dt} (h : (enD xs)[i]? = some z) : ∃ x, xs[i]? = some x ∧ z = .tup [.int (i : Int), x] := by
  obtain ⟨a, b, ea, eb, rfl⟩ := zipD_get h
  rw [(rngD_get0 ea).1]
  exact ⟨b, eb, rfl⟩
theorem enD_len (xs : List Dt) : (enD xs).length = xs.length := by unfold enD; rw [zipD_len, rngD_len, Nat.min_self]
section
variable {c : Fc} {X : Cx} {tas : VTA}
theorem wk_enL {K : PySem.W.Frag} {F : Hp} {a : Addr} {xs : List V} {ds : List Dt} (h : F a = some (.lst xs)) (rx : Rps F xs ds) : Wk c.am (Ite K a) F (enD ds) := fun c _ F1 H σ env n r u i => by
  have hA : SqL K H a xs := .inl (.inl (r.sub _ _ (u _ _ h)))
  refine ⟨fun hi => ?_, fun hi => ⟨xs, hA, by rw [enD_len] at hi; rw [rx.len]; exact hi⟩⟩
  obtain ⟨d, ed, ez⟩ := enD_get (List.getElem?_eq_getElem hi)
  obtain ⟨v, e1, p1⟩ := rx.get ed
  refine ⟨⟨xs, v, hA, e1⟩, fun x H' y => ?_⟩
  obtain ⟨T, y1, rfl, nT, rfl, hy⟩ := y
  have q1 := hy xs hA
  rw [e1] at q1
  cases q1
  obtain ⟨_, _, nf⟩ := r.new0 nT
  exact ⟨upd F1 T (.tup [.int (i : Nat), v]), _, r.layF nT _, up_lay nf, List.getElem?_eq_getElem hi, by rw [ez]; exact .tup upd_same (.cons (.int _) (.cons ((p1.up u).up (up_lay nf)) .nil))⟩
def viEnum (ta : VTA) : VTI := fun env n Q => ta env n fun ds env1 n1 => ∃ xs, ds = [.lst xs] ∧ Q (enD xs) env1 n1
theorem vi_enum {e : Expr} {p pos tpos : Pos} {elts : List Expr} {kk : Nat} (hg : Gl X "enumerate") (hm : X.mg "enumerate" = none) (ha : PA X [e] (aOf c tas)) (hs : starEach [e] X.env = [(false, eval e X.env)] := by rfl) :
    PI X (.Tuple elts kk tpos) (.Call (.Name "enumerate" p) [e] [] pos) (iOf c (viEnum tas)) := PI.imp (pi_enum hg hm ha hs) fun σ H R ⟨F, env, n, Q, r, q, k⟩ => ⟨F, env, n, _, r, q, fun vs H' F' ds env' n' r' w rp qd => by
  obtain ⟨xs, rfl, qd⟩ := qd
  obtain ⟨v, rfl, p1⟩ := rp.one
  obtain ⟨a, us, rfl, hF, rx⟩ := p1.lst_inv
  exact ⟨a, us, rfl, .inl (.inl (r'.sub _ _ hF)), k _ H' F' _ env' n' r' w (wk_enL hF rx) qd⟩⟩
end
end VL
namespace VL
open PySem PySem.Spec PyProof.Rows L2 HM
theorem rng_ns (n : Nat) : rngD 0 ((n : Nat) : Int).toNat = nsD (List.range n) := by
  rw [show ((n : Int)).toNat = n by omega]
  unfold rngD nsD
  refine List.map_congr_left fun i _ => ?_
  rw [Int.zero_add]
  rfl
section
variable {n : Nat} {m : Nat → Nat → Nat} {P : List Nat}
theorem Led.iff (h : Hse n m) (s : Sub n m P) {g : Nat} (hg : g < n) {l : List Nat} (L : Led n m P g l) (y : Nat) : y ∈ l ↔ y < n ∧ cls m P g (m g y) := by
  obtain ⟨b, hb, e1, e2, mem⟩ := L.ex
  rw [mem y]
  constructor
  · rintro ⟨x, hx, rfl⟩
    have hx' := s.lt x hx
    have hbx := h.lt b x hb hx'
    refine ⟨h.lt _ _ hbx hg, x, hx, ?_⟩
    rw [← h.as g (m b x) g hg hbx hg, ← h.as g b x hg hb hx', e1, h.zl x hx']
  · rintro ⟨hy, x, hx, e⟩
    have hx' := s.lt x hx
    refine ⟨x, hx, ?_⟩
    rw [h.as b x g hb hx' hg, e, ← h.as b g y hb hg hy, e2, h.zl y hy]
theorem Led.cls_eq (h : Hse n m) (s : Sub n m P) {g k : Nat} (hg : g < n) (c : cls m P g k) {l l' : List Nat} (L : Led n m P g l) (L' : Led n m P k l') : l = l' := by
  have hk := s.lt2 h hg c
  refine rising_eq L.up L'.up fun y => ?_
  rw [L.iff h s hg y, L'.iff h s hk y]
  refine and_congr_right fun hy => ?_
  have hgy := h.lt g y hg hy
  have c2 : cls m P (m g y) (m k y) := by
    obtain ⟨z, hz, rfl⟩ := id c
    exact ⟨z, hz, (h.as z g y (s.lt z hz) hg hy).symm⟩
  exact ⟨fun d => s.trans h hk (s.symm h hg c) (s.trans h hg d c2), fun d => s.trans h hg c (s.trans h hk d (s.symm h hgy c2))⟩
theorem Led.uniq (h : Hse n m) (s : Sub n m P) {g : Nat} (hg : g < n) {l l' : List Nat} (L : Led n m P g l) (L' : Led n m P g l') : l = l' := L.cls_eq h s hg (s.refl h hg) L'
theorem led_ex (h : Hse n m) (s : Sub n m P) {g : Nat} (hg : g < n) : ∃ l, Led n m P g l := by
  obtain ⟨b, hb, e1, e2⟩ := h.inv2 hg
  refine ⟨(List.range n).filter fun y => decide (y ∈ P.map fun x => m (m b x) g), List.Pairwise.filter _ List.pairwise_lt_range, b, hb, e1, e2, fun y => ?_⟩
  rw [List.mem_filter, List.mem_range, decide_eq_true_iff, List.mem_map]
  exact ⟨fun z => z.2, fun ⟨x, hx, e⟩ => ⟨by rw [← e]; exact h.lt _ _ (h.lt b x hb (s.lt x hx)) hg, x, hx, e⟩⟩
theorem lst_mul (h : Hse n m) (s : Sub n m P) : (lst m P n).length * P.length = n := by
  have := mk_mul (O := []) h s (fun _ z => by cases z)
  unfold mkN PhiN at this
  rw [List.filter_eq_self.mpr (show ∀ g ∈ lst m P n, phi m P [] g = true from fun g _ => rfl), List.filter_eq_self.mpr (show ∀ g ∈ List.range n, phi m P [] g = true from fun g _ => rfl), List.length_range] at this
  exact this
theorem lst_plc {s : Nat} {g : Nat} : ∀ {j : Nat}, (lst m P j)[s]? = some g → g < j ∧ plc m P g = s
  | 0, e => by simp [lst] at e
  | j + 1, e => by
    rw [lst_succ] at e
    by_cases hs : s < (lst m P j).length
    · rw [List.getElem?_append_left hs] at e
      have := lst_plc (j := j) e
      exact ⟨by omega, this.2⟩
    · rw [List.getElem?_append_right (by omega)] at e
      by_cases z : isL m P j = true
      · rw [if_pos z] at e
        have hz : s - (lst m P j).length = 0 := by
          have := (List.getElem?_eq_some_iff.mp e).1
          rw [List.length_singleton] at this
          omega
        rw [hz] at e
        cases e
        have hr : rp m P g = g := of_decide_eq_true z
        refine ⟨by omega, ?_⟩
        unfold plc
        rw [hr]
        omega
      · rw [if_neg z] at e
        simp at e
theorem cls_plc (h : Hse n m) (s : Sub n m P) {g k : Nat} (hg : g < n) (hk : k < n) : plc m P g = plc m P k ↔ cls m P g k :=
  (s.plc_iff h hg hk).trans ⟨fun e => s.cls_of_rp h hg hk e, fun c => s.rp_eq h hg c⟩
end
end VL
namespace VL
open PySem PySem.Spec PyProof.Rows L2 HM
end VL
namespace VL
open PySem PySem.Spec PyProof.Rows L2 HM
theorem Sub.zero {n : Nat} {m : Nat → Nat → Nat} {P : List Nat} (s : Sub n m P) : P[0]? = some 0 := by
  cases P with
  | nil => cases s.ze
  | cons a l =>
    have : a = 0 := by
      rcases List.mem_cons.mp s.ze with z | z
      · exact z.symm
      · have := (List.pairwise_cons.mp s.up).1 0 z
        omega
    rw [this]
    rfl
theorem rising_ints {L : List Nat} (up : L.Pairwise (· < ·)) {ns : List Int} (pw : ns.Pairwise (· < ·)) (mem : ∀ j : Int, j ∈ ns ↔ decide (j ∈ L.map fun i : Nat => (i : Int)) = true) : ns.map Dt.int = nsD L := by
  have e : ns = L.map fun i : Nat => (i : Int) := by
    have pm : ns.Perm (L.map fun i : Nat => (i : Int)) := (List.perm_ext_iff_of_nodup (pw.imp fun z => Int.ne_of_lt z) (List.pairwise_map.mpr (up.imp fun z e => by omega))).mpr fun j => by rw [mem j, decide_eq_true_iff]
    exact List.Perm.eq_of_pairwise (fun a b _ _ h1 h2 => by omega) pw (List.pairwise_map.mpr (up.imp fun z => by omega)) pm
  rw [e, ← nsD_ints]
theorem mem_ints {L : List Nat} {i : Nat} : ((i : Nat) : Int) ∈ (L.map fun i : Nat => (i : Int)) ↔ i ∈ L := by
  rw [List.mem_map]
  exact ⟨fun ⟨a, ha, ea⟩ => by have : a = i := Int.ofNat_inj.mp ea; rw [← this]; exact ha, fun z => ⟨i, z, rfl⟩⟩
theorem pl_ls1 (l : List Nat) : pl (.lst (nsD l)) = true := pls_map (fun _ => rfl) l
theorem dep_ls1 (l : List Nat) : dep (.lst (nsD l)) ≤ 64 := Nat.le_trans (Nat.succ_le_succ (deps_map (f := nD) (k := 0) (fun _ => Nat.le_refl 0) l)) (by decide)
end VL
namespace VL
open PySem PySem.Spec PyProof.Rows L2 HM
section
variable {n : Nat} {m : Nat → Nat → Nat} {P : List Nat}
theorem led_zero (h : Hse n m) (s : Sub n m P) : Led n m P 0 P := ⟨s.up, 0, h.pos, h.zl 0 h.pos, h.zl 0 h.pos, fun y => by
  constructor
  · intro hy
    exact ⟨y, hy, by rw [h.zl y (s.lt y hy), h.zr y (s.lt y hy)]⟩
  · rintro ⟨x, hx, e⟩
    rw [h.zl x (s.lt x hx), h.zr x (s.lt x hx)] at e
    rw [← e]
    exact hx⟩
/-- by one, then by another -/
theorem Led.then_ (h : Hse n m) (s : Sub n m P) {a b : Nat} (ha : a < n) (hb : b < n) {l l2 : List Nat} (L : Led n m P a l) (L2 : Led n m l b l2) : Led n m P (m a b) l2 := by
  have hab := h.lt a b ha hb
  obtain ⟨l3, L3⟩ := led_ex h s hab
  have sl := L.sub h s ha
  have e : l3 = l2 := rising_eq L3.up L2.up fun y => by
    rw [L3.iff h s hab y, L2.iff h sl hb y]
    refine and_congr_right fun hy => ?_
    constructor
    · rintro ⟨z, hz, e⟩
      have hz' := s.lt z hz
      obtain ⟨c, hc, e1, e2⟩ := h.inv2 hb
      have hby := h.lt b y hb hy
      have hx := h.lt _ c hby hc
      have ex : m (m (m b y) c) b = m b y := by rw [h.as (m b y) c b hby hc hb, e2, h.zr _ hby]
      refine ⟨m (m b y) c, (L.iff h s ha _).mpr ⟨hx, z, hz, ?_⟩, ex⟩
      refine h.rc (h.lt z a hz' ha) (h.lt a _ ha hx) hb ?_
      rw [h.as z a b hz' ha hb, e, h.as a _ b ha hx hb, ex, h.as a b y ha hb hy]
    · rintro ⟨x, hx, e⟩
      obtain ⟨hxn, z, hz, e1⟩ := (L.iff h s ha x).mp hx
      have hz' := s.lt z hz
      exact ⟨z, hz, by rw [← h.as z a b hz' ha hb, e1, h.as a x b ha hxn hb, e, h.as a b y ha hb hy]⟩
  rw [← e]
  exact L3
end
end VL
namespace HM
open PySem PySem.Spec PyProof.Rows L2
section
variable {P : Program} {w : World} {A : Around} {E : Value → Shared → Prop} {s : Shared}
set_option maxHeartbeats 8000000 in
/-- set(xs), xs a tuple of whole numbers -/
theorem set_of_tup {l : Addr} {items : Array Value} (ns : List Int) {Q : Value → Shared → Prop} (hh : A.handled = none) (hl : s.heap.IsTuple l items) (hit : IntsAre items.toList ns) (hb : ns.length + 1 < scanBound)
    (h : ∀ (h' : Heap) (tk c : Nat), SetR w h' s.heap.objs.size (fun j => decide (j ∈ ns)) c → c ≤ ns.length → (∀ b o, s.heap.get? b = some o → h'.get? b = some o) → Q (.ref s.heap.objs.size) { s with heap := h', toks := tk }) :
    wpAny (model P w) A (call (.type "set") [.ref l]) Q E s := by
  have hsize : items.size = ns.length := by rw [← Array.length_toList]; exact IntsAre.length hit
  have hlS : l < s.heap.objs.size := let ⟨_, e, _⟩ := hl; Heap.lt_size e
  obtain ⟨c0, tl, hmro⟩ := F.called_set.mro
  have hmade := F.called_set.made
  have hsub := F.called_set.sub
  refine wpAny_call (codeAny_of_tree (show wpAny _ _ (callAny (.type "set") _) _ _ _ from wpAny_pure ⟨Code.quiet_builtin _ (by decide +kernel), codeAny_builtin F.entry_type_call ?_⟩))
  rw [Around.under_plain (weight_type_call_type "set" [.ref l] []) rfl]
  have h1 := F.called_set.notType
  have h2 := F.called_set.canCreate
  have hct := F.typeCall_set_1 (.ref l)
  repeat (any_goals (first | assumption | wp_step))
  refine codeAny_mono (code_set_led1 (.ref l) (E := E) (Q₁ := fun obj s₁ => obj = .ref s.heap.objs.size ∧ s₁ = { s with heap := s.heap.push (newSetO w) }) ⟨rfl, rfl⟩) fun r s₁ hr => ?_
  match r, hr with
  | .error e, hr => exact hr
  | .ok .next, hr => exact hr.elim
  | .ok .brk, hr => exact hr.elim
  | .ok .cont, hr => exact hr.elim
  | .ok (.ret obj), hr =>
    obtain ⟨rfl, rfl⟩ := hr
    have hS : (s.heap.push (newSetO w)).get? s.heap.objs.size = some (newSetO w) := Heap.get?_push_size _ rfl
    have hT : Shared.TypeIs { s with heap := s.heap.push (newSetO w) } (.ref s.heap.objs.size) "set" := ⟨_, hS, rfl⟩
    have hz1 : (s.heap.push (newSetO w)).objs.size = s.heap.objs.size + 1 := Heap.size_push ..
    have hli := F.called_set.init.lookup
    have hbi := F.called_set.init.bind (.ref s.heap.objs.size)
    repeat (any_goals (first | assumption | wp_step))
    refine codeAny_mono (codeAny_call_builtin (R := wants (fun r s₂ => r = .none ∧ ∃ h' tk c, s₂ = { s with heap := h', toks := tk } ∧ SetR w h' s.heap.objs.size (fun j => decide (j ∈ ns)) c ∧ c ≤ ns.length ∧ (∀ b o, s.heap.get? b = some o → h'.get? b = some o)) E)
      F.called_set.init.plain F.entry_set_init (check_set_init_1 hT ?_)) fun r₂ s₂ hr₂ => ?_
    · obtain ⟨⟨ocls, odict, odata, oslots⟩, hol, hcl, nl, hdl⟩ := hl
      simp only at hcl hdl
      subst hcl hdl
      have hol1 : (s.heap.push (newSetO w)).get? l = some { cls := .type "tuple", dict := odict, data := .seq items nl, slots := oslots } := Heap.get?_push_of_some _ hol
      have hl1 : (s.heap.push (newSetO w)).IsTuple l items := ⟨_, hol1, rfl, nl, rfl⟩
      have hsls := F.sub_tuple_set
      have hslf := F.sub_tuple_frozenset
      have hne : (Value.type "tuple" == Value.type "dict") = false := by decide
      unfold Builtin.«set.__init__» noKeywords Builtin.Frozenset.updateFrom
      generalize hPI : pyIter = PI
      wp_walk
      subst hPI
      refine wpAny_pyIter_tuple hl1 (wpAny_bind (wpAny_runValue ?_))
      have hneI : l ≠ (s.heap.push (newSetO w)).objs.size := by rw [hz1]; exact Nat.ne_of_lt (Nat.lt_succ_of_lt hlS)
      have hSf : s.heap.objs.size ∉ [(s.heap.push (newSetO w)).objs.size, l] := by
        rw [hz1]
        simp only [List.mem_cons, List.not_mem_nil, or_false, not_or]
        exact ⟨Nat.ne_of_lt (Nat.lt_succ_self _), Nat.ne_of_gt hlS⟩
      refine set_update_ints ((Walks.tuple (by simp [hh]) _ l hneI items).toS) s.heap.objs.size hSf ns hsize hb (fun i v hv => ?_) (items.size - 0) 0 _ (by omega) (Nat.zero_le _)
        ⟨⟨_, Heap.get?_push_size _ rfl, rfl, rfl⟩, (hl1.push _)⟩ ⟨0, Nat.le_refl 0, setR_new_at (Heap.get?_push_of_some _ hS)⟩ ?hR
      · have hi : i < ns.length := by rw [← hsize]; exact (Array.getElem?_eq_some_iff.mp hv).1
        obtain ⟨t, e⟩ := PyProof.Rows.IntsAre.int_at hit i v (by rw [Array.getElem?_toList]; exact hv)
        refine ⟨ns[i], t, List.getElem?_eq_getElem hi, ?_⟩
        rw [e, List.getD_eq_getElem?_getD, List.getElem?_eq_getElem hi] <;> rfl
      case hR =>
        intro s' c' hm hc' hS'
        obtain ⟨h', g2, d', tk', os'⟩ := s'
        obtain rfl : g2 = s.gens := hm.gens
        obtain rfl : d' = s.drawn := hm.drawn
        obtain rfl : os' = s.os := hm.os
        rw [hsize] at hc'
        refine wpAny_pure (show wpAny _ _ (ret Value.none) _ _ _ from wpAny_pure ⟨rfl, h', tk', c', rfl, hS', hc', fun b o e => ?_⟩)
        have hb0 : b < s.heap.objs.size := Heap.lt_size e
        refine hm.heap b o ?_ (Heap.get?_push_of_some _ (Heap.get?_push_of_some _ e))
        rw [hz1]
        simp only [List.mem_cons, List.not_mem_nil, or_false, not_or]
        exact ⟨Nat.ne_of_lt hb0, Nat.ne_of_lt (Nat.lt_succ_of_lt hb0)⟩
    · match r₂, hr₂ with
      | .error e, hr₂ => exact hr₂
      | .ok .next, hr₂ => exact hr₂.elim
      | .ok .brk, hr₂ => exact hr₂.elim
      | .ok .cont, hr₂ => exact hr₂.elim
      | .ok (.ret r), hr₂ =>
        obtain ⟨rfl, h', tk, c', rfl, hS', hc', hk'⟩ := hr₂
        repeat (any_goals (first | assumption | wp_step))
        exact h _ _ _ hS' hc' hk'
end
section
variable {X : Cx}
def rSetTu (K : PySem.W.Frag) (w : World) : List V → Hp → VK → Prop := fun xs H Q => ∃ (l : Addr) (ns : List Int), xs = [V.ref l] ∧ SqT K H l (ns.map V.int) ∧ ns.length ≤ 1000 ∧
  ∀ a c, H a = none → c ≤ ns.length → Q (.ref a) (upd H a (SetO w a (fun j => decide (j ∈ ns)) c))
theorem cr_setTu (hc : X.calm = true) : CallR X (.type "set") (rSetTu X.K X.w) := by
  intro pins s σ H xs us Q I r h
  obtain ⟨l, ns, rfl, hq, hl, q⟩ := h
  obtain ⟨u, rfl, rx⟩ := vals1 r
  cases rx
  obtain ⟨its, rv, pl, hz⟩ := I.tuple hq
  refine set_of_tup ns (I.ok.hd hc) pl (by simpa using rv.ints) (by unfold scanBound; omega) fun h' tk c hS hcl hk => ?_
  have hn : H s.heap.objs.size = none := I.hok.fresh (Nat.le_refl _)
  exact ⟨.ref _, _, I.laid (t' := tk) hk (Nat.le_refl _) (setO_new hS), rfl, q _ c hn hcl⟩
end
end HM
namespace VL
open PySem PySem.Spec PyProof.Rows L2 HM
/-- set(xs), xs a tuple -/
def dSetTu (w : World) : RCN := fun ds Q => ∃ ns : List Int, ds = [.tup (ns.map Dt.int)] ∧ ns.length ≤ 1000 ∧ ∀ m, m ≤ ns.length → Q (.set w (fun j => decide (j ∈ ns)) m)
theorem lft_setTu {K : PySem.W.Frag} {w : World} : LftN (rSetTu K w) (dSetTu w) := fun F H vs ds Q R u rp ⟨ns, h, hl, q⟩ k => by
  subst h
  obtain ⟨v, rfl, p⟩ := rp.one
  obtain ⟨a, xs, rfl, hF, rx⟩ := p.tup_inv
  rw [rx.of_ints] at hF
  exact ⟨a, ns, rfl, .inl (.inl (u _ _ hF)), hl, fun b m np hm => k b _ (.set w (fun j => decide (j ∈ ns)) m) np rfl (q m hm)⟩
theorem cr_setTuW {X : Cx} (w : World) (hw : X.w = w) (hc : X.calm = true) : CallR X (.type "set") (rSetTu X.K w) := hw ▸ cr_setTu hc
end VL
namespace HM
open PySem PySem.Spec PyProof.Rows L2
end HM
namespace VL
open PySem PySem.Spec PyProof.Rows L2 HM
end VL
namespace VL
open PySem PySem.Spec PyProof.Rows L2 HM
theorem two_ways1 {α : Type} (p : α → Nat → Bool) (H : α) (L : List α) (G : List Nat) : (G.filter (p H)).length + (G.map fun g => (L.filter (p · g)).length).sum = (G.map fun g => ((H :: L).filter (p · g)).length).sum := by
    induction G with
    | nil => rfl
    | cons g G ih =>
      rw [List.map_cons, List.map_cons, List.sum_cons, List.sum_cons, ← ih, List.filter_cons, List.filter_cons]
      by_cases e : p H g = true
      · rw [if_pos e, if_pos e, List.length_cons, List.length_cons]
        omega
      · rw [if_neg e, if_neg e]
        omega
/-- counted two ways -/
theorem two_ways {α : Type} (p : α → Nat → Bool) (G : List Nat) : ∀ L : List α, (L.map fun H => (G.filter (p H)).length).sum = (G.map fun g => (L.filter (p · g)).length).sum
  | [] => by
    rw [List.map_nil, List.sum_nil]
    induction G with
    | nil => rfl
    | cons g G ih => rw [List.map_cons, List.sum_cons, ← ih]; rfl
  | H :: L => by
    rw [List.map_cons, List.sum_cons, two_ways p G L]
    exact two_ways1 p H L G
theorem sum_ge {α : Type} {f : α → Nat} {c : Nat} : ∀ {L : List α}, (∀ x ∈ L, c ≤ f x) → L.length * c ≤ (L.map f).sum
  | [], _ => by simp
  | x :: L, h => by
    have := sum_ge (L := L) fun y hy => h y (List.mem_cons_of_mem _ hy)
    have := h x List.mem_cons_self
    rw [List.map_cons, List.sum_cons, List.length_cons, Nat.succ_mul]
    omega
theorem sum_le {α : Type} {f : α → Nat} {c : Nat} : ∀ {L : List α}, (∀ x ∈ L, f x ≤ c) → (L.map f).sum ≤ L.length * c
  | [], _ => by simp
  | x :: L, h => by
    have := sum_le (L := L) fun y hy => h y (List.mem_cons_of_mem _ hy)
    have := h x List.mem_cons_self
    rw [List.map_cons, List.sum_cons, List.length_cons, Nat.succ_mul]
    omega
def tb (n M : Nat) : Nat → Nat → Nat
  | 0, _ => 0
  | f + 1, k => if M ≤ k then 1 else (n - k) * (((List.range (M + 1)).filter fun j => decide (2 * k ≤ j)).map fun j => tb n M f j).foldr Nat.max 0 / (M - k)
theorem le_foldr_max {x : Nat} : ∀ {l : List Nat}, x ∈ l → x ≤ l.foldr Nat.max 0
  | y :: l, h => by
    rw [List.foldr_cons]
    rcases List.mem_cons.mp h with rfl | h
    · exact Nat.le_max_left _ _
    · exact Nat.le_trans (le_foldr_max h) (Nat.le_max_right _ _)
section
variable {n : Nat} {m : Nat → Nat → Nat} {K : List Nat}
theorem pt_ex (h : Hse n m) {gs : List Nat} (hg : ∀ g ∈ gs, g < n) : ∃ l, IsPt m gs l := by
  classical
  refine ⟨(List.range n).filter fun x => decide (Rch m gs x), List.Pairwise.filter _ List.pairwise_lt_range, fun x => ?_⟩
  rw [List.mem_filter, List.mem_range, decide_eq_true_iff]
  exact ⟨fun z => z.2, fun z => ⟨z.lt h.pos h.lt hg, z⟩⟩
theorem Sub.rch {P gs : List Nat} (s : Sub n m P) (hg : ∀ g ∈ gs, g ∈ P) : ∀ {x : Nat}, Rch m gs x → x ∈ P
  | _, .zero => s.ze
  | _, .step a g => s.mul _ (Sub.rch s hg a) _ (hg _ g)
/-- one gotten of itself -/
theorem rch_one (h : Hse n m) {gs : List Nat} {g : Nat} (hg : g ∈ gs) (hn : g < n) : Rch m gs g := by
  have : Rch m gs (m 0 g) := .step .zero hg
  rwa [h.zl g hn] at this
theorem Sub.twice (h : Hse n m) {P : List Nat} (s : Sub n m K) (s2 : Sub n m P) (hs : ∀ x ∈ K, x ∈ P) {g : Nat} (hg : g ∈ P) (hk : g ∉ K) : 2 * K.length ≤ P.length := by
  have hn := s2.lt g hg
  have := len_le_of_sub (k := K ++ K.map (m · g)) (l := P) (by
    rw [List.nodup_append]
    refine ⟨s.nd, List.pairwise_map.mpr (List.Pairwise.imp_of_mem (fun {a b} ha hb hab e => hab (h.rc (s.lt a ha) (s.lt b hb) hn e)) s.nd), fun a ha b hb e => ?_⟩
    subst e
    obtain ⟨y, hy, e⟩ := List.mem_map.mp hb
    obtain ⟨z, hz, e1, e2⟩ := s.inv h hy
    refine hk ?_
    have : m z (m y g) = g := by rw [← h.as z y g (s.lt z hz) (s.lt y hy) hn, e2, h.zl g hn]
    rw [← this, e]
    exact s.mul z hz a ha) fun x hx => by
    rcases List.mem_append.mp hx with hx | hx
    · exact hs x hx
    · obtain ⟨y, hy, rfl⟩ := List.mem_map.mp hx
      exact s2.mul y (hs y hy) g hg
  rw [List.length_append, List.length_map] at this
  omega
theorem cnt_in (s : Sub n m K) : ((List.range n).filter fun g => decide (g ∉ K)).length = n - K.length := by
  have e := (List.filter_append_perm (fun g => decide (g ∉ K)) (List.range n)).length_eq
  rw [List.length_append] at e
  have e2 : ((List.range n).filter fun g => !decide (g ∉ K)) = K := by
    refine rising_eq (List.Pairwise.filter _ List.pairwise_lt_range) s.up fun x => ?_
    rw [List.mem_filter, List.mem_range]
    constructor
    · rintro ⟨_, z⟩
      simpa using z
    · intro z
      exact ⟨s.lt x z, by simpa using z⟩
  rw [e2, List.length_range] at e
  omega
theorem few_over (h : Hse n m) (h60 : n ≤ 60) {M : Nat} : ∀ (f : Nat) {K : List Nat} {L : List (List Nat)}, Sub n m K → L.Nodup → (∀ H ∈ L, Sub n m H ∧ H.length = M ∧ ∀ x ∈ K, x ∈ H) → 60 < K.length * 2 ^ f → L.length ≤ tb n M f K.length := by
  intro f
  induction f with
  | zero =>
    intro K L s _ _ hb
    have := few_of_nodup s.nd s.lt
    omega
  | succ f ih =>
    intro K L s nd hL hb
    unfold tb
    split
    · rename_i hk
      -- one at most
      have he : ∀ H ∈ L, H = K := fun H hH => by
        obtain ⟨s2, e, hs⟩ := hL H hH
        exact rising_eq s2.up s.up fun x => ⟨fun z => full_of_nodup s.nd hs (by omega) x z, hs x⟩
      match L, nd, he with
      | [], _, _ => exact Nat.zero_le _
      | [_], _, _ => exact Nat.le_refl _
      | a :: b :: _, nd, he =>
        exact absurd (by rw [he a (by simp), he b (by simp)]) (fun z : a = b => (List.nodup_cons.mp nd).1 (by rw [z]; simp))
    · rename_i hk
      have hk : K.length < M := Nat.lt_of_not_le hk
      obtain ⟨B, eB⟩ : ∃ B, B = ((List.filter (fun j => decide (2 * K.length ≤ j)) (List.range (M + 1))).map fun j => tb n M f j).foldr Nat.max 0 := ⟨_, rfl⟩
      rw [← eB, Nat.le_div_iff_mul_le (by omega)]
      obtain ⟨G, eG⟩ : ∃ G, G = (List.range n).filter fun g => decide (g ∉ K) := ⟨_, rfl⟩
      have lG : G.length = n - K.length := by rw [eG, cnt_in s]
      have h1 : L.length * (M - K.length) ≤ (L.map fun H => (G.filter fun g => decide (g ∈ H)).length).sum := sum_ge fun H hH => by
        obtain ⟨s2, e, hs⟩ := hL H hH
        have := len_le_of_sub (k := H) (l := K ++ G.filter fun g => decide (g ∈ H)) s2.nd fun x hx => by
          by_cases z : x ∈ K
          · exact List.mem_append_left _ z
          · refine List.mem_append_right _ (List.mem_filter.mpr ⟨?_, decide_eq_true hx⟩)
            rw [eG]
            exact List.mem_filter.mpr ⟨List.mem_range.mpr (s2.lt x hx), decide_eq_true z⟩
        rw [List.length_append] at this
        omega
      have h2 : (G.map fun g => (L.filter fun H => decide (g ∈ H)).length).sum ≤ G.length * B := sum_le fun g hg => by
        rw [eG] at hg
        obtain ⟨hg1, hg2⟩ := List.mem_filter.mp hg
        have hgn := List.mem_range.mp hg1
        have hgk : g ∉ K := of_decide_eq_true hg2
        obtain ⟨K2, hK2⟩ := pt_ex h (gs := K ++ [g]) (fun x hx => by
          rcases List.mem_append.mp hx with hx | hx
          · exact s.lt x hx
          · rw [List.mem_singleton.mp hx]; exact hgn)
        have hlt : ∀ x ∈ K ++ [g], x < n := fun x hx => by
          rcases List.mem_append.mp hx with hx | hx
          · exact s.lt x hx
          · rw [List.mem_singleton.mp hx]; exact hgn
        have s2 := hK2.sub h hlt
        have hin : ∀ x ∈ K ++ [g], x ∈ K2 := fun x hx => (hK2.mem x).mpr (rch_one h hx (hlt x hx))
        have h2k := s.twice h s2 (fun x hx => hin x (List.mem_append_left _ hx)) (hin g (by simp)) hgk
        have hall : ∀ H ∈ L.filter (fun H => decide (g ∈ H)), Sub n m H ∧ H.length = M ∧ ∀ x ∈ K2, x ∈ H := fun H hH => by
          obtain ⟨z1, z2⟩ := List.mem_filter.mp hH
          obtain ⟨s3, e, hs⟩ := hL H z1
          refine ⟨s3, e, fun x hx => s3.rch (fun y hy => ?_) ((hK2.mem x).mp hx)⟩
          rcases List.mem_append.mp hy with hy | hy
          · exact hs y hy
          · rw [List.mem_singleton.mp hy]; exact of_decide_eq_true z2
        have := ih s2 (nd.sublist List.filter_sublist) hall (by
          have := Nat.mul_le_mul_right (2 ^ f) h2k
          rw [Nat.pow_succ] at hb
          have e9 : K.length * (2 ^ f * 2) = 2 * K.length * 2 ^ f := by
            rw [Nat.mul_comm (2 ^ f) 2, ← Nat.mul_assoc, Nat.mul_comm K.length 2]
          omega)
        cases hcase : L.filter (fun H => decide (g ∈ H)) with
        | nil => exact Nat.zero_le _
        | cons H Hs =>
          rw [hcase] at this hall
          obtain ⟨s3, e, hs⟩ := hall H List.mem_cons_self
          have hle := len_le_of_sub s2.nd hs
          refine Nat.le_trans this ?_
          rw [eB]
          refine le_foldr_max (List.mem_map.mpr ⟨K2.length, List.mem_filter.mpr ⟨List.mem_range.mpr (by omega), decide_eq_true h2k⟩, rfl⟩)
      rw [two_ways (fun H g => decide (g ∈ H)) G L] at h1
      rw [lG] at h2
      exact Nat.le_trans h1 h2
def tots (n : Nat) : Nat := (((List.range (n + 1)).filter fun M => decide (n % M = 0 ∧ 0 < M)).map fun M => tb n M 6 1).sum
theorem tots_le : ∀ n, n < 61 → tots n ≤ 2400 := by decide +kernel
theorem sum_le2 {f g : Nat → Nat} : ∀ {L : List Nat}, (∀ x ∈ L, f x ≤ g x) → (L.map f).sum ≤ (L.map g).sum
  | [], _ => by simp
  | x :: L, h => by
    have := sum_le2 (L := L) fun y hy => h y (List.mem_cons_of_mem _ hy)
    have := h x List.mem_cons_self
    rw [List.map_cons, List.map_cons, List.sum_cons, List.sum_cons]
    omega
/-- a house of at most sixty numbers has at most 2400 parts -/
theorem few_subs (h : Hse n m) (h60 : n ≤ 60) {L : List (List Nat)} (nd : L.Nodup) (hs : ∀ H ∈ L, Sub n m H) : L.length ≤ 2400 := by
  refine Nat.le_trans ?_ (tots_le n (by omega))
  obtain ⟨G, eG⟩ : ∃ G, G = (List.range (n + 1)).filter fun M => decide (n % M = 0 ∧ 0 < M) := ⟨_, rfl⟩
  have h1 : L.length * 1 ≤ (L.map fun H => (G.filter fun M => decide (H.length = M)).length).sum := sum_ge fun H hH => by
    have s := hs H hH
    have e := lst_mul h s
    have hp : 0 < H.length := List.length_pos_of_mem s.ze
    have hle := few_of_nodup s.nd s.lt
    refine List.length_pos_of_mem (a := H.length) (List.mem_filter.mpr ⟨?_, decide_eq_true rfl⟩)
    rw [eG]
    exact List.mem_filter.mpr ⟨List.mem_range.mpr (by omega), decide_eq_true ⟨Nat.mod_eq_zero_of_dvd ⟨_, by rw [Nat.mul_comm]; exact e.symm⟩, hp⟩⟩
  rw [two_ways (fun H M => decide (H.length = M)) G L, Nat.mul_one] at h1
  refine Nat.le_trans h1 ?_
  unfold tots
  rw [← eG]
  refine sum_le2 fun M hM => ?_
  have z : Sub n m [0] := ⟨List.pairwise_singleton .., fun x hx => by rw [List.mem_singleton.mp hx]; exact h.pos, by simp, fun x hx y hy => by
    rw [List.mem_singleton.mp hx, List.mem_singleton.mp hy, h.zl 0 h.pos]
    simp⟩
  exact few_over h h60 6 (K := [0]) z (nd.sublist List.filter_sublist) (fun H hH => by
    obtain ⟨z1, z2⟩ := List.mem_filter.mp hH
    refine ⟨hs H z1, of_decide_eq_true z2, fun x hx => ?_⟩
    rw [List.mem_singleton.mp hx]
    exact (hs H z1).ze) (by decide)
end
end VL
namespace VL
open PySem PySem.Spec PyProof.Rows L2 HM
def addT (ks : List (List Int)) (k : List Int) : List (List Int) := if k ∈ ks then ks else k :: ks
theorem nt_setG {P : Program} {w : World} {a : Addr} {L : List (Addr × List Int)} : NT (TG.SetGO P w a L) := fun _ z => by cases z
theorem addT_perm {L L' : List (Addr × List Int)} {ks : List (List Int)} {xa : Addr} {k : List Int} (pm : (L.map (·.2)).Perm ks) (h1 : k ∈ L.map (·.2) → L' = L) (h2 : k ∉ L.map (·.2) → L'.Perm ((xa, k) :: L)) : (L'.map (·.2)).Perm (addT ks k) ∧ ∀ p ∈ L', p ∈ L ∨ p = (xa, k) := by
  unfold addT
  by_cases e : k ∈ ks
  · rw [if_pos e, h1 (pm.mem_iff.mpr e)]
    exact ⟨pm, fun p hp => .inl hp⟩
  · rw [if_neg e]
    have h3 := h2 fun z => e (pm.mem_iff.mp z)
    have h4 : (L'.map (·.2)).Perm (k :: L.map (·.2)) := h3.map (fun p : Addr × List Int => p.2)
    refine ⟨h4.trans (pm.cons k), fun p hp => ?_⟩
    rcases List.mem_cons.mp (h3.mem_iff.mp hp) with z | z
    · exact .inr z
    · exact .inl z
section
variable {am : Am} {X : Cx} {e : Expr} {te : VTE} {pos : Pos} {F0 H0 : Hp}
def vSetOneT (P : Program) (w : World) (te : VTE) : VTN := fun env n Q => te env n fun d env1 n1 => ∃ k : List Int, d = .tup (k.map Dt.int) ∧ Q (.setT P w [k]) env1 n1
theorem vn_setOneT (hu : X.A.units + 64 < cLine) (hcd : PySem.W.kdsCode X.K X.env.code = true) (he : ∀ F0 H0, PE X e (tOf ⟨am, F0, H0⟩ te)) (hs : starEach [e] X.env = [(false, eval e X.env)] := by rfl) : PE X (.Set [e] 0 pos) (nOf ⟨am, F0, H0⟩ (vSetOneT X.prog X.w te)) :=
  PE.imp (TG.pe_setOneG (te := fun σ H R => ∃ F0 H0, tOf ⟨am, F0, H0⟩ te σ H R) hu hcd ⟨fun pins s σ H Q I ⟨F0, H0, q⟩ => (he F0 H0).run pins s σ H Q I q⟩ hs) fun σ H R ⟨F, env, n, Q, rr, q, k⟩ p np => by
  obtain ⟨r1, h0, hF0, ns⟩ := rr.laid np (TG.SetGO X.prog X.w p [])
  refine ⟨F0, _, F, env, n, _, r1, q, fun x H2 F2 d env2 n2 r2 u2 p2 q2 => ?_⟩
  obtain ⟨kk, rfl, q2⟩ := q2
  obtain ⟨xa, xs, rfl, hF, rx⟩ := p2.tup_inv
  have ex : xs = kk.map V.int := rx.of_ints
  subst ex
  obtain ⟨r7, eD, _, _⟩ := Rel.pop (c := ⟨am, F0, H0⟩) nt_setG r2 h0 hF0 ns
  exact ⟨xa, kk, rfl, .inl (.inl (r2.sub _ _ hF)), eD, nOf_wth (c := ⟨am, F0, H0⟩) nt_setG r2 h0 hF0 ns u2 (kk := .setT X.prog X.w [kk]) ⟨[(xa, kk)], rfl, .refl _, fun p hp => by rw [List.mem_singleton.mp hp]; exact hF⟩ q2 k⟩
end
section
variable {c : Fc} {X : Cx} {a b e o : Expr} {es : List Expr} {te ta tb : VTE} {tas : VTA} {tn : VTN} {pos apos cpos p : Pos}
/-- s.add(k) -/
def vSAddT (P : Program) (w : World) (i : Nat) (te : VTE) : VTE := fun env n Q => (∃ ks, env[i]? = some (.ow (.setT P w ks))) ∧ te env n fun d env1 n1 => ∃ ks, ∃ k : List Int, env1[i]? = some (.ow (.setT P w ks)) ∧ d = .tup (k.map Dt.int) ∧ ks.length + 1 ≤ 4914 ∧ Q .non (env1.set i (.ow (.setT P w (addT ks k)))) n1
theorem ve_saddT {i : Nat} (hu : X.A.units + 64 < cLine) (ho : PE X o (tVar i)) (ha : PE X e (tOf c te))
    (hbase : attributeBase o "add" X.env (eval o X.env) = eval o X.env := by rfl)
    (hfew : ((backTo cpos (starEach [e] X.env)).all (fun x => !x.1) && (backToKw cpos (keywordEach [] X.env)).all (fun x => x.1.isSome)
      && decide (([e] : List Expr).length + ([] : List Keyword).length + (if ([] : List Keyword).isEmpty then 0 else 1) < 30)) = true := by rfl)
    (hline : (apos.endLine == cpos.line) = true := by rfl) (hs : starEach [e] X.env = (false, eval e X.env) :: starEach [] X.env := by rfl) (hplain : (backTo cpos (starEach [] X.env)).any (·.1) = false := by rfl) :
    PE X (.Call (.Attribute o "add" apos) [e] [] cpos) (tOf c (vSAddT X.prog X.w i te)) := PE.imp (TG.pe_addG hu ho (pa_cons ha pa_nil hs) hbase hfew hline hs hplain) fun σ H R ⟨F, env, n, Q, rr, ⟨⟨ks0, e0⟩, h⟩, k⟩ => by
  obtain ⟨a, o, g1, g5, ow⟩ := rr.slotA e0
  obtain ⟨L0, ow', pm0, hL0⟩ := ow
  subst ow'
  refine ⟨_, g1, ⟨a, L0, rfl, g5, fun p hp => .inl (.inl (rr.sub _ _ (hL0 p hp)))⟩, F, env, n, _, rr, h, fun v H1 F1 d env1 n1 r1 u1 p1 q1 => ?_⟩
  obtain ⟨ks, kk, e1, rfl, hm, q1⟩ := q1
  obtain ⟨a2, o2, g2, g6, ow2⟩ := r1.slotA e1
  obtain ⟨L, ow2', pm, hL⟩ := ow2
  subst ow2'
  rw [g1] at g2
  cases g2
  obtain ⟨xa, xs, rfl, hF, rx⟩ := p1.tup_inv
  have ex : xs = kk.map V.int := rx.of_ints
  subst ex
  refine ⟨xa, a, kk, L, rfl, rfl, .inl (.inl (r1.sub _ _ hF)), g6, fun p hp => .inl (.inl (r1.sub _ _ (hL p hp))), by rw [← pm.length_eq, List.length_map] at hm; exact hm, fun L' z1 z2 => ?_⟩
  obtain ⟨w1, w2⟩ := addT_perm pm z1 z2
  exact k _ _ F1 _ _ n1 (r1.write (k' := .setT X.prog X.w (addT ks kk)) e1 g1 ⟨L', rfl, w1, fun p hp => by
    rcases w2 p hp with z | rfl
    · exact hL p z
    · exact hF⟩) u1 .non q1
/-- k not in s -/
def vSInT (P : Program) (w : World) (i : Nat) (te : VTE) : VTE := fun env n Q => te env n fun d env1 n1 => ∃ ks, ∃ k : List Int, env1[i]? = some (.ow (.setT P w ks)) ∧ d = .tup (k.map Dt.int) ∧ Q (.bl (!decide (k ∈ ks))) env1 n1
theorem snotinT_of {i : Nat} {P : Program} {w : World} {K : PySem.W.Frag} {σ : L2.St} {H : Hp} {R : VK} (h : tOf c (vSInT P w i te) σ H R) : tOp (TG.rInG true K P w) (tOf c te) (tVar i) σ H R := by
  obtain ⟨F, env, n, Q, rr, h, k⟩ := h
  refine ⟨F, env, n, _, rr, h, fun y H1 F1 d env1 n1 r1 u1 p1 q1 => ?_⟩
  obtain ⟨ks, kk, e1, rfl, q1⟩ := q1
  obtain ⟨a2, o2, g2, g6, ow2⟩ := r1.slotA e1
  obtain ⟨L, ow2', pm, hL⟩ := ow2
  subst ow2'
  obtain ⟨xa, xs, rfl, hF, rx⟩ := p1.tup_inv
  have ex : xs = kk.map V.int := rx.of_ints
  subst ex
  refine ⟨_, g2, xa, a2, kk, L, rfl, rfl, .inl (.inl (r1.sub _ _ hF)), g6, fun p hp => .inl (.inl (r1.sub _ _ (hL p hp))), ?_⟩
  have e2 : decide (kk ∈ L.map (·.2)) = decide (kk ∈ ks) := decide_eq_decide.mpr pm.mem_iff
  rw [e2]
  exact k _ H1 F1 _ env1 n1 r1 u1 (.bl _) q1
theorem vt_snotinT {i : Nat} (hu : X.A.units + 64 < cLine) (ha : PE X a (tOf c te)) (hb : PE X b (tVar i)) (hm : behindInMarks .NotIn b = false) : PT X (.Compare a [.NotIn] [b] pos) (cOf c (vB (vSInT X.prog X.w i te))) := PT.imp (pt_cmpR (TG.or_notinG hu) ha hb hm) fun _ _ _ => test_of snotinT_of
end
section
variable {am : Am} {F0 H0 : Hp} {c : Fc} {X : Cx} {a b e o : Expr} {te : VTE} {pos apos cpos : Pos}
theorem vn_setOneTW (P : Program) (w : World) (hP : X.prog = P) (hw : X.w = w) (hu : X.A.units + 64 < cLine) (hcd : PySem.W.kdsCode X.K X.env.code = true) (he : ∀ F0 H0, PE X e (tOf ⟨am, F0, H0⟩ te)) (hs : starEach [e] X.env = [(false, eval e X.env)] := by rfl) : PE X (.Set [e] 0 pos) (nOf ⟨am, F0, H0⟩ (vSetOneT P w te)) := hP ▸ hw ▸ vn_setOneT hu hcd he hs
theorem ve_saddTW (P : Program) (w : World) (hP : X.prog = P) (hw : X.w = w) {i : Nat} (hu : X.A.units + 64 < cLine) (ho : PE X o (tVar i)) (ha : PE X e (tOf c te))
    (hbase : attributeBase o "add" X.env (eval o X.env) = eval o X.env := by rfl)
    (hfew : ((backTo cpos (starEach [e] X.env)).all (fun x => !x.1) && (backToKw cpos (keywordEach [] X.env)).all (fun x => x.1.isSome)
      && decide (([e] : List Expr).length + ([] : List Keyword).length + (if ([] : List Keyword).isEmpty then 0 else 1) < 30)) = true := by rfl)
    (hline : (apos.endLine == cpos.line) = true := by rfl) (hs : starEach [e] X.env = (false, eval e X.env) :: starEach [] X.env := by rfl) (hplain : (backTo cpos (starEach [] X.env)).any (·.1) = false := by rfl) :
    PE X (.Call (.Attribute o "add" apos) [e] [] cpos) (tOf c (vSAddT P w i te)) := hP ▸ hw ▸ ve_saddT hu ho ha hbase hfew hline hs hplain
theorem vt_snotinTW (P : Program) (w : World) (hP : X.prog = P) (hw : X.w = w) {i : Nat} (hu : X.A.units + 64 < cLine) (ha : PE X a (tOf c te)) (hb : PE X b (tVar i)) (hm : behindInMarks .NotIn b = false) : PT X (.Compare a [.NotIn] [b] pos) (cOf c (vB (vSInT P w i te))) := hP ▸ hw ▸ vt_snotinT hu ha hb hm
end
end VL
namespace VL
open PySem PySem.Spec PyProof.Rows L2 HM
section
variable {c : Fc} {X : Cx} {e : Expr} {es : List Expr} {te : VTE} {tas : VTA} {p : Pos}
/-- *e, .. in a display -/
def vStar (te : VTE) (ta : VTA) : VTA := fun env n Q => te env n fun d env1 n1 => ∃ xs, (d = .tup xs ∨ d = .lst xs) ∧ ta env1 n1 fun ds env2 n2 => Q (xs ++ ds) env2 n2
theorem va_star (ha : PE X e (tOf c te)) (hr : PA X es (aOf c tas)) (hs : starEach (.Starred e p :: es) X.env = (true, eval e X.env) :: starEach es X.env := by rfl) : PA X (.Starred e p :: es) (aOf c (vStar te tas)) := PA.imp (StX.pa_star ha hr hs) fun σ H R ⟨F, env, n, Q, rr, q, k⟩ =>
  ⟨F, env, n, _, rr, q, fun v H1 F1 d env1 n1 r1 u1 p1 q1 => by
    obtain ⟨xs, hd, q1⟩ := q1
    rcases hd with rfl | rfl
    · obtain ⟨a, ys, rfl, hF, rx⟩ := p1.tup_inv
      exact ⟨a, ys, rfl, .inl (.inl (.inl (r1.sub _ _ hF))), F1, env1, n1, _, r1, q1, fun vs H2 F2 ds env2 n2 r2 u2 p2 q2 => k _ H2 F2 _ env2 n2 r2 (u1.trans u2) ((rx.up u2).append p2) q2⟩
    · obtain ⟨a, ys, rfl, hF, rx⟩ := p1.lst_inv
      exact ⟨a, ys, rfl, .inr (.inl (.inl (r1.sub _ _ hF))), F1, env1, n1, _, r1, q1, fun vs H2 F2 ds env2 n2 r2 u2 p2 q2 => k _ H2 F2 _ env2 n2 r2 (u1.trans u2) ((rx.up u2).append p2) q2⟩⟩
end
end VL
namespace VL
open PySem PySem.Spec PyProof.Rows L2 HM
section
variable {c : Fc} {X : Cx} {o : Expr} {pos p : Pos}
/-- sorted(a set of a slot) -/
def vSortZ (w : World) (i : Nat) : VTN := fun env n Q => ∃ S m, env[i]? = some (.ow (.set w S m)) ∧ m < 64 ∧ ∀ ns : List Int, ns.Pairwise (· < ·) → (∀ j : Int, j ∈ ns ↔ S j = true) → ns.length = m → Q (.lst (ns.map Dt.int)) env n
theorem vn_sortZ {i : Nat} (w : World) (hw : X.w = w) (hc : X.calm = true) (hg : Gl X "sorted") (hm : X.mg "sorted" = none) (ho : PE X o (tVar i)) (he : starEach [o] X.env = (false, eval o X.env) :: starEach [] X.env := by rfl) (hpl : (backTo pos (starEach [] X.env)).any (·.1) = false := by rfl) :
    PE X (.Call (.Name "sorted" p) [o] [] pos) (nOf c (vSortZ w i)) := PE.imp (pe_callB (cr_sortedSet hc) hg hm (by decide +kernel) (pa_cons ho pa_nil he) (by decide) (by decide) he hpl) fun σ H R ⟨F, env, n, Q, rr, ⟨S, m, e0, hlt, q⟩, k⟩ => by
  obtain ⟨a, o, g1, g5, ow⟩ := rr.slotA e0
  have ow' : o = SetO w a S m := ow
  subst ow'
  subst hw
  exact ⟨_, g1, a, S, m, rfl, g5, hlt, fun ns p h1 h2 h3 np => nOf_new rr (Up.refl F) np (kk := .lst (ns.map Dt.int)) ⟨_, rfl, Rps.ints ns⟩ (q ns h1 h2 h3) k⟩
end
end VL
namespace VL
open PySem PySem.Spec PyProof.Rows L2 HM
/-- O holds all that H is led to, H first -/
structure Orb (n : Nat) (m : Nat → Nat → Nat) (H : List Nat) (O : List (List Nat)) : Prop where
  hd : O[0]? = some H
  nd : O.Nodup
  mem : ∀ K, K ∈ O ↔ ∃ g, g < n ∧ Led n m H g K
/-- l leads by g -/
def IsCj (n : Nat) (m : Nat → Nat → Nat) (g : Nat) (l : List Nat) : Prop := ∃ b, b < n ∧ m g b = 0 ∧ m b g = 0 ∧ l = (List.range n).map fun k => m (m b k) g
def Gens (n : Nat) (m : Nat → Nat → Nat) (gs : List Nat) : Prop := gs.length ≤ n ∧ (∀ g ∈ gs, g < n) ∧ ∀ x, x < n → Rch m gs x
structure Leads (n : Nat) (m : Nat → Nat → Nat) (ls : List (List Nat)) : Prop where
  few : ls.length ≤ n
  cj : ∀ l ∈ ls, ∃ g, g < n ∧ IsCj n m g l
  all : ∃ gs, Gens n m gs ∧ ∀ g ∈ gs, ∃ l, IsCj n m g l ∧ (l ∈ ls ∨ l = List.range n)
structure Kinds (n : Nat) (m : Nat → Nat → Nat) (T : List (List (List Nat))) : Prop where
  orb : ∀ O ∈ T, ∃ H, Sub n m H ∧ Orb n m H O
  all : ∀ K, Sub n m K → ∃ O ∈ T, K ∈ O
  nd : T.flatten.Nodup
def tnD (L : List (List Nat)) : List Dt := L.map fun K => .tup (nsD K)
def tlD (L : List (List Nat)) : List Dt := L.map fun K => .lst (nsD K)
def ttD (T : List (List (List Nat))) : List Dt := T.map fun O => .lst (tnD O)
def spMakers : VSp := fun ds t Q _ => ∃ (n : Nat) (m : Nat → Nat → Nat), ds = [houD n m] ∧ Hse n m ∧ n ≤ 60 ∧ ∀ gs : List Nat, Gens n m gs → Q (.lst (nsD gs)) t
def spLeaders : VSp := fun ds t Q _ => ∃ (n : Nat) (m : Nat → Nat → Nat), ds = [houD n m] ∧ Hse n m ∧ n ≤ 60 ∧ ∀ ls : List (List Nat), Leads n m ls → Q (.lst (tlD ls)) t
def spAllLed : VSp := fun ds t Q _ => ∃ (n : Nat) (m : Nat → Nat → Nat) (ls : List (List Nat)) (H : List Nat), ds = [.lst (tlD ls), .tup (nsD H)] ∧ Hse n m ∧ n ≤ 60 ∧ Leads n m ls ∧ Sub n m H ∧ ∀ O, Orb n m H O → Q (.lst (tnD O)) t
def spGrown : VSp := fun ds t Q _ => ∃ (n : Nat) (m : Nat → Nat → Nat) (H gs : List Nat) (x : Nat), ds = [houD n m, .tup (nsD H), .lst (nsD gs), nD x] ∧ Hse n m ∧ n ≤ 60 ∧ gs.length ≤ 60 ∧ (∀ g ∈ gs, g < n) ∧ IsPt m gs H ∧ x < n ∧ ∀ l, IsPt m (gs ++ [x]) l → Q (.tup (nsD l)) t
def spByKind : VSp := fun ds t Q _ => ∃ (n : Nat) (m : Nat → Nat → Nat), ds = [houD n m] ∧ Hse n m ∧ n ≤ 60 ∧ ∀ T, Kinds n m T → Q (.lst (ttD T)) t
section
variable {n : Nat} {m : Nat → Nat → Nat} {P K H : List Nat}
theorem Led.back (h : Hse n m) (s : Sub n m P) {a b : Nat} (ha : a < n) (hb : b < n) (e : m a b = 0) {l : List Nat} (L : Led n m P a l) : Led n m l b P := by
  have sl := L.sub h s ha
  obtain ⟨l2, L2⟩ := led_ex h sl hb
  have L3 := L.then_ h s ha hb L2
  rw [e] at L3
  have := L3.uniq h s h.pos (led_zero h s)
  rw [← this]
  exact L2
theorem Led.mono (h : Hse n m) {a : Nat} (s : Sub n m P) (s2 : Sub n m K) (ha : a < n) (hs : ∀ x ∈ P, x ∈ K) {l k : List Nat} (L : Led n m P a l) (L2 : Led n m K a k) : ∀ x ∈ l, x ∈ k := fun x hx => by
  obtain ⟨h1, z, hz, e⟩ := (L.iff h s ha x).mp hx
  exact (L2.iff h s2 ha x).mpr ⟨h1, z, hs z hz, e⟩
theorem Orb.sub (h : Hse n m) (s : Sub n m H) {O : List (List Nat)} (o : Orb n m H O) : ∀ K ∈ O, Sub n m K := fun K hK => by
  obtain ⟨g, hg, L⟩ := (o.mem K).mp hK
  exact L.sub h s hg
theorem Orb.self (o : Orb n m H O) : H ∈ O := List.mem_of_getElem? o.hd
theorem Orb.led (h : Hse n m) (s : Sub n m H) {O : List (List Nat)} (o : Orb n m H O) {K l : List Nat} (hK : K ∈ O) {a : Nat} (ha : a < n) (L : Led n m K a l) : l ∈ O := by
  obtain ⟨g, hg, L1⟩ := (o.mem K).mp hK
  exact (o.mem l).mpr ⟨m g a, h.lt g a hg ha, L1.then_ h s hg ha L⟩
/-- two orbits with one part in common are alike -/
theorem Orb.same (h : Hse n m) {H2 : List Nat} (s : Sub n m H) (s2 : Sub n m H2) {O O2 : List (List Nat)} (o : Orb n m H O) (o2 : Orb n m H2 O2) {K : List Nat} (h1 : K ∈ O) (h2 : K ∈ O2) : ∀ x ∈ O2, x ∈ O := fun x hx => by
  obtain ⟨g, hg, L⟩ := (o2.mem K).mp h2
  obtain ⟨k, hk, Lx⟩ := (o2.mem x).mp hx
  obtain ⟨b, hb, e1, e2⟩ := h.inv2 hg
  have L3 := L.back h s2 hg hb e1
  exact o.led h s (o.led h s h1 hb L3) hk Lx
/-- led by the makers, all are met -/
theorem orb_all (h : Hse n m) (s : Sub n m H) {O : List (List Nat)} {gs : List Nat} (G : Gens n m gs) (h0 : H ∈ O) (cl : ∀ K ∈ O, ∀ g ∈ gs, ∀ l, Led n m K g l → l ∈ O) {x : Nat} (hx : x < n) {K : List Nat} (L : Led n m H x K) : K ∈ O := by
  have r := G.2.2 x hx
  induction r generalizing K with
  | zero =>
    rw [L.uniq h s h.pos (led_zero h s)]
    exact h0
  | @step a g r hg ih =>
    have ha := r.lt h.pos h.lt G.2.1
    have hgn := G.2.1 g hg
    obtain ⟨Ka, La⟩ := led_ex h s ha
    have sa := La.sub h s ha
    obtain ⟨l, Lg⟩ := led_ex h sa hgn
    have := cl Ka (ih ha La) g hg l Lg
    rwa [(La.then_ h s ha hgn Lg).uniq h s hx L] at this
/-- what leads nowhere -/
theorem led_still (h : Hse n m) (s : Sub n m K) {g : Nat} (hg : g < n) (c : IsCj n m g (List.range n)) {l : List Nat} (L : Led n m K g l) : l = K := by
  obtain ⟨b, hb, e1, e2, e⟩ := c
  obtain ⟨b2, hb2, f1, f2, mem⟩ := L.ex
  have eb : b2 = b := h.cn g b2 b hg hb2 hb (by rw [f1, e1])
  subst eb
  have id : ∀ x, x < n → m (m b2 x) g = x := fun x hx => by
    have := congrArg (·[x]?) e
    simp only [List.getElem?_map, List.getElem?_range hx] at this
    exact (Option.some.inj this).symm
  refine rising_eq L.up s.up fun y => ?_
  rw [mem y]
  exact ⟨fun ⟨x, hx, e⟩ => by rw [id x (s.lt x hx)] at e; rw [← e]; exact hx, fun hy => ⟨y, hy, id y (s.lt y hy)⟩⟩
/-- grown from each kind by each number, all parts are met -/
theorem all_met (h : Hse n m) {S : List (List Nat)} (h0 : [0] ∈ S) (led : ∀ K ∈ S, ∀ a, a < n → ∀ l, Led n m K a l → l ∈ S)
    (gr : ∀ K ∈ S, ∃ H, Sub n m H ∧ (∃ g, g < n ∧ Led n m H g K) ∧ ∀ y, y < n → ∃ l ∈ S, IsPt m (H ++ [y]) l) {K : List Nat} (s : Sub n m K) : K ∈ S := by
  suffices hh : ∀ (d : Nat) (P : List Nat), P ∈ S → Sub n m P → (∀ x ∈ P, x ∈ K) → K.length - P.length ≤ d → K ∈ S by
    have z : Sub n m [0] := ⟨List.pairwise_singleton .., fun x hx => by rw [List.mem_singleton.mp hx]; exact h.pos, by simp, fun x hx y hy => by
      rw [List.mem_singleton.mp hx, List.mem_singleton.mp hy, h.zl 0 h.pos]
      simp⟩
    exact hh _ [0] h0 z (fun x hx => by rw [List.mem_singleton.mp hx]; exact s.ze) (Nat.le_refl _)
  intro d
  induction d with
  | zero =>
    intro P hP sP hs hd
    have : K = P := rising_eq s.up sP.up fun x => ⟨fun z => full_of_nodup sP.nd hs (by omega) x z, hs x⟩
    rw [this]
    exact hP
  | succ d ih =>
    intro P hP sP hs hd
    by_cases hall : ∀ x ∈ K, x ∈ P
    · have : K = P := rising_eq s.up sP.up fun x => ⟨hall x, hs x⟩
      rw [this]
      exact hP
    · simp only [Classical.not_forall] at hall
      obtain ⟨x, hx, hxP⟩ := hall
      obtain ⟨H, sH, ⟨g, hg, L⟩, gr⟩ := gr P hP
      obtain ⟨b, hb, e1, e2⟩ := h.inv2 hg
      obtain ⟨K2, LK⟩ := led_ex h s hb
      have sK2 := LK.sub h s hb
      have LPH := L.back h sH hg hb e1
      have hHK := LPH.mono h sP s hb hs LK
      have hxn := s.lt x hx
      have hgx := h.lt g x hg hxn
      have hy := h.lt (m g x) b hgx hb
      -- y = g x b is in K led by b
      have hyK : m (m g x) b ∈ K2 := (LK.iff h s hb _).mpr ⟨hy, x, hx, by rw [← h.as b (m g x) b hb hgx hb, ← h.as b g x hb hg hxn, e2, h.zl x hxn]⟩
      obtain ⟨l, hl, pl⟩ := gr _ hy
      have hlt : ∀ z ∈ H ++ [m (m g x) b], z < n := fun z hz => by
        rcases List.mem_append.mp hz with hz | hz
        · exact sH.lt z hz
        · rw [List.mem_singleton.mp hz]; exact hy
      have sl := pl.sub h hlt
      have hHl : ∀ z ∈ H ++ [m (m g x) b], z ∈ l := fun z hz => (pl.mem z).mpr (rch_one h hz (hlt z hz))
      have hlK : ∀ z ∈ l, z ∈ K2 := fun z hz => sK2.rch (fun w hw => by
        rcases List.mem_append.mp hw with hw | hw
        · exact hHK w hw
        · rw [List.mem_singleton.mp hw]; exact hyK) ((pl.mem z).mp hz)
      obtain ⟨l2, L2⟩ := led_ex h sl hg
      have hl2 := led l hl g hg l2 L2
      have sl2 := L2.sub h sl hg
      have LK2 := LK.back h s hb hg e2
      have h2K := L2.mono h sl sK2 hg hlK LK2
      refine ih l2 hl2 sl2 h2K ?_
      have hyH : m (m g x) b ∉ H := fun z => hxP ((L.iff h sH hg x).mpr ⟨hxn, m (m g x) b, z, by rw [h.as (m g x) b g hgx hb hg, e2, h.zr _ hgx]⟩)
      have hlen : H.length + 1 ≤ l.length := by
        have := len_le_of_sub (k := m (m g x) b :: H) (l := l) (List.nodup_cons.mpr ⟨hyH, sH.nd⟩) fun z hz => by
          rcases List.mem_cons.mp hz with rfl | hz
          · exact hHl _ (by simp)
          · exact hHl z (List.mem_append_left _ hz)
        rwa [List.length_cons] at this
      rw [L2.len h sl hg]
      rw [L.len h sH hg] at hd
      omega
/-- grown by the least of a share, grown by all of the share -/
theorem grown_cls (h : Hse n m) (s : Sub n m H) {gs l : List Nat} (hgs : ∀ g ∈ gs, g < n) (hH : IsPt m gs H) {y k : Nat} (hy : y < n) (c : cls m H y k) (pl : IsPt m (gs ++ [k]) l) : IsPt m (H ++ [y]) l := by
  have hk := s.lt2 h hy c
  have l1 : ∀ g ∈ gs ++ [k], g < n := fun g hg => by
    rcases List.mem_append.mp hg with hg | hg
    · exact hgs g hg
    · rw [List.mem_singleton.mp hg]; exact hk
  have l2 : ∀ g ∈ H ++ [y], g < n := fun g hg => by
    rcases List.mem_append.mp hg with hg | hg
    · exact s.lt g hg
    · rw [List.mem_singleton.mp hg]; exact hy
  have sl := pl.sub h l1
  obtain ⟨l3, p3⟩ := pt_ex h l2
  have s3 := p3.sub h l2
  have i1 : ∀ g ∈ gs ++ [k], g ∈ l := fun g hg => (pl.mem g).mpr (rch_one h hg (l1 g hg))
  have i2 : ∀ g ∈ H ++ [y], g ∈ l3 := fun g hg => (p3.mem g).mpr (rch_one h hg (l2 g hg))
  have e : l = l3 := rising_eq pl.up p3.up fun x => ⟨fun hx => s3.rch (fun g hg => ?_) ((pl.mem x).mp hx), fun hx => sl.rch (fun g hg => ?_) ((p3.mem x).mp hx)⟩
  · rw [e]; exact p3
  · rcases List.mem_append.mp hg with hg | hg
    · exact i2 g (List.mem_append_left _ ((hH.mem g).mpr (rch_one h hg (hgs g hg))))
    · rw [List.mem_singleton.mp hg]
      obtain ⟨x, hx, rfl⟩ := c
      exact s3.mul x (i2 x (List.mem_append_left _ hx)) y (i2 y (by simp))
  · rcases List.mem_append.mp hg with hg | hg
    · exact sl.rch (fun z hz => i1 z (List.mem_append_left _ hz)) ((hH.mem g).mp hg)
    · rw [List.mem_singleton.mp hg]
      obtain ⟨x, hx, e⟩ := s.symm h hy c
      rw [← e]
      exact sl.mul x (sl.rch (fun z hz => i1 z (List.mem_append_left _ hz)) ((hH.mem x).mp hx)) k (i1 k (by simp))
end
end VL
namespace VL
open PySem PySem.Spec PyProof.Rows L2 HM
def kI (K : List Nat) : List Int := K.map fun i : Nat => (i : Int)
theorem kI_inj : ∀ {a b : List Nat}, kI a = kI b → a = b
  | [], [], _ => rfl
  | [], _ :: _, h => by cases h
  | _ :: _, [], h => by cases h
  | x :: a, y :: b, h => by
    unfold kI at h
    rw [List.map_cons, List.map_cons] at h
    injection h with h1 h2
    have : x = y := by omega
    rw [this, kI_inj h2]
theorem tup_kI (K : List Nat) : Dt.tup (nsD K) = .tup ((kI K).map Dt.int) := by rw [nsD_ints]; rfl
theorem tnD_len (L : List (List Nat)) : (tnD L).length = L.length := by unfold tnD; rw [List.length_map]
theorem tlD_len (L : List (List Nat)) : (tlD L).length = L.length := by unfold tlD; rw [List.length_map]
theorem ttD_len (L : List (List (List Nat))) : (ttD L).length = L.length := by unfold ttD; rw [List.length_map]
theorem tnD_get {L : List (List Nat)} {i : Nat} {K : List Nat} (h : L[i]? = some K) : atI (tnD L) i = some (.tup (nsD K)) := by
  rw [atI_nat]
  unfold tnD
  rw [List.getElem?_map, h]
  rfl
theorem ttD_get {L : List (List (List Nat))} {i : Nat} {K : List (List Nat)} (h : L[i]? = some K) : atI (ttD L) i = some (.lst (tnD K)) := by
  rw [atI_nat]
  unfold ttD
  rw [List.getElem?_map, h]
  rfl
theorem tnD_snoc (L : List (List Nat)) (K : List Nat) : tnD L ++ [.tup (nsD K)] = tnD (L ++ [K]) := by unfold tnD; rw [List.map_append]; rfl
theorem ttD_snoc (L : List (List (List Nat))) (K : List (List Nat)) : ttD L ++ [.lst (tnD K)] = ttD (L ++ [K]) := by unfold ttD; rw [List.map_append]; rfl
theorem nsD_snoc (L : List Nat) (i : Nat) : nsD L ++ [Dt.int (i : Int)] = nsD (L ++ [i]) := by unfold nsD; rw [List.map_append]; rfl
/-- a set of keys and a list of the same -/
def Same (ks : List (List Int)) (L : List (List Nat)) : Prop := (∀ K, kI K ∈ ks ↔ K ∈ L) ∧ ks.length = L.length
theorem Same.in_ {ks : List (List Int)} {L : List (List Nat)} (s : Same ks L) (K : List Nat) : decide (kI K ∈ ks) = decide (K ∈ L) := decide_eq_decide.mpr (s.1 K)
theorem Same.add {ks : List (List Int)} {L : List (List Nat)} (s : Same ks L) {K : List Nat} (h : K ∉ L) : Same (addT ks (kI K)) (L ++ [K]) := by
  unfold addT
  rw [if_neg fun z => h ((s.1 K).mp z)]
  refine ⟨fun k => ?_, by rw [List.length_cons, List.length_append, s.2]; rfl⟩
  rw [List.mem_cons, List.mem_append, List.mem_singleton, s.1]
  exact ⟨fun z => z.elim (fun z => .inr (kI_inj z)) .inl, fun z => z.elim .inr fun z => .inl (by rw [z])⟩
theorem same_one (K : List Nat) : Same [kI K] [K] := ⟨fun k => by rw [List.mem_singleton, List.mem_singleton]; exact ⟨kI_inj, fun z => by rw [z]⟩, rfl⟩
end VL
namespace VL
open PySem PySem.Spec PyProof.Rows L2 HM
/-- a set of numbers, listed -/
def SetN (S : Int → Bool) (c : Nat) (W : List Nat) : Prop := (∀ j : Int, S j = true ↔ ∃ i ∈ W, j = (i : Int)) ∧ W.Nodup ∧ c ≤ W.length
theorem SetN.in_ {S : Int → Bool} {c : Nat} {W : List Nat} (h : SetN S c W) (k : Nat) : S (k : Int) = decide (k ∈ W) := by
  rw [Bool.eq_iff_iff, h.1, decide_eq_true_iff]
  exact ⟨fun ⟨i, hi, e⟩ => by have : k = i := by omega
                              rw [this]; exact hi, fun z => ⟨k, z, rfl⟩⟩
theorem SetN.add {S : Int → Bool} {c : Nat} {W : List Nat} (h : SetN S c W) (k : Nat) : ∃ W', SetN (fun j => S j || decide (j = (k : Int))) (if S (k : Int) = true then c else c + 1) W' ∧ ∀ y, y ∈ W' ↔ y ∈ W ∨ y = k := by
  by_cases z : k ∈ W
  · refine ⟨W, ⟨fun j => ?_, h.2.1, ?_⟩, fun y => ⟨.inl, fun q => q.elim id fun q => by rw [q]; exact z⟩⟩
    · rw [Bool.or_eq_true, h.1, decide_eq_true_iff]
      exact ⟨fun q => q.elim id fun q => ⟨k, z, q⟩, .inl⟩
    · rw [h.in_, if_pos (decide_eq_true z)]
      exact h.2.2
  · refine ⟨W ++ [k], ⟨fun j => ?_, ?_, ?_⟩, fun y => by rw [List.mem_append, List.mem_singleton]⟩
    · rw [Bool.or_eq_true, h.1, decide_eq_true_iff]
      constructor
      · rintro (⟨i, hi, e⟩ | e)
        · exact ⟨i, List.mem_append_left _ hi, e⟩
        · exact ⟨k, by simp, e⟩
      · rintro ⟨i, hi, e⟩
        rcases List.mem_append.mp hi with hi | hi
        · exact .inl ⟨i, hi, e⟩
        · rw [List.mem_singleton.mp hi] at e
          exact .inr e
    · rw [List.nodup_append]
      exact ⟨h.2.1, by simp, fun a ha b hb q => z (by rw [List.mem_singleton.mp hb] at q; rw [← q]; exact ha)⟩
    · rw [h.in_, if_neg (by simp [z]), List.length_append]
      exact Nat.succ_le_succ h.2.2
/-- what grows of a part: whole cosets -/
structure Grow (n : Nat) (m : Nat → Nat → Nat) (H hs fs W : List Nat) : Prop where
  rc : ∀ y ∈ W, Rch m hs y
  f0 : 0 ∈ fs
  ndf : fs.Nodup
  fw : ∀ f ∈ fs, f ∈ W
  co : ∀ f ∈ fs, ∀ h ∈ H, m h f ∈ W
  of : ∀ y ∈ W, ∃ f ∈ fs, ∃ h ∈ H, m h f = y
theorem Grow.all {n : Nat} {m : Nat → Nat → Nat} {H hs fs W : List Nat} (h : Hse n m) (s : Sub n m H) (hh : ∀ g ∈ hs, g < n) (G : Grow n m H hs fs W) (cl : ∀ f ∈ fs, ∀ g ∈ hs, m f g ∈ W) (y : Nat) : y ∈ W ↔ Rch m hs y := by
  refine ⟨G.rc y, fun r => ?_⟩
  induction r with
  | zero => exact G.fw 0 G.f0
  | @step a g r hg ih =>
    obtain ⟨f, hf, x, hx, e⟩ := G.of a ih
    have hfn := (G.rc f (G.fw f hf)).lt h.pos h.lt hh
    obtain ⟨f2, hf2, x2, hx2, e2⟩ := G.of _ (cl f hf g hg)
    have hf2n := (G.rc f2 (G.fw f2 hf2)).lt h.pos h.lt hh
    rw [← e, h.as x f g (s.lt x hx) hfn (hh g hg), ← e2, ← h.as x x2 f2 (s.lt x hx) (s.lt x2 hx2) hf2n]
    exact G.co f2 hf2 _ (s.mul x hx x2 hx2)
end VL
namespace VL
open PySem PySem.Spec PyProof.Rows L2 HM
theorem pt_zero (m : Nat → Nat → Nat) : IsPt m [] [0] := ⟨List.pairwise_singleton .., fun x => by
  rw [List.mem_singleton]
  constructor
  · rintro rfl
    exact .zero
  · intro r
    cases r with
    | zero => rfl
    | step _ hg => cases hg⟩
theorem sub_zero {n : Nat} {m : Nat → Nat → Nat} (h : Hse n m) : Sub n m [0] := (pt_zero m).sub h fun g hg => by cases hg
theorem orb_zero {n : Nat} {m : Nat → Nat → Nat} (h : Hse n m) : Orb n m [0] [[0]] := ⟨rfl, by simp, fun K => by
  rw [List.mem_singleton]
  constructor
  · rintro rfl
    exact ⟨0, h.pos, led_zero h (sub_zero h)⟩
  · rintro ⟨g, hg, L⟩
    obtain ⟨b, hb, e1, e2, mem⟩ := L.ex
    refine rising_eq L.up (List.pairwise_singleton ..) fun y => ?_
    rw [mem y, List.mem_singleton]
    constructor
    · rintro ⟨x, hx, e⟩
      rw [List.mem_singleton.mp hx, h.zr b hb, e2] at e
      exact e.symm
    · rintro rfl
      exact ⟨0, by simp, by rw [h.zr b hb]; exact e2⟩⟩
theorem flat_ge : ∀ {T : List (List (List Nat))}, (∀ O ∈ T, O ≠ []) → T.length ≤ T.flatten.length
  | [], _ => Nat.le_refl _
  | O :: T, h => by
    have := flat_ge (T := T) fun O hO => h O (List.mem_cons_of_mem _ hO)
    have : 0 < O.length := List.length_pos_iff.mpr (h O List.mem_cons_self)
    rw [List.flatten_cons, List.length_append, List.length_cons]
    omega
theorem flat_snoc (T : List (List (List Nat))) (O : List (List Nat)) : (T ++ [O]).flatten = T.flatten ++ O := by simp
theorem tlD_get {L : List (List Nat)} {i : Nat} {K : List Nat} (h : L[i]? = some K) : atI (tlD L) i = some (.lst (nsD K)) := atI_nat (by unfold tlD; rw [List.getElem?_map, h]; rfl)
theorem tlD_snoc (L : List (List Nat)) (K : List Nat) : tlD L ++ [.lst (nsD K)] = tlD (L ++ [K]) := by unfold tlD; rw [List.map_append]; rfl
/-- what the search by kinds knows -/
structure Srch (n : Nat) (m : Nat → Nat → Nat) (T : List (List (List Nat))) (M : List (List Nat)) : Prop where
  nd : T.flatten.Nodup
  ze : [0] ∈ T.flatten
  len : M.length = T.length
  orb : ∀ (i : Nat) (O : List (List Nat)), T[i]? = some O → ∃ H gs, M[i]? = some gs ∧ IsPt m gs H ∧ (∀ g ∈ gs, g < n) ∧ gs.length + 1 ≤ H.length ∧ Orb n m H O
section
variable {n : Nat} {m : Nat → Nat → Nat} {T : List (List (List Nat))} {M : List (List Nat)}
theorem Srch.of_mem (S : Srch n m T M) {O : List (List Nat)} (hO : O ∈ T) : ∃ H gs, IsPt m gs H ∧ (∀ g ∈ gs, g < n) ∧ Orb n m H O := by
  obtain ⟨i, hi, e⟩ := List.getElem_of_mem hO
  obtain ⟨H, gs, _, h1, h2, _, h3⟩ := S.orb i O (by rw [List.getElem?_eq_getElem hi, e])
  exact ⟨H, gs, h1, h2, h3⟩
theorem Srch.few (h : Hse n m) (h60 : n ≤ 60) (S : Srch n m T M) : T.flatten.length ≤ 2400 ∧ T.length ≤ 2400 := by
  have h1 := few_subs h h60 S.nd fun K hK => by
    obtain ⟨O, hO, hK⟩ := List.mem_flatten.mp hK
    obtain ⟨H, gs, hp, hg, o⟩ := S.of_mem hO
    exact o.sub h (hp.sub h hg) K hK
  have h2 := flat_ge (T := T) fun O hO z => by
    obtain ⟨H, gs, hp, hg, o⟩ := S.of_mem hO
    have := o.hd
    rw [z] at this
    cases this
  exact ⟨h1, by omega⟩
theorem Srch.apart (h : Hse n m) (S : Srch n m T M) {l : List Nat} (s : Sub n m l) (hl : l ∉ T.flatten) {O : List (List Nat)} (o : Orb n m l O) : ∀ K ∈ O, K ∉ T.flatten := fun K hK hK2 => by
  obtain ⟨O2, hO2, hK2⟩ := List.mem_flatten.mp hK2
  obtain ⟨H, gs, hp, hg, o2⟩ := S.of_mem hO2
  exact hl (List.mem_flatten.mpr ⟨O2, hO2, o2.same h (hp.sub h hg) s o hK2 hK l o.self⟩)
theorem Srch.add (h : Hse n m) (S : Srch n m T M) {l gs : List Nat} (hp : IsPt m gs l) (hg : ∀ g ∈ gs, g < n) (hlen : gs.length + 1 ≤ l.length) (hl : l ∉ T.flatten) {O : List (List Nat)} (o : Orb n m l O) : Srch n m (T ++ [O]) (M ++ [gs]) := by
  have s := hp.sub h hg
  refine ⟨?_, by rw [flat_snoc]; exact List.mem_append_left _ S.ze, by rw [List.length_append, List.length_append, S.len]; rfl, fun i O2 hi => ?_⟩
  · rw [flat_snoc, List.nodup_append]
    exact ⟨S.nd, o.nd, fun a ha b hb e => S.apart h s hl o b hb (by rw [← e]; exact ha)⟩
  · rcases Nat.lt_or_ge i T.length with z | z
    · rw [List.getElem?_append_left z] at hi
      obtain ⟨H, gs2, h1, h2⟩ := S.orb i O2 hi
      exact ⟨H, gs2, by rw [List.getElem?_append_left (by rw [S.len]; exact z)]; exact h1, h2⟩
    · rw [List.getElem?_append_right z] at hi
      have hz : i - T.length = 0 := by
        have := (List.getElem?_eq_some_iff.mp hi).1
        rw [List.length_singleton] at this
        omega
      rw [hz] at hi
      cases hi
      exact ⟨l, gs, by rw [List.getElem?_append_right (by rw [S.len]; exact z), S.len, hz]; rfl, hp, hg, hlen, o⟩
theorem srch_start (h : Hse n m) : Srch n m [[[0]]] [[]] := ⟨by simp, by simp, rfl, fun i O hi => by
  match i, hi with
  | 0, hi =>
    cases hi
    exact ⟨[0], [], rfl, pt_zero m, fun g hg => (by cases hg), by decide, orb_zero h⟩
  | i + 1, hi => cases hi⟩
theorem Srch.all (h : Hse n m) (S : Srch n m T M) (cl : ∀ (i : Nat) (O : List (List Nat)) (H : List Nat), T[i]? = some O → O[0]? = some H → ∀ y, y < n → ∃ l ∈ T.flatten, IsPt m (H ++ [y]) l) : Kinds n m T := by
  refine ⟨fun O hO => ?_, fun K hK => ?_, S.nd⟩
  · obtain ⟨H, gs, hp, hg, o⟩ := S.of_mem hO
    exact ⟨H, hp.sub h hg, o⟩
  · have := all_met h (S := T.flatten) S.ze (fun K hK a ha l L => by
      obtain ⟨O, hO, hK⟩ := List.mem_flatten.mp hK
      obtain ⟨H, gs, hp, hg, o⟩ := S.of_mem hO
      exact List.mem_flatten.mpr ⟨O, hO, o.led h (hp.sub h hg) hK ha L⟩) (fun K hK => by
      obtain ⟨O, hO, hK⟩ := List.mem_flatten.mp hK
      obtain ⟨H, gs, hp, hg, o⟩ := S.of_mem hO
      obtain ⟨i, hi, e⟩ := List.getElem_of_mem hO
      exact ⟨H, hp.sub h hg, (o.mem K).mp hK, cl i O H (by rw [List.getElem?_eq_getElem hi, e]) o.hd⟩) hK
    obtain ⟨O, hO, hK⟩ := List.mem_flatten.mp this
    exact ⟨O, hO, hK⟩
end
end VL
namespace HM
open PySem PySem.Spec PyProof.Rows L2
/-- f(a), f a built-in -/
theorem rxB1 {prog : Program} {w : World} {A : Around} {env : Env} {S : Heap → Prop} {R : Value → Prop} {x : Str} {p pos : Pos} {a : Expr} {id : String} {Ra : Value → Prop} (fm : Firm S) (hf : RX prog w A env S (.Name x p) (fun v => v = .builtin id)) (ha : RX prog w A env S a Ra)
    (hc : ∀ (E : Value → Shared → Prop) (s : Shared) (u : Value), S s.heap → Ra u → wpAny (model prog w) A (call (.builtin id) [u]) (fun y s' => R y ∧ Keeps s s') E s)
    (he : starEach [a] env = (false, eval a env) :: starEach [] env := by rfl) (hpl : (backTo pos (starEach [] env)).any (·.1) = false := by rfl) :
    RX prog w A env S (.Call (.Name x p) [a] [] pos) R := fun E s hs => by
  refine wpAny_Call_Name_kw (thn (hf E s hs) fun fv s0 q0 => ?_)
  obtain ⟨rfl, k0⟩ := q0
  refine PyProof.Rows.callWith_builtin1 ?_ he hpl
  rw [he]
  show wpAny _ _ (spliced ((false, eval a env) :: backTo pos (starEach [] env))) _ _ s0
  have hs0 := fm _ _ hs (kp_grows k0)
  refine Calls.spliced_cons (thn (ha E s0 hs0) fun u s1 q1 => ?_)
  have hs1 := fm _ _ hs0 (kp_grows q1.2)
  refine Calls.spliced_nil ?_
  exact thn (hc E s1 u hs1 q1.1) fun y s3 q3 => ⟨q3.1, kp_trans k0 (kp_trans q1.2 q3.2)⟩
theorem readsI {h : Heap} : ∀ {b : List Int} {its : List Value}, Vals (b.map V.int) its → ReadsAll h its (b.map .int) []
  | [], _, .nil => .nil
  | i :: b, _, .cons r t => by
    obtain ⟨k, e⟩ : ∃ k, _ = Value.int i k := r
    subst e
    exact ReadsAll.cons (as := []) (.int i k) (readsI t)
theorem reads_tup {h : Heap} {a : Addr} {b : List Int} {its : List Value} (ht : IsTup h a its.toArray) (hv : Vals (b.map V.int) its) : Reads h (.ref a) (.tuple (b.map .int)) [] := by
  obtain ⟨o, e1, e2, n, e3⟩ := ht
  exact .tuple e1 e2 e3 (readsI hv)
/-- what a key function of (len(x), x) gives -/
def rankK (b : List Int) : PyData := .tuple [.int b.length, .tuple (b.map .int)]
theorem raw_rank {P : Program} {w : World} {A : Around} {env : Env} {E : Value → Shared → Prop} {K : PySem.W.Frag} {mg : Str → Option Value} {x : Str} {p1 p2 p3 p4 p5 : Pos} {cx : Nat} {L a : Addr} {b : List Int} {its : List Value} {h0 : Heap} {s : Shared}
    (hk : env.scope.kind = .function) (hx : env.kindOf x = some .local) (hl : env.kindOf "len" = some .globalImplicit) (hg : env.globals = mainGlobals) (hb : env.builtins = builtinsNs) (hL : env.locals = L) (hm : mg "len" = none) (hS : FrS K mg h0 L [(x, .ref a)] s.heap)
    (ht : IsTup h0 a its.toArray) (hv : Vals (b.map V.int) its) (hz : b.length ≤ 5000) (hd : (x == ("__debug__" : Str)) = false) {Q : Value → Shared → Prop} (h : ∀ v s', Keeps s s' → Reads s'.heap v (rankK b) [] → Q v s')
    (hs1 : starEach [.Call (.Name "len" p1) [.Name x p2] [] p3, .Name x p4] env = (false, eval (.Call (.Name "len" p1) [.Name x p2] [] p3) env) :: starEach [.Name x p4] env := by rfl) (hs2 : starEach [.Name x p4] env = (false, eval (.Name x p4) env) :: starEach [] env := by rfl) :
    wpAny (model P w) A (eval (.Tuple [.Call (.Name "len" p1) [.Name x p2] [] p3, .Name x p4] cx p5) env) Q E s := by
  have up : ∀ {h : Heap}, FrS K mg h0 L [(x, .ref a)] h → IsTup h a its.toArray := fun {h} q => by
    obtain ⟨o, e1, e2⟩ := ht
    exact ⟨o, q.2.1 _ _ e1, e2⟩
  have rn : ∀ {p : Pos}, RX P w A env (FrS K mg h0 L [(x, .ref a)]) (.Name x p) (fun y => y = .ref a) := fun {p} => rx_local hk hx (fun h q => ⟨_, by rw [hL]; exact q.2.2, by simp⟩) hd
  have hlen : its.length = b.length := by rw [← hv.length, List.length_map]
  have rl : RX P w A env (FrS K mg h0 L [(x, .ref a)]) (.Call (.Name "len" p1) [.Name x p2] [] p3) (fun y => ∃ t, y = .int b.length t) := rxB1 frs_firm (rx_blt (v := .builtin "len") hk hl hg hb (fun h q => q.1) hm (by decide +kernel)) rn fun E s u hs hu => by
    subst hu
    exact len_tuple (up hs) (by simp only [List.size_toArray]; omega) ⟨⟨_, by rw [List.size_toArray, hlen]⟩, kp_tok s _⟩
  refine wpAny_Tuple_spliced ?_
  rw [hs1]
  show wpAny _ _ (spliced ((false, eval (.Call (.Name "len" p1) [.Name x p2] [] p3) env) :: backTo p5 (starEach [.Name x p4] env))) _ _ s
  refine Calls.spliced_cons (thn (rl E s hS) fun u s1 q1 => ?_)
  rw [hs2]
  show wpAny _ _ (spliced ((false, eval (.Name x p4) env) :: backTo p5 (starEach [] env))) _ _ s1
  have hS1 := frs_firm _ _ hS (kp_grows q1.2)
  refine Calls.spliced_cons (thn (rn (p := p4) E s1 hS1) fun u2 s2 q2 => ?_)
  refine Calls.spliced_nil ⟨by show 2 ≤ sizeLine; decide, ?_⟩
  obtain ⟨⟨t, rfl⟩, k1⟩ := q1
  obtain ⟨rfl, k2⟩ := q2
  have k3 := kp_trans k1 k2
  have hS2 := frs_firm _ _ hS (kp_grows k3)
  refine h _ _ (kp_trans k3 ⟨_, _, rfl, fun b o e => Heap.get?_push_of_some _ e⟩) ?_
  have ht2 : IsTup (s2.heap.push { cls := .type "tuple", data := .seq [Value.int (↑b.length) t, .ref a].toArray }) a its.toArray := by
    obtain ⟨o, e1, e2⟩ := up hS2
    exact ⟨o, Heap.get?_push_of_some _ e1, e2⟩
  exact .tuple (Heap.get?_push_size _ rfl) rfl rfl (ReadsAll.cons (as := []) (.int _ _) (ReadsAll.cons (as := []) (reads_tup ht2 hv) .nil))
/-- a lambda of one name that gives (len(x), x), called -/
theorem raw_lam {P : Program} {w : World} {A : Around} {E : Value → Shared → Prop} {K : PySem.W.Frag} {mg : Str → Option Value} {x q : Str} {params : Arguments} {scope : Scope} {cl : List (Str × Addr)} {pm ctv : Value} {p1 p2 p3 p4 p5 : Pos} {cx : Nat} {f c' a : Addr} {b : List Int} {its : List Value} {s : Shared}
    (hf : s.heap.get? f = some (PySem.W.kla_obj "<lambda>" q params (.Tuple [.Call (.Name "len" p1) [.Name x p2] [] p3, .Name x p4] cx p5) scope cl pm c' ctv)) (hcd : s.heap.CodeRec (.ref c') q) (M : L2.Mod K mg s.heap) (hroom : A.depth < recursionLimit)
    (hbind : bindArgs (PySem.W.kla_fn "<lambda>" q params (.Tuple [.Call (.Name "len" p1) [.Name x p2] [] p3, .Name x p4] cx p5) scope cl pm (.ref c') ctv) ⟨[.ref a], []⟩ = pure [(x, .ref a)])
    (hk : scope.kind = .function) (hx : scope.names.lookup x = some .local) (hl : scope.names.lookup ("len" : Str) = some .globalImplicit) (hcell : ∀ y ∈ scope.names, y.2 ≠ .cell) (hco : scope.isCoroutine = false) (hgen : scope.isGenerator = false) (hm : mg "len" = none)
    (ht : IsTup s.heap a its.toArray) (hv : Vals (b.map V.int) its) (hz : b.length ≤ 5000) (hd : (x == ("__debug__" : Str)) = false) :
    wpAny (model P w) A (call (.ref f) [.ref a]) (PySem.W.KeyPure (rankK b) s) E s := by
  refine wpAny_call (PySem.W.kla_callFunE hroom hf rfl hco hgen rfl hcd ?_)
  rw [hbind]
  refine wpAny_pure (wpAny_newFunctionEnv hcell (fun y hy => by rw [List.mem_singleton.mp hy]; exact hx) (fun h₁ hns hsb => ⟨M.nolimit.fresh _ hsb, ?_⟩) hk)
  have kp : ∀ b o, s.heap.get? b = some o → h₁.get? b = some o := fun b o e => hsb.extBut b o (Nat.ne_of_lt (Heap.lt_size e)) (Heap.get?_push_of_some _ e)
  refine PySem.W.kla_codeExpr (raw_rank (h0 := s.heap) (mg := mg) (K := K) (L := s.heap.objs.size) hk (by show List.lookup _ _ = _; exact hx) (by show List.lookup _ _ = _; exact hl) rfl rfl rfl hm ⟨mod_up M kp, kp, hns⟩ ht hv hz hd fun v s' ks hr => ?_)
  obtain ⟨h2, t2, rfl, k2⟩ := ks
  exact ⟨h2, t2, rfl, fun b o e => k2 b o (kp b o e), hr⟩
end HM
namespace HM
open PySem PySem.Spec PyProof.Rows L2 LamX
/-- the table at P: each code object that it tells is known, and bears the name q -/
def TabF (H : Hp) (P : Addr) (q : Str) : Prop := ∃ ps : Array Value, H P = some (.tbl ps) ∧ TriplesOk ps.toList ∧ ∀ (pos : Pos) (cv : Value), codeAmong pos ps.toList = some cv → ∃ c oc vs t, cv = .ref c ∧ H c = some (.frz oc (.own c)) ∧ oc.data = .fields vs ∧ vs[1]? = some (.str q t)
/-- H' is H but for the table at P, and what is new -/
def TabUp (P : Addr) (q : Str) (H H' : Hp) : Prop := TabF H' P q ∧ ∀ b, b ≠ P → H b ≠ none → H' b = H b
theorem TabF.keep {H H' : Hp} {P P' : Addr} {q : Str} (t : TabF H P q) (h : ∀ b, b ≠ P' → H b ≠ none → H' b = H b) (ne : P ≠ P') (hP : ∃ ps, H P' = some (.tbl ps)) : TabF H' P q := by
  obtain ⟨ps, h1, h2, h3⟩ := t
  refine ⟨ps, by rw [h P ne (by rw [h1]; simp)]; exact h1, h2, fun pos cv e => ?_⟩
  obtain ⟨c, oc, vs, t, e1, e2, e3⟩ := h3 pos cv e
  refine ⟨c, oc, vs, t, e1, ?_, e3⟩
  rw [h c (fun z => by obtain ⟨ps', e'⟩ := hP; rw [z, e'] at e2; cases e2) (by rw [e2]; simp)]
  exact e2
section
variable {X : Cx} {pins : List (Addr × Obj)} {σ : L2.St} {H : Hp} {s : Shared}
theorem inv_tableF {P c : Addr} {oc : Obj} {ps more : Array Value} {h' : Heap} {t' : Nat} (I : Inv X pins σ H s) (hP : H P = some (.tbl ps)) (k : ∀ b o, b ≠ P → s.heap.get? b = some o → h'.get? b = some o)
    (hm : h'.get? P = some { cls := .none, data := .fields (ps ++ more) }) (hc : s.heap.objs.size ≤ c) (ho : h'.get? c = some oc) :
    Inv X pins σ (upd (upd H P (.tbl (ps ++ more))) c (.frz oc (.own c))) { s with heap := h', toks := t' } := by
  have nC : H c = none := I.hok.fresh hc
  have nPc : P ≠ c := ne_of_none hP nC
  have at_ : ∀ b, b ≠ P → b ≠ c → upd (upd H P (.tbl (ps ++ more))) c (.frz oc (.own c)) b = H b := fun b h1 h2 => by rw [upd_ne h2, upd_ne h1]
  have atP : upd (upd H P (.tbl (ps ++ more))) c (.frz oc (.own c)) P = some (.tbl (ps ++ more)) := by rw [upd_ne nPc, upd_same]
  have nP : ∀ b u, H b = some u → (∀ q, u ≠ .tbl q) → b ≠ P := fun b u e q z => by
    rw [z, hP] at e
    exact q ps (Option.some.inj e).symm
  have nN : ∀ b, H b = none → b ≠ P := fun b e z => by
    rw [z, hP] at e
    cases e
  have lt' : ∀ b o, s.heap.get? b = some o → b ≠ c := fun b o e z => by
    rw [z] at e
    exact Nat.lt_irrefl _ (Nat.lt_of_lt_of_le (Heap.lt_size e) hc)
  have sm : ∀ b u, H b = some u → b ≠ c := fun b u e => ne_of_none e nC
  refine I.step (g' := s.gens) (d' := s.drawn) (ch := []) (fun b hb => absurd hb (by simp)) (fun b o _ _ _ e n => k b o (nN b n) e) (fun b o _ _ _ e n => ⟨o.slots, k b o (nN b n) e⟩)
    (fun b o _ e n => by rw [at_ b (nN b n) (lt' b o e)]; exact n) (fun b o _ e => ?_) (fun b xs e => by rw [at_ b (nP b _ e (fun q z => by cases z)) (sm b _ e)]; exact e) (fun b o u e => by rw [at_ b (nP b _ e (fun q z => by cases z)) (sm b _ e)]; exact e) (fun b qs e => ?_) (fun m hn => ?_) (fun b u e => ?_) I.bare
  · by_cases hb : b = P
    · rw [hb]
      exact ⟨_, hm⟩
    · exact ⟨o, k b o hb e⟩
  · by_cases hb : b = P
    · rw [hb, hP] at e
      cases e
      rw [hb, atP]
      exact ⟨more, rfl⟩
    · rw [at_ b hb (sm b _ e), e]
      exact ⟨#[], by simp⟩
  · obtain ⟨ob, es, ep, ho, r⟩ := hn
    exact ⟨ob, es, ep, k _ ob (nN _ I.free) ho, r⟩
  · by_cases hb : b = c
    · rw [hb, upd_same] at e
      cases e
      rw [hb]
      exact ⟨ho, oc, ho⟩
    · by_cases hb2 : b = P
      · rw [hb2, atP] at e
        cases e
        rw [hb2]
        exact hm
      · rw [at_ b hb2 hb] at e
        refine (I.hok b u e).stay (fun d v hd q => k d v ?_ q) (fun d q => by rw [at_ d (nP d _ q (fun q z => by cases z)) (sm d _ q)]; exact q) fun d xs q => by rw [at_ d (nP d _ q (fun q z => by cases z)) (sm d _ q)]; exact q
        rcases hd with z | z
        · rw [z]
          exact hb2
        · exact nP d _ z (fun q z => by cases z)
/-- the lambda is made: its code object is new, or found in the table -/
theorem lam_makeF {c P : Addr} {q : Str} {params : Arguments} {body : Expr} {scope : Scope} {pos : Pos} {E : Value → Shared → Prop} {Q : Value → Shared → Prop} (I : Inv X pins σ H s) (TB : GxR.TabB X.base X.mg c P) (hcode : X.env.code = .ref c)
    (hq : X.env.qual ++ "<lambda>" = q) (hT : TabF H P q) (hdef : defaultsOf params X.env = ([], [])) (hfree : ∀ y ∈ scope.names, y.2 = .free → ∃ c, X.env.cells.lookup y.1 = some c)
    (h : ∀ (f c' : Addr) (cl : List (Str × Addr)) (pm ctv : Value) (H1 : Hp) (s' : Shared), Inv X pins σ H1 s' → TabUp P q H H1 → s'.heap.get? f = some (PySem.W.kla_obj "<lambda>" q params body scope cl pm c' ctv) → s'.heap.CodeRec (.ref c') q → Q (.ref f) s') :
    wpAny (model X.prog X.w) X.A (eval (.Lambda params body scope pos) X.env) Q E s := by
  subst hq
  obtain ⟨ps, hP, ht, ha⟩ := id hT
  refine PySem.W.kla_eval hdef ?_
  have bP : s.heap.BuiltinsAt X.mg P := TB.bm.keeps I.bk
  have hP' : s.heap.get? P = some { cls := .none, data := .fields ps } := I.hok P _ hP
  cases hc : codeAmong pos ps.toList with
  | none =>
    refine PySem.W.kla_makeFunction (mg := X.mg) (c := c) (P := P) (ps := ps) (closure_ok hfree) I.ok.glob (I.mod.glob.keeps I.bk) hcode (TB.code.keeps I.bk) hP' ht hc TB.gP bP fun c' ctv h' tk hx hge hlt hrec htb => ?_
    obtain ⟨c2, oc, vs, t, e2, hoc, hd, hv⟩ := id hrec
    cases e2
    have nC : H c' = none := I.hok.fresh hge
    have I1 := inv_tableF (t' := tk) (more := #[rawInt pos.line, rawInt pos.col, .ref c']) (h' := h'.push (PySem.W.kla_obj "<lambda>" (X.env.qual ++ "<lambda>") params body scope (cloFrom X.env.cells scope.names []) ((X.mg "__name__").getD .none) c' ctv)) I hP
      (fun b o hb e => Heap.get?_push_of_some _ (hx b o hb e)) (Heap.get?_push_of_some _ htb) hge (Heap.get?_push_of_some _ hoc)
    have eL : (ps ++ #[rawInt pos.line, rawInt pos.col, .ref c']).toList = ps.toList ++ [rawInt pos.line, rawInt pos.col, .ref c'] := by simp
    have keep : ∀ b, b ≠ P → H b ≠ none → upd (upd H P (.tbl (ps ++ #[rawInt pos.line, rawInt pos.col, .ref c']))) c' (.frz oc (.own c')) b = H b := fun b hb hn => by
      rw [upd_ne fun z => hn (by rw [z]; exact nC), upd_ne hb]
    refine h h'.objs.size c' _ ((X.mg "__name__").getD .none) ctv _ _ I1 ⟨⟨_, by rw [upd_ne (ne_of_none hP nC), upd_same], by rw [eL]; exact PySem.TriplesOk_snoc _ _ _ _ ht, fun p' cv hcv => ?_⟩, keep⟩ (Heap.get?_push_size _ rfl) ⟨c', oc, vs, t, rfl, Heap.get?_push_of_some _ hoc, hd, hv⟩
    rw [eL] at hcv
    rcases among_app _ ht hcv with z | z
    · obtain ⟨c0, oc0, vs0, t0, e1, e2, e3⟩ := ha p' cv z
      exact ⟨c0, oc0, vs0, t0, e1, by rw [keep c0 (fun z => by rw [z, hP] at e2; cases e2) (by rw [e2]; simp)]; exact e2, e3⟩
    · exact ⟨c', oc, vs, t, z, upd_same, hd, hv⟩
  | some cv =>
    obtain ⟨c', oc, vs, t, e, hco, hd, hv⟩ := ha pos cv hc
    subst e
    refine PySem.W.kla_makeFunctionHit (mg := X.mg) (c := c) (P := P) (ps := ps) (closure_ok hfree) I.ok.glob (I.mod.glob.keeps I.bk) hcode (TB.code.keeps I.bk) hP' ht hc bP fun ctv h' tk hx hsz => ?_
    have I1 : Inv X pins σ H { s with heap := h'.push (PySem.W.kla_obj "<lambda>" (X.env.qual ++ "<lambda>") params body scope (cloFrom X.env.cells scope.names []) ((X.mg "__name__").getD .none) c' ctv), toks := tk } := I.kept fun b o e => Heap.get?_push_of_some _ (hx b o e)
    have hoc : s.heap.get? c' = some oc := (I.hok c' _ hco).1
    exact h h'.objs.size c' _ ((X.mg "__name__").getD .none) ctv H _ I1 ⟨hT, fun _ _ _ => rfl⟩ (Heap.get?_push_size _ rfl) ⟨c', oc, vs, t, rfl, Heap.get?_push_of_some _ (hx _ _ hoc), hd, hv⟩
end
/-- by length, then by what stands in it -/
def rkLe (a b : List Int) : Bool := PySem.W.dataLe false rankK a b
theorem each_refs {s : Shared} : ∀ {L : List (Addr × List Int)} {vs : List Value}, Vals (L.map fun p => V.ref p.1) vs → PySem.W.EachIs (fun v (p : Addr × List Int) => v = .ref p.1) vs L
  | [], _, .nil => .nil
  | p :: L, _, .cons r t => .cons r (each_refs (s := s) t)
theorem refs_each : ∀ {L : List (Addr × List Int)} {vs : List Value}, PySem.W.EachIs (fun v (p : Addr × List Int) => v = .ref p.1) vs L → Vals (L.map fun p => V.ref p.1) vs
  | [], _, .nil => .nil
  | p :: L, _, .cons r t => .cons r (refs_each t)
theorem alike_rank (a b : List Int) : PySem.W.alike (rankK a) (rankK b) = true := by
  unfold rankK
  rw [PySem.W.alike]
  simp [PySem.W.alikeAll, PySem.W.alike, PySem.W.alike_ints]
theorem depth_rank (a : List Int) : (rankK a).depth ≤ 8 := by
  unfold rankK
  simp [PyData.depth, PyData.depthAll, PySem.W.depth_ints]
/-- sorted(e, key=lambda x: (len(x), x)), e a list of tuples of whole numbers -/
theorem TabUp.rd {P : Addr} {q : Str} {H H1 : Hp} (up : TabUp P q H H1) (hT : TabF H P q) {a : Addr} {u : HO} (hu : ∀ ps, u ≠ .tbl ps) (h : Rd H a u) : Rd H1 a u := by
  obtain ⟨ps, hP, _⟩ := hT
  rcases h with h | ⟨o, h⟩
  · exact .inl (by rw [up.2 a (fun z => by rw [z, hP] at h; cases h; exact hu ps rfl) (by rw [h]; simp)]; exact h)
  · exact .inr ⟨o, by rw [up.2 a (fun z => by rw [z, hP] at h; cases h) (by rw [h]; simp)]; exact h⟩
theorem TabUp.sqL {K : PySem.W.Frag} {P : Addr} {q : Str} {H H1 : Hp} (up : TabUp P q H H1) (hT : TabF H P q) {a : Addr} {xs : List V} (h : SqL K H a xs) : SqL K H1 a xs := h.imp (fun z => up.rd hT (fun _ e => by cases e) z) id
theorem TabUp.sqT {K : PySem.W.Frag} {P : Addr} {q : Str} {H H1 : Hp} (up : TabUp P q H H1) (hT : TabF H P q) {a : Addr} {xs : List V} (h : SqT K H a xs) : SqT K H1 a xs := h.imp (fun z => up.rd hT (fun _ e => by cases e) z) id
def tSortLam (K : PySem.W.Frag) (P : Addr) (q : Str) (te : TE) : TE := fun σ H Q => te σ H fun v H1 => ∃ (l : Addr) (L : List (Addr × List Int)), v = .ref l ∧ SqL K H1 l (L.map fun p => V.ref p.1) ∧ (∀ p ∈ L, SqT K H1 p.1 (p.2.map V.int)) ∧ L.length ≤ 5000 ∧ (∀ p ∈ L, p.2.length ≤ 5000) ∧ TabF H1 P q ∧
  ∀ H2, TabUp P q H1 H2 → ∀ p, H2 p = none → ∀ L' : List (Addr × List Int), L'.Perm L → L'.Pairwise (fun a b => rkLe a.2 b.2 = true) → Q (.ref p) (upd H2 p (.lst (L'.map fun p => V.ref p.1)))
section
variable {X : Cx}
theorem pe_sortLam {c P : Addr} {q x : Str} {e : Expr} {params : Arguments} {scope : Scope} {p0 p1 p2 p3 p4 p5 lpos kpos pos : Pos} {cx : Nat} {te : TE} (hu : X.A.units + 64 < cLine) (hroom : X.A.depth < recursionLimit) (hg : Gl X "sorted") (hm : X.mg "sorted" = none) (hml : X.mg "len" = none) (TB : GxR.TabB X.base X.mg c P) (hcode : X.env.code = .ref c)
    (hq : X.env.qual ++ "<lambda>" = q) (he : PE X e te) (hdef : defaultsOf params X.env = ([], []))
    (hbind : ∀ (cl : List (Str × Addr)) (pm cv ctv u : Value), bindArgs (PySem.W.kla_fn "<lambda>" q params (.Tuple [.Call (.Name "len" p1) [.Name x p2] [] p3, .Name x p4] cx p5) scope cl pm cv ctv) ⟨[u], []⟩ = pure [(x, u)])
    (hk : scope.kind = .function) (hx : scope.names.lookup x = some .local) (hl : scope.names.lookup ("len" : Str) = some .globalImplicit) (hcell : ∀ y ∈ scope.names, y.2 ≠ .cell ∧ y.2 ≠ .free) (hco : scope.isCoroutine = false) (hgen : scope.isGenerator = false) (hd : (x == ("__debug__" : Str)) = false)
    (hs : starEach [e] X.env = (false, eval e X.env) :: starEach [] X.env := by rfl) (hpl : (backTo pos (starEach [e] X.env)).any (·.1) = false := by rfl) :
    PE X (.Call (.Name "sorted" p0) [e] [⟨some "key", .Lambda params (.Tuple [.Call (.Name "len" p1) [.Name x p2] [] p3, .Name x p4] cx p5) scope lpos, kpos⟩] pos) (tSortLam X.K P q te) := by
  refine ⟨fun pins s σ H Q I h => ?_⟩
  refine wpAny_Call_Name_kw (ld_blt (u := .builtin "sorted") I hg hm (by decide +kernel) ?_)
  refine PyProof.Rows.callWith_kw ?_ (by rw [hs]; rfl) hpl rfl rfl
  rw [hs]
  show wpAny _ _ (spliced ((false, eval e X.env) :: backTo pos (starEach [] X.env))) _ _ s
  refine Calls.spliced_cons (thn (he.run pins s σ H _ I h) fun v s1 ⟨y, H1, I1, r1, l, L, ey, hL, hT, hlen, hlen2, hTab, q1⟩ => ?_)
  subst ey
  obtain rfl : v = Value.ref l := r1
  refine Calls.spliced_nil ?_
  show wpAny _ _ (evalAll ((do let v ← eval (.Lambda params (.Tuple [.Call (.Name "len" p1) [.Name x p2] [] p3, .Name x p4] cx p5) scope lpos) X.env; standAt pos; pure v) :: (backToKw pos (keywordEach [] X.env)).map (·.2))) _ _ s1
  refine wpAny_evalAll_cons (wpAny_bind (lam_makeF I1 TB hcode hq hTab hdef (fun y hy e => absurd e (hcell y hy).2) fun f c' cl pm ctv H2 s2 I2 up hf hcd => wpAny_bind (wpAny_standAt (wpAny_pure ?_))))
  refine wpAny_evalAll_nil ?_
  have hL2 := up.sqL hTab hL
  obtain ⟨its, rv, pl, hz⟩ := I2.list hL2
  have ei := each_refs (s := s2) rv
  have M2 : L2.Mod X.K X.mg s2.heap := mod_up I2.mod I2.bk
  show wpAny _ _ (call (.builtin "sorted") [.ref l] [(Str.ofString "key", .ref f)]) _ _ s2
  have hlL : L.length ≤ sizeLine := Nat.le_of_lt (VL.small1000 hlen)
  refine PySem.W.sorted_key_data (b := false) (kw := [(Str.ofString "key", .ref f)]) (fun p : Addr × List Int => rankK p.2) pl.isList ei (PySem.W.AllAlike.of fun a b => alike_rank a.2 b.2) (PySem.W.Sortable.tuples fun b => ⟨_, _, rfl⟩) hlL (fun p _ => by have := depth_rank p.2; omega) (ksk_s1 _ _) (fun x => ksk_l1 _ _) (fun x => ksk_t1 _ _) (fun v p hv hp h3 tk3 k3 => ?_) fun out c3 h3 tk3 k3 fr n3 len3 e3 => ?_
  · subst hv
    obtain ⟨its2, rv2, pl2, hz2⟩ := I2.tuple (up.sqT hTab (hT p hp))
    have hcd3 : h3.CodeRec (.ref c') q := by
      obtain ⟨c, oc, vs, t, e1, e2, e4⟩ := hcd
      exact ⟨c, oc, vs, t, e1, k3 _ _ e2, e4⟩
    have ht3 : IsTup h3 p.1 its2.toArray := by
      obtain ⟨o, e1, e2⟩ := pl2
      exact ⟨o, k3 _ _ e1, e2⟩
    exact raw_lam (s := { s2 with heap := h3, toks := tk3 }) (mg := X.mg) (K := X.K) (k3 _ _ hf) hcd3 (mod_up M2 k3) hroom (hbind _ _ _ _ _) hk hx hl (fun y hy => (hcell y hy).1) hco hgen hml ht3 rv2 (hlen2 p hp) hd
  · have hn : H2 (s2.heap.objs.size + 1) = none := I2.hok.fresh (Nat.le_succ _)
    have pm : (L.mergeSort (PySem.W.dataLe false fun p : Addr × List Int => rankK p.2)).Perm L := List.mergeSort_perm _ _
    have hps := PySem.W.sort_pairwise (le := PySem.W.dataLe false fun p : Addr × List Int => rankK p.2) (by unfold PySem.W.dataLe; exact PySem.W.sortLe_total _ _ _) L
    have I3 := I2.laid (a := s2.heap.objs.size + 1) (t' := tk3) (h' := h3) k3 (Nat.le_succ _) (o := .lst ((L.mergeSort (PySem.W.dataLe false fun p : Addr × List Int => rankK p.2)).map fun p => V.ref p.1)) ⟨by rw [List.length_map, pm.length_eq]; exact hlL, out, c3, refs_each e3, n3⟩
    exact ⟨.ref (s2.heap.objs.size + 1), _, I3, rfl, q1 H2 up _ hn _ pm hps⟩
end
end HM
namespace VL
open PySem PySem.Spec PyProof.Rows L2 HM
/-- the table of a lambda at P runs along -/
structure LamIn (am : Am) (P : Addr) (q : Str) : Prop where
  sp : am.sp P
  rd : ∀ {n H}, am.ok n H → TabF H P q
  wr : ∀ {n H H'}, am.ok n H → TabUp P q H H' → am.ok n H'
theorem Rel.lamtab {c : Fc} {F H H' : Hp} {σ : L2.St} {env : Ev} {n : Nat} {P : Addr} {q : Str} (T : LamIn c.am P q) (r : Rel c F H σ env n) (h : TabUp P q H H') : Rel c F H' σ env n := by
  have hF : F P = none := r.spf P T.sp
  refine ⟨fun b u e => ?_, r.spf, T.wr r.amb h, r.up0, r.out0, fun b u e nb => ?_, r.len, fun i s e => ?_, r.apart⟩
  · have := r.sub b u e
    rw [h.2 b (fun z => by rw [z, hF] at e; cases e) (by rw [this]; simp)]; exact this
  · have := r.keep0 b u e nb
    rw [h.2 b (fun z => nb (by rw [z]; exact T.sp)) (by rw [this]; simp)]; exact this
  · have q := r.sl i s e
    cases s with
    | no => trivial
    | fz d => exact q
    | ow kk =>
      obtain ⟨a, o, g1, g2, g3, g4, g5, g6⟩ := q
      exact ⟨a, o, g1, g2, g3, g4, by rw [h.2 a (fun z => g4 (by rw [z]; exact T.sp)) (by rw [g5]; simp)]; exact g5, g6⟩
def tuD (b : List Int) : Dt := .tup (b.map Dt.int)
theorem tups_of {F : Hp} : ∀ {L : List (List Int)} {xs : List V}, Rps F xs (L.map tuD) → ∃ Lp : List (Addr × List Int), xs = (Lp.map fun p => V.ref p.1) ∧ Lp.map (·.2) = L ∧ ∀ p ∈ Lp, F p.1 = some (.tup (p.2.map V.int))
  | [], _, .nil => ⟨[], rfl, rfl, fun p hp => by cases hp⟩
  | b :: L, _, .cons h t => by
    obtain ⟨Lp, e1, e2, e3⟩ := tups_of t
    obtain ⟨a, xs, rfl, hF, rx⟩ := Rp.tup_inv h
    have ex : xs = b.map V.int := rx.of_ints
    subst ex
    refine ⟨(a, b) :: Lp, by rw [e1]; rfl, by rw [List.map_cons, e2], fun p hp => ?_⟩
    rcases List.mem_cons.mp hp with rfl | hp
    · exact hF
    · exact e3 p hp
theorem of_tups {F : Hp} : ∀ {Lp : List (Addr × List Int)}, (∀ p ∈ Lp, F p.1 = some (.tup (p.2.map V.int))) → Rps F (Lp.map fun p => V.ref p.1) ((Lp.map (·.2)).map tuD)
  | [], _ => .nil
  | p :: Lp, h => .cons (.tup (h p List.mem_cons_self) (Rps.ints _)) (of_tups fun q hq => h q (List.mem_cons_of_mem _ hq))
section
variable {c : Fc} {X : Cx}
def vSortLam (te : VTE) : VTN := fun env n Q => te env n fun d env1 n1 => ∃ L : List (List Int), d = .lst (L.map tuD) ∧ L.length ≤ 5000 ∧ (∀ b ∈ L, b.length ≤ 5000) ∧ ∀ L' : List (List Int), L'.Perm L → L'.Pairwise (fun a b => rkLe a b = true) → Q (.lst (L'.map tuD)) env1 n1
theorem vn_sortLam {cc P : Addr} {q x : Str} {e : Expr} {params : Arguments} {scope : Scope} {p0 p1 p2 p3 p4 p5 lpos kpos pos : Pos} {cx : Nat} {te : VTE} (T : LamIn c.am P q) (hu : X.A.units + 64 < cLine) (hroom : X.A.depth < recursionLimit) (hg : Gl X "sorted") (hm : X.mg "sorted" = none) (hml : X.mg "len" = none) (TB : GxR.TabB X.base X.mg cc P) (hcode : X.env.code = .ref cc)
    (hq : X.env.qual ++ "<lambda>" = q) (he : PE X e (tOf c te)) (hdef : defaultsOf params X.env = ([], []))
    (hbind : ∀ (cl : List (Str × Addr)) (pm cv ctv u : Value), bindArgs (PySem.W.kla_fn "<lambda>" q params (.Tuple [.Call (.Name "len" p1) [.Name x p2] [] p3, .Name x p4] cx p5) scope cl pm cv ctv) ⟨[u], []⟩ = pure [(x, u)])
    (hk : scope.kind = .function) (hx : scope.names.lookup x = some .local) (hl : scope.names.lookup ("len" : Str) = some .globalImplicit) (hcell : ∀ y ∈ scope.names, y.2 ≠ .cell ∧ y.2 ≠ .free) (hco : scope.isCoroutine = false) (hgen : scope.isGenerator = false) (hd : (x == ("__debug__" : Str)) = false)
    (hs : starEach [e] X.env = (false, eval e X.env) :: starEach [] X.env := by rfl) (hpl : (backTo pos (starEach [e] X.env)).any (·.1) = false := by rfl) :
    PE X (.Call (.Name "sorted" p0) [e] [⟨some "key", .Lambda params (.Tuple [.Call (.Name "len" p1) [.Name x p2] [] p3, .Name x p4] cx p5) scope lpos, kpos⟩] pos) (nOf c (vSortLam te)) :=
  PE.imp (pe_sortLam hu hroom hg hm hml TB hcode hq he hdef hbind hk hx hl hcell hco hgen hd hs hpl) fun σ H R ⟨F, env, n, Q, rr, h, k⟩ => by
  refine ⟨F, env, n, _, rr, h, fun v H1 F1 d env1 n1 r1 u1 p1 q1 => ?_⟩
  obtain ⟨L, rfl, hl1, hl2, q1⟩ := q1
  obtain ⟨a, xs, rfl, hF, rx⟩ := p1.lst_inv
  obtain ⟨Lp, rfl, e2, hLp⟩ := tups_of rx
  have hll : Lp.length = L.length := by rw [← e2, List.length_map]
  refine ⟨a, Lp, rfl, .inl (.inl (r1.sub _ _ hF)), fun p hp => .inl (.inl (r1.sub _ _ (hLp p hp))), by omega, fun p hp => hl2 p.2 (by rw [← e2]; exact List.mem_map.mpr ⟨p, hp, rfl⟩), T.rd r1.amb, fun H2 up p np L' pm ps => ?_⟩
  have r2 := r1.lamtab T up
  exact nOf_new r2 u1 np (kk := .lst ((L'.map (·.2)).map tuD)) ⟨_, rfl, of_tups fun p hp => hLp p (pm.mem_iff.mp hp)⟩ (q1 _ (by rw [← e2]; exact pm.map _) (List.pairwise_map.mpr ps)) k
end
def spInOrder : VSp := fun ds t Q _ => ∃ (L : List (List Nat)), ds = [.lst (tnD L)] ∧ L.length ≤ 5000 ∧ (∀ K ∈ L, K.length ≤ 5000) ∧ ∀ L' : List (List Nat), L'.Perm L → L'.Pairwise (fun a b => rkLe (kI a) (kI b) = true) → Q (.lst (tnD L')) t
theorem tnD_tu (L : List (List Nat)) : tnD L = (L.map kI).map tuD := by
  unfold tnD
  rw [List.map_map]
  refine List.map_congr_left fun K _ => ?_
  exact tup_kI K
theorem perm_kI {L : List (List Nat)} {L' : List (List Int)} (h : L'.Perm (L.map kI)) : ∃ M : List (List Nat), L' = M.map kI ∧ M.Perm L := by
  generalize e : L.map kI = B at h
  induction h generalizing L with
  | nil => 
    cases L with
    | nil => exact ⟨[], rfl, .nil⟩
    | cons => cases e
  | @cons x l1 l2 h ih =>
    cases L with
    | nil => cases e
    | cons y L =>
      rw [List.map_cons] at e
      injection e with e1 e2
      obtain ⟨M, rfl, hM⟩ := ih e2
      exact ⟨y :: M, by rw [List.map_cons, e1], hM.cons y⟩
  | swap x y l =>
    match L, e with
    | a :: b :: L, e =>
      rw [List.map_cons, List.map_cons] at e
      injection e with e1 e2
      injection e2 with e2 e3
      exact ⟨b :: a :: L, by rw [List.map_cons, List.map_cons, e1, e2, e3], .swap a b L⟩
  | trans h1 h2 ih1 ih2 =>
    obtain ⟨M, rfl, hM⟩ := ih2 e
    obtain ⟨M2, rfl, hM2⟩ := ih1 rfl
    exact ⟨M2, rfl, hM2.trans hM⟩
end VL
namespace HM
open PySem PySem.Spec PyProof.Rows L2
end HM
namespace VL
open PySem PySem.Spec PyProof.Rows L2 HM
end VL
namespace VL
open PySem PySem.Spec PyProof.Rows L2 HM
def vIndexO (i : Nat) (tb : VTE) : VTE := fun env n Q => (∃ ds, rdS env i (.lst ds)) ∧ vCons tb vNil env n fun as env2 n2 => ∃ (ns : List Int) (k : Int) (j : Nat), rdS env2 i (.lst (ns.map Dt.int)) ∧ as = [.int k] ∧ ns[j]? = some k ∧ (∀ i z, i < j → ns[i]? = some z → z ≠ k) ∧ Q (nD j) env2 n2
section
variable {X : Cx} {c : Fc} {o e : Expr} {tb : VTE} {apos cpos : Pos}
theorem ve_indexO {i : Nat} (ha : PE X o (tVar i)) (hb : PE X e (tOf c tb))
    (hbase : attributeBase o "index" X.env (eval o X.env) = eval o X.env := by rfl)
    (hfew : ((backTo cpos (starEach [e] X.env)).all (fun x => !x.1) && (backToKw cpos (keywordEach [] X.env)).all (fun x => x.1.isSome)
      && decide ([e].length + ([] : List Keyword).length + (if ([] : List Keyword).isEmpty then 0 else 1) < 30)) = true := by rfl)
    (hline : (apos.endLine == cpos.line) = true := by rfl) (hs : starEach [e] X.env = (false, eval e X.env) :: starEach [] X.env := by rfl) (hplain : (backTo cpos (starEach [] X.env)).any (·.1) = false := by rfl) :
    PE X (.Call (.Attribute o "index" apos) [e] [] cpos) (tOf c (vIndexO i tb)) :=
  PE.imp (pe_bm PySem.F.plainAttrs_list PySem.F.slot_list_index PySem.F.type_list_index mt_index ha (va_cons hb va_nil hs) hbase hfew hline hs hplain) fun σ H R ⟨F, env, n, Q, rr, ⟨⟨ds, e0⟩, q⟩, k⟩ => by
    obtain ⟨a, xs, ea, hH, rx⟩ := rr.rdL e0
    refine ⟨_, ea, .inl ⟨rfl, xs, .inl (.inl hH)⟩, F, env, n, _, rr, q, fun vs H2 F2 ds2 env2 n2 r2 u2 p2 q2 => ?_⟩
    obtain ⟨ns, k', j, e1, rfl, e3, e4, q3⟩ := q2
    obtain ⟨a2, xs2, ea2, hH2, rx2⟩ := r2.rdL e1
    rw [ea] at ea2
    cases ea2
    obtain ⟨v2, rfl, pv⟩ := p2.one
    rw [pv.int_inv]
    have ex : xs2 = ns.map V.int := rx2.of_ints
    refine ⟨a, ns.map V.int, .int k', j, .int k', rfl, rfl, .inl (.inl (by rw [← ex]; exact hH2)), rfl, List.all_eq_true.mpr fun z hz => ?_, by rw [List.getElem?_map, e3]; rfl, by simp [eqV], fun i z hi hz => ?_, k _ _ F2 _ env2 n2 r2 u2 (.int _) q3⟩
    · obtain ⟨y, _, rfl⟩ := List.mem_map.mp hz
      rfl
    · rw [List.getElem?_map] at hz
      obtain ⟨y, hy, rfl⟩ := Option.map_eq_some_iff.mp hz
      have := e4 i y hi hy
      simpa [eqV] using this
end
end VL
namespace HM
open PySem PySem.Spec PyProof.Rows L2
def itP (b : List Int) : PyData := .tuple (b.map .int)
theorem alike_it (a b : List Int) : PySem.W.alike (itP a) (itP b) = true := by
  unfold itP
  rw [PySem.W.alike]
  exact PySem.W.alike_ints a b
theorem lt_it (a b : List Int) : PySem.W.dataLt (itP a) (itP b) = decide (a < b) := by
  unfold itP
  rw [PySem.W.dataLt_tuple]
  exact PySem.W.dataLt_ints a b
theorem minD_it (b : List Int) : ∀ bs : List (List Int), PySem.W.minD (itP b) (bs.map itP) = itP (bs.foldl (fun a y => if y < a then y else a) b)
  | [] => rfl
  | y :: bs => by
    have e : PySem.W.minD (itP b) ((y :: bs).map itP) = PySem.W.minD (if y < b then itP y else itP b) (bs.map itP) := by
      unfold PySem.W.minD
      rw [List.map_cons, List.foldl_cons, lt_it]
      by_cases z : y < b
      · rw [decide_eq_true z, if_pos rfl, if_pos z]
      · rw [decide_eq_false z, if_neg (by decide), if_neg z]
    rw [e, List.foldl_cons]
    by_cases z : y < b
    · rw [if_pos z, if_pos z]; exact minD_it y bs
    · rw [if_neg z, if_neg z]; exact minD_it b bs
theorem fold_min : ∀ (bs : List (List Int)) (b : List Int), ¬ b < bs.foldl (fun a y => if y < a then y else a) b ∧ ∀ y ∈ bs, ¬ y < bs.foldl (fun a y => if y < a then y else a) b
  | [], b => ⟨List.lt_irrefl b, fun y hy => by cases hy⟩
  | x :: bs, b => by
    rw [List.foldl_cons]
    by_cases z : x < b
    · rw [if_pos z]
      obtain ⟨h1, h2⟩ := fold_min bs x
      refine ⟨fun q => h1 (List.lt_trans z q), fun y hy => ?_⟩
      rcases List.mem_cons.mp hy with rfl | hy
      · exact h1
      · exact h2 y hy
    · rw [if_neg z]
      obtain ⟨h1, h2⟩ := fold_min bs b
      refine ⟨h1, fun y hy => ?_⟩
      rcases List.mem_cons.mp hy with rfl | hy
      · intro q
        exact h1 (List.lt_of_le_of_lt (show b ≤ y from z) q)
      · exact h2 y hy
theorem readsAll_ints {h : Heap} : ∀ {b : List Int} {its : List Value} {xs : List PyData} {as : List Addr}, Vals (b.map V.int) its → ReadsAll h its xs as → xs = b.map .int
  | [], _, _, _, .nil, r => by cases r; rfl
  | i :: b, _, _, _, .cons e t, r => by
    obtain ⟨k, e⟩ : ∃ k, _ = Value.int i k := e
    subst e
    cases r with
    | cons r1 r2 =>
      cases r1
      rw [readsAll_ints t r2]
      rfl
theorem reads_one {h : Heap} {a : Addr} {b c : List Int} {its : List Value} {as : List Addr} (ht : IsTup h a its.toArray) (hv : Vals (b.map V.int) its) (r : Reads h (.ref a) (itP c) as) : b = c := by
  obtain ⟨o, e1, e2, n, e3⟩ := ht
  unfold itP at r
  cases r with
  | tuple h1 h2 h3 h4 =>
    rw [e1] at h1
    cases h1
    rw [e3] at h3
    cases h3
    have := readsAll_ints hv h4
    exact ((List.map_inj_right fun x y e => by injection e).mp this).symm
theorem readsAll_tups {X : Cx} {pins : List (Addr × Obj)} {σ : L2.St} {H : Hp} {s : Shared} (I : Inv X pins σ H s) : ∀ {L : List (Addr × List Int)} {vs : List Value}, Vals (L.map fun p => V.ref p.1) vs → (∀ p ∈ L, SqT X.K H p.1 (p.2.map V.int)) → ReadsAll s.heap vs (L.map fun p => itP p.2) []
  | [], _, .nil, _ => .nil
  | p :: L, _, .cons r t, h => by
    cases r
    obtain ⟨its, rv, pl, _⟩ := I.tuple (h p List.mem_cons_self)
    exact ReadsAll.cons (as := []) (reads_tup pl rv) (readsAll_tups I t fun q hq => h q (List.mem_cons_of_mem _ hq))
theorem vals_refs : ∀ {L : List (Addr × List Int)} {vs : List Value}, Vals (L.map fun p => V.ref p.1) vs → vs = L.map fun p => Value.ref p.1
  | [], _, .nil => rfl
  | p :: L, _, .cons r t => by
    cases r
    rw [vals_refs t]
    rfl
theorem depthAll_it : ∀ L : List (Addr × List Int), PyData.depthAll (L.map fun p => itP p.2) ≤ 1
  | [] => by simp [PyData.depthAll]
  | p :: L => by
    have := depthAll_it L
    rw [List.map_cons, PyData.depthAll]
    have e : (itP p.2).depth = 1 := by unfold itP; simp [PyData.depth, PySem.W.depth_ints]
    omega
def rMinT (K : PySem.W.Frag) : List V → Hp → VK → Prop := fun vs H Q => ∃ (a : Addr) (L : List (Addr × List Int)), vs = [V.ref a] ∧ SqL K H a (L.map fun p => V.ref p.1) ∧ (∀ p ∈ L, SqT K H p.1 (p.2.map V.int)) ∧ L ≠ [] ∧ ∀ p ∈ L, (∀ y ∈ L, ¬ y.2 < p.2) → Q (.ref p.1) H
theorem cr_minT {X : Cx} (hc : X.calm = true) (hu : X.A.units + 64 < cLine) : CallR X (.builtin "min") (rMinT X.K) := by
  intro pins s σ H vs us Q I r h
  obtain ⟨a, L, rfl, hs, hT, hne, q⟩ := h
  obtain ⟨its, rv, hl, _⟩ := I.list hs
  rw [Vals.ref1 r]
  cases L with
  | nil => exact absurd rfl hne
  | cons p0 L =>
    have hr : ReadsAll s.heap its.toArray.toList (itP p0.2 :: L.map fun p : Addr × List Int => itP p.2) [] := readsAll_tups I rv hT
    have hd := depthAll_it (p0 :: L)
    refine PySem.W.min_list_data (x := itP p0.2) (xs := L.map fun p : Addr × List Int => itP p.2) (I.ok.hd hc) hl.isList hr ⟨fun x hx y hy => ?_, fun x hx => ?_⟩ (by
      have : PyData.depthAll (itP p0.2 :: L.map fun p => itP p.2) ≤ 1 := hd
      omega) fun i v h' tk bs hv hrd hk => ?_
    · have hx : x ∈ (p0 :: L).map fun p => itP p.2 := hx
      have hy : y ∈ (p0 :: L).map fun p => itP p.2 := hy
      obtain ⟨p, _, rfl⟩ := List.mem_map.mp hx
      obtain ⟨p', _, rfl⟩ := List.mem_map.mp hy
      exact alike_it _ _
    · have hx : x ∈ (p0 :: L).map fun p => itP p.2 := hx
      obtain ⟨p, _, rfl⟩ := List.mem_map.mp hx
      intro z
      cases z
    · have hv : its[i]? = some v := by simpa using hv
      rw [vals_refs rv, List.getElem?_map] at hv
      obtain ⟨p, hp, rfl⟩ := Option.map_eq_some_iff.mp hv
      have hpm := List.mem_of_getElem? hp
      have I2 : Inv X pins σ H { s with heap := h', toks := tk } := I.kept hk
      obtain ⟨its2, rv2, pl2, _⟩ := I2.tuple (hT p hpm)
      have em : (L.map fun p => itP p.2) = (L.map (·.2)).map itP := by rw [List.map_map]; rfl
      rw [em, minD_it] at hrd
      have eb := reads_one pl2 rv2 hrd
      obtain ⟨f1, f2⟩ := fold_min (L.map (·.2)) p0.2
      rw [← eb] at f1 f2
      refine ⟨.ref p.1, H, I2, rfl, q p hpm fun y hy => ?_⟩
      rcases List.mem_cons.mp hy with rfl | hy
      · exact f1
      · exact f2 y.2 (List.mem_map.mpr ⟨y, hy, rfl⟩)
end HM
namespace VL
open PySem PySem.Spec PyProof.Rows L2 HM
def dMinT : RCD := fun ds Q => ∃ L : List (List Int), ds = [.lst (L.map tuD)] ∧ L ≠ [] ∧ ∀ b ∈ L, (∀ y ∈ L, ¬ y < b) → Q (tuD b)
theorem lft_minT {K : PySem.W.Frag} : LftC (rMinT K) dMinT := fun F H vs ds Q R u rp ⟨L, h, hne, q⟩ k => by
  subst h
  obtain ⟨v, rfl, p⟩ := rp.one
  obtain ⟨a, xs, rfl, hF, rx⟩ := p.lst_inv
  obtain ⟨Lp, rfl, e2, hLp⟩ := tups_of rx
  refine ⟨a, Lp, rfl, .inl (.inl (u _ _ hF)), fun p hp => .inl (.inl (u _ _ (hLp p hp))), fun z => hne (by rw [← e2, z]; rfl), fun p hp hm => k _ _ (.tup (hLp p hp) (Rps.ints _)) (q p.2 (by rw [← e2]; exact List.mem_map.mpr ⟨p, hp, rfl⟩) fun y hy => ?_)⟩
  rw [← e2] at hy
  obtain ⟨p', hp', rfl⟩ := List.mem_map.mp hy
  exact hm p' hp'
/-- the kinds: the least part of each -/
structure IsKinds (n : Nat) (m : Nat → Nat → Nat) (ks : List (List Nat)) : Prop where
  sub : ∀ K ∈ ks, Sub n m K
  least : ∀ K ∈ ks, ∀ g, g < n → ∀ K', Led n m K g K' → ¬ kI K' < kI K
  all : ∀ K, Sub n m K → ∃ k ∈ ks, ∃ g, g < n ∧ Led n m K g k
  one : ∀ k ∈ ks, ∀ k' ∈ ks, ∀ g, g < n → Led n m k g k' → k = k'
  nd : ks.Nodup
  ord : ks.Pairwise fun a b => rkLe (kI a) (kI b) = true
def spKinds : VSp := fun ds t Q _ => ∃ (n : Nat) (m : Nat → Nat → Nat), ds = [houD n m] ∧ Hse n m ∧ n ≤ 60 ∧ ∀ ks, IsKinds n m ks → Q (.lst (tnD ks)) t
/-- the least of each -/
def Leasts (T : List (List (List Nat))) (j : Nat) (M : List (List Nat)) : Prop := M.length = j ∧ ∀ (i : Nat) (O : List (List Nat)), i < j → T[i]? = some O → ∃ K, M[i]? = some K ∧ K ∈ O ∧ ∀ y ∈ O, ¬ kI y < kI K
theorem Leasts.more {T : List (List (List Nat))} {j : Nat} {M : List (List Nat)} (h : Leasts T j M) {O : List (List Nat)} (hO : T[j]? = some O) {K : List Nat} (hK : K ∈ O) (hm : ∀ y ∈ O, ¬ kI y < kI K) : Leasts T (j + 1) (M ++ [K]) := by
  refine ⟨by rw [List.length_append, h.1]; rfl, fun i O2 hi hO2 => ?_⟩
  rcases Nat.lt_or_ge i j with z | z
  · obtain ⟨K2, h1, h2⟩ := h.2 i O2 z hO2
    exact ⟨K2, by rw [List.getElem?_append_left (by rw [h.1]; exact z)]; exact h1, h2⟩
  · have : i = j := by omega
    subst this
    rw [hO] at hO2
    cases hO2
    exact ⟨K, by rw [List.getElem?_append_right (by rw [h.1]; exact Nat.le_refl _), h.1, Nat.sub_self]; rfl, hK, hm⟩
theorem flat_apart {T : List (List (List Nat))} (nd : T.flatten.Nodup) : ∀ {i j : Nat} {O O2 : List (List Nat)} {K : List Nat}, T[i]? = some O → T[j]? = some O2 → K ∈ O → K ∈ O2 → i = j := by
  induction T with
  | nil => intro i j O O2 K h; cases h
  | cons X T ih =>
    rw [List.flatten_cons, List.nodup_append] at nd
    intro i j O O2 K h1 h2 h3 h4
    match i, j, h1, h2 with
    | 0, 0, _, _ => rfl
    | 0, j + 1, h1, h2 =>
      cases h1
      exact absurd rfl (nd.2.2 K h3 K (List.mem_flatten.mpr ⟨O2, List.mem_of_getElem? h2, h4⟩))
    | i + 1, 0, h1, h2 =>
      cases h2
      exact absurd rfl (nd.2.2 K h4 K (List.mem_flatten.mpr ⟨O, List.mem_of_getElem? h1, h3⟩))
    | i + 1, j + 1, h1, h2 => rw [ih nd.2.1 h1 h2 h3 h4]
section
variable {n : Nat} {m : Nat → Nat → Nat} {T : List (List (List Nat))} {M L : List (List Nat)}
theorem Leasts.kinds (h : Hse n m) (k : Kinds n m T) (hm : Leasts T T.length M) (pm : L.Perm M) (ord : L.Pairwise fun a b => rkLe (kI a) (kI b) = true) : IsKinds n m L := by
  have at_ : ∀ K ∈ M, ∃ i O H, M[i]? = some K ∧ T[i]? = some O ∧ K ∈ O ∧ Sub n m H ∧ Orb n m H O ∧ ∀ y ∈ O, ¬ kI y < kI K := fun K hK => by
    obtain ⟨i, hi, e⟩ := List.getElem_of_mem hK
    have hi2 : i < T.length := by rw [← hm.1]; exact hi
    obtain ⟨O, hO⟩ : ∃ O, T[i]? = some O := ⟨_, List.getElem?_eq_getElem hi2⟩
    obtain ⟨K2, h1, h2, h3⟩ := hm.2 i O hi2 hO
    have h4 : M[i]? = some K := by rw [List.getElem?_eq_getElem hi, e]
    rw [h4] at h1
    cases h1
    obtain ⟨H, sH, o⟩ := k.orb O (List.mem_of_getElem? hO)
    exact ⟨i, O, H, h4, hO, h2, sH, o, h3⟩
  have ndM : M.Nodup := by
    rw [List.nodup_iff_pairwise_ne, List.pairwise_iff_getElem]
    intro i j hi hj hij e
    have hi2 : i < T.length := by rw [← hm.1]; exact hi
    have hj2 : j < T.length := by rw [← hm.1]; exact hj
    obtain ⟨K1, a1, a2, _⟩ := hm.2 i _ hi2 (List.getElem?_eq_getElem hi2)
    obtain ⟨K2, b1, b2, _⟩ := hm.2 j _ hj2 (List.getElem?_eq_getElem hj2)
    rw [List.getElem?_eq_getElem hi] at a1
    rw [List.getElem?_eq_getElem hj] at b1
    cases a1
    cases b1
    rw [e] at a2
    have := flat_apart k.nd (List.getElem?_eq_getElem hi2) (List.getElem?_eq_getElem hj2) a2 b2
    omega
  refine ⟨fun K hK => ?_, fun K hK g hg K' L' => ?_, fun K s => ?_, fun K1 h1 K2 h2 g hg L' => ?_, pm.nodup_iff.mpr ndM, ord⟩
  · obtain ⟨i, O, H, _, _, h1, s, o, _⟩ := at_ K (pm.mem_iff.mp hK)
    exact o.sub h s K h1
  · obtain ⟨i, O, H, _, _, h1, s, o, h2⟩ := at_ K (pm.mem_iff.mp hK)
    exact h2 K' (o.led h s h1 hg L')
  · obtain ⟨O, hO, hK⟩ := k.all K s
    obtain ⟨i, hi, e⟩ := List.getElem_of_mem hO
    obtain ⟨K2, a1, a2, _⟩ := hm.2 i O hi (by rw [List.getElem?_eq_getElem hi, e])
    obtain ⟨H, sH, o⟩ := k.orb O hO
    obtain ⟨g, hg, L1⟩ := (o.mem K).mp hK
    obtain ⟨g2, hg2, L2⟩ := (o.mem K2).mp a2
    obtain ⟨b, hb, e1, e2⟩ := h.inv2 hg
    have L3 := L1.back h sH hg hb e1
    exact ⟨K2, pm.mem_iff.mpr (List.mem_of_getElem? a1), m b g2, h.lt b g2 hb hg2, L3.then_ h s hb hg2 L2⟩
  · obtain ⟨i, O, H, m1, t1, h3, s, o, _⟩ := at_ K1 (pm.mem_iff.mp h1)
    obtain ⟨j, O2, H2, m2, t2, h4, s2, o2, _⟩ := at_ K2 (pm.mem_iff.mp h2)
    have h5 := o.led h s h3 hg L'
    have := flat_apart k.nd t1 t2 h5 h4
    subst this
    rw [m1] at m2
    exact Option.some.inj m2
end
end VL
namespace VL
open PySem PySem.Spec PyProof.Rows L2 HM
theorem Kinds.few {n : Nat} {m : Nat → Nat → Nat} {T : List (List (List Nat))} (h : Hse n m) (h60 : n ≤ 60) (k : Kinds n m T) : (∀ O ∈ T, O ≠ [] ∧ ∀ K ∈ O, Sub n m K) ∧ T.flatten.length ≤ 2400 ∧ T.length ≤ 2400 := by
  have h0 : ∀ O ∈ T, O ≠ [] ∧ ∀ K ∈ O, Sub n m K := fun O hO => by
    obtain ⟨H, s, o⟩ := k.orb O hO
    refine ⟨fun z => ?_, o.sub h s⟩
    have := o.hd
    rw [z] at this
    cases this
  have h1 := few_subs h h60 k.nd fun K hK => by
    obtain ⟨O, hO, hK⟩ := List.mem_flatten.mp hK
    exact (h0 O hO).2 K hK
  have h2 := flat_ge (T := T) fun O hO => (h0 O hO).1
  exact ⟨h0, h1, by omega⟩
theorem tup_tu (K : List Nat) : Dt.tup (nsD K) = tuD (kI K) := tup_kI K
end VL
namespace VL
open PySem PySem.Spec PyProof.Rows L2 HM
def BitsOk (b : Nat) (l : List Nat) : Prop := ∀ k, b.testBit k = decide (k ∈ l)
theorem BitsOk.add {b : Nat} {l : List Nat} (h : BitsOk b l) (x : Nat) : BitsOk (b ||| 2 ^ x) (l ++ [x]) := fun k => by
  rw [Nat.testBit_or, h k, Nat.testBit_two_pow]
  by_cases e : x = k
  · subst e; simp
  · have : ¬ k = x := fun z => e z.symm
    simp [e, this]
theorem BitsOk.sub {a b : Nat} {l k : List Nat} (h : BitsOk a l) (h2 : BitsOk b k) : (a &&& b = a) ↔ ∀ x ∈ l, x ∈ k := by
  constructor
  · intro e x hx
    have := congrArg (fun z => Nat.testBit z x) e
    simp only [Nat.testBit_and] at this
    rw [h x, h2 x, decide_eq_true hx, Bool.true_and] at this
    exact of_decide_eq_true this
  · intro hs
    refine Nat.eq_of_testBit_eq fun i => ?_
    rw [Nat.testBit_and, h i, h2 i]
    by_cases e : i ∈ l
    · rw [decide_eq_true e, decide_eq_true (hs i e)]; rfl
    · rw [decide_eq_false e]; rfl
end VL
namespace VL
open PySem PySem.Spec PyProof.Rows L2 HM
end VL
namespace VL
open PySem PySem.Spec PyProof.Rows L2 HM
end VL
namespace VL
open PySem PySem.Spec PyProof.Rows L2 HM
theorem tabF_same {H H' : Hp} {P : Addr} {q : Str} (t : TabF H P q) (h1 : H' P = H P) (h2 : CodeK H H') : TabF H' P q := by
  obtain ⟨ps, e1, e2, e3⟩ := t
  refine ⟨ps, h1.trans e1, e2, fun pos cv e => ?_⟩
  obtain ⟨c, oc, vs, t, g1, g2, g3⟩ := e3 pos cv e
  exact ⟨c, oc, vs, t, g1, (h2 c oc c g2).trans g2, g3⟩
def lamAm (am : Am) (P : Addr) (q : Str) : Am where
  sp b := am.sp b ∨ b = P
  ok n H := am.ok n H ∧ TabF H P q
  trk := fun {n H b} ⟨h1, h2⟩ hb z => by
    rcases hb with hb | rfl
    · exact am.trk h1 hb z
    · obtain ⟨ps, e, _⟩ := h2
      rw [e] at z; cases z
  ntp := fun {n H b xs} ⟨h1, h2⟩ hb z => by
    rcases hb with hb | rfl
    · exact am.ntp h1 hb z
    · obtain ⟨ps, e, _⟩ := h2
      rw [e] at z; cases z
  mono := fun {n H H'} ⟨h1, h2⟩ e c => ⟨am.mono h1 (fun b hb => e b (.inl hb)) c, tabF_same h2 (e P (.inr rfl)) c⟩
theorem lam_tab {am : Am} {P P' : Addr} {q : Str} (T : TabIn am P') (ne : P ≠ P') : TabIn (lamAm am P q) P' where
  sp := .inl T.sp
  rd := fun {n H} h => T.rd h.1
  wr := fun {n H H'} h t => ⟨T.wr h.1 t, tabF_same h.2 (t.2 P ne) fun b oc x e => t.2 b fun z => by
    obtain ⟨ps, e1, _⟩ := T.rd h.1
    rw [z, e1] at e
    cases e⟩
theorem lam_in {am : Am} {P : Addr} {q : Str} (np : ¬ am.sp P) : LamIn (lamAm am P q) P q where
  sp := .inr rfl
  rd := fun {n H} h => h.2
  wr := fun {n H H'} h t => ⟨am.mono h.1 (fun b hb => t.2 b (fun z => np (by rw [← z]; exact hb)) (am.trk h.1 hb)) fun b oc x e => t.2 b (fun z => by
    obtain ⟨ps, e1, _⟩ := h.2
    rw [z, e1] at e
    cases e) (by rw [e]; simp), t.1⟩
def spLawTL (K : PySem.W.Frag) (Ps : List Addr) (P : Addr) : Sp := fun vs H Q _ => ∃ (a : Addr) (ns : List Int), vs = [.ref a] ∧ Scr K H a ns ∧ ns.length ≤ 63 ∧ (∀ P ∈ Ps, GxR.TabG H P) ∧ H P = some (.tbl #[]) ∧ P ∉ Ps ∧ ∀ H', Q (.bl true) H'
end VL
namespace VL
open PySem PySem.Spec PyProof.Rows L2 HM
section
variable {n : Nat} {m : Nat → Nat → Nat} {K J S : List Nat} {O : List (List Nat)}
/-- a part within a part: its size divides -/
theorem sub_div (h : Hse n m) (s : Sub n m J) (s2 : Sub n m K) (hs : ∀ x ∈ J, x ∈ K) : K.length % J.length = 0 := by
  have inv : ∀ {g k : Nat}, g < n → cls m J g k → g ∈ K → k ∈ K := fun {g k} hg ⟨x, hx, e⟩ hgK => by
    rw [← e]
    exact s2.mul x (hs x hx) g hgK
  have pm : ((K.filter (isL m J)).flatMap fun g => J.map fun x => m x g).Perm K := by
    refine (List.perm_ext_iff_of_nodup ?_ s2.nd).mpr fun k => ?_
    · refine List.pairwise_flatMap.mpr ⟨fun g hg => ?_, ?_⟩
      · have hg1 := s2.lt g (List.mem_filter.mp hg).1
        exact List.pairwise_map.mpr (List.Pairwise.imp_of_mem (fun {a b} ha hb hab e => hab (h.rc (s.lt a ha) (s.lt b hb) hg1 e)) s.nd)
      · refine List.Pairwise.imp_of_mem (fun {a b} ha hb hab x hx y hy e => hab ?_) (List.Pairwise.filter (isL m J) (show List.Pairwise (· ≠ ·) K from s2.nd))
        obtain ⟨a1, a2⟩ := List.mem_filter.mp ha
        obtain ⟨b1, b2⟩ := List.mem_filter.mp hb
        obtain ⟨p, hp, rfl⟩ := List.mem_map.mp hx
        obtain ⟨q, hq, rfl⟩ := List.mem_map.mp hy
        have c1 := s.rp_eq h (s2.lt a a1) ⟨p, hp, rfl⟩
        have c2 := s.rp_eq h (s2.lt b b1) ⟨q, hq, rfl⟩
        rw [← (of_decide_eq_true a2 : rp m J a = a), ← (of_decide_eq_true b2 : rp m J b = b), c1, c2, e]
    · rw [List.mem_flatMap]
      constructor
      · rintro ⟨g, hg, hk⟩
        obtain ⟨g1, _⟩ := List.mem_filter.mp hg
        obtain ⟨x, hx, rfl⟩ := List.mem_map.mp hk
        exact s2.mul x (hs x hx) g g1
      · intro hk
        have hkn := s2.lt k hk
        have c := s.rp_cls h hkn
        obtain ⟨x, hx, e⟩ := s.symm h hkn c
        exact ⟨rp m J k, List.mem_filter.mpr ⟨inv hkn c hk, decide_eq_true (s.rp_rp h hkn)⟩, List.mem_map.mpr ⟨x, hx, e⟩⟩
  have := pm.length_eq
  rw [len_flat (c := J.length) fun g _ => by rw [List.length_map]] at this
  rw [← this]
  exact Nat.mul_mod_left _ _
end
end VL
namespace VL
open PySem PySem.Spec PyProof.Rows L2 HM
end VL
namespace VL
open PySem PySem.Spec PyProof.Rows L2 HM
end VL
namespace VL
open PySem PySem.Spec PyProof.Rows L2 HM
def tL (ks : List (List Nat)) (j : Nat) : List Nat := ks.getD j []
end VL
namespace VL
open PySem PySem.Spec PyProof.Rows L2 HM
section
variable {n : Nat} {m : Nat → Nat → Nat} {O : List Nat} {N : Nat} {a : Nat → Nat → Nat}
/-- O moves the numbers below N -/
structure Mov (m : Nat → Nat → Nat) (O : List Nat) (N : Nat) (a : Nat → Nat → Nat) : Prop where
  lt : ∀ i g, i < N → g ∈ O → a i g < N
  ze : ∀ i, i < N → a i 0 = i
  mu : ∀ i g k, i < N → g ∈ O → k ∈ O → a (a i g) k = a i (m g k)
theorem Mov.back (h : Hse n m) (s : Sub n m O) (M : Mov m O N a) {x y g : Nat} (hx : x < N) (hg : g ∈ O) (e : a x g = y) : ∃ k ∈ O, a y k = x := by
  obtain ⟨k, hk, e1, e2⟩ := s.inv h hg
  exact ⟨k, hk, by rw [← e, M.mu x g k hx hg hk, e1, M.ze x hx]⟩
/-- all that x is moved to -/
def IsPc (O : List Nat) (a : Nat → Nat → Nat) (N : Nat) (A : List Nat) : Prop := ∃ x, x < N ∧ ∀ y, y ∈ A ↔ ∃ g ∈ O, a x g = y
end
section
variable {n : Nat} {m : Nat → Nat → Nat} {L O : List Nat}
def shAt (n : Nat) (m : Nat → Nat → Nat) (L : List Nat) (i : Nat) : Nat := (lst m L n).getD i 0
/-- where a number leads a share, by places -/
def shMv (n : Nat) (m : Nat → Nat → Nat) (L : List Nat) (i g : Nat) : Nat := plc m L (m (shAt n m L i) g)
theorem shAt_get {i : Nat} (hi : i < (lst m L n).length) : (lst m L n)[i]? = some (shAt n m L i) := by
  unfold shAt
  rw [List.getD_eq_getElem?_getD, List.getElem?_eq_getElem hi]
  rfl
theorem plc_get (h : Hse n m) (s : Sub n m L) {g : Nat} (hg : g < n) : (lst m L n)[plc m L g]? = some (rp m L g) := by
  obtain ⟨j, hj, e⟩ := List.getElem_of_mem (lst_mem.mpr ⟨s.rp_lt h hg, s.rp_rp h hg⟩)
  have e2 : (lst m L n)[j]? = some (rp m L g) := by rw [List.getElem?_eq_getElem hj, e]
  have e3 := (lst_plc e2).2
  have e4 : plc m L (rp m L g) = plc m L g := (s.plc_iff h (s.rp_lt h hg) hg).mpr (s.rp_rp h hg)
  rw [← e4, e3]
  exact e2
theorem plc_lt (h : Hse n m) (s : Sub n m L) {g : Nat} (hg : g < n) : plc m L g < (lst m L n).length := (List.getElem?_eq_some_iff.mp (plc_get h s hg)).1
theorem shAt_plc (h : Hse n m) (s : Sub n m L) {g : Nat} (hg : g < n) : shAt n m L (plc m L g) = rp m L g := by
  unfold shAt
  rw [List.getD_eq_getElem?_getD, plc_get h s hg]
  rfl
theorem mov_sh (h : Hse n m) (s : Sub n m L) (sO : Sub n m O) : Mov m O (lst m L n).length (shMv n m L) := by
  have at_ : ∀ i, i < (lst m L n).length → shAt n m L i < n ∧ plc m L (shAt n m L i) = i := fun i hi => lst_plc (shAt_get hi)
  refine ⟨fun i g hi hg => plc_lt h s (h.lt _ _ (at_ i hi).1 (sO.lt g hg)), fun i hi => ?_, fun i g k hi hg hk => ?_⟩
  · unfold shMv
    rw [h.zr _ (at_ i hi).1]
    exact (at_ i hi).2
  · have hx := (at_ i hi).1
    have hgn := sO.lt g hg
    have hkn := sO.lt k hk
    have hxg := h.lt _ _ hx hgn
    unfold shMv
    rw [shAt_plc h s hxg]
    obtain ⟨l, hl, e⟩ := s.rp_cls h hxg
    have hr := s.rp_lt h hxg
    refine ((cls_plc h s (h.lt _ _ hx (h.lt g k hgn hkn)) (h.lt _ _ hr hkn)).mpr ⟨l, hl, ?_⟩).symm
    rw [← e, ← h.as _ g k hx hgn hkn, h.as l _ k (s.lt l hl) hxg hkn]
end
/-- a walk of one piece: what is met, what waits -/
structure Pw (O : List Nat) (a : Nat → Nat → Nat) (N x : Nat) (cur ws : List Nat) : Prop where
  nd : cur.Nodup
  x0 : x ∈ cur
  rc : ∀ y ∈ cur, ∃ g ∈ O, a x g = y
  sb : ∀ y ∈ ws, y ∈ cur
  wn : ws.Nodup
  cl : x ∈ ws ∨ ∀ g ∈ O, a x g ∈ cur
/-- whole pieces, all below j in them -/
structure Pd (O : List Nat) (a : Nat → Nat → Nat) (N j : Nat) (T : List (List Nat)) : Prop where
  nd : T.flatten.Nodup
  pc : ∀ A ∈ T, IsPc O a N A
  all : ∀ i, i < j → i ∈ T.flatten
section
variable {n : Nat} {m : Nat → Nat → Nat} {O : List Nat} {N : Nat} {a : Nat → Nat → Nat}
theorem Pd.lt (M : Mov m O N a) {j : Nat} {T : List (List Nat)} (D : Pd O a N j T) : ∀ y ∈ T.flatten, y < N := fun y hy => by
  obtain ⟨A, hA, hyA⟩ := List.mem_flatten.mp hy
  obtain ⟨x, hx, mem⟩ := D.pc A hA
  obtain ⟨g, hg, e⟩ := (mem y).mp hyA
  rw [← e]
  exact M.lt x g hx hg
/-- what is moved to a met one is met -/
theorem Pd.apart (h : Hse n m) (s : Sub n m O) (M : Mov m O N a) {j x g : Nat} {T : List (List Nat)} (D : Pd O a N j T) (hx : x < N) (hg : g ∈ O) (hn : x ∉ T.flatten) : a x g ∉ T.flatten := fun hy => by
  obtain ⟨A, hA, hyA⟩ := List.mem_flatten.mp hy
  obtain ⟨z, hz, mem⟩ := D.pc A hA
  obtain ⟨k, hk, e⟩ := M.back h s hx hg rfl
  obtain ⟨u, hu, e2⟩ := (mem _).mp hyA
  refine hn (List.mem_flatten.mpr ⟨A, hA, (mem x).mpr ⟨m u k, s.mul u hu k hk, ?_⟩⟩)
  rw [← M.mu z u k hz hu hk, e2, e]
theorem flat_snoc1 (T : List (List Nat)) (A : List Nat) : (T ++ [A]).flatten = T.flatten ++ A := by simp
theorem Pd.add (h : Hse n m) (s : Sub n m O) (M : Mov m O N a) {x : Nat} {T : List (List Nat)} {cur : List Nat} (D : Pd O a N x T) (hx : x < N) (hn : x ∉ T.flatten) (W : Pw O a N x cur []) : Pd O a N (x + 1) (T ++ [cur]) := by
  have cl := W.cl.resolve_left (by simp)
  refine ⟨?_, fun A hA => ?_, fun i hi => ?_⟩
  · rw [flat_snoc1, List.nodup_append]
    exact ⟨D.nd, W.nd, fun y hy z hz e => by
      obtain ⟨g, hg, e2⟩ := W.rc z hz
      exact D.apart h s M hx hg hn (by rw [e2, ← e]; exact hy)⟩
  · rcases List.mem_append.mp hA with z | z
    · exact D.pc A z
    · rw [List.mem_singleton.mp z]
      exact ⟨x, hx, fun y => ⟨W.rc y, fun ⟨g, hg, e⟩ => e ▸ cl g hg⟩⟩
  · rw [flat_snoc1, List.mem_append]
    by_cases z : i = x
    · rw [z]; exact .inr W.x0
    · exact .inl (D.all i (by omega))
end
end VL
namespace VL
open PySem PySem.Spec PyProof.Rows L2 HM
end VL
namespace HM
open PySem PySem.Spec PyProof.Rows L2
end HM
namespace VL
open PySem PySem.Spec PyProof.Rows L2 HM
end VL
namespace VL
open PySem PySem.Spec PyProof.Rows L2 HM
/-- the places of the parts of the first j kinds -/
structure Came (n : Nat) (m : Nat → Nat → Nat) (ks : List (List Nat)) (j : Nat) (C : List (List Nat × Nat)) : Prop where
  nd : (C.map (·.1)).Nodup
  mem : ∀ K i, (K, i) ∈ C ↔ i < j ∧ ∃ K0, ks[i]? = some K0 ∧ ∃ g, g < n ∧ Led n m K0 g K
section
variable {n : Nat} {m : Nat → Nat → Nat} {ks : List (List Nat)} {j : Nat} {C : List (List Nat × Nat)}
theorem Came.sub (h : Hse n m) (k : IsKinds n m ks) (c : Came n m ks j C) {K : List Nat} (hK : K ∈ C.map (·.1)) : Sub n m K := by
  obtain ⟨⟨K', i⟩, hq, rfl⟩ := List.mem_map.mp hK
  obtain ⟨_, K0, h0, g, hg, L⟩ := (c.mem _ _).mp hq
  exact L.sub h (k.sub K0 (List.mem_of_getElem? h0)) hg
/-- a part of one kind is of no other one -/
theorem kind_one (h : Hse n m) (k : IsKinds n m ks) {i1 i2 : Nat} {K1 K2 K : List Nat} {g1 g2 : Nat} (h1 : ks[i1]? = some K1) (h2 : ks[i2]? = some K2) (hg1 : g1 < n) (hg2 : g2 < n) (L1 : Led n m K1 g1 K) (L2 : Led n m K2 g2 K) : i1 = i2 := by
  have s1 := k.sub K1 (List.mem_of_getElem? h1)
  have s2 := k.sub K2 (List.mem_of_getElem? h2)
  obtain ⟨b, hb, e1, e2⟩ := h.inv2 hg2
  have := k.one K1 (List.mem_of_getElem? h1) K2 (List.mem_of_getElem? h2) (m g1 b) (h.lt g1 b hg1 hb) (L1.then_ h s1 hg1 hb (L2.back h s2 hg2 hb e1))
  subst this
  obtain ⟨a1, a2⟩ := List.getElem?_eq_some_iff.mp h1
  obtain ⟨b1, b2⟩ := List.getElem?_eq_some_iff.mp h2
  exact (List.getElem_inj (i := i1) (j := i2) (h₀ := a1) (h₁ := b1) k.nd).mp (by rw [a2, b2])
theorem Came.apart (h : Hse n m) (k : IsKinds n m ks) (c : Came n m ks j C) {K0 K : List Nat} {g : Nat} (h0 : ks[j]? = some K0) (hg : g < n) (L : Led n m K0 g K) : K ∉ C.map (·.1) := fun hK => by
  obtain ⟨⟨K', i⟩, hq, rfl⟩ := List.mem_map.mp hK
  obtain ⟨hi, K1, h1, g1, hg1, L1⟩ := (c.mem _ _).mp hq
  have := kind_one h k h1 h0 hg1 hg L1 L
  omega
theorem Came.add (h : Hse n m) (k : IsKinds n m ks) (c : Came n m ks j C) {K0 : List Nat} {O : List (List Nat)} (h0 : ks[j]? = some K0) (nd : O.Nodup) (mem : ∀ K, K ∈ O ↔ ∃ g, g < n ∧ Led n m K0 g K) : Came n m ks (j + 1) (C ++ O.map fun K => (K, j)) := by
  refine ⟨?_, fun K i => ?_⟩
  · rw [List.map_append, List.map_map]
    have e : (O.map ((fun q : List Nat × Nat => q.1) ∘ fun K => (K, j))) = O := List.map_id' O
    rw [e, List.nodup_append]
    exact ⟨c.nd, nd, fun a ha b hb e => by
      obtain ⟨g, hg, L⟩ := (mem b).mp hb
      exact c.apart h k h0 hg L (e ▸ ha)⟩
  · rw [List.mem_append, c.mem, List.mem_map]
    constructor
    · rintro (⟨h1, h2⟩ | ⟨K', h1, e⟩)
      · exact ⟨by omega, h2⟩
      · injection e with e1 e2
        subst e1 e2
        exact ⟨by omega, K0, h0, (mem K').mp h1⟩
    · rintro ⟨h1, K1, h2, h3⟩
      by_cases z : i = j
      · subst z
        rw [h0] at h2
        cases h2
        exact .inr ⟨K, (mem K).mpr h3, rfl⟩
      · exact .inl ⟨by omega, K1, h2, h3⟩
theorem Came.all (h : Hse n m) (k : IsKinds n m ks) (c : Came n m ks ks.length C) (K : List Nat) : K ∈ C.map (·.1) ↔ Sub n m K := by
  refine ⟨c.sub h k, fun s => ?_⟩
  obtain ⟨k1, hk1, g, hg, L⟩ := k.all K s
  obtain ⟨b, hb, e1, e2⟩ := h.inv2 hg
  obtain ⟨i, hi, e⟩ := List.getElem_of_mem hk1
  exact List.mem_map.mpr ⟨(K, i), (c.mem K i).mpr ⟨hi, k1, by rw [List.getElem?_eq_getElem hi, e], b, hb, L.back h s hg hb e1⟩, rfl⟩
end
end VL
namespace HM
open PySem PySem.Spec PyProof.Rows L2
end HM
namespace VL
open PySem PySem.Spec PyProof.Rows L2 HM
section
variable {c : Fc} {X : Cx} {o e f : Expr} {pos apos cpos : Pos}
theorem PrK.ints {F : Hp} : ∀ {ks : List (Key × V)} {kvs : List (Key × Dt)} {is : List Int}, PrK F ks kvs → kvs.map (·.2) = is.map Dt.int → ks.map (·.2) = is.map V.int
  | _, _, [], .nil, _ => rfl
  | _, _, _ :: _, .nil, e => by cases e
  | _, _, [], .cons _ _, e => by cases e
  | _, _, i :: is, .cons h t, e => by
    rw [List.map_cons, List.map_cons] at e
    injection e with e1 e2
    have h2 := h.2
    rw [e1] at h2
    rw [List.map_cons, List.map_cons, h2.int_inv, PrK.ints t e2]
end
end VL
namespace VL
open PySem PySem.Spec PyProof.Rows L2 HM
/-- a is a new list of numbers, not still -/
structure NewL (am : Am) (H F' H' : Hp) (a : Addr) (x : List Int) : Prop where
  f : F' a = none
  h : H a = none
  s : ¬ am.sp a
  o : H' a = some (.lst (x.map V.int))
structure VEnP where
  nx : Ev → Nat → Prop
  rt : List Int → List Int → Nat → Prop
abbrev VTP := VEnP → Ev → Nat → Prop
structure EnP (c : Fc) (F : Hp) (V : VEnP) (D : Ends) : Prop where
  nx : ∀ F' H' σ' env' n', Rel c F' H' σ' env' n' → Up F F' → V.nx env' n' → D.nx σ' H'
  rt : ∀ F' H' σ' env' n' t a b x y, Rel c F' H' σ' env' n' → Up F F' → F' t = some (.tup [.ref a, .ref b]) → a ≠ b → NewL c.am c.H0 F' H' a x → NewL c.am c.H0 F' H' b y → V.rt x y n' → D.rt (.ref t) H'
def sP (c : Fc) (ts : VTP) : TS := fun D σ H => ∃ F env n V, Rel c F H σ env n ∧ ts V env n ∧ EnP c F V D
section
variable {c : Fc} {X : Cx} {st : Stmt} {rest body : List Stmt} {pos : Pos} {t u : VTP}
theorem EnP.up {F F' : Hp} {V : VEnP} {D : Ends} (h : EnP c F V D) (w : Up F F') : EnP c F' V D :=
  ⟨fun F2 H' σ' env' n' r z => h.nx F2 H' σ' env' n' r (w.trans z), fun F2 H' σ' env' n' t a b x y r z => h.rt F2 H' σ' env' n' t a b x y r (w.trans z)⟩
end
section
variable {c : Fc} {X : Cx} {F H : Hp} {σ : L2.St} {env : Ev} {n : Nat} {a : Addr} {x : List Int}
theorem Rel.notOwn (r : Rel c F H σ env n) (h : H a = none) : ∀ (j : Nat) k', env[j]? = some (.ow k') → σ[j]? ≠ some (some (.ref a)) := fun j k' e z => by
  obtain ⟨a2, o2, g1, _, _, _, g5, _⟩ := r.sl j _ e
  rw [g1] at z
  cases z
  rw [g5] at h
  cases h
theorem Rel.H0none (r : Rel c F H σ env n) (h : H a = none) (hs : ¬ c.am.sp a) : c.H0 a = none := by
  cases e : c.H0 a with
  | none => rfl
  | some o => rw [r.keep0 a o e hs] at h; cases h
variable {CX : CXT} {E : XK} {p pos : Pos} {e : Expr} {es : List Expr} {tas : VTA} {f : Addr} {fd : FuncData} {ps : List Str} {k : Nat} {fn : Str} {gd : Around → Prop}
end
def two (x y : List Int) : Nat → List Int := fun i => if i = 0 then x else y
end VL
namespace VL
open PySem PySem.Spec PyProof.Rows L2 HM
section
variable {c : Fc} {X : Cx} {a b e : Expr} {es : List Expr} {ta tb te : VTE} {tas : VTA} {pos : Pos} {F H : Hp} {σ : L2.St} {env : Ev} {n : Nat}
/-- row i stands beside -/
structure MatAt (c : Fc) (i : Nat) (l : List Int) (q : Addr) : Prop where
  ex : ∃ Hb m A r, c.H0 = mat Hb m A r ∧ MatOk c.am c.F0 Hb m A ∧ i < m ∧ r i = l ∧ A i = q
theorem MatAt.at {i : Nat} {l : List Int} {q : Addr} (h : MatAt c i l q) (r : Rel c F H σ env n) : H q = some (.lst (l.map V.int)) ∧ F q = none ∧ ¬ c.am.sp q := by
  obtain ⟨Hb, m, A, rr, e, mo, hi, rfl, rfl⟩ := h.ex
  have h1 : c.H0 (A i) = some (.lst ((rr i).map V.int)) := by rw [e]; exact mat_at mo.inj hi
  exact ⟨r.keep0 _ _ h1 (mo.ns i hi), r.out0 _ _ h1 (fun _ z => by cases z) (mo.f0 i hi), mo.ns i hi⟩
end
end VL
namespace VL
open PySem PySem.Spec PyProof.Rows L2 HM
section
variable {am : Am} {F0 H0 H1 F H : Hp} {σ : L2.St} {env : Ev} {n : Nat} {X : Cx} {body : List Stmt} {t : XTS}
theorem MatOk.up {m : Nat} {A : Nat → Addr} {r : Nat → List Int} (mo : MatOk am F0 H0 m A) : Up H0 (mat H0 m A r) := fun a o e => by
  rw [mat_out fun i hi z => by rw [← z, mo.h0 i hi] at e; cases e]
  exact e
end
end VL
namespace VL
open PySem PySem.Spec PyProof.Rows L2 HM
abbrev VSpN := List Dt → Nat → (Con → Nat → Prop) → Prop
def vspN (am : Am) (sp : VSpN) : Sp := fun vs H Q _ => ∃ F ds n Q', Up F H ∧ (∀ a, am.sp a → F a = none) ∧ am.ok n H ∧ Rps F vs ds ∧ sp ds n Q' ∧
  ∀ a o k F' H' n', Out am F H F' H' n' → F' a = none → H a = none → ¬ am.sp a → H' a = some o → OwOk F' a o k → Q' k n' → Q (.ref a) H'
abbrev VFnN (gd : Around → Prop) (P : Program) (w : World) (K : PySem.W.Frag) (mg : Str → Option Value) (base : Heap) (CX : CXT) (k : Nat) (f : Addr) (fd : FuncData) (ps : List Str) (am : Am) (sp : VSpN) : Prop := PFn gd P w K mg base CX k f fd ps (vspN am sp)
structure VEnN where
  nx : Ev → Nat → Prop
  rt : Con → Nat → Prop
abbrev VTNs := VEnN → Ev → Nat → Prop
structure EnN (c : Fc) (F : Hp) (V : VEnN) (D : Ends) : Prop where
  nx : ∀ F' H' σ' env' n', Rel c F' H' σ' env' n' → Up F F' → V.nx env' n' → D.nx σ' H'
  rt : ∀ F' H' σ' env' n' a o k, Rel c F' H' σ' env' n' → Up F F' → F' a = none → c.H0 a = none → ¬ c.am.sp a → H' a = some o → OwOk F' a o k → V.rt k n' → D.rt (.ref a) H'
def sN (c : Fc) (ts : VTNs) : TS := fun D σ H => ∃ F env n V, Rel c F H σ env n ∧ ts V env n ∧ EnN c F V D
section
variable {c : Fc} {X : Cx} {st : Stmt} {rest body : List Stmt} {pos : Pos} {t u : VTNs} {e : Expr} {tn : VTN}
theorem EnN.up {F F' : Hp} {V : VEnN} {D : Ends} (h : EnN c F V D) (w : Up F F') : EnN c F' V D :=
  ⟨fun F2 H' σ' env' n' r z => h.nx F2 H' σ' env' n' r (w.trans z), fun F2 H' σ' env' n' a o k r z => h.rt F2 H' σ' env' n' a o k r (w.trans z)⟩
theorem pssN_one (h1 : PS X st (sN c t)) : PSs X [st] (sN c t) := pss_one h1
def vRetN (tn : VTN) : VTNs := fun V env n => tn env n fun k _ n' => V.rt k n'
theorem ps_retN (h : PE X e (nOf c tn)) : PS X (.Return (some e) pos) (sN c (vRetN tn)) := PS.imp (ps_ret h) fun D σ H ⟨F, env, n, V, rr, q, k⟩ =>
  ⟨F, env, n, _, rr, q, fun a o H' F' kk env' n' r' w hF h0 ns hH ok _ q' => k.rt F' H' σ env' n' a o kk r' w hF h0 ns hH ok q'⟩
end
section
variable {P : Program} {w : World} {K : PySem.W.Frag} {mg : Str → Option Value} {base : Heap} {am : Am} {gd : Around → Prop} {x qual : Str} {st : Stmt} {f : Addr} {fd : FuncData} {N ps : List Str} {k : Nat} {sp : VSpN}
theorem vfn_ofN (F : Fun K x qual st f fd) (S : FnScope N ps (defScope st)) (len : ∀ ds n Q, sp ds n Q → ds.length = ps.length)
    (body : ∃ ts : VTNs, (∀ (cdv : Value) (A : Around) (out : List Env) (s : Shared) (H : Hp) (E : XK) (F0 H0 : Hp), fd.code = cdv → gd A → Room k (A.deeper (envOfC qual (defScope st) s.heap.objs.size f cdv)) → PSs (cxOf CX0 P w K mg base N qual (defScope st) f cdv A out s H E).nox (defBody st) (sN ⟨am, F0, H0⟩ ts)) ∧
      ∀ ds n Q, sp ds n Q → ts { nx := fun _ _ => False, rt := Q } (startE N ds) n) : VFnN gd P w K mg base CX0 (k + 1) f fd ps am sp := by
  obtain ⟨ts, hts, hsp⟩ := body
  refine pfn_of F S (fun vs H Q E h => ?_) (fun cdv A out s H vs Q E hcd hgd hr h => ?_)
  · obtain ⟨F0, ds, n, Q', _, _, _, r, h, _⟩ := h
    rw [r.len]
    exact len ds n Q' h
  · obtain ⟨F0, ds, n, Q', u, hs, ha, r, h, kq⟩ := h
    exact ⟨_, hts cdv A out s H E F0 H hcd hgd hr, F0, startE N ds, n, _, rel_start u hs ha r, hsp ds n Q' h, ⟨fun _ _ _ _ _ _ _ q => q.elim, fun F' H' σ' env' n' a o kk r' _ hF h0 ns hH ok q => kq a o kk F' H' n' r'.out hF h0 ns hH ok q⟩⟩
variable {X : Cx} {c : Fc} {CX : CXT} {E : XK} {p pos : Pos} {e : Expr} {es : List Expr} {tas : VTA}
/-- f(..), a new thing -/
def vCallN (sp : VSpN) (ta : VTA) : VTN := fun env n Q => ta env n fun ds env1 n1 => sp ds n1 fun kk n2 => Q kk env1 n2
theorem callN_of {σ : L2.St} {H : Hp} {R : VK} (h : nOf c (vCallN sp tas) σ H R) : tCall (vspN c.am sp) [] E (aOf c tas) σ H R := by
  obtain ⟨F, env, n, Q, r, q, kk⟩ := h
  refine ⟨F, env, n, _, r, q, fun vs H1 F1 ds env1 n1 r1 u1 p1 q1 => ?_⟩
  show vspN c.am sp (vs ++ []) H1 R E
  rw [List.append_nil]
  exact ⟨F1, ds, n1, _, r1.sub, r1.spf, r1.amb, p1, q1, fun a o ck F' H' n' ot hF h0 ns hH ok q' => kk a o H' F' ck env1 n' (r1.call ot.u ot.s ot.f ot.o ot.k ot.a) (u1.trans ot.u) hF (r1.H0none h0 ns) ns hH ok (r1.notOwn h0) q'⟩
theorem vn_callN (G : VFnN gd X.prog X.w X.K X.mg X.base CX k f fd ps c.am sp) (hgd : gd X.A) (hr : Room k X.A) (hg : Gl X x) (hm : X.mg x = some (.ref f)) (hk : PySem.W.keepIn X.K (.ref f) = true) (hb : Binds X.K fd ps []) (hx : Passes CX X (fun _ _ _ => False)) (ha : PA X (e :: es) (aOf c tas)) (hdb : (x == ("__debug__" : Str)) = false := by decide)
    (he : starEach (e :: es) X.env = (false, eval e X.env) :: starEach es X.env := by rfl) (hpl : (backTo pos (starEach es X.env)).any (·.1) = false := by rfl) : PE X (.Call (.Name x p) (e :: es) [] pos) (nOf c (vCallN sp tas)) := PE.imp (pe_callP G hgd hr hg hm hk hb hx ha hdb he hpl) fun _ _ _ => callN_of
end
def hid (env : Ev) : Ev := env.map fun s => match s with
  | .ow _ => .no
  | s => s
theorem hid_get {env : Ev} {i : Nat} {s : Sl} (h : (hid env)[i]? = some s) : (∃ k, s = .no ∧ env[i]? = some (.ow k)) ∨ (env[i]? = some s ∧ ∀ k, s ≠ .ow k) := by
  unfold hid at h
  rw [List.getElem?_map] at h
  obtain ⟨s0, h0, rfl⟩ := Option.map_eq_some_iff.mp h
  cases s0 with
  | no => exact .inr ⟨h0, no_ow⟩
  | fz d => exact .inr ⟨h0, fz_ow d⟩
  | ow k => exact .inl ⟨k, rfl, h0⟩
theorem hid_len (env : Ev) : (hid env).length = env.length := by unfold hid; rw [List.length_map]
section
variable {am : Am} {F0 H0 : Hp} {F H : Hp} {σ : L2.St} {env : Ev} {n i : Nat} {ds : List Dt}
/-- in: what stood is all that stands -/
theorem Rel.intoS (r : Rel ⟨am, F0, H0⟩ F H σ env n) (e : env[i]? = some (.ow (.lst ds))) : ∃ a xs, H a = some (.lst xs) ∧ F a = none ∧ σ[i]? = some (some (.ref a)) ∧ Up F (upd F a (.lst xs)) ∧ Rel ⟨am, upd F a (.lst xs), H⟩ (upd F a (.lst xs)) H σ ((hid env).set i (.fz (.lst ds))) n := by
  obtain ⟨a, o, g1, g2, g3, g4, g5, xs, rfl, rx⟩ := r.sl i _ e
  have hi : i < env.length := (List.getElem?_eq_some_iff.mp e).1
  have up : Up F (upd F a (.lst xs)) := up_lay g2
  refine ⟨a, xs, g5, g2, g1, up, fun b u z => ?_, fun b hb => ?_, r.amb, Up.refl _, fun _ _ _ _ z => z, fun _ _ z _ => z, by rw [List.length_set, hid_len]; exact r.len, fun j s z => ?_, fun j l b k1 k2 hjl z1 => ?_⟩
  · by_cases h : b = a
    · subst h; rw [upd_same] at z; cases z; exact g5
    · rw [upd_ne h] at z; exact r.sub b u z
  · rw [upd_ne (fun h : b = a => g4 (h ▸ hb))]; exact r.spf b hb
  · by_cases h : j = i
    · subst h
      rw [List.getElem?_set_self (by rw [hid_len]; exact hi)] at z
      cases z
      exact ⟨_, g1, .lst upd_same (rx.up up)⟩
    · rw [List.getElem?_set_ne (Ne.symm h)] at z
      rcases hid_get z with ⟨k, rfl, _⟩ | ⟨z2, hk⟩
      · trivial
      · have q := r.sl j s z2
        cases s with
        | no => trivial
        | fz d => exact let ⟨v, h1, h2⟩ := q; ⟨v, h1, h2.up up⟩
        | ow k => exact absurd rfl (hk k)
  · by_cases h : j = i
    · subst h
      rw [List.getElem?_set_self (by rw [hid_len]; exact hi)] at z1
      cases z1
    · rw [List.getElem?_set_ne (Ne.symm h)] at z1
      rcases hid_get z1 with ⟨k, z2, _⟩ | ⟨_, hk⟩
      · cases z2
      · exact absurd rfl (hk k1)
/-- of what is still the tuples alone, and what was still -/
def onlyT (F F2 : Hp) : Hp := fun b => match F2 b with
  | some (.tup xs) => some (.tup xs)
  | _ => F b
theorem onlyT_inv {F F2 : Hp} {a : Addr} {o : HO} (h : onlyT F F2 a = some o) : (∃ xs, o = .tup xs ∧ F2 a = some (.tup xs)) ∨ F a = some o := by
  simp only [onlyT] at h
  split at h
  · rename_i xs e2
    exact .inl ⟨xs, (Option.some.inj h).symm, e2⟩
  · exact .inr h
theorem onlyT_up {F F2 : Hp} (u : Up F F2) : Up F (onlyT F F2) := fun a o e => by
  have e2 := u _ _ e
  simp only [onlyT]
  split
  · rename_i xs e3
    rw [e3] at e2
    exact e2
  · exact e
/-- out: what stood still stands -/
theorem Rel.outS (r : Rel ⟨am, F0, H0⟩ F H σ env n) {F1 F2 H2 : Hp} {env2 : Ev} {n2 : Nat} (u1 : Up F F1) (h1 : ∀ b xs, F1 b = some (.tup xs) → F b = some (.tup xs)) (how : ∀ (j : Nat) k b, env[j]? = some (.ow k) → σ[j]? = some (some (.ref b)) → F2 b = none ∨ ∃ xs, F2 b = some (.lst xs)) (u2 : Up F1 F2) (r2 : Rel ⟨am, F1, H⟩ F2 H2 σ env2 n2) : Rel ⟨am, F0, H0⟩ (onlyT F F2) H2 σ env n2 := by
  have up := onlyT_up (u1.trans u2)
  refine ⟨fun b o e => ?_, fun b hb => ?_, r2.amb, r.up0.trans up, fun b o e1 nt e2 => ?_, fun b o e ns => r2.keep0 b o (r.keep0 b o e ns) ns, r.len, fun j s e => ?_, r.apart⟩
  · rcases onlyT_inv e with ⟨xs, rfl, e2⟩ | e2
    · exact r2.sub _ _ e2
    · exact r2.sub _ _ ((u1.trans u2) _ _ e2)
  · cases e : onlyT F F2 b with
    | none => rfl
    | some o =>
      rcases onlyT_inv e with ⟨xs, rfl, e2⟩ | e2
      · rw [r2.spf b hb] at e2; cases e2
      · rw [r.spf b hb] at e2; cases e2
  · have hF := r.out0 b o e1 nt e2
    cases e : onlyT F F2 b with
    | none => rfl
    | some ob =>
      rcases onlyT_inv e with ⟨xs, rfl, e3⟩ | e3
      · by_cases hs : am.sp b
        · rw [r2.spf b hs] at e3; cases e3
        · have hb := r2.keep0 b o (r.keep0 b o e1 hs) hs
          rw [r2.sub _ _ e3] at hb
          cases hb
          exact absurd rfl (nt xs)
      · rw [hF] at e3; cases e3
  · have q := r.sl j s e
    cases s with
    | no => trivial
    | fz d => exact let ⟨v, g1, g2⟩ := q; ⟨v, g1, g2.up up⟩
    | ow k =>
      obtain ⟨b, o, g1, g2, g3, g4, g5, g6⟩ := q
      refine ⟨b, o, g1, ?_, g3, g4, r2.keep0 b o g5 g4, g6.up up⟩
      cases e9 : onlyT F F2 b with
      | none => rfl
      | some ob =>
        rcases onlyT_inv e9 with ⟨xs, rfl, e3⟩ | e3
        · rcases how j k b e g1 with z | ⟨ys, z⟩
          · rw [z] at e3; cases e3
          · rw [z] at e3; cases e3
        · rw [g2] at e3; cases e3
variable {X : Cx} {e : Expr} {te : VTE} {tn : VTN}
theorem own_still {F1 F2 H2 : Hp} {env2 : Ev} {n2 : Nat} (r : Rel ⟨am, F0, H0⟩ F H σ env n) {a : Addr} {xs : List V} (e1 : F1 = upd F a (.lst xs)) (u2 : Up F1 F2) (r2 : Rel ⟨am, F1, H⟩ F2 H2 σ env2 n2) : ∀ (j : Nat) k b, env[j]? = some (.ow k) → σ[j]? = some (some (.ref b)) → F2 b = none ∨ ∃ xs, F2 b = some (.lst xs) := fun j k b ej eb => by
  obtain ⟨b', o, g1, g2, g3, g4, g5, g6⟩ := r.sl j _ ej
  rw [eb] at g1
  cases g1
  by_cases h : b = a
  · subst h
    exact .inr ⟨xs, u2 _ _ (by rw [e1]; exact upd_same)⟩
  · exact .inl (r2.out0 b o g5 g6.nt (by show F1 b = none; rw [e1, upd_ne h]; exact g2))
end
end VL
namespace HM
open PySem PySem.Spec PyProof.Rows L2
end HM
namespace VL
open PySem PySem.Spec PyProof.Rows L2 HM
end VL
namespace VL
open PySem PySem.Spec PyProof.Rows L2 HM
end VL
namespace VL
open PySem PySem.Spec PyProof.Rows L2 HM
section
variable {n : Nat} {m : Nat → Nat → Nat} {gs L H : List Nat}
theorem rch_in (s : Sub n m L) (hg : ∀ g ∈ gs, g ∈ L) : ∀ {x : Nat}, Rch m gs x → x ∈ L
  | _, .zero => s.ze
  | _, .step a g => s.mul _ (rch_in s hg a) _ (hg _ g)
theorem IsPt.zero (m : Nat → Nat → Nat) : IsPt m [] [0] := ⟨by simp, fun x => ⟨fun h => by rw [List.mem_singleton.mp h]; exact .zero, fun h => by
  cases h with
  | zero => simp
  | step _ g => cases g⟩⟩
/-- few numbers on the way through a part -/
structure FewOn (m : Nat → Nat → Nat) (L : List Nat) (j : Nat) (gs H : List Nat) : Prop where
  few : gs.length ≤ j
  sub : ∀ g ∈ gs, g ∈ L
  pt : IsPt m gs H
  got : ∀ x ∈ L.take j, x ∈ H
theorem FewOn.start (m : Nat → Nat → Nat) (L : List Nat) : FewOn m L 0 [] [0] := ⟨Nat.zero_le _, fun g h => (by cases h), IsPt.zero m, fun x h => by rw [List.take_zero] at h; cases h⟩
theorem FewOn.same {j x : Nat} (F : FewOn m L j gs H) (hx : L[j]? = some x) (h : x ∈ H) : FewOn m L (j + 1) gs H := ⟨Nat.le_succ_of_le F.few, F.sub, F.pt, fun y hy => by
  rw [take_snoc' hx] at hy
  rcases List.mem_append.mp hy with hy | hy
  · exact F.got y hy
  · rw [List.mem_singleton.mp hy]; exact h⟩
theorem FewOn.more {j x : Nat} {H' : List Nat} (h : Hse n m) (s : Sub n m L) (F : FewOn m L j gs H) (hx : L[j]? = some x) (p : IsPt m (gs ++ [x]) H') : FewOn m L (j + 1) (gs ++ [x]) H' := ⟨by rw [List.length_append]; have := F.few; simp; omega, fun g hg => by
  rcases List.mem_append.mp hg with hg | hg
  · exact F.sub g hg
  · rw [List.mem_singleton.mp hg]; exact List.mem_of_getElem? hx, p, fun y hy => by
  rw [take_snoc' hx] at hy
  rcases List.mem_append.mp hy with hy | hy
  · exact (p.mem y).mpr (((F.pt.mem y).mp (F.got y hy)).mono fun g hg => List.mem_append_left _ hg)
  · rw [List.mem_singleton.mp hy, p.mem]
    have := Rch.step (m := m) (gs := gs ++ [x]) .zero (List.mem_append_right gs (List.mem_singleton.mpr rfl))
    rwa [h.zl x (s.lt x (List.mem_of_getElem? hx))] at this⟩
theorem FewOn.all (s : Sub n m L) (F : FewOn m L L.length gs H) : IsPt m gs L := by
  have : H = L := rising_eq F.pt.up s.up fun x => ⟨fun hx => rch_in s F.sub ((F.pt.mem x).mp hx), fun hx => F.got x (by rw [List.take_length]; exact hx)⟩
  rw [← this]
  exact F.pt
end
end VL
namespace VL
open PySem PySem.Spec PyProof.Rows L2 HM
section
variable {am : Am} {F0 H0 : Hp} {X : Cx} {e : Expr} {tt : VTT}
/-- a test, slot i held still while it is made -/
def vFrzT (i : Nat) (tt : VTT) : VTT := fun env n Q => ∃ ds, env[i]? = some (.ow (.lst ds)) ∧ tt ((hid env).set i (.fz (.lst ds))) n fun b env2 n2 => env2 = (hid env).set i (.fz (.lst ds)) ∧ Q b env n2
theorem vt_frz {i : Nat} (h : ∀ F0 H0, PT X e (cOf ⟨am, F0, H0⟩ tt)) : PT X e (cOf ⟨am, F0, H0⟩ (vFrzT i tt)) :=
  PT.imp (t := fun σ H R => ∃ F0 H0, cOf ⟨am, F0, H0⟩ tt σ H R) ⟨fun pins s σ H Q I ⟨F0, H0, q⟩ => (h F0 H0).run pins s σ H Q I q⟩ fun σ H R ⟨F, env, n, Q, r, ⟨ds, ei, q⟩, k⟩ => by
    obtain ⟨a, xs, hH, hF, hσ, up, r1⟩ := r.intoS ei
    refine ⟨_, H, _, _, n, _, r1, q, fun b H2 F2 env2 n2 r2 u2 q2 => ?_⟩
    obtain ⟨_, q2⟩ := q2
    exact k b H2 _ env n2 (r.outS up (fun b ys z => by
      by_cases w : b = a
      · subst w; rw [upd_same] at z; cases z
      · rw [upd_ne w] at z; exact z) (own_still r rfl u2 r2) u2 r2) (onlyT_up (up.trans u2)) q2
end
end VL
namespace VL
open PySem PySem.Spec PyProof.Rows L2 HM
def m1 : Nat → Nat → Nat := fun _ _ => 0
def m2 : Nat → Nat → Nat := fun a b => (a + b) % 2
end VL
namespace HM
open PySem PySem.Spec PyProof.Rows L2
section
variable {X : Cx}
theorem pairsT_of {pins : List (Addr × Obj)} {σ : L2.St} {H : Hp} {s : Shared} (I : Inv X pins σ H s) : ∀ (L : List (Addr × List Key × Addr × V)), (∀ q ∈ L, SqT X.K H q.1 [V.ref q.2.2.1, q.2.2.2]) →
    ∃ us : List Value, us.length = L.length ∧ ∀ (j : Nat) q, L[j]? = some q → ∃ u, us[j]? = some u ∧ RelV q.2.2.2 u ∧ IsTup s.heap q.1 #[.ref q.2.2.1, u]
  | [], _ => ⟨[], rfl, fun j q e => by simp at e⟩
  | p :: L, h => by
    obtain ⟨us, hl, hu⟩ := pairsT_of I L fun q hq => h q (List.mem_cons_of_mem _ hq)
    obtain ⟨its, rv, ht, _⟩ := I.tuple (h p List.mem_cons_self)
    obtain ⟨u, y, ei, ru, ry⟩ := vals2 rv
    subst ei
    cases (show u = Value.ref p.2.2.1 from ru)
    refine ⟨y :: us, by rw [List.length_cons, List.length_cons, hl], fun j q e => ?_⟩
    cases j with
    | zero =>
      have e' : p = q := Option.some.inj e
      subst e'
      exact ⟨y, rfl, ry, ht⟩
    | succ j =>
      obtain ⟨u', e1, e2, e3⟩ := hu j q (by simpa using e)
      exact ⟨u', by simpa using e1, e2, e3⟩
theorem kt_all {H : Hp} : ∀ (L : List (List Key × Addr × V)) (us : List Value) {kvs : List (List Key × V)} {xs : List (List Key × Addr × Value)}, KT H kvs xs → us.length = L.length → (∀ (j : Nat) q, L[j]? = some q → H q.2.1 = some (.tup (q.1.map kV)) ∧ ∃ u, us[j]? = some u ∧ RelV q.2.2 u) →
    KT H (L.foldl (fun acc q => putK acc q.1 q.2.2) kvs) ((L.zip us).foldl (fun acc q => storedH acc q.1.1 q.1.2.1 q.2) xs)
  | [], [], _, _, r, _, _ => r
  | [], _ :: _, _, _, _, hl, _ => by cases hl
  | _ :: _, [], _, _, _, hl, _ => by cases hl
  | q :: L, u :: us, kvs, xs, r, hl, h => by
    obtain ⟨h1, u', e, h2⟩ := h 0 q rfl
    cases (show u = u' from Option.some.inj e)
    exact kt_all L us (r.put q.1 h1 h2) (Nat.succ.inj hl) fun j z hz => h (j + 1) z (by simpa using hz)
theorem put_all : ∀ (L : List (List Key × Addr × V)) (acc : List (List Key × V)), ((acc.map (·.1)) ++ L.map (·.1)).Nodup → L.foldl (fun acc q => putK acc q.1 q.2.2) acc = acc ++ L.map fun q => (q.1, q.2.2)
  | [], acc, _ => by simp
  | q :: L, acc, nd => by
    have hq : ¬ (acc.any fun kv => decide (kv.1 = q.1)) = true := fun z => by
      obtain ⟨x, hx, e⟩ := List.any_eq_true.mp z
      rw [List.nodup_append] at nd
      exact nd.2.2 q.1 (List.mem_map.mpr ⟨x, hx, of_decide_eq_true e⟩) q.1 (by simp) rfl
    show L.foldl _ (putK acc q.1 q.2.2) = _
    have e : putK acc q.1 q.2.2 = acc ++ [(q.1, q.2.2)] := by unfold putK; rw [if_neg hq]
    rw [e, put_all L _ (by rw [List.map_append, List.append_assoc]; exact nd), List.append_assoc]
    rfl
theorem call_dictPT (hcalm : X.calm = true) (hu : X.A.units + 8 < cLine) : CallR X (.type "dict") (fun xs H Q => ∃ (a : Addr) (L : List (Addr × List Key × Addr × V)), xs = [.ref a] ∧ SqL X.K H a (L.map fun q => V.ref q.1) ∧ (∀ q ∈ L, SqT X.K H q.1 [V.ref q.2.2.1, q.2.2.2]) ∧ (∀ q ∈ L, H q.2.2.1 = some (.tup (q.2.1.map kV))) ∧ (L.map fun q => q.2.1).Nodup ∧
    ∀ p, H p = none → Q (.ref p) (upd H p (.dT (L.map fun q => (q.2.1, q.2.2.2))))) := by
  intro pins s σ H xs us Q I r q
  obtain ⟨a, L, ex, hq, hp, hk, nd, q⟩ := q
  subst ex
  obtain ⟨u, eu, rx⟩ := vals1 r
  subst eu
  cases rx
  obtain ⟨its, rv, pl, hz⟩ := I.list hq
  have ei : its = (L.map fun q => q.1).map Value.ref := refs_at (by rw [List.map_map]; exact rv)
  subst ei
  obtain ⟨ws, hl, hw⟩ := pairsT_of I L hp
  obtain ⟨o, n, ho, hc, hd, hdat⟩ := pl
  have hws : ∀ (j : Nat) (h : j < L.length), ws[j]? = some (ws.getD j .none) := fun j h => by rw [List.getD_eq_getElem?_getD, List.getElem?_eq_getElem (by omega)]; rfl
  let ps : List (List Key × Addr × Value) := ((L.map (·.2)).zip ws).map fun q => (q.1.1, q.1.2.1, q.2)
  have hps : ∀ (j : Nat) q, L[j]? = some q → ∃ u, ws[j]? = some u ∧ ps[j]? = some (q.2.1, q.2.2.1, u) := fun j q e => by
    obtain ⟨u, e1, _, _⟩ := hw j q e
    refine ⟨u, e1, ?_⟩
    show (((L.map (·.2)).zip ws).map fun q => (q.1.1, q.1.2.1, q.2))[j]? = _
    have hz1 : (L.map (·.2))[j]? = some q.2 := by rw [List.getElem?_map, e]; rfl
    have hz2 : ((L.map (·.2)).zip ws)[j]? = some (q.2, u) := List.getElem?_zip_eq_some.mpr ⟨hz1, e1⟩
    rw [List.getElem?_map, hz2]
    rfl
  have hpl : ps.length = L.length := by
    show (((L.map (·.2)).zip ws).map _).length = _
    rw [List.length_map, List.length_zip, List.length_map, hl, Nat.min_self]
  have hz : L.length ≤ sizeLine := by
    have := hz
    simp only [List.length_map] at this
    exact this
  let prs : List (Value × Value) := ps.map fun x => (Value.ref x.2.1, x.2.2)
  let Ts : Nat → Addr := fun j => match L[j]? with
    | some q => q.1
    | none => 0
  have hprl : prs.length = L.length := by show (ps.map _).length = _; rw [List.length_map, hpl]
  have back : ∀ (j : Nat) (k v : Value), prs[j]? = some (k, v) → ∃ q : Addr × List Key × Addr × V, L[j]? = some q ∧ k = Value.ref q.2.2.1 ∧ ws[j]? = some v ∧ ps[j]? = some (q.2.1, q.2.2.1, v) := fun j k v e => by
    have hj : j < L.length := by rw [← hprl]; exact (List.getElem?_eq_some_iff.mp e).1
    obtain ⟨q, hq⟩ : ∃ q, L[j]? = some q := ⟨_, List.getElem?_eq_getElem hj⟩
    obtain ⟨u, e1, e2⟩ := hps j q hq
    have e : (ps.map fun x : List Key × Addr × Value => (Value.ref x.2.1, x.2.2))[j]? = some (k, v) := e
    rw [List.getElem?_map, e2] at e
    cases e
    exact ⟨q, hq, rfl, e1, e2⟩
  have P := PairArg.list (prog := X.prog) (w := X.w) a ((L.map fun q => q.1).map Value.ref).toArray Ts prs
  have hsz : (Heap.objs s.heap).size = s.heap.objs.size := rfl
  refine call_dict_pairsH (knd := tupleKind (mixKind X.prog X.w)) (ps := ps) P (I.ok.hd hcalm) (tupleKind_room_in1 (by simp only [Around.in1_units]; omega)) ⟨⟨o, n, ho, hc, hd, hdat⟩, ?_, ?_⟩ ⟨by rw [hpl, hprl], fun i key v e => ?_⟩ (fun h' hk' x hx => ?_) (by rw [hprl]; exact hz) fun h' tk hd' k => ?_
  · simp [hprl]
  · intro j k v e
    obtain ⟨q2, hq2, rfl, e1, e2⟩ := back j k v e
    obtain ⟨u, e3, _, ht⟩ := hw j q2 hq2
    rw [e1] at e3
    cases e3
    have eT : Ts j = q2.1 := by show (match L[j]? with | some q => q.1 | none => 0) = _; rw [hq2]
    rw [eT]
    exact ⟨by simp [hq2], .inl ht⟩
  · obtain ⟨q2, hq2, rfl, e1, e2⟩ := back i key v e
    exact ⟨_, _, e2, rfl⟩
  · obtain ⟨j, hj⟩ := List.getElem?_of_mem hx
    have hjl : j < L.length := by rw [← hpl]; exact (List.getElem?_eq_some_iff.mp hj).1
    obtain ⟨q2, hq2⟩ : ∃ q, L[j]? = some q := ⟨_, List.getElem?_eq_getElem hjl⟩
    obtain ⟨u, e1, e2⟩ := hps j q2 hq2
    rw [hj] at e2
    cases e2
    obtain ⟨_, its, r, ob, h1, h2, nn, h3⟩ := (show ObjOk X.prog X.w H s.heap q2.2.2.1 (.tup (q2.2.1.map kV)) from I.hok _ _ (hk q2 (List.mem_of_getElem? hq2)))
    exact ⟨ob, its.toArray, nn, hk' _ _ (Nat.ne_of_lt (Heap.lt_size h1)) (List.not_mem_nil) h1, h2, h3, by simpa using items_are r⟩
  · have hm : (s.heap.objs.size == sysModules) = false := beq_eq_false_iff_ne.mpr (Nat.ne_of_gt I.big)
    have KT1 := kt_all (H := H) (L.map (·.2)) ws (kvs := []) (xs := []) .nil (by rw [hl, List.length_map]) fun j q e => by
      rw [List.getElem?_map] at e
      obtain ⟨q2, hq2, rfl⟩ := Option.map_eq_some_iff.mp e
      obtain ⟨u, e1, e2, _⟩ := hw j q2 hq2
      exact ⟨hk q2 (List.mem_of_getElem? hq2), u, e1, e2⟩
    have ekv : (L.map (·.2)).foldl (fun acc q => putK acc q.1 q.2.2) [] = L.map fun q => (q.2.1, q.2.2.2) := by
      rw [put_all _ _ (by rw [List.map_map]; exact nd), List.nil_append, List.map_map]
      rfl
    have exs : ((L.map (·.2)).zip ws).foldl (fun acc q => storedH acc q.1.1 q.1.2.1 q.2) [] = storedAllH [] ps := by
      show _ = (((L.map (·.2)).zip ws).map fun q => (q.1.1, q.1.2.1, q.2)).foldl (fun acc p => storedH acc p.1 p.2.1 p.2.2) []
      rw [List.foldl_map]
    rw [ekv, exs] at KT1
    have hn := I.hok.fresh (Nat.le_refl s.heap.objs.size)
    obtain ⟨qo, es, ep, hqo, h2, h3, h4, _, h5⟩ := hd'
    refine ⟨.ref s.heap.objs.size, upd H s.heap.objs.size (.dT (L.map fun q => (q.2.1, q.2.2.2))), I.laid (t' := tk) (fun b u e => k b u List.not_mem_nil e) (Nat.le_refl _) (show ObjOk X.prog X.w _ _ _ (.dT _) from ⟨by rw [List.length_map]; exact hz, hm, _, KT1.keeps fun c ys ec => ?_, qo, es, ep, hqo, h2, h3, h4, h5⟩), rfl, q _ hn⟩
    rw [upd_ne (ne_of_none ec hn)]
    exact ec
end
end HM
namespace VL
open PySem PySem.Spec PyProof.Rows L2 HM
theorem pairs_rp {F : Hp} : ∀ {xs : List V} {kvs : List (List Key × Dt)}, Rps F xs (kvs.map fun q => Dt.tup [tupD q.1, q.2]) → ∃ L : List (Addr × List Key × Addr × V), xs = L.map (fun q => V.ref q.1) ∧ kvs.map (·.1) = L.map (fun q => q.2.1) ∧ (∀ q ∈ L, F q.1 = some (.tup [.ref q.2.2.1, q.2.2.2]) ∧ F q.2.2.1 = some (.tup (q.2.1.map kV))) ∧ PrK F (L.map fun q => (q.2.1, q.2.2.2)) kvs
  | [], [], _ => ⟨[], rfl, rfl, fun q hq => (by cases hq), .nil⟩
  | _ :: _, [], h => by cases h
  | [], _ :: _, h => by cases h
  | x :: xs, q :: kvs, h => by
    cases h with
    | cons h1 h2 =>
      obtain ⟨L, e1, e2, e3, e4⟩ := pairs_rp h2
      obtain ⟨a, ys, rfl, hF, ry⟩ := h1.tup_inv
      cases ry with
      | cons r1 r2 =>
        cases r2 with
        | cons r3 r4 =>
          cases r4
          obtain ⟨b, rfl, hb⟩ := r1.tupk
          exact ⟨(a, q.1, b, _) :: L, by rw [e1]; rfl, by rw [List.map_cons, e2]; rfl, fun p hp => by
            rcases List.mem_cons.mp hp with rfl | hp
            · exact ⟨hF, hb⟩
            · exact e3 p hp, .cons ⟨rfl, r3⟩ e4⟩
section
variable {c : Fc} {X : Cx} {e : Expr} {tb : VTE}
/-- dict(pairs), the keys unlike tuples -/
def vDictT (te : VTE) : VTN := fun env n Q => te env n fun d env1 n1 => ∃ kvs : List (List Key × Dt), d = .lst (kvs.map fun q => Dt.tup [tupD q.1, q.2]) ∧ (kvs.map (·.1)).Nodup ∧ Q (.dT kvs) env1 n1
theorem vn_dictT {p pos : Pos} (hu : X.A.units + 64 < cLine) (hc : X.calm = true) (hg : Gl X "dict") (hm : X.mg "dict" = none) (ha : PE X e (tOf c tb))
    (na : starEach [e] X.env = (false, eval e X.env) :: starEach [] X.env := by rfl) (hpl : (backTo pos (starEach [] X.env)).any (·.1) = false := by rfl) : PE X (.Call (.Name "dict" p) [e] [] pos) (nOf c (vDictT tb)) :=
  PE.imp (pe_callTy (call_dictPT hc (by omega)) hg hm (by decide +kernel) (va_cons ha va_nil na) (by decide) (by decide) na hpl) fun σ H R ⟨F, env, n, Q, rr, h, k⟩ => by
    refine ⟨F, env, n, fun ds env1 n1 => match ds with | [d] => (∃ kvs : List (List Key × Dt), d = .lst (kvs.map fun q => Dt.tup [tupD q.1, q.2]) ∧ (kvs.map (·.1)).Nodup ∧ Q (.dT kvs) env1 n1) | _ => False, rr, h, fun vs H1 F1 ds env1 n1 r1 u1 p1 q1 => ?_⟩
    match ds, q1 with
    | [d], ⟨kvs, e1, nd, q1⟩ =>
      subst e1
      obtain ⟨v, rfl, pv⟩ := p1.one
      obtain ⟨a, xs, rfl, hF, rx⟩ := pv.lst_inv
      obtain ⟨L, rfl, e2, e3, e4⟩ := pairs_rp rx
      refine ⟨a, L, rfl, .inl (.inl (r1.sub _ _ hF)), fun q hq => .inl (.inl (r1.sub _ _ (e3 q hq).1)), fun q hq => r1.sub _ _ (e3 q hq).2, by rw [← e2]; exact nd, fun p' np => ?_⟩
      exact nOf_new r1 u1 np (kk := .dT kvs) ⟨_, rfl, e4⟩ q1 k
end
end VL
namespace VL
open PySem PySem.Spec PyProof.Rows L2 HM
end VL
namespace HG
open PySem PySem.Spec PyProof.Rows L2 HM GenW
end HG
namespace HG
open PySem PySem.Spec PyProof.Rows L2 HM GenW
end HG
namespace VL
open PySem PySem.Spec PyProof.Rows L2 HM HG
end VL
namespace VL
open PySem PySem.Spec PyProof.Rows L2 HM
def pk3 (b : Addr) (t l : Int) : List (Key × V) := [(.inr "cells", .ref b), (.inr "at", .int t), (.inr "left", .int l)]
structure PenB (K : PySem.W.Frag) (am : Am) (p : Addr) : Prop where
  sp : am.sp p
  rd : ∀ {n H}, am.ok n H → ∃ (b : Addr) (ns : List Int) (t l : Int), H p = some (.dK (pk3 b t l)) ∧ H b = some (.lst (ns.map V.int)) ∧ ns.length ≤ 63 ∧ 0 ≤ t ∧ 0 ≤ l
  wr : ∀ {n H b t l}, am.ok n H → H p = some (.dK (pk3 b t l)) → ∀ (t' l' : Int), 0 ≤ t' → 0 ≤ l' → am.ok n (upd H p (.dK (pk3 b t' l')))
theorem PenB.out {K : PySem.W.Frag} {am : Am} {p b : Addr} (h : PenB K am p) {F H : Hp} {n : Nat} {t l : Int} (u : Up F H) (hs : ∀ a, am.sp a → F a = none) (ha : am.ok n H) (hp : H p = some (.dK (pk3 b t l))) {t' l' : Int} (h1 : 0 ≤ t') (h2 : 0 ≤ l') :
    Out am F H F (upd H p (.dK (pk3 b t' l'))) n :=
  ⟨Up.refl F, fun c o e => by rw [upd_ne (fun (z : c = p) => by rw [z, hs p h.sp] at e; cases e)]; exact u c o e, hs, fun _ _ _ _ e => e, fun c o e nb => by rw [upd_ne (fun (z : c = p) => nb (by rw [z]; exact h.sp))]; exact e, h.wr ha hp t' l' h1 h2⟩
end VL
namespace VL
open PySem PySem.Spec PyProof.Rows L2 HM
end VL
namespace VL
open PySem PySem.Spec PyProof.Rows L2 HM
end VL
namespace VL
open PySem PySem.Spec PyProof.Rows L2 HM
/-- all that comes of some, breadth first, at most so many steps -/
def grow (ts : List (List Nat)) : Nat → List (List Nat) → List (List Nat)
  | 0, l => l
  | k + 1, l => grow ts k (ts.foldl (fun acc g => l.foldl (fun acc x => if (thn x g) ∈ acc then acc else acc ++ [thn x g]) acc) l)
def closedB (m : Nat) (ts : List (List Nat)) (L : List (List Nat)) : Bool := decide (stay m ∈ L) && L.all fun x => ts.all fun g => decide (thn x g ∈ L)
def gr1 : List (List Nat) := [[1, 2, 3, 0, 4, 5, 6], [2, 1, 0, 3, 4, 5, 6], [0, 1, 2, 3, 5, 6, 4], [0, 1, 2, 3, 5, 4, 6]]
def gr2 : List (List Nat) := [[1, 2, 3, 0, 4, 5], [1, 0, 2, 3, 4, 5], [0, 1, 2, 3, 5, 4]]
def gr3 : List (List Nat) := [[1, 2, 3, 4, 0], [1, 2, 0, 3, 4]]
theorem few1 : closedB 7 gr1 (grow gr1 12 [stay 7]) = true ∧ (grow gr1 12 [stay 7]).length ≤ 60 := by decide +kernel
theorem few2 : closedB 6 gr2 (grow gr2 12 [stay 6]) = true ∧ (grow gr2 12 [stay 6]).length ≤ 60 := by decide +kernel
theorem few3 : closedB 5 gr3 (grow gr3 12 [stay 5]) = true ∧ (grow gr3 12 [stay 5]).length ≤ 60 := by decide +kernel
end VL
namespace VL
open PySem PySem.Spec PyProof.Rows L2 HM
end VL
namespace VL
open PySem PySem.Spec PyProof.Rows L2 HM
/-- the numbers below n move the things below N -/
structure Act (n : Nat) (m : Nat → Nat → Nat) (N : Nat) (a : Nat → Nat → Nat) : Prop where
  lt : ∀ x g, x < N → g < n → a x g < N
  ze : ∀ x, x < N → a x 0 = x
  mu : ∀ x g k, x < N → g < n → k < n → a (a x g) k = a x (m g k)
def orb (n N : Nat) (a : Nat → Nat → Nat) (x : Nat) : List Nat := (List.range N).filter fun y => (List.range n).any fun g => decide (a x g = y)
def fst1 (n : Nat) (a : Nat → Nat → Nat) (x : Nat) : Bool := (List.range n).all fun g => decide (x ≤ a x g)
def fsts (n N : Nat) (a : Nat → Nat → Nat) : List Nat := (List.range N).filter (fst1 n a)
def pcs (n N : Nat) (a : Nat → Nat → Nat) : List (List Nat) := (fsts n N a).map (orb n N a)
section
variable {n : Nat} {m : Nat → Nat → Nat} {N : Nat} {a : Nat → Nat → Nat}
theorem Act.of_mov (M : Mov m (List.range n) N a) : Act n m N a :=
  ⟨fun x g hx hg => M.lt x g hx (List.mem_range.mpr hg), M.ze, fun x g k hx hg hk => M.mu x g k hx (List.mem_range.mpr hg) (List.mem_range.mpr hk)⟩
theorem orb_mem {x y : Nat} : y ∈ orb n N a x ↔ y < N ∧ ∃ g, g < n ∧ a x g = y := by
  unfold orb
  rw [List.mem_filter, List.mem_range, List.any_eq_true]
  exact and_congr_right fun _ => ⟨fun ⟨g, hg, e⟩ => ⟨g, List.mem_range.mp hg, of_decide_eq_true e⟩, fun ⟨g, hg, e⟩ => ⟨g, List.mem_range.mpr hg, decide_eq_true e⟩⟩
theorem fst1_iff {x : Nat} : fst1 n a x = true ↔ ∀ g, g < n → x ≤ a x g := by
  unfold fst1
  rw [List.all_eq_true]
  exact ⟨fun h g hg => of_decide_eq_true (h g (List.mem_range.mpr hg)), fun h g hg => decide_eq_true (h g (List.mem_range.mp hg))⟩
theorem fsts_mem {x : Nat} : x ∈ fsts n N a ↔ x < N ∧ ∀ g, g < n → x ≤ a x g := by
  unfold fsts
  rw [List.mem_filter, List.mem_range, fst1_iff]
theorem orb_up (x : Nat) : (orb n N a x).Pairwise (· < ·) := List.Pairwise.filter _ List.pairwise_lt_range
theorem Act.back (h : Hse n m) (A : Act n m N a) {x g : Nat} (hx : x < N) (hg : g < n) : ∃ k, k < n ∧ m g k = 0 ∧ m k g = 0 ∧ a (a x g) k = x := by
  obtain ⟨k, hk, e1, e2⟩ := h.inv2 hg
  exact ⟨k, hk, e1, e2, by rw [A.mu x g k hx hg hk, e1, A.ze x hx]⟩
theorem orb_self (h : Hse n m) (A : Act n m N a) {x : Nat} (hx : x < N) : x ∈ orb n N a x := orb_mem.mpr ⟨hx, 0, h.pos, A.ze x hx⟩
theorem orb_near (h : Hse n m) (A : Act n m N a) {x g : Nat} (hx : x < N) (hg : g < n) : orb n N a (a x g) = orb n N a x := by
  have hxg := A.lt x g hx hg
  refine rising_eq (orb_up _) (orb_up _) fun y => ?_
  rw [orb_mem, orb_mem]
  refine and_congr_right fun _ => ⟨fun ⟨k, hk, e⟩ => ⟨m g k, h.lt g k hg hk, by rw [← A.mu x g k hx hg hk, e]⟩, fun ⟨k, hk, e⟩ => ?_⟩
  obtain ⟨b, hb, e1, e2, e3⟩ := A.back h hx hg
  exact ⟨m b k, h.lt b k hb hk, by rw [← A.mu _ b k hxg hb hk, e3, e]⟩
theorem fst_ex (h : Hse n m) (A : Act n m N a) : ∀ (b x : Nat), x < b → x < N → ∃ z ∈ fsts n N a, x ∈ orb n N a z
  | 0, _, hb, _ => absurd hb (Nat.not_lt_zero _)
  | b + 1, x, hb, hx => by
    by_cases e : ∀ g, g < n → x ≤ a x g
    · exact ⟨x, fsts_mem.mpr ⟨hx, e⟩, orb_self h A hx⟩
    · obtain ⟨g, hg, hl⟩ : ∃ g, g < n ∧ a x g < x := Classical.byContradiction fun z => e fun g hg => Nat.le_of_not_lt fun w => z ⟨g, hg, w⟩
      obtain ⟨z, hz, hm⟩ := fst_ex h A b (a x g) (by omega) (A.lt x g hx hg)
      obtain ⟨k, hk, _, _, e3⟩ := A.back h hx hg
      obtain ⟨_, u, hu, e4⟩ := orb_mem.mp hm
      have hzN := (fsts_mem.mp hz).1
      exact ⟨z, hz, orb_mem.mpr ⟨hx, m u k, h.lt u k hu hk, by rw [← A.mu z u k hzN hu hk, e4, e3]⟩⟩
end
section
variable {n : Nat} {m : Nat → Nat → Nat} {N : Nat} {a : Nat → Nat → Nat} {ks : List (List Nat)} {L K : List Nat}
open Classical in
/-- the number of a part's kind -/
noncomputable def kdx (n : Nat) (m : Nat → Nat → Nat) (ks : List (List Nat)) (L : List Nat) : Nat := ks.findIdx fun K => decide (∃ g, g < n ∧ Led n m L g K)
theorem kdx_is (h : Hse n m) (k : IsKinds n m ks) (s : Sub n m L) : ∃ K, ks[kdx n m ks L]? = some K ∧ ∃ g, g < n ∧ Led n m L g K := by
  classical
  obtain ⟨K, hK, g, hg, e⟩ := k.all L s
  have hl : kdx n m ks L < ks.length := List.findIdx_lt_length_of_exists ⟨K, hK, decide_eq_true ⟨g, hg, e⟩⟩
  refine ⟨ks[kdx n m ks L], List.getElem?_eq_getElem hl, ?_⟩
  have := List.findIdx_getElem (xs := ks) (p := fun K => decide (∃ g, g < n ∧ Led n m L g K)) (w := hl)
  exact of_decide_eq_true this
theorem kdx_eq (h : Hse n m) (k : IsKinds n m ks) (s : Sub n m L) {i : Nat} (hi : ks[i]? = some K) {g : Nat} (hg : g < n) (e : Led n m L g K) : kdx n m ks L = i := by
  obtain ⟨K2, h2, g2, hg2, e2⟩ := kdx_is h k s
  obtain ⟨b, hb, e3, e4⟩ := h.inv2 hg
  have hK := List.mem_of_getElem? hi
  have l1 : Led n m K b L := Led.back h s hg hb e3 e
  have l2 := Led.then_ h (k.sub K hK) hb hg2 l1 e2
  have := k.one K hK K2 (List.mem_of_getElem? h2) _ (h.lt b g2 hb hg2) l2
  subst this
  obtain ⟨i1, i2⟩ := List.getElem?_eq_some_iff.mp hi
  obtain ⟨j1, j2⟩ := List.getElem?_eq_some_iff.mp h2
  exact (List.getElem_inj (h₀ := j1) (h₁ := i1) k.nd).mp (j2.trans i2.symm)
theorem act_sh (h : Hse n m) (s : Sub n m L) : Act n m (lst m L n).length (shMv n m L) := Act.of_mov (mov_sh h s (sub_whole h))
def besM (N : Nat) (a b : Nat → Nat → Nat) (x g : Nat) : Nat := if x < N then a x g else N + b (x - N) g
theorem act_bes {N2 : Nat} {b : Nat → Nat → Nat} (A : Act n m N a) (B : Act n m N2 b) : Act n m (N + N2) (besM N a b) := by
  refine ⟨fun x g hx hg => ?_, fun x hx => ?_, fun x g k hx hg hk => ?_⟩
  · unfold besM
    by_cases z : x < N
    · rw [if_pos z]; have := A.lt x g z hg; omega
    · rw [if_neg z]; have := B.lt (x - N) g (by omega) hg; omega
  · unfold besM
    by_cases z : x < N
    · rw [if_pos z, A.ze x z]
    · rw [if_neg z, B.ze (x - N) (by omega)]; omega
  · unfold besM
    by_cases z : x < N
    · rw [if_pos z, if_pos z, if_pos (A.lt x g z hg), A.mu x g k z hg hk]
    · rw [if_neg z, if_neg z, if_neg (by omega), ← B.mu (x - N) g k (by omega) hg hk]
      congr 2
      omega
theorem bes_l {N2 : Nat} {b : Nat → Nat → Nat} {x : Nat} (hx : x < N) (g : Nat) : besM N a b x g = a x g := by unfold besM; rw [if_pos hx]
theorem bes_r {b : Nat → Nat → Nat} (x g : Nat) : besM N a b (N + x) g = N + b x g := by
  unfold besM
  rw [if_neg (by omega), Nat.add_sub_cancel_left]
theorem act_none : Act n m 0 (fun _ _ => 0) := ⟨fun x _ hx => absurd hx (Nat.not_lt_zero x), fun x hx => absurd hx (Nat.not_lt_zero x), fun x _ _ hx => absurd hx (Nat.not_lt_zero x)⟩
theorem tL_some {j : Nat} (h : j < ks.length) : ks[j]? = some (tL ks j) := by
  unfold tL
  rw [List.getD_eq_getElem?_getD, List.getElem?_eq_getElem h]
  rfl
end
end VL
namespace VL
open PySem PySem.Spec PyProof.Rows L2 HM
section
variable {n : Nat} {m : Nat → Nat → Nat} {A ks : List (List Nat)} {j : Nat} {K : List Nat} {C : List (List Nat × Nat)}
theorem Came.one (h : Hse n m) (k : IsKinds n m ks) (c : Came n m ks ks.length C) {i : Nat} (hi : (K, i) ∈ C) : i = VL.kdx n m ks K := by
  obtain ⟨_, K0, h0, g, hg, L⟩ := (c.mem K i).mp hi
  have s0 := k.sub K0 (List.mem_of_getElem? h0)
  obtain ⟨b, hb, e1, e2⟩ := h.inv2 hg
  exact (kdx_eq h k (L.sub h s0 hg) h0 hb (L.back h s0 hg hb e1)).symm
end
end VL
namespace HM
open PySem PySem.Spec PyProof.Rows L2
end HM
namespace VL
open PySem PySem.Spec PyProof.Rows L2 HM
def dicD (kvs : List (List Key × Dt)) : Dt := .dic (kvs.map (·.1)) (kvs.map (·.2))
theorem prk_of {κ : Type} {F : Hp} : ∀ {a : List (κ × V)} {b : List (κ × Dt)}, a.map (·.1) = b.map (·.1) → Rps F (a.map (·.2)) (b.map (·.2)) → PrK F a b
  | [], [], _, _ => .nil
  | x :: a, y :: b, e, h => by
    rw [List.map_cons, List.map_cons] at e
    injection e with e1 e2
    rw [List.map_cons, List.map_cons] at h
    cases h with | cons h t => exact .cons ⟨e1, h⟩ (prk_of e2 t)
  | [], _ :: _, e, _ => by cases e
  | _ :: _, [], e, _ => by cases e
theorem Rp.dic_inv {F : Hp} {v : V} {kvs : List (List Key × Dt)} (h : Rp F v (dicD kvs)) : ∃ a od ks, v = .ref a ∧ F a = some (.frz od (.dT ks)) ∧ PrK F ks kvs := by
  unfold dicD at h
  cases h with | dic h e t => exact ⟨_, _, _, rfl, h, prk_of e t⟩
section
variable {c : Fc} {X : Cx} {a b e o : Expr} {te ta tb : VTE} {pos apos p : Pos}
/-- slot i holds a still dict: what stands at k -/
def hasF (env : Ev) (i : Nat) (d : Dt) (r : Option Dt) : Prop := ∃ kvs k, env[i]? = some (.fz (dicD kvs)) ∧ d = tupD k ∧ r = valD kvs k
theorem hasF.get {F H : Hp} {σ : L2.St} {env : Ev} {n i : Nat} {y : V} {d : Dt} {r : Option Dt} (rr : Rel c F H σ env n) (ry : Rp F y d) (h : hasF env i d r) : ∃ a v, σ[i]? = some (some (.ref a)) ∧ DGet H a y v ∧ ((v = none ∧ r = none) ∨ ∃ x z, v = some x ∧ r = some z ∧ Rp F x z) := by
  obtain ⟨kvs, k, e, rfl, rfl⟩ := h
  obtain ⟨v, g1, rv⟩ := rr.sl i _ e
  obtain ⟨a, od, ks, rfl, hF, pr⟩ := rv.dic_inv
  obtain ⟨bb, rfl, hb⟩ := ry.tupk
  refine ⟨a, valV ks k, g1, .inr ⟨ks, k, bb, .inr ⟨od, rr.sub _ _ hF⟩, rfl, rr.sub _ _ hb, rfl⟩, ?_⟩
  rcases pr.val (k := k) with ⟨h1, h2⟩ | ⟨x, z, h1, h2, h3⟩
  · exact .inl ⟨h1, h2⟩
  · exact .inr ⟨x, z, h1, h2, h3⟩
end
end VL
namespace HM
open PySem PySem.Spec PyProof.Rows L2 VL
end HM
namespace VL
open PySem PySem.Spec PyProof.Rows L2 HM
end VL
namespace HM
open PySem PySem.Spec PyProof.Rows L2
theorem pe_callP0 {X : Cx} {gd : Around → Prop} {CX : CXT} {k : Nat} {f : Addr} {fd : FuncData} {ps : List Str} {sp : Sp} {E : XK} {x : Str} {p pos : Pos} (G : PFn gd X.prog X.w X.K X.mg X.base CX k f fd ps sp) (hgd : gd X.A) (hr : Room k X.A) (hg : Gl X x) (hm : X.mg x = some (.ref f))
    (hk : PySem.W.keepIn X.K (.ref f) = true) (hb : Binds X.K fd ps []) (hx : Passes CX X E) (hdb : (x == ("__debug__" : Str)) = false := by decide) : PE X (.Call (.Name x p) [] [] pos) (fun σ H Q => sp [] H Q E) := by
  refine ⟨fun pins s σ H Q I q => ?_⟩
  refine wpAny_Call_Name_kw (ld_glob I hg hm ?_ hdb)
  refine PySem.W.callWith_K0 I.kIn hk ?_
  have hl : ([] : List Value).length = ps.length := G.len [] _ _ _ q
  have hbs := hb s [] I.kIn (by rw [List.append_nil]; exact hl)
  rw [List.append_nil] at hbs
  refine wpAny_call (codeAny_mono (G.go X.A X.stack s H ⟨[], []⟩ [] [] Q E hgd hr I.env0 hbs .nil q) fun r s' hq => ?_)
  match r, hq with
  | .error e, hq => exact hx pins σ H s e s' I hq
  | .ok (.ret u), hq => exact I.after hq
  | .ok .next, hq => exact hq.elim
  | .ok .brk, hq => exact hq.elim
  | .ok .cont, hq => exact hq.elim
end HM
namespace VL
open PySem PySem.Spec PyProof.Rows L2 HM
section
variable {c : Fc} {X : Cx} {gd : Around → Prop} {CX : CXT} {k : Nat} {f : Addr} {fd : FuncData} {ps : List Str} {sp : VSp} {x : Str} {p pos : Pos}
theorem ve_call0 (G : VFn gd X.prog X.w X.K X.mg X.base CX k f fd ps c.am sp) (hgd : gd X.A) (hr : Room k X.A) (hg : Gl X x) (hm : X.mg x = some (.ref f)) (hk : PySem.W.keepIn X.K (.ref f) = true) (hb : Binds X.K fd ps []) (hx : Passes CX X (fun _ _ _ => False)) (hdb : (x == ("__debug__" : Str)) = false := by decide) :
    PE X (.Call (.Name x p) [] [] pos) (tOf c (vCall sp vNil)) := PE.imp (pe_callP0 G hgd hr hg hm hk hb hx hdb) fun σ H R q => by
  obtain ⟨F, env, n, Q, rr, q, k⟩ := call_of q
  exact k [] H F [] env n rr (Up.refl F) .nil q
end
end VL
namespace VL
open PySem PySem.Spec PyProof.Rows L2 HM
section
variable {n : Nat} {m : Nat → Nat → Nat} {F : List (List Nat × List Nat)} {ws S : List (List Nat)} {K L gs : List Nat} {j : Nat}
/-- parts found, with numbers that they come of; ws wait, K is looked at, its numbers below j are done -/
structure PSr (n : Nat) (m : Nat → Nat → Nat) (F : List (List Nat × List Nat)) (ws : List (List Nat)) : Prop where
  nd : (F.map (·.1)).Nodup
  g : ∀ q ∈ F, IsPt m q.2 q.1 ∧ (∀ g ∈ q.2, g < n) ∧ q.2.length + 1 ≤ q.1.length
  ze : [0] ∈ F.map (·.1)
  wn : ws.Nodup
  sb : ∀ K ∈ ws, K ∈ F.map (·.1)
theorem PSr.subs (h : Hse n m) (P : PSr n m F ws) : ∀ K ∈ F.map (·.1), Sub n m K := fun K hK => by
  obtain ⟨q, hq, rfl⟩ := List.mem_map.mp hK
  obtain ⟨h1, h2, _⟩ := P.g q hq
  exact h1.sub h h2
theorem PSr.few (h : Hse n m) (h60 : n ≤ 60) (P : PSr n m F ws) : F.length ≤ 2400 ∧ ws.length ≤ 2400 := by
  have h1 := few_subs h h60 P.nd (P.subs h)
  have h2 := List.Nodup.length_le_of_subset P.wn fun x hx => P.sb x hx
  rw [List.length_map] at h1 h2
  omega
theorem PSr.pop (P : PSr n m F (ws ++ [K])) : PSr n m F ws := ⟨P.nd, P.g, P.ze, (List.nodup_append.mp P.wn).1, fun x hx => P.sb x (List.mem_append_left _ hx)⟩
theorem PSr.add (h : Hse n m) (P : PSr n m F ws) (hK : (K, gs) ∈ F) {y : Nat} (hy : y < n) (hn : y ∉ K) (pl : IsPt m (gs ++ [y]) L) (hL : L ∉ F.map (·.1)) : PSr n m (F ++ [(L, gs ++ [y])]) (ws ++ [L]) := by
  obtain ⟨p1, p2, p3⟩ := P.g _ hK
  have hgs : ∀ g ∈ gs ++ [y], g < n := fun g hg => by
    rcases List.mem_append.mp hg with hg | hg
    · exact p2 g hg
    · rw [List.mem_singleton.mp hg]; exact hy
  have sK := p1.sub h p2
  have sub : ∀ x ∈ K, x ∈ L := fun x hx => (pl.mem x).mpr (((p1.mem x).mp hx).mono fun g hg => List.mem_append_left _ hg)
  have hyL : y ∈ L := (pl.mem y).mpr (rch_one h (by simp) hy)
  have hlen : K.length + 1 ≤ L.length := by
    have := len_le_of_sub (k := y :: K) (l := L) (List.nodup_cons.mpr ⟨hn, sK.nd⟩) fun x hx => by
      rcases List.mem_cons.mp hx with rfl | hx
      · exact hyL
      · exact sub x hx
    rwa [List.length_cons] at this
  refine ⟨?_, fun q hq => ?_, by rw [List.map_append]; exact List.mem_append_left _ P.ze, ?_, fun x hx => ?_⟩
  · rw [List.map_append, List.nodup_append]
    exact ⟨P.nd, by simp, fun a ha b hb e => hL (by rw [List.map_cons, List.map_nil, List.mem_singleton] at hb; have hb : b = L := hb; rw [← hb, ← e]; exact ha)⟩
  · rcases List.mem_append.mp hq with hq | hq
    · exact P.g q hq
    · rw [List.mem_singleton.mp hq]
      exact ⟨pl, hgs, by show (gs ++ [y]).length + 1 ≤ L.length; rw [List.length_append, List.length_singleton]; have p3 : gs.length + 1 ≤ K.length := p3; omega⟩
  · rw [List.nodup_append]
    exact ⟨P.wn, by simp, fun a ha b hb e => hL (by rw [List.mem_singleton] at hb; rw [← hb, ← e]; exact P.sb a ha)⟩
  · rw [List.map_append]
    rcases List.mem_append.mp hx with hx | hx
    · exact List.mem_append_left _ (P.sb x hx)
    · rw [List.mem_singleton.mp hx]; simp
theorem map_tL {α : Type} (f : List Nat → α) (L : List (List Nat)) : (List.range L.length).map (fun j => f (tL L j)) = L.map f := by
  refine List.ext_getElem? fun j => ?_
  rw [List.getElem?_map, List.getElem?_map]
  by_cases hj : j < L.length
  · rw [List.getElem?_range hj, tL_some hj]; rfl
  · rw [List.getElem?_eq_none (by rw [List.length_range]; omega), List.getElem?_eq_none (by omega)]; rfl
end
end VL
namespace VL
open PySem PySem.Spec PyProof.Rows L2 HM
end VL
namespace VL
open PySem PySem.Spec PyProof.Rows L2 HM
section
variable {c : Fc} {X : Cx} {st : Stmt} {e : Expr} {ts : VTS} {te : VTE} {tn : VTN}
def vFzS (i : Nat) (ts : VTS) : VTS := fun V env n => ∃ ds, env[i]? = some (.ow (.lst ds)) ∧ ts V (env.set i (.fz (.lst ds))) n
theorem vs_fz {i : Nat} (h : PS X st (sOf c ts)) : PS X st (sOf c (vFzS i ts)) := PS.imp h fun D σ H ⟨F, env, n, V, r, ⟨ds, ei, q⟩, k⟩ => by
  obtain ⟨a, F', e1, u, rp, r'⟩ := r.freeze ei
  exact ⟨F', _, n, V, r', q, k.up u⟩
end
def setD (n N : Nat) (a : Nat → Nat → Nat) : Dt := .lst ((List.range n).map fun g => rowD N fun x => a x g)
def spLShares : VSp := fun ds t Q _ => ∃ (n : Nat) (m : Nat → Nat → Nat) (L : List Nat), ds = [houD n m, .tup (nsD L)] ∧ Hse n m ∧ n ≤ 60 ∧ Sub n m L ∧ Q (setD n (lst m L n).length (shMv n m L)) t
/-- a set's row by the places of its things -/
theorem set_at {n N : Nat} {a : Nat → Nat → Nat} {g : Nat} (h : g < n) : atI ((List.range n).map fun g => rowD N fun x => a x g) (g : Int) = some (rowD N fun x => a x g) := atI_nat (by rw [List.getElem?_map, List.getElem?_range h]; rfl)
end VL
namespace VL
open PySem PySem.Spec PyProof.Rows L2 HM
end VL
namespace VL
open PySem PySem.Spec PyProof.Rows L2 HM
section
variable {n : Nat} {m : Nat → Nat → Nat} {N : Nat} {a : Nat → Nat → Nat} {ks : List (List Nat)} {o : List Nat}
def anM (o : List Nat) (a : Nat → Nat → Nat) (y g : Nat) : Nat := tA o (a (o.idxOf y) g)
theorem ix_lt (ho : Tn N o) {y : Nat} (hy : y < N) : o.idxOf y < N := by
  rw [← ho.len]
  exact List.idxOf_lt_length_of_mem (ho.all hy)
theorem tA_ix (ho : Tn N o) {y : Nat} (hy : y < N) : tA o (o.idxOf y) = y := by
  have h1 := List.idxOf_lt_length_of_mem (ho.all hy)
  have h2 := tA_get h1
  rw [List.getElem?_eq_getElem h1, List.getElem_idxOf h1] at h2
  exact (Option.some.inj h2).symm
theorem ix_tA (ho : Tn N o) {x : Nat} (hx : x < N) : o.idxOf (tA o x) = x :=
  ho.inj (ix_lt ho (ho.at_lt hx)) hx (tA_ix ho (ho.at_lt hx))
theorem act_an (A : Act n m N a) (ho : Tn N o) : Act n m N (anM o a) := by
  refine ⟨fun y g hy hg => ho.at_lt (A.lt _ g (ix_lt ho hy) hg), fun y hy => ?_, fun y g k hy hg hk => ?_⟩
  · unfold anM
    rw [A.ze _ (ix_lt ho hy), tA_ix ho hy]
  · have hx := ix_lt ho hy
    unfold anM
    rw [ix_tA ho (A.lt _ g hx hg), A.mu _ g k hx hg hk]
def rowI (N : Nat) (a : Nat → Nat → Nat) (g : Nat) : List Int := (List.range N).map fun x => ((a x g : Nat) : Int)
theorem rowI_D (N : Nat) (a : Nat → Nat → Nat) (g : Nat) : (rowI N a g).map Dt.int = nsD ((List.range N).map fun x => a x g) := by
  unfold rowI nsD
  rw [List.map_map, List.map_map]
  rfl
theorem rowI_bes (N N2 : Nat) (a b : Nat → Nat → Nat) (g : Nat) : rowI (N + N2) (besM N a b) g = rowI N a g ++ (List.range N2).map fun x => ((N + b x g : Nat) : Int) := by
  unfold rowI
  rw [List.range_add, List.map_append, List.map_map]
  congr 1
  · refine List.map_congr_left fun x hx => ?_
    rw [bes_l (N2 := N2) (List.mem_range.mp hx)]
  · refine List.map_congr_left fun x _ => ?_
    show ((besM N a b (N + x) g : Nat) : Int) = _
    rw [bes_r]
end
end VL
namespace HM
open PySem PySem.Spec PyProof.Rows L2 PpSet
section
variable {X : Cx}
/-- what each turn of the set owes: D the new set -/
def scTurn (w : World) (g : TG) (te : TE) (vs : List Nat) (D : Addr) (σ : L2.St) (Nx : Hp → Prop) (x : V) (H' : Hp) : Prop :=
  g x (wipe σ vs) H' fun σ2 H2 => wipe σ2 vs = wipe σ vs ∧ te σ2 H2 fun y H4 =>
    ∃ (c : Int) (S : Int → Bool) (n : Nat), y = .int c ∧ H4 D = some (SetO w D S n) ∧ n + 1 < scanBound ∧ Nx (upd H4 D (SetO w D (fun j => S j || decide (j = c)) (if S c = true then n else n + 1)))
def scLoop (w : World) (J : L2.It) (g : TG) (te : TE) (vs : List Nat) (D : Addr) (σ : L2.St) (Q : VK) (W : Nat → Nat → Hp → Prop) : Prop :=
  ∀ i m H, W i m H → (J.stop i H ∧ Q (.ref D) H) ∨ (J.go i H ∧ ∃ Nx : Hp → Prop, (∀ H', Nx H' → ∃ m', m' < m ∧ W (i + 1) m' H') ∧ ∀ x H', J.yld i H x H' → scTurn w g te vs D σ Nx x H')
def tScI (w : World) (wi : TI) (g : TG) (te : TE) (vs : List Nat) : TE := fun σ H Q => wi σ H fun J H1 => ∀ D, H1 D = none →
  ∃ W : Nat → Nat → Hp → Prop, (∃ m, W 0 m (upd H1 D (SetO w D (fun _ => false) 0))) ∧ scLoop w J g te vs D σ Q W
theorem addI_run {pins : List (Addr × Obj)} {σ : L2.St} {H : Hp} {s : Shared} {E : Value → Shared → Prop} {D : Addr} {S : Int → Bool} {n : Nat} {y : Int} {t : Tok} {Q : Value → Shared → Prop} (I : Inv X pins σ H s) (hD : H D = some (SetO X.w D S n)) (room : n + 1 < scanBound)
    (h : ∀ s', Inv X pins σ (upd H D (SetO X.w D (fun j => S j || decide (j = y)) (if S y = true then n else n + 1))) s' → Q .none s') : wpAny (model X.prog X.w) X.A (call (.builtin "set.add") [.ref D, .int y t]) Q E s := by
  refine setR_add (setO_get I hD) room fun h' sb nw => ?_
  obtain ⟨o, ho⟩ : ∃ u, h'.get? D = some u := let ⟨o, _, _, _, ho, _⟩ := nw; ⟨o, ho⟩
  exact h _ (I.write (e := D) (t' := s.toks + 1) (by rw [hD]; trivial) (.inl rfl) (fun b u hb hu => (sb.2 b hb).trans hu) ⟨o, ho⟩ (setO_new nw))
theorem pe_scI {elt tg iter : Expr} {scope : Scope} {own : List (PySem.Str × Nat)} {pos : Pos} {wi : TI} {g : TG} {te : TE} (hc : X.calm = true) (hN : X.N.Nodup) (hi : PI X tg iter wi) (ok : BlkOk X.N X.env.scope scope own)
    (hg : ∀ (s : Shared) (H : Hp) (C : Addr) (cl : List (PySem.Str × Addr)) (fp : List Addr), PG (X.blk s H scope (compEnvC scope cl C X.env) fp) tg g)
    (he : ∀ (s : Shared) (H : Hp) (C : Addr) (cl : List (PySem.Str × Addr)) (fp : List Addr), PE (X.blk s H scope (compEnvC scope cl C X.env) fp) elt te) (hs : ∀ x, foldedSetIterable iter X.env x = pure x := by intro _; rfl) :
    PE X (.SetComp elt [⟨tg, iter, [], 0⟩] scope pos) (tScI X.w wi g te (own.map (·.2))) := by
  refine ⟨fun pins s σ H Q I h => ?_⟩
  rw [PpSet.eval_SetComp]
  have hfr : ∀ y ∈ scope.names, y.2 = .free → ∃ c, X.env.cells.lookup y.1 = some c := fun y hy e => (ok.free y hy e).elim (fun k => I.ok.has _ (.inl k)) fun k => I.ok.has _ (.inr k)
  refine wpAny_comprehension_free (use := none) rfl hs (closure_ok hfr) ok.kind (fun y hy e => by rw [ok.uniq y hy, e]) (thn (hi.run pins s σ H _ I h) fun xv sA hx => thn hx fun itv sB hB => ?_)
  obtain ⟨it, fp, tn, J, HB, e, IB, T, stB, fB, q⟩ := hB
  subst e
  refine newSet_ok (newEnv_comp ?_)
  obtain ⟨D, hD⟩ : ∃ D, D = sB.heap.objs.size := ⟨_, rfl⟩
  rw [← hD]
  obtain ⟨W, ⟨m0, w0⟩, turn⟩ := q D (IB.hok.fresh (Nat.le_of_eq hD.symm))
  obtain ⟨oS, hoS⟩ : ∃ oS : Obj, oS = { cls := .type "set", dict := none, data := .set #[] 0 (.fresh 0 0 (!X.w.params.followText "set-order")) } := ⟨_, rfl⟩
  rw [← hoS]
  obtain ⟨sC, hsC⟩ : ∃ sC : Shared, sC = { sB with heap := sB.heap.push oS } := ⟨_, rfl⟩
  rw [← hsC]
  obtain ⟨HC, hHC⟩ : ∃ HC, HC = upd HB D (SetO X.w D (fun _ => false) 0) := ⟨_, rfl⟩
  rw [← hHC] at w0
  have IC : Inv X pins σ HC sC := by
    rw [hsC, hHC, hoS]
    refine IB.laid (t' := sB.toks) (fun b o e => Heap.get?_push_of_some _ e) (Nat.le_of_eq hD.symm) ?_
    rw [hD]
    exact setO_new (setR_fresh X.w)
  have hpC : sC.heap = sB.heap.push oS := by rw [hsC]
  have szB : ∀ b ∈ fp, b < sB.heap.objs.size := fun b hb => let ⟨o, e, _⟩ := T.obj _ _ stB b hb; Heap.lt_size e
  have fC : ∀ b ∈ fp, FpOk X pins HC b ∧ b < sC.heap.objs.size := fun b hb => by
    have hlt := szB b hb
    refine ⟨⟨?_, (fB b hb).2⟩, by rw [hpC, Heap.size_push]; exact Nat.lt_succ_of_lt hlt⟩
    rw [hHC, upd_ne (by rw [hD]; exact Nat.ne_of_lt hlt)]
    exact (fB b hb).1
  have stC : tn 0 sC.heap := T.keep _ _ _ stB fun b _ o e => by rw [hpC]; exact Heap.get?_push_of_some _ e
  have IK := block_start IC ok hN fC
  have pg := hg sC HC sC.heap.objs.size (cellsFrom (sC.heap.objs.size + 1) scope.names (cloFrom X.env.cells scope.names [])) fp
  have pe := he sC HC sC.heap.objs.size (cellsFrom (sC.heap.objs.size + 1) scope.names (cloFrom X.env.cells scope.names [])) fp
  show codeAny _ _ (.compStart (.SetComp elt [⟨tg, iter, [], 0⟩] scope pos) 0 (.ref it) (.ref D) (compEnvC scope (cellsFrom (sC.heap.objs.size + 1) scope.names (cloFrom X.env.cells scope.names [])) sC.heap.objs.size X.env)) _ { sC with heap := pushCells (sC.heap.push { cls := .type "dict", data := .dict #[] }) scope.names }
  have nfp : ∀ b ∈ fp, HC b = none := fun b hb => (fC b hb).1.1
  generalize hce : compEnvC scope (cellsFrom (sC.heap.objs.size + 1) scope.names (cloFrom X.env.cells scope.names [])) sC.heap.objs.size X.env = ce at IK pg pe ⊢
  have cL : ce.locals = sC.heap.objs.size := by subst hce; rfl
  generalize hsD : ({ sC with heap := pushCells (sC.heap.push { cls := .type "dict", data := .dict #[] }) scope.names } : Shared) = sD at IK ⊢
  have stD : tn 0 sD.heap := T.keep _ _ _ stC fun b _ o e => by rw [← hsD]; exact pushCells_keeps _ _ _ _ (Heap.get?_push_of_some _ e)
  have still : ∀ {σ' : L2.St} {H' : Hp} {s' : Shared}, Inv (X.blk sC HC scope ce fp) [] σ' H' s' → (∀ b ∈ fp, H' b = none) → ∀ b ∈ fp, FpOk (X.blk sC HC scope ce fp) [] H' b := fun {σ' H' s'} I' hn b hb =>
    ⟨hn b hb, (I'.ok.exf b hb).1, I'.ok.exfs b hb, .inl hb, fun x c e => (I'.ok.exf b hb).2 x c e, fun p hp => absurd (show p ∈ ([] : List (Addr × Obj)) ++ [] from hp) (by simp)⟩
  have loop : codeAny (model X.prog X.w) X.A (.compLoop (.SetComp elt [⟨tg, iter, [], 0⟩] scope pos) 0 (.ref it) (.ref D) ce) (compPost (model X.prog X.w) X.A X.xe none (EP X pins σ Q) (.ref D) sC.heap.objs.size) sD := by
    refine compLoopS_any (fun n s' => ∃ i H', Inv (X.blk sC HC scope ce fp) [] (wipe σ (own.map (·.2))) H' s' ∧ tn i s'.heap ∧ (∀ b ∈ fp, H' b = none) ∧ W i n H') ?_ m0 ⟨0, HC, IK, stD, nfp, w0⟩
    rintro n sE ⟨i, HE, IE, stE, nE, wE⟩
    rcases turn i n HE wE with ⟨stop, qq⟩ | ⟨go, Nx, hNx, step⟩
    · refine thnF (T.done (X.blk sC HC scope ce fp) rfl rfl rfl hc i [] sE _ HE (fun _ _ => False) IE (still IE nE) stE stop) fun r sF ⟨hr, IF⟩ => ?_
      subst hr
      have IG : Inv X pins σ HE sF := IC.call' (ch := fp) IF.os IF.base IF.hok IF.bare fun b hb => ⟨(fC b hb).1.2.2.2.1, (fC b hb).1.2.1, (fC b hb).1.2.2.2.2.1, (fC b hb).1.2.2.2.2.2⟩
      have nC : HE sC.heap.objs.size = none := by
        have z : HE ce.locals = none := IF.free
        rwa [cL] at z
      obtain ⟨m, hn, _⟩ := IF.loc
      have hn : sF.heap.Ns ce.locals m := hn
      rw [cL] at hn
      refine ⟨m, hn, fun h'' sb => ?_⟩
      obtain ⟨f0, f1, f2, f3, f4, f5⟩ := IC.fpOk (Nat.le_refl _) nC
      exact ⟨.ref D, HE, IG.turned (t' := sF.toks) (fun b o hb e => (sb.2 b hb).trans e) f0 f1 f3 f4 f5, rfl, qq⟩
    · refine thnF (T.item (X.blk sC HC scope ce fp) rfl rfl rfl hc i [] sE _ HE (fun _ _ => False) IE (still IE nE) stE go) fun r sF ⟨u, hr, h6⟩ => ?_
      subst hr
      refine thnF h6 fun _ sG ⟨x, HG, IG, rG, yG, stG, nG⟩ => ?_
      have IG' := IG.pinned (still IG nG) (T.obj _ _ stG)
      refine thnF (pg.run _ sG _ HG x u _ IG' rG (step x HG yG)) fun _ sI ⟨σI, HI, II, hwI, qI⟩ => ?_
      -- behind the (empty) tests
      refine thnF ((pts_nil (X := X.blk sC HC scope ce fp)).run _ sI σI HI (fun b H' => b = true ∧ H' = HI) II ⟨rfl, rfl⟩) fun b sJ ⟨HJ, IJ, eb, eH⟩ => ?_
      subst eb eH
      simp only [if_true]
      refine thnF (pe.run _ sJ σI HJ _ IJ qI) fun z sL ⟨yv, HL, IL, rL, cb, S0, n0, ey, hDL, hzL, nx⟩ => ?_
      subst ey
      obtain ⟨tk, rfl⟩ : ∃ t, z = Value.int cb t := rL
      refine addI_run (X := X.blk sC HC scope ce fp) IL hDL hzL fun sM IM => ?_
      obtain ⟨m', hm, w'⟩ := hNx _ nx
      have pin' : ∀ b ∈ fp, ∀ o, sG.heap.get? b = some o → sM.heap.get? b = some o ∧ upd HL D (SetO X.w D (fun j => S0 j || decide (j = cb)) (if S0 cb = true then n0 else n0 + 1)) b = none := fun b hb o e =>
        let z := IM.pin (b, o) (List.mem_append_right _ (List.mem_append_right _ (mem_pinsAt hb e)))
        ⟨z.1, z.2.1⟩
      refine ⟨m', hm, i + 1, _, (IM.unpinned (pins := [])).weak (by rw [← hwI, wipe_length]) (fun j v e => ?_), T.keep _ _ _ stG fun b hb o e => (pin' b hb o e).1, fun b hb => ?_, w'⟩
      · rw [← hwI] at e
        exact (wipe_some e).1
      · obtain ⟨o, e, _⟩ := T.obj _ _ stG b hb
        exact (pin' b hb o e).2
  exact PpSet.codeAny_compStart_set loop (T.self X.A 0 _ _ _ stD loop)
end
end HM
namespace VL
open PySem PySem.Spec PyProof.Rows L2 HM
section
variable {am : Am} {F0 H0 : Hp} {X : Cx}
/-- {e for x in xs}: f i the i-th whole number -/
def vScI (w : World) (iv : Nat) (wi : VTI) (te : VTE) (vs : List Nat) : VTN := fun env n Q => wi env n fun xs env1 n1 => (∀ i ∈ vs, ∀ k, env1[i]? ≠ some (.ow k)) ∧ xs.length ≤ 1000 ∧ iv ∈ vs ∧ ∃ f : Nat → Int,
  (∀ i x, xs[i]? = some x → ∀ R : Dt → Ev → Nat → Prop, R (.int (f i)) ((wipeE env1 vs).set iv (.fz x)) n1 → te ((wipeE env1 vs).set iv (.fz x)) n1 R) ∧
  ∀ S c, (∀ j, S j = true ↔ ∃ i, i < xs.length ∧ f i = j) → c ≤ xs.length → Q (.set w S c) env1 n1
theorem scI_of {w : World} {iv : Nat} {wi : VTI} {te : VTE} {vs : List Nat} {te' : TE} (he : ∀ (F0 H0 : Hp) {σ H R}, tOf ⟨am, F0, H0⟩ te σ H R → te' σ H R) {σ : L2.St} {H : Hp} {R : VK} (h : nOf ⟨am, F0, H0⟩ (vScI w iv wi te vs) σ H R) :
    tScI w (iOf ⟨am, F0, H0⟩ wi) (gName iv) te' vs σ H R := by
  obtain ⟨F, env, n, Q, r, q, k⟩ := h
  refine ⟨F, env, n, _, r, q, fun J H1 F1 xs env1 n1 r1 u1 wk q1 => ?_⟩
  obtain ⟨no, hlen, hiv, f, hf, fin⟩ := q1
  intro D nD
  obtain ⟨h0, ns, nf⟩ := r1.new0 nD
  have hF0 : F0 D = none := by
    cases e : F0 D with
    | none => rfl
    | some o => rw [r1.up0 D o e] at nf; cases nf
  have nto : ∀ (S : Int → Bool) (c : Nat), NT (SetO w D S c) := fun S c _ z => by cases z
  refine ⟨fun i m H => m = xs.length - i ∧ i ≤ xs.length ∧ ∃ F' S c, Rel (Fc.wth ⟨am, F0, H0⟩ D (SetO w D S c)) F' H (L2.wipe σ vs) (wipeE env1 vs) n1 ∧ Up F1 F' ∧ c ≤ i ∧ ∀ j, S j = true ↔ ∃ i', i' < i ∧ f i' = j, ⟨_, rfl, Nat.zero_le _, F1, _, _, ((r1.wipe vs).lay nD _).push upd_same nf ns fun j k' e z => ?_, Up.refl F1, Nat.le_refl _, fun j => ⟨fun z => (by cases z), fun ⟨i', hi, _⟩ => absurd hi (Nat.not_lt_zero _)⟩⟩, ?_⟩
  · obtain ⟨a, o, g1, _, _, _, g5, _⟩ := (r1.wipe vs).sl j _ e
    rw [g1] at z
    cases z
    rw [g5] at nD
    cases nD
  · rintro i m H2 ⟨rfl, hi, F2, S, c, r2, u2, hc, hS⟩
    obtain ⟨wg, ws⟩ := wk (Fc.wth ⟨am, F0, H0⟩ D (SetO w D S c)) rfl F2 H2 _ _ n1 r2 u2 i
    by_cases hlt : i < xs.length
    · obtain ⟨go, yl⟩ := wg hlt
      refine .inr ⟨go, fun H' => ∃ F' S c, Rel (Fc.wth ⟨am, F0, H0⟩ D (SetO w D S c)) F' H' (L2.wipe σ vs) (wipeE env1 vs) n1 ∧ Up F1 F' ∧ c ≤ i + 1 ∧ ∀ j, S j = true ↔ ∃ i', i' < i + 1 ∧ f i' = j, fun H' hN => ⟨xs.length - (i + 1), by omega, rfl, hlt, hN⟩, fun x H3 y => ?_⟩
      obtain ⟨F3, d, r3, u3, ed, rd⟩ := yl x H3 y
      have hw : L2.wipe ((L2.wipe σ vs).set iv (some x)) vs = L2.wipe σ vs := by
        rw [wipe_set hiv]
        exact List.ext_getElem? fun j => by
          rw [wipe_get, wipe_get, wipe_length]
          by_cases h : j ∈ vs ∧ j < σ.length
          · rw [if_pos h, if_pos h]
          · rw [if_neg h, if_neg h]
      refine ⟨hw, he F0 (upd H0 D (SetO w D S c)) ⟨F3, (wipeE env1 vs).set iv (.fz d), n1, fun d' env' n' => d' = .int (f i) ∧ env' = (wipeE env1 vs).set iv (.fz d) ∧ n' = n1, r3.setF rd, hf i d ed _ ⟨rfl, rfl, rfl⟩, ?_⟩⟩
      rintro v H4 F4 d4 env4 n4 r4 u4 rv ⟨rfl, rfl, rfl⟩
      have r4' : Rel (Fc.wth ⟨am, F0, H0⟩ D (SetO w D S c)) F4 H4 _ _ n4 := r4
      refine ⟨f i, S, c, rv.int_inv, r4'.keep0 D _ (show upd H0 D _ D = _ from upd_same) ns, Nat.lt_of_le_of_lt (show c + 1 ≤ 1001 by omega) (by decide), F4, fun j => S j || decide (j = f i), if S (f i) = true then c else c + 1, ?_, (u2.trans u3).trans u4, ?_, fun j => ?_⟩
      · have r6 := Rel.rewr (c := ⟨am, F0, H0⟩) (nto S c) r4' h0 hF0 ns (SetO w D (fun j => S j || decide (j = f i)) (if S (f i) = true then c else c + 1)) (fun _ _ z => by cases z)
        have r7 := r6.wipe2 hw
        rw [wipeE_set hiv, wipeE_idem] at r7
        exact r7
      · split <;> omega
      · rw [Bool.or_eq_true, decide_eq_true_iff, hS]
        constructor
        · rintro (⟨i', h1, h2⟩ | rfl)
          · exact ⟨i', by omega, h2⟩
          · exact ⟨i, by omega, rfl⟩
        · rintro ⟨i', h1, h2⟩
          rcases Nat.lt_or_ge i' i with z | z
          · exact .inl ⟨i', z, h2⟩
          · have : i' = i := by omega
            subst this
            exact .inr h2.symm
    · have e : i = xs.length := by omega
      subst e
      refine .inl ⟨ws (Nat.le_refl _), ?_⟩
      obtain ⟨r7, eD, fD, nD7⟩ := Rel.pop (c := ⟨am, F0, H0⟩) (nto S c) r2 h0 hF0 ns
      have r8 := r1.rest2 u2 no r7
      rw [rest_wipe] at r8
      refine k D _ H2 F2 (.set w S c) env1 n1 r8 (u1.trans u2) fD h0 ns eD rfl (fun j k' e z => ?_) (fin S c hS hc)
      have hj : j ∉ vs := fun hj => no j hj k' e
      refine nD7 j k' ?_ (by rw [wipe_out hj]; exact z)
      rw [wipeE_at, if_neg fun h => hj h.1]
      exact e
theorem vn_scI0 {iv : Nat} {elt tg iter : Expr} {scope : Scope} {own : List (Str × Nat)} {pos : Pos} {wi : VTI} {te : VTE} (hc : X.calm = true) (hN : X.N.Nodup) (hi : PI X tg iter (iOf ⟨am, F0, H0⟩ wi)) (ok : BlkOk X.N X.env.scope scope own)
    (hg : ∀ (s : Shared) (H : Hp) (C : Addr) (cl : List (Str × Addr)) (fp : List Addr), PG (X.blk s H scope (compEnvC scope cl C X.env) fp) tg (gName iv))
    (he : ∀ (F0 H0 : Hp) (s : Shared) (H : Hp) (C : Addr) (cl : List (Str × Addr)) (fp : List Addr), PE (X.blk s H scope (compEnvC scope cl C X.env) fp) elt (tOf ⟨am, F0, H0⟩ te)) (hs : ∀ x, foldedSetIterable iter X.env x = pure x := by intro _; rfl) :
    PE X (.SetComp elt [⟨tg, iter, [], 0⟩] scope pos) (nOf ⟨am, F0, H0⟩ (vScI X.w iv wi te (own.map (·.2)))) :=
  PE.imp (pe_scI (te := fun σ H R => ∃ F0 H0, tOf ⟨am, F0, H0⟩ te σ H R) hc hN hi ok hg (fun s H C cl fp => ⟨fun pins s' σ H' Q I ⟨F0, H0, q⟩ => (he F0 H0 s H C cl fp).run pins s' σ H' Q I q⟩) hs)
    fun σ H R h => scI_of (fun F0 H0 _ _ _ q => ⟨F0, H0, q⟩) h
theorem vn_scI {iv : Nat} {elt tg iter : Expr} {scope : Scope} {own : List (Str × Nat)} {pos : Pos} {wi : VTI} {te : VTE} (w : World) (hw : X.w = w) (hc : X.calm = true) (hN : X.N.Nodup) (hi : PI X tg iter (iOf ⟨am, F0, H0⟩ wi)) (ok : BlkOk X.N X.env.scope scope own)
    (hg : ∀ (s : Shared) (H : Hp) (C : Addr) (cl : List (Str × Addr)) (fp : List Addr), PG (X.blk s H scope (compEnvC scope cl C X.env) fp) tg (gName iv))
    (he : ∀ (F0 H0 : Hp) (s : Shared) (H : Hp) (C : Addr) (cl : List (Str × Addr)) (fp : List Addr), PE (X.blk s H scope (compEnvC scope cl C X.env) fp) elt (tOf ⟨am, F0, H0⟩ te)) (hs : ∀ x, foldedSetIterable iter X.env x = pure x := by intro _; rfl) :
    PE X (.SetComp elt [⟨tg, iter, [], 0⟩] scope pos) (nOf ⟨am, F0, H0⟩ (vScI w iv wi te (own.map (·.2)))) := by
  subst hw
  exact vn_scI0 hc hN hi ok hg he hs
end
end VL
namespace VL
open PySem PySem.Spec PyProof.Rows L2 HM
section
variable {c : Fc} {X : Cx} {p pos : Pos}
theorem vn_set00 (hg : Gl X "set") (hm : X.mg "set" = none) : PE X (.Call (.Name "set" p) [] [] pos) (nOf c (fun env n Q => Q (.set X.w (fun _ => false) 0) env n)) :=
  PE.imp (pe_callTy0 cr_set0 hg hm (by decide +kernel)) fun σ H R ⟨F, env, n, Q, rr, q, k⟩ => ⟨rfl, fun p np => nOf_new rr (Up.refl F) np (kk := .set X.w (fun _ => false) 0) rfl q k⟩
theorem vn_set0 (w : World) (hw : X.w = w) (hc : X.calm = true) (hg : Gl X "set") (hm : X.mg "set" = none) : PE X (.Call (.Name "set" p) [] [] pos) (nOf c (fun env n Q => Q (.set w (fun _ => false) 0) env n)) := by
  subst hw
  exact vn_set00 hg hm
end
end VL
namespace VL
open PySem PySem.Spec PyProof.Rows L2 HM
def spPcs : VSp := fun ds t Q _ => ∃ (n : Nat) (m : Nat → Nat → Nat) (N : Nat) (a : Nat → Nat → Nat), ds = [setD n N a] ∧ Hse n m ∧ n ≤ 60 ∧ Act n m N a ∧ N ≤ 900 ∧ Q (.lst (tlD (pcs n N a))) t
theorem rows_get {n N : Nat} {a : Nat → Nat → Nat} {g : Nat} {d : Dt} (h : ((List.range n).map fun g => rowD N fun x => a x g)[g]? = some d) : g < n ∧ d = rowD N fun x => a x g := by
  rw [List.getElem?_map] at h
  obtain ⟨g0, hg0, rfl⟩ := Option.map_eq_some_iff.mp h
  have hg : g < n := by have := (List.getElem?_eq_some_iff.mp hg0).1; rwa [List.length_range] at this
  rw [List.getElem?_range hg] at hg0
  cases hg0
  exact ⟨hg, rfl⟩
theorem row_get {N : Nat} {f : Nat → Nat} {x : Nat} {d : Dt} (h : (nsD ((List.range N).map f))[x]? = some d) : x < N ∧ d = nD (f x) := by
  unfold nsD at h
  rw [List.getElem?_map, List.getElem?_map] at h
  obtain ⟨y1, hy1, rfl⟩ := Option.map_eq_some_iff.mp h
  obtain ⟨y2, hy2, rfl⟩ := Option.map_eq_some_iff.mp hy1
  have hx : x < N := by have := (List.getElem?_eq_some_iff.mp hy2).1; rwa [List.length_range] at this
  rw [List.getElem?_range hx] at hy2
  cases hy2
  exact ⟨hx, rfl⟩
theorem setD_len (n N : Nat) (a : Nat → Nat → Nat) : ((List.range n).map fun g => rowD N fun x => a x g).length = n := by rw [List.length_map, List.length_range]
end VL
namespace HM
open PySem PySem.Spec PyProof.Rows L2
end HM
namespace VL
open PySem PySem.Spec PyProof.Rows L2 HM
end VL
namespace VL
open PySem PySem.Spec PyProof.Rows L2 HM
end VL
namespace VL
open PySem PySem.Spec PyProof.Rows L2 HM
end VL
namespace VL
open PySem PySem.Spec PyProof.Rows L2 HM
end VL
namespace VL
open PySem PySem.Spec PyProof.Rows L2 HM
/-- [e for x in xs if t], by places -/
theorem lc_filter1 {tt : VTT} {te : VTE} {vs : List Nat} {xs : List Dt} {env1 : Ev} {n1 : Nat} {Q : Con → Ev → Nat → Prop} {i : Nat} (p : Nat → Bool) (f : Nat → Dt) (hi : i ∈ vs) (no : ∀ i ∈ vs, ∀ k, env1[i]? ≠ some (.ow k)) (hl : xs.length ≤ 5000)
    (h : ∀ (j : Nat) (x : Dt), xs[j]? = some x → (∀ R : Bool → Ev → Nat → Prop, R (p j) ((wipeE env1 vs).set i (.fz x)) n1 → tt ((wipeE env1 vs).set i (.fz x)) n1 R) ∧
      (p j = true → ∀ R : Dt → Ev → Nat → Prop, R (f j) ((wipeE env1 vs).set i (.fz x)) n1 → te ((wipeE env1 vs).set i (.fz x)) n1 R))
    (q : Q (.lst (((List.range xs.length).filter p).map f)) env1 n1) : LcBody (vgName i) tt te vs xs env1 n1 Q := by
  refine ⟨no, hl, fun j acc env n => acc = ((List.range j).filter p).map f ∧ env = wipeE env1 vs ∧ n = n1, ⟨rfl, rfl, rfl⟩, fun j x acc env n hx hP => ?_, fun acc env n _ hP => ?_⟩
  · obtain ⟨rfl, rfl, rfl⟩ := hP
    obtain ⟨h1, h2⟩ := h j x hx
    refine h1 _ ?_
    have es : List.range (j + 1) = List.range j ++ [j] := List.range_succ
    cases hp : p j with
    | true =>
      rw [if_pos rfl]
      refine h2 hp _ ⟨?_, by rw [wipeE_set hi, wipeE_idem], rfl⟩
      rw [es, List.filter_append, List.map_append]
      simp [hp]
    | false =>
      rw [if_neg (by simp)]
      refine ⟨?_, by rw [wipeE_set hi, wipeE_idem], rfl⟩
      rw [es, List.filter_append, List.map_append]
      simp [hp]
  · obtain ⟨rfl, rfl, rfl⟩ := hP
    rw [rest_wipe]
    exact q
theorem all_idx (P : List Nat) (p : Nat → Bool) : ((List.range P.length).map fun j => p (tA P j)).all id = P.all p := by
  have e : P = (List.range P.length).map (tA P) := List.ext_getElem? fun j => by
    rw [List.getElem?_map]
    by_cases hj : j < P.length
    · rw [List.getElem?_range hj, tA_get hj]; rfl
    · rw [List.getElem?_eq_none (by omega), List.getElem?_eq_none (by rw [List.length_range]; omega)]; rfl
  conv => rhs; rw [e, List.all_map]
  rw [List.all_map]
  rfl
end VL
namespace VL
open PySem PySem.Spec PyProof.Rows L2 HM
end VL
namespace VL
open PySem PySem.Spec PyProof.Rows L2 HM
end VL
namespace HG
open PySem PySem.Spec PyProof.Rows L2 HM GenW
def psum (f : Nat → Int) : Nat → Int
  | 0 => 0
  | j + 1 => psum f j + f j
def GJ (X : Cx) (S : Addr) (f : Nat → Int) (ip : List (Addr × Obj)) (j : Nat) (σ : L2.St) (H : Hp) (s : Shared) : Prop :=
  ∃ (t : Tok) (c : Nat), Inv X ((S, lstObj #[.int (psum f j) t] c) :: ip) σ H s
theorem GJ.at {X : Cx} {S : Addr} {f : Nat → Int} {ip : List (Addr × Obj)} {j : Nat} {σ : L2.St} {H : Hp} {s : Shared} (h : GJ X S f ip j σ H s) :
    H S = none ∧ S ≠ X.env.locals ∧ S ∉ X.fs ∧ ∃ (t : Tok) (c : Nat), s.heap.get? S = some (lstObj #[.int (psum f j) t] c) := by
  obtain ⟨t, c, I⟩ := h
  obtain ⟨h1, h2, h3, h4, _⟩ := I.pin (S, lstObj #[.int (psum f j) t] c) (List.mem_append_right _ List.mem_cons_self)
  exact ⟨h2, h3, h4, t, c, h1⟩
end HG
namespace HG
open PySem PySem.Spec PyProof.Rows L2 HM GenW
end HG
namespace HG
open PySem PySem.Spec PyProof.Rows L2 HM GenW
end HG
namespace HG
open PySem PySem.Spec PyProof.Rows L2 HM GenW
end HG
namespace VL
open PySem PySem.Spec PyProof.Rows L2 HM HG
end VL
namespace VL
open PySem PySem.Spec PyProof.Rows L2 HM
theorem itr_back2 {m : Nat} {g : List Nat} (h : Tn m g) {x y : Nat} (hx : x < m) (hy : y < m) {i j c : Nat} (hj : j ≤ c) (hc : itr (tA g) c x = x) (e : itr (tA g) j y = itr (tA g) i x) : itr (tA g) c y = y := by
  have e2 : itr (tA g) j y = itr (tA g) j (itr (tA g) (i + (c - j)) x) := by
    rw [← itr_add, show j + (i + (c - j)) = i + c by omega, itr_add, hc, e]
  have e3 := itr_inj h hy (itr_lt h hx _) j e2
  rw [e3, ← itr_add, Nat.add_comm, itr_add, hc]
theorem ring12 {m : Nat} {g : List Nat} (h : Tn m g) (hm : m ≤ 7) : ∃ c, 0 < c ∧ c ≤ 12 ∧ ∀ x, x < m → itr (tA g) c x = x := by
  rcases Classical.em (∀ x, x < m → itr (tA g) 12 x = x) with al | no
  · exact ⟨12, by decide, by decide, al⟩
  · obtain ⟨x, hn⟩ := Classical.not_forall.mp no
    obtain ⟨hx, hno⟩ := Classical.not_imp.mp hn
    clear hn no
    have dv : ∀ c q, q * c = 12 → itr (tA g) c x ≠ x := fun c q hq e => hno (by rw [← hq]; exact itr_mul e q)
    have d1 := dv 1 12 rfl
    have d2 := dv 2 6 rfl
    have d3 := dv 3 4 rfl
    have d4 := dv 4 3 rfl
    have d6 := dv 6 2 rfl
    obtain ⟨c, h1, hc, e⟩ := itr_ring h hx
    rcases (by omega : c = 1 ∨ c = 2 ∨ c = 3 ∨ c = 4 ∨ c = 5 ∨ c = 6 ∨ c = 7) with rfl | rfl | rfl | rfl | rfl | rfl | rfl
    · exact absurd e d1
    · exact absurd e d2
    · exact absurd e d3
    · exact absurd e d4
    · refine ⟨10, by decide, by decide, fun y hy => ?_⟩
      rcases Classical.em (itr (tA g) 1 y = y ∨ itr (tA g) 2 y = y ∨ ∃ j i, j ≤ 2 ∧ itr (tA g) j y = itr (tA g) i x) with z | z
      · rcases z with z | z | ⟨j, i, hj, z⟩
        · exact itr_mul z 10
        · exact itr_mul z 5
        · exact itr_mul (itr_back2 h hx hy (by omega : j ≤ 5) e z) 2
      · exfalso
        rw [not_or, not_or] at z
        obtain ⟨z1, z2, z3⟩ := z
        have nd : (((List.range 5).map fun i => itr (tA g) i x) ++ (List.range 3).map fun i => itr (tA g) i y).Nodup := by
          rw [List.nodup_append]
          refine ⟨?_, ?_, fun a ha b hb e2 => ?_⟩
          · refine List.pairwise_map.mpr (List.Pairwise.imp_of_mem (fun {a b} ha hb hab e2 => ?_) (List.pairwise_lt_range (n := 5)))
            have hb := List.mem_range.mp hb
            have := itr_back h hx (Nat.le_of_lt hab) e2
            rcases (by omega : b - a = 1 ∨ b - a = 2 ∨ b - a = 3 ∨ b - a = 4) with w | w | w | w <;> rw [w] at this
            · exact d1 this
            · exact d2 this
            · exact d3 this
            · exact d4 this
          · refine List.pairwise_map.mpr (List.Pairwise.imp_of_mem (fun {a b} ha hb hab e2 => ?_) (List.pairwise_lt_range (n := 3)))
            have hb := List.mem_range.mp hb
            have := itr_back h hy (Nat.le_of_lt hab) e2
            rcases (by omega : b - a = 1 ∨ b - a = 2) with w | w <;> rw [w] at this
            · exact z1 this
            · exact z2 this
          · obtain ⟨i, _, rfl⟩ := List.mem_map.mp ha
            obtain ⟨j, hj, rfl⟩ := List.mem_map.mp hb
            have hj := List.mem_range.mp hj
            exact z3 ⟨j, i, by omega, e2.symm⟩
        have := few_of_nodup (n := m) nd fun y2 hy2 => by
          rcases List.mem_append.mp hy2 with hy2 | hy2
          · obtain ⟨i, _, rfl⟩ := List.mem_map.mp hy2
            exact itr_lt h hx i
          · obtain ⟨i, _, rfl⟩ := List.mem_map.mp hy2
            exact itr_lt h hy i
        rw [List.length_append, List.length_map, List.length_map, List.length_range, List.length_range] at this
        omega
    · exact absurd e d6
    · rcases ring60 h hm with al | al
      · exfalso
        have e60 := al x hx
        rw [show 60 = 4 + 8 * 7 from rfl, itr_add, itr_mul e 8] at e60
        exact d4 e60
      · exact ⟨7, by decide, by decide, al⟩
theorem GR.few12 {m : Nat} {ts fs : List (List Nat)} (h : ∀ g ∈ ts, Tn m g) (hm : m ≤ 7) (h1 : ts.length ≤ 1) (nd : fs.Nodup) (hf : ∀ a ∈ fs, GR m ts a) : fs.length ≤ 12 := by
  match ts, h1 with
  | [], _ =>
    have : fs.length ≤ [VL.stay m].length := List.Nodup.length_le_of_subset nd fun a ha => by
      cases hf a ha with
      | stay => exact List.mem_singleton.mpr rfl
      | step _ z => cases z
    exact Nat.le_trans this (show 1 ≤ 12 by decide)
  | [g], _ =>
    obtain ⟨c, h0, h60, hc⟩ := ring12 (h g (List.mem_singleton.mpr rfl)) hm
    have : fs.length ≤ ((List.range c).map (gpw m g)).length := List.Nodup.length_le_of_subset nd fun a ha => by
      obtain ⟨i, hi, rfl⟩ := GR.one h0 hc (hf a ha)
      exact List.mem_map.mpr ⟨i, List.mem_range.mpr hi, rfl⟩
    rw [List.length_map, List.length_range] at this
    omega
  | _ :: _ :: _, z => simp at z
end VL
namespace VL
open PySem PySem.Spec PyProof.Rows L2 HM
mutual
theorem py_flat : ∀ d : Dt, (py d).hasDict = false
  | .non => by simp [py, PyData.hasDict]
  | .bl b => by simp [py, PyData.hasDict]
  | .int b => by simp [py, PyData.hasDict]
  | .str b => by simp [py, PyData.hasDict]
  | .ty b => by simp [py, PyData.hasDict]
  | .obj b => by simp [py, PyData.hasDict]
  | .dic a b => by simp [py, PyData.hasDict]
  | .dik a b => by simp [py, PyData.hasDict]
  | .lst ds => by
    have := pys_flat ds
    simpa [py, PyData.hasDict] using this
  | .tup ds => by
    have := pys_flat ds
    simpa [py, PyData.hasDict] using this
theorem pys_flat : ∀ ds : List Dt, PyData.hasDictAll (pys ds) = false
  | [] => rfl
  | d :: ds => by
    show ((py d).hasDict || PyData.hasDictAll (pys ds)) = false
    rw [py_flat d, pys_flat ds]
    rfl
end
end VL
namespace HM
open PySem PySem.Spec PyProof.Rows L2
section
variable {X : Cx}
theorem flat_ints (ys : List Int) : (ys.map V.int).all flatV = true := by
  rw [List.all_eq_true]
  intro v hv
  obtain ⟨i, _, rfl⟩ := List.mem_map.mp hv
  rfl
end
end HM
namespace VL
open PySem PySem.Spec PyProof.Rows L2 HM
end VL
namespace VL
open PySem PySem.Spec PyProof.Rows L2 HM
mutual
def sml (e : Nat) : Dt → Bool
  | .int i => decide (i.natAbs < 10 ^ e)
  | .lst ds => smls e ds
  | .tup ds => smls e ds
  | _ => false
def smls (e : Nat) : List Dt → Bool
  | [] => true
  | d :: ds => sml e d && smls e ds
end
mutual
def csz (e : Nat) : Dt → Nat
  | .lst ds => cszs e ds + 2
  | .tup ds => cszs e ds + 2
  | _ => e + 1
def cszs (e : Nat) : List Dt → Nat
  | [] => 0
  | d :: ds => csz e d + 2 + cszs e ds
end
theorem int_text {i : Int} {e : Nat} (h0 : 0 < e) (h : i.natAbs < 10 ^ e) : (PyData.int i).shown.length ≤ e + 1 := by
  have := int_text_length_le10 h0 h
  show (Str.ofString (toString i)).length ≤ e + 1
  rw [PySem.ofString_length]; exact this
mutual
theorem sml_shown {e : Nat} (h0 : 0 < e) : ∀ d : Dt, sml e d = true → (py d).shown.length ≤ csz e d
  | .int i, h => by
    have h' : decide (i.natAbs < 10 ^ e) = true := h
    have := int_text h0 (of_decide_eq_true h')
    have e2 : py (.int i) = .int i := by rw [py]
    rw [e2]
    exact this
  | .lst ds, h => by
    have h2 := smls_shown h0 ds h
    have h3 := listText_up (PyData.shownAll (pys ds))
    have e2 : py (.lst ds) = .list (pys ds) := by rw [py]
    rw [e2]
    show (listText (PyData.shownAll (pys ds))).length ≤ cszs e ds + 2
    omega
  | .tup ds, h => by
    have h2 := smls_shown h0 ds h
    have h3 := fmt_text (PyData.shownAll (pys ds))
    have e2 : py (.tup ds) = .tuple (pys ds) := by rw [py]
    rw [e2]
    show (tupleText (PyData.shownAll (pys ds))).length ≤ cszs e ds + 2
    omega
  | .non, h => by cases h
  | .bl _, h => by cases h
  | .str _, h => by cases h
  | .ty _, h => by cases h
  | .obj _, h => by cases h
  | .dic _ _, h => by cases h
  | .dik _ _, h => by cases h
theorem smls_shown {e : Nat} (h0 : 0 < e) : ∀ ds : List Dt, smls e ds = true → piled (PyData.shownAll (pys ds)) ≤ cszs e ds
  | [], _ => Nat.le_refl _
  | d :: ds, h => by
    have h' : (sml e d && smls e ds) = true := h
    rw [Bool.and_eq_true] at h'
    have h2 := sml_shown h0 d h'.1
    have h3 := smls_shown h0 ds h'.2
    show piled ((py d).shown :: PyData.shownAll (pys ds)) ≤ csz e d + 2 + cszs e ds
    rw [piled_cons]
    omega
end
mutual
theorem sml_pl {e : Nat} : ∀ d : Dt, sml e d = true → pl d = true
  | .int _, _ => rfl
  | .lst ds, h => smls_pl ds h
  | .tup ds, h => smls_pl ds h
  | .non, h => by cases h
  | .bl _, h => by cases h
  | .str _, h => by cases h
  | .ty _, h => by cases h
  | .obj _, h => by cases h
  | .dic _ _, h => by cases h
  | .dik _ _, h => by cases h
theorem smls_pl {e : Nat} : ∀ ds : List Dt, smls e ds = true → pls ds = true
  | [], _ => rfl
  | d :: ds, h => by
    have h' : (sml e d && smls e ds) = true := h
    rw [Bool.and_eq_true] at h'
    show (pl d && pls ds) = true
    rw [sml_pl d h'.1, smls_pl ds h'.2]
    rfl
end
mutual
theorem sml_showable {e : Nat} (h1 : e ≤ 480) : ∀ d : Dt, sml e d = true → (py d).showable = true
  | .int i, h => by
    have h' : decide (i.natAbs < 10 ^ e) = true := h
    have e2 : py (.int i) = .int i := by rw [py]
    rw [e2]
    have : i.natAbs.log2 < 1920 := by
      rcases Nat.eq_zero_or_pos i.natAbs with z | z
      · rw [z]; decide
      · refine (Nat.log2_lt (by omega)).mpr (Nat.lt_of_lt_of_le (of_decide_eq_true h') ?_)
        refine Nat.le_trans (Nat.pow_le_pow_right (by decide) h1) ?_
        refine Nat.le_trans (Nat.pow_le_pow_left (show 10 ≤ 2 ^ 3 * 2 by decide) 480) ?_
        rw [show (2 ^ 3 * 2 : Nat) = 2 ^ 4 from rfl, ← Nat.pow_mul]
        exact Nat.pow_le_pow_right (by decide) (by decide)
    simpa [PyData.showable] using this
  | .lst ds, h => by
    have e2 : py (.lst ds) = .list (pys ds) := by rw [py]
    rw [e2]
    have := smls_showable h1 ds h
    simpa [PyData.showable] using this
  | .tup ds, h => by
    have e2 : py (.tup ds) = .tuple (pys ds) := by rw [py]
    rw [e2]
    have := smls_showable h1 ds h
    simpa [PyData.showable] using this
  | .non, h => by cases h
  | .bl _, h => by cases h
  | .str _, h => by cases h
  | .ty _, h => by cases h
  | .obj _, h => by cases h
  | .dic _ _, h => by cases h
  | .dik _ _, h => by cases h
theorem smls_showable {e : Nat} (h1 : e ≤ 480) : ∀ ds : List Dt, smls e ds = true → PyData.showableAll (pys ds) = true
  | [], _ => rfl
  | d :: ds, h => by
    have h' : (sml e d && smls e ds) = true := h
    rw [Bool.and_eq_true] at h'
    have g1 := sml_showable h1 d h'.1
    have g2 := smls_showable h1 ds h'.2
    show PyData.showableAll (py d :: pys ds) = true
    simp only [PyData.showableAll, g1, g2, Bool.and_self]
end
mutual
theorem py_depth : ∀ d : Dt, (py d).depth ≤ dep d + 1
  | .int i => by rw [show py (.int i) = .int i by rw [py]]; simp [PyData.depth]
  | .lst ds => by
    rw [show py (.lst ds) = .list (pys ds) by rw [py]]
    have := pys_depth ds
    show PyData.depth (.list (pys ds)) ≤ deps ds + 1 + 1
    simp only [PyData.depth]
    omega
  | .tup ds => by
    rw [show py (.tup ds) = .tuple (pys ds) by rw [py]]
    have := pys_depth ds
    show PyData.depth (.tuple (pys ds)) ≤ deps ds + 1 + 1
    simp only [PyData.depth]
    omega
  | .non => by simp [py, PyData.depth]
  | .bl _ => by simp [py, PyData.depth]
  | .str _ => by simp [py, PyData.depth]
  | .ty _ => by simp [py, PyData.depth]
  | .obj _ => by simp [py, PyData.depth]
  | .dic _ _ => by simp [py, PyData.depth]
  | .dik _ _ => by simp [py, PyData.depth]
theorem pys_depth : ∀ ds : List Dt, PyData.depthAll (pys ds) ≤ deps ds + 1
  | [] => by simp [pys, PyData.depthAll]
  | d :: ds => by
    have h1 := py_depth d
    have h2 := pys_depth ds
    show PyData.depthAll (py d :: pys ds) ≤ max (dep d) (deps ds) + 1
    simp only [PyData.depthAll]
    omega
end
def Sm (e k c : Nat) (d : Dt) : Prop := sml e d = true ∧ dep d ≤ k ∧ csz e d ≤ c
section
variable {e k c : Nat} {d : Dt}
theorem Sm.int {i : Int} (h : i.natAbs < 10 ^ e) : Sm e 0 (e + 1) (.int i) := ⟨decide_eq_true h, Nat.le_refl _, Nat.le_refl _⟩
theorem Sm.nat {i : Nat} (h : i < 10 ^ e) : Sm e 0 (e + 1) (nD i) := Sm.int (by omega)
theorem Sm.mono {k' c' : Nat} (h : Sm e k c d) (hk : k ≤ k') (hc : c ≤ c') : Sm e k' c' d := ⟨h.1, Nat.le_trans h.2.1 hk, Nat.le_trans h.2.2 hc⟩
theorem Sm.all : ∀ {ds : List Dt}, (∀ d ∈ ds, Sm e k c d) → smls e ds = true ∧ deps ds ≤ k ∧ cszs e ds ≤ ds.length * (c + 2)
  | [], _ => ⟨rfl, Nat.zero_le _, Nat.zero_le _⟩
  | d :: ds, h => by
    obtain ⟨h1, h2, h3⟩ := h d List.mem_cons_self
    obtain ⟨g1, g2, g3⟩ := Sm.all (ds := ds) fun x hx => h x (List.mem_cons_of_mem _ hx)
    refine ⟨?_, Nat.max_le.mpr ⟨h2, g2⟩, ?_⟩
    · show (sml e d && smls e ds) = true
      rw [h1, g1]; rfl
    · show csz e d + 2 + cszs e ds ≤ (ds.length + 1) * (c + 2)
      rw [Nat.succ_mul]
      omega
theorem Sm.lst {l : Nat} {ds : List Dt} (h : ∀ d ∈ ds, Sm e k c d) (hl : ds.length ≤ l) : Sm e (k + 1) (l * (c + 2) + 2) (.lst ds) := by
  obtain ⟨g1, g2, g3⟩ := Sm.all h
  refine ⟨g1, Nat.succ_le_succ g2, ?_⟩
  show cszs e ds + 2 ≤ _
  have := Nat.mul_le_mul_right (c + 2) hl
  omega
theorem Sm.tup {l : Nat} {ds : List Dt} (h : ∀ d ∈ ds, Sm e k c d) (hl : ds.length ≤ l) : Sm e (k + 1) (l * (c + 2) + 2) (.tup ds) := by
  obtain ⟨g1, g2, g3⟩ := Sm.all h
  refine ⟨g1, Nat.succ_le_succ g2, ?_⟩
  show cszs e ds + 2 ≤ _
  have := Nat.mul_le_mul_right (c + 2) hl
  omega
theorem sm_ns {l : List Nat} (h : ∀ x ∈ l, x < 10 ^ e) (hl : l.length ≤ c) : Sm e 1 (c * (e + 3) + 2) (.lst (nsD l)) := Sm.lst (k := 0) (c := e + 1) (fun d hd => by
  obtain ⟨x, hx, rfl⟩ := List.mem_map.mp hd
  exact Sm.nat (h x hx)) (by rw [nsD_len]; exact hl)
theorem sm_nt {l : List Nat} (h : ∀ x ∈ l, x < 10 ^ e) (hl : l.length ≤ c) : Sm e 1 (c * (e + 3) + 2) (.tup (nsD l)) := Sm.tup (k := 0) (c := e + 1) (fun d hd => by
  obtain ⟨x, hx, rfl⟩ := List.mem_map.mp hd
  exact Sm.nat (h x hx)) (by rw [nsD_len]; exact hl)
end
theorem sm_tn {n : Nat} {m : Nat → Nat → Nat} {ks : List (List Nat)} (hn : n ≤ 60) (h : ∀ K ∈ ks, Sub n m K) (hl : ks.length ≤ 2400) : Sm 4 2 1017602 (.lst (tnD ks)) :=
  (Sm.lst (k := 1) (c := 422) (l := 2400) (fun d hd => by
    obtain ⟨K, hK, rfl⟩ := List.mem_map.mp hd
    have s := h K hK
    refine sm_nt (c := 60) (fun x hx => ?_) ?_
    · have := s.lt x hx
      show x < 10000
      omega
    · have := few_of_nodup s.nd s.lt; omega) (by rw [tnD_len]; exact hl))
theorem sm_set {n N : Nat} {m a : Nat → Nat → Nat} (hn : n ≤ 60) (h : Act n m N a) (hN : N ≤ 4000) : Sm 4 2 1680242 (setD n N a) :=
  (Sm.lst (k := 1) (c := 28002) (l := 60) (fun d hd => by
    obtain ⟨g, hg, rfl⟩ := List.mem_map.mp hd
    refine sm_ns (c := 4000) (fun x hx => ?_) (by rw [List.length_map, List.length_range]; exact hN)
    obtain ⟨y, hy, rfl⟩ := List.mem_map.mp hx
    have := h.lt y g (List.mem_range.mp hy) (List.mem_range.mp hg)
    show a y g < 10000
    omega) (by rw [List.length_map, List.length_range]; exact hn))
/-- what repr may be asked of -/
def rpS (d : Dt) : Prop := isPy d = true ∧ (py d).showable = true ∧ (py d).depth ≤ 40 ∧ (py d).shown.length ≤ sizeLine
theorem Sm.rp {e k c : Nat} {d : Dt} (h : Sm e k c d) (h0 : 0 < e) (h1 : e ≤ 480) (hk : k ≤ 30) (hc : c ≤ 16777216) : rpS d :=
  ⟨pl_isPy (sml_pl d h.1), sml_showable h1 d h.1, by have := py_depth d; have := h.2.1; omega, Nat.le_trans (sml_shown h0 d h.1) (Nat.le_trans h.2.2 hc)⟩
/-- its text -/
def shD (d : Dt) : Dt := .str (py d).shown
def dReprS : RCD := fun ds Q => ∃ d, ds = [d] ∧ rpS d ∧ Q (shD d)
theorem lft_reprS {K : PySem.W.Frag} : LftC (rRepr K) dReprS := fun F H vs ds Q R u rp ⟨d, e, h, q⟩ k => by
  subst e
  obtain ⟨v, rfl, p⟩ := rp.one
  exact ⟨v, py d, rfl, .flat (p.dp u h.1) (py_flat d), h.2.1, h.2.2.1, h.2.2.2, k _ _ (.str _) q⟩
def dNeS : R2D := fun x y Q => ∃ s t, x = .str s ∧ y = .str t ∧ Q (.bl (!decide (s = t)))
theorem dec_str (i j : Str) : decide (V.str i = V.str j) = decide (i = j) := by
  by_cases e : i = j
  · subst e; simp
  · rw [decide_eq_false e, decide_eq_false fun z => e (V.str.inj z)]
theorem lft_neS : Lft2 rNe dNeS := fun F H x y d1 d2 Q R u p1 p2 ⟨s, t, e1, e2, h⟩ k => by
  subst e1 e2
  cases p1
  cases p2
  exact ⟨rfl, by rw [dec_str]; exact k _ _ (.bl _) h⟩
theorem dNe_sh {d : Dt} {Q : Dt → Prop} (q : Q (.bl false)) : dNeS (shD d) (shD d) Q := ⟨_, _, rfl, rfl, by rw [decide_eq_true rfl]; exact q⟩
end VL
namespace VL
open PySem PySem.Spec PyProof.Rows L2 HM
theorem range_mul (N K : Nat) : List.range (N * K) = (List.range N).flatMap fun x => (List.range K).map fun y => x * K + y := by
  induction N with
  | zero => rw [Nat.zero_mul]; rfl
  | succ N ih =>
    rw [Nat.succ_mul, List.range_add, ih, List.range_succ, List.flatMap_append]
    congr 1
    simp
theorem sumN_flat {α β : Type} (f : α → List β) (p : β → Bool) : ∀ l : List α, ((l.flatMap f).filter p).length = (l.map fun x => ((f x).filter p).length).sum
  | [] => rfl
  | x :: l => by
    rw [List.flatMap_cons, List.filter_append, List.length_append, List.map_cons, List.sum_cons, sumN_flat f p l]
/-- a filter over pairs -/
theorem filt_pairs (N K : Nat) (p : Nat → Bool) : ((List.range (N * K)).filter p).length = ((List.range N).map fun x => ((List.range K).filter fun y => p (x * K + y)).length).sum := by
  rw [range_mul, sumN_flat]
  congr 1
  refine List.map_congr_left fun x _ => ?_
  rw [List.filter_map, List.length_map]
  rfl
end VL
namespace VL
open PySem PySem.Spec PyProof.Rows L2 HM
/-- the sum over the first b kinds -/
def pm (T : Nat → Nat → Nat) (cs : Nat → Int) : Nat → Nat → Int
  | 0, _ => 0
  | b + 1, j => pm T cs b j + cs b * (T b j : Int)
end VL
namespace VL
open PySem PySem.Spec PyProof.Rows L2 HM
def tb2 (n M : Nat) : Nat → Nat → Nat
  | 0, _ => 0
  | f + 1, k => if M ≤ k then 1 else (n - k) * (((List.range (M + 1)).filter fun j => decide (2 * k ≤ j ∧ j % k = 0 ∧ M % j = 0)).map fun j => tb2 n M f j).foldr Nat.max 0 / (M - k)
section
variable {n : Nat} {m : Nat → Nat → Nat} {K : List Nat}
theorem few_over2 (h : Hse n m) (h60 : n ≤ 60) {M : Nat} : ∀ (f : Nat) {K : List Nat} {L : List (List Nat)}, Sub n m K → L.Nodup → (∀ H ∈ L, Sub n m H ∧ H.length = M ∧ ∀ x ∈ K, x ∈ H) → 60 < K.length * 2 ^ f → L.length ≤ tb2 n M f K.length := by
  intro f
  induction f with
  | zero =>
    intro K L s _ _ hb
    have := few_of_nodup s.nd s.lt
    omega
  | succ f ih =>
    intro K L s nd hL hb
    unfold tb2
    split
    · rename_i hk
      -- one at most
      have he : ∀ H ∈ L, H = K := fun H hH => by
        obtain ⟨s2, e, hs⟩ := hL H hH
        exact rising_eq s2.up s.up fun x => ⟨fun z => full_of_nodup s.nd hs (by omega) x z, hs x⟩
      match L, nd, he with
      | [], _, _ => exact Nat.zero_le _
      | [_], _, _ => exact Nat.le_refl _
      | a :: b :: _, nd, he =>
        exact absurd (by rw [he a (by simp), he b (by simp)]) (fun z : a = b => (List.nodup_cons.mp nd).1 (by rw [z]; simp))
    · rename_i hk
      have hk : K.length < M := Nat.lt_of_not_le hk
      obtain ⟨B, eB⟩ : ∃ B, B = ((List.filter (fun j => decide (2 * K.length ≤ j ∧ j % K.length = 0 ∧ M % j = 0)) (List.range (M + 1))).map fun j => tb2 n M f j).foldr Nat.max 0 := ⟨_, rfl⟩
      rw [← eB, Nat.le_div_iff_mul_le (by omega)]
      obtain ⟨G, eG⟩ : ∃ G, G = (List.range n).filter fun g => decide (g ∉ K) := ⟨_, rfl⟩
      have lG : G.length = n - K.length := by rw [eG, cnt_in s]
      have h1 : L.length * (M - K.length) ≤ (L.map fun H => (G.filter fun g => decide (g ∈ H)).length).sum := sum_ge fun H hH => by
        obtain ⟨s2, e, hs⟩ := hL H hH
        have := len_le_of_sub (k := H) (l := K ++ G.filter fun g => decide (g ∈ H)) s2.nd fun x hx => by
          by_cases z : x ∈ K
          · exact List.mem_append_left _ z
          · refine List.mem_append_right _ (List.mem_filter.mpr ⟨?_, decide_eq_true hx⟩)
            rw [eG]
            exact List.mem_filter.mpr ⟨List.mem_range.mpr (s2.lt x hx), decide_eq_true z⟩
        rw [List.length_append] at this
        omega
      have h2 : (G.map fun g => (L.filter fun H => decide (g ∈ H)).length).sum ≤ G.length * B := sum_le fun g hg => by
        rw [eG] at hg
        obtain ⟨hg1, hg2⟩ := List.mem_filter.mp hg
        have hgn := List.mem_range.mp hg1
        have hgk : g ∉ K := of_decide_eq_true hg2
        obtain ⟨K2, hK2⟩ := pt_ex h (gs := K ++ [g]) (fun x hx => by
          rcases List.mem_append.mp hx with hx | hx
          · exact s.lt x hx
          · rw [List.mem_singleton.mp hx]; exact hgn)
        have hlt : ∀ x ∈ K ++ [g], x < n := fun x hx => by
          rcases List.mem_append.mp hx with hx | hx
          · exact s.lt x hx
          · rw [List.mem_singleton.mp hx]; exact hgn
        have s2 := hK2.sub h hlt
        have hin : ∀ x ∈ K ++ [g], x ∈ K2 := fun x hx => (hK2.mem x).mpr (rch_one h hx (hlt x hx))
        have h2k := s.twice h s2 (fun x hx => hin x (List.mem_append_left _ hx)) (hin g (by simp)) hgk
        have hall : ∀ H ∈ L.filter (fun H => decide (g ∈ H)), Sub n m H ∧ H.length = M ∧ ∀ x ∈ K2, x ∈ H := fun H hH => by
          obtain ⟨z1, z2⟩ := List.mem_filter.mp hH
          obtain ⟨s3, e, hs⟩ := hL H z1
          refine ⟨s3, e, fun x hx => s3.rch (fun y hy => ?_) ((hK2.mem x).mp hx)⟩
          rcases List.mem_append.mp hy with hy | hy
          · exact hs y hy
          · rw [List.mem_singleton.mp hy]; exact of_decide_eq_true z2
        have := ih s2 (nd.sublist List.filter_sublist) hall (by
          have := Nat.mul_le_mul_right (2 ^ f) h2k
          rw [Nat.pow_succ] at hb
          have e9 : K.length * (2 ^ f * 2) = 2 * K.length * 2 ^ f := by
            rw [Nat.mul_comm (2 ^ f) 2, ← Nat.mul_assoc, Nat.mul_comm K.length 2]
          omega)
        cases hcase : L.filter (fun H => decide (g ∈ H)) with
        | nil => exact Nat.zero_le _
        | cons H Hs =>
          rw [hcase] at this hall
          obtain ⟨s3, e, hs⟩ := hall H List.mem_cons_self
          have hle := len_le_of_sub s2.nd hs
          refine Nat.le_trans this ?_
          rw [eB]
          refine le_foldr_max (List.mem_map.mpr ⟨K2.length, List.mem_filter.mpr ⟨List.mem_range.mpr (by omega), decide_eq_true ⟨h2k, sub_div h s s2 (fun x hx => hin x (List.mem_append_left _ hx)), by rw [← e]; exact sub_div h s2 s3 hs⟩⟩, rfl⟩)
      rw [two_ways (fun H g => decide (g ∈ H)) G L] at h1
      rw [lG] at h2
      exact Nat.le_trans h1 h2
def tots2 (n : Nat) : Nat := (((List.range (n + 1)).filter fun M => decide (n % M = 0 ∧ 0 < M)).map fun M => tb2 n M 6 1).sum
theorem tots2_le : ∀ n, n < 61 → tots2 n ≤ 1523 := by decide +kernel
/-- a house of at most sixty numbers has at most 1523 parts -/
theorem few_subs2 (h : Hse n m) (h60 : n ≤ 60) {L : List (List Nat)} (nd : L.Nodup) (hs : ∀ H ∈ L, Sub n m H) : L.length ≤ 1523 := by
  refine Nat.le_trans ?_ (tots2_le n (by omega))
  obtain ⟨G, eG⟩ : ∃ G, G = (List.range (n + 1)).filter fun M => decide (n % M = 0 ∧ 0 < M) := ⟨_, rfl⟩
  have h1 : L.length * 1 ≤ (L.map fun H => (G.filter fun M => decide (H.length = M)).length).sum := sum_ge fun H hH => by
    have s := hs H hH
    have e := lst_mul h s
    have hp : 0 < H.length := List.length_pos_of_mem s.ze
    have hle := few_of_nodup s.nd s.lt
    refine List.length_pos_of_mem (a := H.length) (List.mem_filter.mpr ⟨?_, decide_eq_true rfl⟩)
    rw [eG]
    exact List.mem_filter.mpr ⟨List.mem_range.mpr (by omega), decide_eq_true ⟨Nat.mod_eq_zero_of_dvd ⟨_, by rw [Nat.mul_comm]; exact e.symm⟩, hp⟩⟩
  rw [two_ways (fun H M => decide (H.length = M)) G L, Nat.mul_one] at h1
  refine Nat.le_trans h1 ?_
  unfold tots2
  rw [← eG]
  refine sum_le2 fun M hM => ?_
  have z : Sub n m [0] := ⟨List.pairwise_singleton .., fun x hx => by rw [List.mem_singleton.mp hx]; exact h.pos, by simp, fun x hx y hy => by
    rw [List.mem_singleton.mp hx, List.mem_singleton.mp hy, h.zl 0 h.pos]
    simp⟩
  exact few_over2 h h60 6 (K := [0]) z (nd.sublist List.filter_sublist) (fun H hH => by
    obtain ⟨z1, z2⟩ := List.mem_filter.mp hH
    refine ⟨hs H z1, of_decide_eq_true z2, fun x hx => ?_⟩
    rw [List.mem_singleton.mp hx]
    exact (hs H z1).ze) (by decide)
end
end VL
namespace VL
open PySem PySem.Spec PyProof.Rows L2 HM HG
def spTakeG (p : Addr) : VSp := fun ds t Q _ => ∃ m : Nat, ds = [.obj p, nD m] ∧ 0 < m ∧ m ≤ 1000000000 ∧ ∀ r : Nat, r < m → Q (nD r) t
end VL
namespace K50
open PySem PySem.Spec PyProof.Rows L2 HM VL
def topS (i : Nat) : Stmt := PySem.Challenge.pw_heldmarks_k50_colours_marked.main.body.getD i (.Pass ⟨0, 0, 0, 0⟩)
abbrev bn : List Str := ["isinstance", "int", "bool", "len", "abs", "list", "range", "tuple", "set", "all", "sorted", "zip", "enumerate", "repr", "dict", "sum", "min"]
end K50
namespace K50
open PySem PySem.Spec PyProof.Rows L2 HM VL
abbrev s_l_pen : Stmt := topS 26
abbrev s_l_draw : Stmt := topS 27
section
variable {P : Program} {w : World} {K : PySem.W.Frag} {mg : Str → Option Value} {base : Heap}
theorem ebd {c : Int} (h0 : 0 < c) (h : c < 2 ^ 64) (x : Int) : -(2 ^ 64) < x % c ∧ x % c < 2 ^ 64 := ⟨by have := Int.emod_nonneg x (b := c) (by omega); omega, by have := Int.emod_lt_of_pos x h0; omega⟩
theorem sc_l_pen : FnScope ["_law_script"] ["_law_script"] (defScope s_l_pen) := ⟨rfl, rfl, rfl, by decide +kernel, rfl, by decide +kernel, by decide +kernel⟩
theorem ok_pen {gd : Around → Prop} {f : Addr} {fd : FuncData} {k : Nat} (F : Fun K "_law_pen" "_law_pen" s_l_pen f fd) : PFn gd P w K mg base CX0 (k + 1) f fd ["_law_script"] spPenL := by
  refine pfn_of F sc_l_pen (fun vs H Q E h => ?_) (fun cdv A outer s H vs Q E hcd hgd hr h => ?_)
  · obtain ⟨a, rfl, _⟩ := h
    rfl
  · obtain ⟨a, rfl, q⟩ := h
    refine ⟨_, pss_one (ps_ret (pe_lst (pa_cons (pv 0) (pa_cons pe_int (pa_cons pe_int pa_nil))))), ?_⟩
    exact ⟨_, rfl, (by decide : 3 ≤ sizeLine), fun p np => q p np⟩
theorem sc_l_draw : FnScope ["_law_pen_here", "_law_many", "_law_digit", "_law_place", "_law_cell", "_law_mixed"] ["_law_pen_here", "_law_many"] (defScope s_l_draw) := ⟨rfl, rfl, rfl, by decide +kernel, rfl, by decide +kernel, by decide +kernel⟩
theorem ok_drawG {gd : Around → Prop} {am : Am} {p f : Addr} {fd : FuncData} {k : Nat} (PI : PenL K am p) (F : Fun K "_law_draw" "_law_draw" s_l_draw f fd) (mz : ∀ x ∈ bn, mg x = none) : VFn gd P w K mg base CX0 (k + 1) f fd ["_law_pen_here", "_law_many"] am (spTakeG p) := by
  refine pfn_of F sc_l_draw (fun vs H Q E h => ?_) (fun cdv A outer s H vs Q E hcd hgd hr h => ?_)
  · obtain ⟨F0, ds, n, Q', E', _, _, _, r, ⟨m, rfl, _⟩, _⟩ := h
    rw [r.len]
    rfl
  · obtain ⟨F0, ds, n, Q', E', u, hs, ha, r, ⟨m, rfl, hm0, hm1, q⟩, kq, ke⟩ := h
    obtain ⟨a, ns, t, l, hp, hS, hlen, ht, hl⟩ := PI.rd ha
    cases r with | cons r1 r =>
    cases r with | cons r2 r =>
    cases r
    cases r1
    cases r2
    have ml := mz "len" (by decide)
    have ma := mz "abs" (by decide)
    refine ⟨_, pss_cons (ps_if (pt_cmpR op_gt (pe_ix ix_list (pv 0) pe_int (fun _ _ => rfl)) pe_int (nomark _))
        (pss_cons (ps_set (i := 2) sc_l_draw.nd rfl (.inl rfl) (pe_op op_mod (pe_ix ix_list (pv 0) pe_int (fun _ _ => rfl)) (pv 1)))
        (pss_cons (ps_asg (pe_op op_fdiv (pe_ix ix_list (pv 0) pe_int (fun _ _ => rfl)) (pv 1)) (pg_sub (pv 0) pe_int set_list))
        (pss_one (ps_ret (pv 2))))) pss_nil)
      (pss_cons (ps_set (i := 3) sc_l_draw.nd rfl (.inl rfl) (pe_ix ix_list (pv 0) pe_int (fun _ _ => rfl)))
      (pss_cons (ps_asg (pe_op op_add (pv 3) pe_int) (pg_sub (pv 0) pe_int set_list))
      (pss_cons (ps_set (i := 4) sc_l_draw.nd rfl (.inl rfl) pe_int)
      (pss_cons (ps_if (pt_cmpR op_gt (pe_callB call_len_seq (by rfl) ml PySem.boot_len (pa_cons (pe_ix ix_list (pv 0) pe_int (fun _ _ => rfl)) pa_nil)) pe_int (nomark _))
        (pss_one (ps_set (i := 4) sc_l_draw.nd rfl (.inl rfl) (pe_ix ix_list (pe_ix ix_list (pv 0) pe_int (fun _ _ => rfl)) (pe_op op_mod (pv 3) (pe_callB call_len_seq (by rfl) ml PySem.boot_len (pa_cons (pe_ix ix_list (pv 0) pe_int (fun _ _ => rfl)) pa_nil))) (fun _ _ => rfl)))) pss_nil)
      (pss_cons (ps_if (pw_and (pt_cmpR op_lt (pv 3) (pe_callB call_len_seq (by rfl) ml PySem.boot_len (pa_cons (pe_ix ix_list (pv 0) pe_int (fun _ _ => rfl)) pa_nil)) (nomark _)) (pw_and1 (pt_cmpR op_ge (pe_callB call_abs (by rfl) ma (by decide +kernel) (pa_cons (pv 4) pa_nil)) (pe_op op_pow pe_int pe_int) (nomark _)))).pt
        (pss_cons (ps_asg (pe_op op_fdiv (pe_callB call_abs (by rfl) ma (by decide +kernel) (pa_cons (pv 4) pa_nil)) (pv 1)) (pg_sub (pv 0) pe_int set_list))
        (pss_one (ps_ret (pe_op op_mod (pe_callB call_abs (by rfl) ma (by decide +kernel) (pa_cons (pv 4) pa_nil)) (pv 1))))) pss_nil)
      (pss_cons (ps_set (i := 5) sc_l_draw.nd rfl (.inl rfl) (pe_op op_mod (pe_op op_mul (pe_op op_add (pe_op op_add (pe_op op_mod (pv 4) pe_int) (pe_op op_mul pe_int (pv 3))) pe_int) pe_int) pe_int))
      (pss_cons (ps_set (i := 5) sc_l_draw.nd rfl (.inl rfl) (pe_op op_mod (pe_op op_add (pe_op op_add (pe_op op_mul (pv 5) (pv 5)) (pe_op op_mul pe_int (pv 5))) (pv 3)) pe_int))
      (pss_one (ps_ret (pe_op op_mod (pe_op op_fdiv (pe_op op_mod (pe_op op_mul (pv 5) (pe_op op_add (pe_op op_mod (pv 5) pe_int) pe_int)) pe_int) pe_int) (pv 1))))))))))), ?_⟩
    have sq : ∀ {o : List V}, SqL K (upd H p (.lst o)) a (ns.map V.int) := fun {o} => (hS.up fun b ob u e => by
      rw [upd_ne (ne_of e hp (by intro z; cases z))]
      exact e).sq
    have mi : (0 : Int) < (m : Int) := by omega
    have fin : ∀ (x t' l' : Int), 0 ≤ t' → 0 ≤ l' → Q (.int (x % (m : Int))) (upd H p (.lst (pl3 a t' l'))) := fun x t' l' h1 h2 => by
      have e0 := Int.emod_nonneg x (b := (m : Int)) (by omega)
      have e1 := Int.emod_lt_of_pos x mi
      obtain ⟨y, hy⟩ : ∃ y : Nat, x % (m : Int) = (y : Int) := ⟨(x % (m : Int)).toNat, by omega⟩
      rw [hy]
      rw [hy] at e1
      exact kq _ F0 _ (nD y) n (PI.out u hs ha hp h1 h2) (.int _) (q y (by omega))
    have hne : ∀ (c : Int), 0 ≤ (if c < 0 then -c else c) := fun c => by split <;> omega
    refine ⟨.ref p, rfl, p, _, _, _, rfl, rfl, .inl (.inl hp), rfl, _, _, rfl, rfl, _, rfl, ite2 (fun e => ?_) (fun e => ?_)⟩
    · refine ⟨.ref p, rfl, p, _, _, _, rfl, rfl, .inl (.inl hp), rfl, .int m, rfl, _, _, rfl, rfl, mi, .ref p, rfl, p, _, _, _, rfl, rfl, .inl (.inl hp), rfl, .int m, rfl, _, _, rfl, rfl, ⟨mi, by omega⟩, .ref p, rfl, p, _, _, 2, rfl, rfl, hp, rfl, _, rfl, ?_⟩
      exact fin _ t _ ht (Int.ediv_nonneg hl (by omega))
    · refine ⟨.ref p, rfl, p, _, _, _, rfl, rfl, .inl (.inl hp), rfl, .int t, rfl, _, _, rfl, rfl, .ref p, rfl, p, _, _, 1, rfl, rfl, hp, rfl, .ref p, rfl, p, _, _, _, rfl, rfl, .inl (.inl upd_same), rfl, a, _, rfl, .inl sq, _, _, rfl, rfl, _, rfl, ite2 (fun e1 => ?ga) (fun e1 => ?gb)⟩
      case' ga =>
        have hpos : (0 : Int) < ((ns.map V.int).length : Int) := of_decide_eq_true e1
        have hb0 : 0 ≤ t % ((ns.map V.int).length : Int) := Int.emod_nonneg _ (by omega)
        have hb1 : t % ((ns.map V.int).length : Int) < ((ns.map V.int).length : Int) := Int.emod_lt_of_pos _ hpos
        have hj : (t % ((ns.map V.int).length : Int)).toNat < ns.length := by
          rw [List.length_map] at hb0 hb1 ⊢
          omega
        have hat : atI (ns.map V.int) (t % ((ns.map V.int).length : Int)) = some (.int (ns[(t % ((ns.map V.int).length : Int)).toNat]'hj)) := by
          refine at_of (j := (t % ((ns.map V.int).length : Int)).toNat) (by omega) ?_
          rw [List.getElem?_map, List.getElem?_eq_getElem hj]
          rfl
        refine ⟨.ref p, rfl, p, _, _, _, rfl, rfl, .inl (.inl upd_same), rfl, .int t, rfl, .ref p, rfl, p, _, _, _, rfl, rfl, .inl (.inl upd_same), rfl, a, _, rfl, .inl sq, _, _, rfl, rfl, hpos, a, _, _, _, rfl, rfl, sq, hat, ?_⟩
        generalize (ns[(t % ((ns.map V.int).length : Int)).toNat]'hj) = c
      case' gb =>
        obtain ⟨c, ec⟩ : ∃ c : Int, c = 7 := ⟨_, rfl⟩
        rw [← ec]
      case ga =>
        refine ⟨.int t, rfl, .ref p, rfl, p, _, _, _, rfl, rfl, .inl (.inl upd_same), rfl, a, _, rfl, .inl sq, _, _, rfl, rfl, _, rfl, ite2 (fun e2 => ?gc1) (fun e2 => ?gd1)⟩
        case' gc1 => refine ⟨.int c, rfl, c, rfl, 10, 18, rfl, rfl, ⟨by decide, by decide, by decide⟩, _, _, rfl, rfl, _, rfl, ite2 (fun e3 => ?ge1) (fun e3 => ?gf1)⟩
        case ge1 =>
          refine ⟨.int c, rfl, c, rfl, .int m, rfl, _, _, rfl, rfl, ⟨mi, by omega⟩, .ref p, rfl, p, _, _, 2, rfl, rfl, upd_same, rfl, ?_⟩
          rw [upd_upd]
          exact ⟨.int c, rfl, c, rfl, .int m, rfl, _, _, rfl, rfl, mi, fin _ (t + 1) _ (by omega) (Int.ediv_nonneg (hne c) (by omega))⟩
        case' gd1 => refine ite2 (fun z => by cases z) (fun _ => ?_)
        all_goals
          refine ⟨.int _, rfl, _, _, rfl, rfl, (by show (0 : Int) < _; decide), .int t, rfl, _, _, rfl, rfl, .inl ⟨by decide, by decide⟩, _, _, rfl, rfl, _, _, rfl, rfl, _, _, rfl, rfl, .inr ⟨by decide, by decide⟩, _, _, rfl, rfl, (by show (0 : Int) < _; decide), ?_⟩
          refine ⟨.int _, rfl, .int _, rfl, _, _, rfl, rfl, .inl (ebd (by decide) (by decide) _), .int _, rfl, _, _, rfl, rfl, .inl ⟨by decide, by decide⟩, _, _, rfl, rfl, .int t, rfl, _, _, rfl, rfl, _, _, rfl, rfl, (by show (0 : Int) < _; decide), ?_⟩
          exact ⟨.int _, rfl, .int _, rfl, _, _, rfl, rfl, (by show (0 : Int) < _; decide), _, _, rfl, rfl, _, _, rfl, rfl, .inl (ebd (by decide) (by decide) _), _, _, rfl, rfl, (by show (0 : Int) < _; decide), _, _, rfl, rfl, ⟨by decide, by decide⟩, .int m, rfl, _, _, rfl, rfl, mi, fin _ (t + 1) l (by omega) hl⟩
      case gb =>
        refine ⟨.int t, rfl, .ref p, rfl, p, _, _, _, rfl, rfl, .inl (.inl upd_same), rfl, a, _, rfl, .inl sq, _, _, rfl, rfl, _, rfl, ite2 (fun e2 => ?gc2) (fun e2 => ?gd2)⟩
        case' gc2 => refine ⟨.int c, rfl, c, rfl, 10, 18, rfl, rfl, ⟨by decide, by decide, by decide⟩, _, _, rfl, rfl, _, rfl, ite2 (fun e3 => ?ge2) (fun e3 => ?gf2)⟩
        case ge2 =>
          refine ⟨.int c, rfl, c, rfl, .int m, rfl, _, _, rfl, rfl, ⟨mi, by omega⟩, .ref p, rfl, p, _, _, 2, rfl, rfl, upd_same, rfl, ?_⟩
          rw [upd_upd]
          exact ⟨.int c, rfl, c, rfl, .int m, rfl, _, _, rfl, rfl, mi, fin _ (t + 1) _ (by omega) (Int.ediv_nonneg (hne c) (by omega))⟩
        case' gd2 => refine ite2 (fun z => by cases z) (fun _ => ?_)
        all_goals
          refine ⟨.int _, rfl, _, _, rfl, rfl, (by show (0 : Int) < _; decide), .int t, rfl, _, _, rfl, rfl, .inl ⟨by decide, by decide⟩, _, _, rfl, rfl, _, _, rfl, rfl, _, _, rfl, rfl, .inr ⟨by decide, by decide⟩, _, _, rfl, rfl, (by show (0 : Int) < _; decide), ?_⟩
          refine ⟨.int _, rfl, .int _, rfl, _, _, rfl, rfl, .inl (ebd (by decide) (by decide) _), .int _, rfl, _, _, rfl, rfl, .inl ⟨by decide, by decide⟩, _, _, rfl, rfl, .int t, rfl, _, _, rfl, rfl, _, _, rfl, rfl, (by show (0 : Int) < _; decide), ?_⟩
          exact ⟨.int _, rfl, .int _, rfl, _, _, rfl, rfl, (by show (0 : Int) < _; decide), _, _, rfl, rfl, _, _, rfl, rfl, .inl (ebd (by decide) (by decide) _), _, _, rfl, rfl, (by show (0 : Int) < _; decide), _, _, rfl, rfl, ⟨by decide, by decide⟩, .int m, rfl, _, _, rfl, rfl, mi, fin _ (t + 1) l (by omega) hl⟩
theorem ok_draw {gd : Around → Prop} {am : Am} {p f : Addr} {fd : FuncData} {k : Nat} (PI : PenL K am p) (F : Fun K "_law_draw" "_law_draw" s_l_draw f fd) (mz : ∀ x ∈ bn, mg x = none) : VFn gd P w K mg base CX0 (k + 1) f fd ["_law_pen_here", "_law_many"] am (spTake p) := by
  refine (ok_drawG (k := k) PI F mz).imp fun ds t Q E h => ?_
  obtain ⟨m, e, h0, h1, q⟩ := h
  exact ⟨m, e, h0, by omega, q⟩
end
end K50
namespace K50
open PySem PySem.Spec PyProof.Rows L2 HM VL
abbrev s_l_order : Stmt := topS 28
theorem sc_l_order : FnScope ["_law_pen_here", "_law_many", "_law_left", "_law_k"] ["_law_pen_here", "_law_many"] (defScope s_l_order) := ⟨rfl, rfl, rfl, by decide +kernel, rfl, by decide +kernel, by decide +kernel⟩
abbrev s_l_two : Stmt := topS 29
theorem sc_l_two : FnScope ["_law_one", "_law_other", "_law_k"] ["_law_one", "_law_other"] (defScope s_l_two) := ⟨rfl, rfl, rfl, by decide +kernel, rfl, by decide +kernel, by decide +kernel⟩
section
variable {P : Program} {w : World} {K : PySem.W.Frag} {mg : Str → Option Value} {base : Heap} {am : Am} {gd : Around → Prop} {k : Nat}
def spOrder (p : Addr) : VSp := fun ds t Q _ => ∃ m : Nat, ds = [.obj p, nD m] ∧ m ≤ 4000 ∧ ∀ l, Tn m l → Q (.lst (nsD l)) t
def spTwo : VSp := fun ds t Q _ => ∃ (m : Nat) (a b : List Nat), ds = [.tup (nsD a), .tup (nsD b)] ∧ Tn m a ∧ Tn m b ∧ m ≤ 4000 ∧ Q (.tup (nsD (thn a b))) t
theorem eraseIdx_map {α β : Type} (f : α → β) : ∀ (l : List α) (i : Nat), (l.map f).eraseIdx i = (l.eraseIdx i).map f
  | [], _ => rfl
  | _ :: _, 0 => rfl
  | a :: l, i + 1 => congrArg (f a :: ·) (eraseIdx_map f l i)
theorem perm_erase {α : Type} : ∀ {l : List α} {i : Nat} (h : i < l.length), (l[i] :: l.eraseIdx i).Perm l
  | _ :: _, 0, _ => List.Perm.refl _
  | a :: l, i + 1, h => (List.Perm.swap a _ _).trans (List.Perm.cons a (perm_erase (l := l) (i := i) (by simpa using h)))
theorem ok_order {p f f_l_draw : Addr} {fd fd_l_draw : FuncData} (F : Fun K "_law_order" "_law_order" s_l_order f fd)
    (G_l_draw : VFn anyA P w K mg base CX0 (k + 2) f_l_draw fd_l_draw ["_law_pen_here", "_law_many"] am (spTake p)) (g_l_draw : mg "_law_draw" = some (.ref f_l_draw)) (k_l_draw : PySem.W.keepIn K (.ref f_l_draw) = true) (b_l_draw : Binds K fd_l_draw ["_law_pen_here", "_law_many"] [])
    (mz : ∀ x ∈ bn, mg x = none) : VFn gd P w K mg base CX0 (k + 3) f fd ["_law_pen_here", "_law_many"] am (spOrder p) := by
  refine vfn_of F sc_l_order (fun ds n Q E h => ?_) ⟨_, fun cdv A out s H E F0 H0 hcd hgd hr =>
    (vss_cons (vs_setN (i := 2) sc_l_order.nd rfl (.inr rfl) (vn_listRg rfl (by rfl) (mz "list" (by decide)) (vrg_1 (by rfl) (mz "range" (by decide)) (ve_var (pv 1)))))
      (vss_one (vs_ret (ve_new (vn_lc (own := [("_law_k", 3)]) rfl sc_l_order.nd (vi_range1 (by rfl) (mz "range" (by decide)) (vb_cons (ve_var (pv 1)) vb_nil)) (blkOk_by (own := [("_law_k", 3)]) (N := ["_law_pen_here", "_law_many", "_law_left", "_law_k"]) (sc := defScope s_l_order) (by decide +kernel)) (tg_name (by simp)) (fun _ _ _ _ _ => (pg_name (i := 3) sc_l_order.nd rfl (.inl rfl))) (fun _ _ _ _ _ _ _ => vts_nil) (fun _ _ _ _ _ _ _ => (ve_m (pe_bm PySem.F.plainAttrs_list PySem.F.slot_list_pop PySem.F.type_list_pop mt_popAt (pv 2) (va_cons (ve_call G_l_draw trivial (hr.mono (by omega)) (by rfl) g_l_draw k_l_draw b_l_draw pass0 (va_cons (ve_var (pv 0)) (va_cons (ve_cbR call_len_seq lft_len (by rfl) (mz "len" (by decide)) PySem.boot_len (vb_rd (pv 2) vb_nil)) va_nil))) va_nil)) lft_popAt))))))), fun ds t Q E h => ?_⟩
  · obtain ⟨m, rfl, _⟩ := h
    rfl
  · obtain ⟨m, rfl, hm, q⟩ := h
    refine vseq_setN ⟨_, rfl, _, rfl, ⟨by omega, by omega, by omega, by omega⟩, ?_⟩
    have e0 : rngD 0 ((m : Int) - 0).toNat = nsD (List.range m) := by
      rw [Int.sub_zero, Int.toNat_natCast]
      unfold rngD nsD
      exact List.map_congr_left fun i _ => by rw [Int.zero_add]; rfl
    rw [e0]
    refine ⟨_, rfl, _, rfl, ⟨by omega, by omega⟩, noOw1 (s := .no) rfl no_ow, by rw [rngD_len]; omega, fun i acc env t' => ∃ done rest : List Nat, acc = nsD done ∧ env = [.fz (.obj p), .fz (nD m), .ow (.lst (nsD rest)), .no] ∧ t' = t ∧ (done ++ rest).Perm (List.range m) ∧ done.length = i, ⟨[], List.range m, rfl, rfl, rfl, List.Perm.refl _, rfl⟩, fun i x acc env t' hx hP => ?_, fun acc env t' _ hP => ?_⟩
    · obtain ⟨done, rest, rfl, rfl, rfl, hp, rfl⟩ := hP
      obtain ⟨rfl, hj⟩ := rngD_get0 hx
      have hlen := hp.length_eq
      rw [List.length_append, List.length_range] at hlen
      have hi : done.length < m := by have : done.length < ((m : Nat) : Int).toNat := hj; omega
      refine ⟨⟨_, rfl⟩, _, rfl, ⟨_, .inr ⟨_, rfl, rfl⟩⟩, _, .inr ⟨_, rfl, rfl⟩, _, .inl rfl, rfl, rest.length, by rw [nsD_len]; rfl, by omega, by omega, fun r hr => ?_⟩
      have hy : (nsD rest)[r]? = some (nD rest[r]) := by unfold nsD; rw [List.getElem?_map, List.getElem?_eq_getElem hr]; rfl
      refine ⟨_, rfl, r, nD rest[r], rfl, by rw [nsD_len]; omega, hy, done ++ [rest[r]], rest.eraseIdx r, ?_, ?_, rfl, ?_, ?_⟩
      · unfold nsD; rw [List.map_append]; rfl
      · unfold nsD; rw [eraseIdx_map]; rfl
      · refine List.Perm.trans ?_ hp
        rw [List.append_assoc]
        exact List.Perm.append_left _ (perm_erase hr)
      · rw [List.length_append]; rfl
    · obtain ⟨done, rest, rfl, rfl, rfl, hp, hl⟩ := hP
      have hlen := hp.length_eq
      rw [rngD_len, Int.toNat_natCast] at hl
      rw [List.length_append, List.length_range] at hlen
      have hr : rest = [] := List.eq_nil_of_length_eq_zero (by omega)
      rw [hr, List.append_nil] at hp
      exact ⟨_, rfl, q done hp⟩
theorem ok_two {f : Addr} {fd : FuncData} (F : Fun K "_law_two" "_law_two" s_l_two f fd) (mz : ∀ x ∈ bn, mg x = none) : VFn gd P w K mg base CX0 (k + 1) f fd ["_law_one", "_law_other"] am spTwo := by
  refine vfn_of F sc_l_two (fun ds n Q E h => ?_) ⟨_, fun cdv A out s H E F0 H0 hcd hgd hr =>
    (vss_one (vs_ret (ve_tyTR call_tuple_of lft_tupleOf (by rfl) (mz "tuple" (by decide)) (by decide +kernel) (vb_cons (ve_new (vn_lc (own := [("_law_k", 2)]) rfl sc_l_two.nd (vi_tup (ve_var (pv 0))) (blkOk_by (own := [("_law_k", 2)]) (N := ["_law_one", "_law_other", "_law_k"]) (sc := defScope s_l_two) (by decide +kernel)) (tg_name (by simp)) (fun _ _ _ _ _ => (pg_name (i := 2) sc_l_two.nd rfl (.inl rfl))) (fun _ _ _ _ _ _ _ => vts_nil) (fun _ _ _ _ _ _ _ => (ve_ix ix_tup lft_ixT (ve_var (pv 1)) (ve_var (pv 2)) (fun _ _ => rfl))))) vb_nil)))), fun ds t Q E h => ?_⟩
  · obtain ⟨m, a, b, rfl, _⟩ := h
    rfl
  · obtain ⟨m, a, b, rfl, ha, hb, hm, q⟩ := h
    refine ⟨_, rfl, _, rfl, ?_⟩
    refine lc_map (i := 2) (fun j => nD (tA b (tA a j))) (.head _) (noOw1 rfl no_ow) (by rw [nsD_len, ha.len]; omega) (fun i y hy R q => ?_) ?_
    · unfold nsD at hy
      rw [List.getElem?_map] at hy
      obtain ⟨y0, hy1, rfl⟩ := Option.map_eq_some_iff.mp hy
      have hil := (List.getElem?_eq_some_iff.mp hy1).1
      have e3 : y0 = tA a i := Option.some.inj (hy1.symm.trans (tA_get hil))
      rw [← e3] at q
      exact ⟨_, rfl, _, rfl, _, _, _, rfl, rfl, nsD_tA (by rw [hb.len]; exact ha.lt (List.mem_of_getElem? hy1)), q⟩
    rw [thn_lc]
    exact ⟨_, rfl, _, rfl, flats_ns _, q⟩
end
end K50
namespace K50
open PySem PySem.Spec PyProof.Rows L2 HM VL
abbrev s_l_all : Stmt := topS 30
theorem sc_l_all : FnScope ["_law_turns", "_law_most", "_law_stay", "_law_found", "_law_waiting", "_law_here", "_law_turn", "_law_now"] ["_law_turns", "_law_most"] (defScope s_l_all) := ⟨rfl, rfl, rfl, by decide +kernel, rfl, by decide +kernel, by decide +kernel⟩
section
variable {P : Program} {w : World} {K : PySem.W.Frag} {mg : Str → Option Value} {base : Heap} {am : Am} {gd : Around → Prop} {k : Nat}
def spAllC : VSp := fun ds t Q _ => ∃ (m : Nat) (ts : List (List Nat)) (most : Nat), ds = [.lst (tnsD ts), nD most] ∧ 1 ≤ m ∧ m ≤ 7 ∧ ts.length ≤ 4 ∧ 0 < ts.length ∧ 1 ≤ most ∧ most ≤ 60 ∧ (∀ g ∈ ts, Tn m g) ∧ (∀ gl, IsGr m gl → gl.length ≤ most → Q (.lst (tnsD gl)) t) ∧ ((∀ l : List (List Nat), l.Nodup → (∀ x ∈ l, GR m ts x) → l.length ≤ most) ∨ Q .non t)
theorem ok_all {f f_l_two : Addr} {fd fd_l_two : FuncData} (F : Fun K "_law_all" "_law_all" s_l_all f fd)
    (G_l_two : VFn anyA P w K mg base CX0 (k + 1) f_l_two fd_l_two ["_law_one", "_law_other"] am spTwo) (g_l_two : mg "_law_two" = some (.ref f_l_two)) (k_l_two : PySem.W.keepIn K (.ref f_l_two) = true) (b_l_two : Binds K fd_l_two ["_law_one", "_law_other"] [])
    (mz : ∀ x ∈ bn, mg x = none) : VFn gd P w K mg base CX0 (k + 2) f fd ["_law_turns", "_law_most"] am spAllC := by
  refine vfn_of F sc_l_all (fun ds n Q E h => ?_) ⟨_, fun cdv A out s H E F0 H0 hcd hgd hr =>
    (vss_cons (vs_set (i := 2) sc_l_all.nd rfl (.inl rfl) (ve_tupRg rfl (by rfl) (mz "tuple" (by decide)) (vrg_1 (by rfl) (mz "range" (by decide)) (ve_cbR call_len_seq lft_len (by rfl) (mz "len" (by decide)) PySem.boot_len (vb_cons (ve_ixO (pv 0) ve_int (fun _ _ => rfl)) vb_nil)))))
      (vss_cons (vs_setN (i := 3) sc_l_all.nd rfl (.inl rfl) (vn_dispT (hu_of hr) (fun F0 H0 => (ve_var (pv 2))) (fun F0 H0 => ve_bl)))
      (vss_cons (vs_setN (i := 4) sc_l_all.nd rfl (.inl rfl) (vn_lst (va_cons (ve_var (pv 2)) va_nil)))
      (vss_cons (vs_while PassesOwn.never (vt_cmpN (op_neD hr.units) lft_neD (pv 4) (vr_of (ve_new (vn_lst va_nil))) (nomark _))
        (vss_cons (vs_set (i := 5) sc_l_all.nd rfl (.inl rfl) (ve_m0 (pe_bm0 PySem.F.plainAttrs_list PySem.F.slot_list_pop PySem.F.type_list_pop mt_pop (pv 4)) lft_pop))
        (vss_cons (vs_for PassesOwn.never rfl (vi_list (ve_var (pv 0))) (vg_name (pg_name (i := 6) sc_l_all.nd rfl (.inl rfl)))
          (vss_cons (vs_set (i := 7) sc_l_all.nd rfl (.inl rfl) (ve_call G_l_two trivial (hr.mono (by omega)) (by rfl) g_l_two k_l_two b_l_two pass0 (va_cons (ve_var (pv 5)) (va_cons (ve_var (pv 6)) va_nil))))
          (vss_one (vs_if (vt_dnotin (hu_of hr) (ve_var (pv 7)) (pv 3))
            (vss_cons (vs_dput (hu_of hr) (pv 3) (ve_var (pv 7)) ve_bl rfl)
            (vss_one (vs_expr (ve_m (pe_bm PySem.F.plainAttrs_list PySem.F.slot_list_append PySem.F.type_list_append mt_append (pv 4) (va_cons (ve_var (pv 7)) va_nil)) lft_append))))
            vss_nil))))
        (vss_one (vs_if (vt_cmp op_gt lft_B0 (ve_dlenT (by rfl) (mz "len" (by decide)) (pv 3)) (ve_var (pv 1)) (nomark _))
          (vss_one (vs_ret ve_non))
          vss_nil)))))
      (vss_one (vs_ret (ve_new (vn_dsortT rfl (by rfl) (mz "sorted" (by decide)) (pv 3))))))))), fun ds t Q E h => ?_⟩
  · obtain ⟨n, ts, mo, rfl, _⟩ := h
    rfl
  · obtain ⟨m, ts, most, rfl, h1, h7, h4, h0, h1m, hm60, hT, q, qn⟩ := h
    obtain ⟨g0, hg0⟩ : ∃ g0, ts[0]? = some g0 := ⟨_, List.getElem?_eq_getElem h0⟩
    have hg0T := hT g0 (List.mem_of_getElem? hg0)
    have hat : atI (tnsD ts) 0 = some (.tup (nsD g0)) := atI_nat (j := 0) (by unfold tnsD; rw [List.getElem?_map, hg0]; rfl)
    have hg0l : (nsD g0).length = m := by rw [nsD_len, hg0T.len]
    refine vseq_set ⟨⟨_, .inl rfl⟩, _, _, _, .inl rfl, rfl, hat, _, .inr rfl, ?_⟩
    rw [hg0l]
    refine ⟨rfl, _, rfl, ⟨by omega, by omega, by omega, by omega⟩, ?_⟩
    dsimp only
    rw [show ((m : Int) - 0).toNat = m by omega, rg_stay]
    obtain ⟨td, etd⟩ : ∃ td, td = Dt.lst (tnsD ts) := ⟨_, rfl⟩
    rw [← etd]
    refine ⟨_, rfl, kN (stay m), tup_key _, ?_⟩
    refine ⟨_, rfl, (by decide : 1 ≤ 5000), ?_⟩
    have hgr : ∀ {x : List Nat}, GR m ts x → Tn m x := fun h => h.tn hT
    let I : List (List Nat) → List (List Nat) → Sl → Ev → Prop := fun fs ws s5 env => ∃ kvs s6 s8, env = [.fz td, .fz (nD most), .fz (.tup (nsD (stay m))), .ow (.dT kvs), .ow (.lst (tnsD ws)), s5, s6, s8] ∧ kvs.map (·.1) = fs.map kN
    refine ⟨fun mm env t' => ∃ fs ws, mm = 2 * (61 - fs.length) + ws.length ∧ t' = t ∧ (∃ s5, I fs ws s5 env) ∧ GWt m ts fs ws ∧ fs.length ≤ most, ⟨_, [stay m], [stay m], rfl, rfl, ⟨.no, _, .no, .no, rfl, rfl⟩, ⟨by simp, fun x hx => by rw [List.mem_singleton.mp hx]; exact .stay, by simp, fun x hx => hx, by simp, fun x hx hn => absurd hx hn⟩, h1m⟩, fun mm env t' hW => ?_⟩
    obtain ⟨fs, ws, rfl, rfl, ⟨s5, kvs, s6, s8, rfl, hk⟩, hW, hf60⟩ := hW
    refine ⟨⟨_, .inr ⟨_, rfl, rfl⟩⟩, by decide, _, rfl, _, .inr ⟨_, rfl, rfl⟩, dNeD_pl (pl_tns ws) rfl (dep_tns ws) (by decide) fun b hb => ⟨rfl, b, rfl, iteB (fun e => ?_) (fun e => ?_)⟩⟩
    · have hne : ws ≠ [] := fun z => (hb.mp e) (tnsD_nil.mpr z)
      obtain ⟨ws', x0, rfl⟩ : ∃ l x, ws = l ++ [x] := ⟨_, _, (List.dropLast_concat_getLast hne).symm⟩
      have hx0 : x0 ∈ fs := hW.sb x0 (by simp)
      have hx0n : Tn m x0 := hgr (hW.rc x0 hx0)
      have hwn := hW.wn
      rw [List.nodup_append] at hwn
      have hx0w : x0 ∉ ws' := fun z => hwn.2.2 x0 z x0 (by simp) rfl
      refine vseq_set ⟨⟨_, rfl⟩, _, rfl, .tup (nsD x0), rfl, tnsD_last, ?_⟩
      rw [tnsD_dropLast]
      refine vcut (fun env t3 => t3 = t' ∧ ∃ ext, ext.length ≤ 4 ∧ I (fs ++ ext) (ws' ++ ext) (.fz (.tup (nsD x0))) env ∧ (fs ++ ext).Nodup ∧ (∀ x ∈ fs ++ ext, GR m ts x) ∧ ∀ g ∈ ts, thn x0 g ∈ fs ++ ext) (fun N hN => ?_) (fun env t3 hP => ?_)
      · refine ⟨_, rfl, tnsD ts, etd, fun j env t3 => t3 = t' ∧ ∃ ext, ext.length ≤ j ∧ I (fs ++ ext) (ws' ++ ext) (.fz (.tup (nsD x0))) env ∧ (fs ++ ext).Nodup ∧ (∀ x ∈ fs ++ ext, GR m ts x) ∧ ∀ g ∈ ts.take j, thn x0 g ∈ fs ++ ext, ⟨rfl, [], Nat.le_refl 0, ⟨kvs, s6, s8, by rw [List.append_nil]; rfl, by rw [List.append_nil]; exact hk⟩, by rw [List.append_nil]; exact hW.nd, by rw [List.append_nil]; exact hW.rc, fun g hg => by rw [List.take_zero] at hg; cases hg⟩, fun j x env t3 hx hP => ?_, fun env t3 hP => ?_⟩
        · obtain ⟨rfl, ext, hel, ⟨kvs, s6, s8, rfl, hk⟩, hnd, hrc, hcl⟩ := hP
          unfold tnsD at hx
          rw [List.getElem?_map] at hx
          obtain ⟨g, hg1, rfl⟩ := Option.map_eq_some_iff.mp hx
          have hgm := List.mem_of_getElem? hg1
          have hj : j < ts.length := (List.getElem?_eq_some_iff.mp hg1).1
          have hgT := hT g hgm
          have hkl : kvs.length = (fs ++ ext).length := by
            have := congrArg List.length hk
            rw [List.length_map, List.length_map] at this
            exact this
          have hfl : (fs ++ ext).length ≤ 64 := by rw [List.length_append]; omega
          have htk : ∀ g2 ∈ ts.take (j + 1), g2 ∈ ts.take j ∨ g2 = g := fun g2 h => by
            rw [take_snoc' hg1] at h
            rcases List.mem_append.mp h with h | h
            · exact .inl h
            · exact .inr (List.mem_singleton.mp h)
          have hmem : (valD kvs (kN (thn x0 g))).isSome = decide (thn x0 g ∈ fs ++ ext) := by
            rw [valD_some, hk]
            exact decide_eq_decide.mpr kN_mem
          refine ⟨_, rfl, _, rfl, m, x0, g, rfl, hx0n, hgT, by omega, ?_⟩
          refine ⟨_, rfl, _, .inr ⟨kvs, kN (thn x0 g), rfl, tup_key _, rfl⟩, _, rfl, iteB (fun e2 => ?_) (fun e2 => ?_)⟩
          · have hnin : thn x0 g ∉ fs ++ ext := by
              have e3 : (!(valD kvs (kN (thn x0 g))).isSome) = true := e2
              rw [hmem, Bool.not_eq_true', decide_eq_false_iff_not] at e3
              exact e3
            have hnk : kN (thn x0 g) ∉ kvs.map (·.1) := by rw [hk, kN_mem]; exact hnin
            refine ⟨.inr ⟨_, rfl⟩, _, rfl, .inr ⟨kvs, kN (thn x0 g), rfl, tup_key _, by omega, ⟨_, rfl⟩, _, rfl, _, rfl, _, rfl, ?_, rfl, ext ++ [thn x0 g], by rw [List.length_append, List.length_singleton]; omega, ⟨putD kvs (kN (thn x0 g)) (.bl true), .fz (.tup (nsD g)), .fz (.tup (nsD (thn x0 g))), ?_, ?_⟩, ?_, fun x hx => ?_, fun g2 hg2 => ?_⟩⟩
            · rw [tnsD_len, List.length_append]
              have h1 := List.Nodup.length_le_of_subset hwn.1 fun x hx => hW.sb x (List.mem_append_left _ hx)
              omega
            · rw [tnsD_app, ← List.append_assoc]
              rfl
            · rw [putD_new hnk, List.map_append, hk, ← List.append_assoc, List.map_append (l₁ := fs ++ ext)]
              rfl
            · rw [← List.append_assoc, List.nodup_append]
              exact ⟨hnd, by simp, fun a ha b hb z => hnin (by rw [List.mem_singleton.mp hb] at z; rw [← z]; exact ha)⟩
            · rw [← List.append_assoc] at hx
              rcases List.mem_append.mp hx with hx | hx
              · exact hrc x hx
              · rw [List.mem_singleton.mp hx]
                exact .step (hW.rc x0 hx0) hgm
            · rw [← List.append_assoc]
              rcases htk g2 hg2 with h | rfl
              · exact List.mem_append_left _ (hcl g2 h)
              · exact List.mem_append_right _ (List.mem_singleton.mpr rfl)
          · have hin : thn x0 g ∈ fs ++ ext := by
              have e3 : (!(valD kvs (kN (thn x0 g))).isSome) = false := e2
              rw [hmem, Bool.not_eq_false', decide_eq_true_iff] at e3
              exact e3
            refine ⟨rfl, ext, by omega, ⟨kvs, _, _, rfl, hk⟩, hnd, hrc, fun g2 hg2 => ?_⟩
            rcases htk g2 hg2 with h | rfl
            · exact hcl g2 h
            · exact hin
        · obtain ⟨rfl, ext, hel, hI, hnd, hrc, hcl⟩ := hP
          rw [tnsD_len] at hel
          rw [tnsD_len, List.take_of_length_le (Nat.le_refl _)] at hcl
          exact hN _ _ ⟨rfl, ext, by omega, hI, hnd, hrc, hcl⟩
      · obtain ⟨rfl, ext, hel, ⟨kvs, s6, s8, rfl, hk⟩, hnd, hrc, hcl⟩ := hP
        have hkl : kvs.length = (fs ++ ext).length := by
          have := congrArg List.length hk
          rw [List.length_map, List.length_map] at this
          exact this
        refine ⟨_, rfl, _, rfl, _, _, rfl, rfl, _, rfl, iteB (fun e2 => ?_) (fun e2 => ?_)⟩
        · have hbig : most < (fs ++ ext).length := by
            have : (most : Int) < (kvs.length : Int) := of_decide_eq_true e2
            omega
          rcases qn with z | z
          · have := z _ hnd hrc
            omega
          · exact z
        · have hsm : (fs ++ ext).length ≤ most := by
            have : ¬ (most : Int) < (kvs.length : Int) := of_decide_eq_false e2
            omega
          have hl := hsm
          rw [List.length_append] at hl
          rw [List.nodup_append] at hnd
          refine ⟨_, by rw [List.length_append, List.length_append, List.length_append, List.length_singleton]; omega, fs ++ ext, ws' ++ ext, rfl, rfl, ⟨_, kvs, s6, s8, rfl, hk⟩, ⟨List.nodup_append.mpr hnd, hrc, List.mem_append_left _ hW.ze, fun x hx => ?_, ?_, fun x hx hnx g hg => ?_⟩, hsm⟩
          · rcases List.mem_append.mp hx with hx | hx
            · exact List.mem_append_left _ (hW.sb x (List.mem_append_left _ hx))
            · exact List.mem_append_right _ hx
          · rw [List.nodup_append]
            exact ⟨hwn.1, hnd.2.1, fun a ha b hb => hnd.2.2 a (hW.sb a (List.mem_append_left _ ha)) b hb⟩
          · rw [List.mem_append, not_or] at hnx
            rcases List.mem_append.mp hx with hx | hx
            · by_cases z : x = x0
              · rw [z]
                exact hcl g hg
              · exact List.mem_append_left _ (hW.cl x hx (by rw [List.mem_append, List.mem_singleton, not_or]; exact ⟨hnx.1, z⟩) g hg)
            · exact absurd hx hnx.2
    · have hnil : ws = [] := Classical.byContradiction fun z => by
        have := hb.mpr fun h => z (tnsD_nil.mp h)
        rw [this] at e
        cases e
      subst hnil
      refine ⟨kvs, fs.map iN, m, (m : Int), rfl, ?_, by rw [List.length_map]; omega, h1, fun k hk => ?_, fun ls hp hs => ⟨_, rfl, ?_⟩⟩
      · rw [hk, List.map_map]
        exact List.map_congr_left fun l _ => (kN_ikey l).symm
      · obtain ⟨l, hl, rfl⟩ := List.mem_map.mp hk
        have := hgr (hW.rc l hl)
        exact ⟨by unfold iN; rw [List.length_map, this.len], bd_tn this⟩
      · obtain ⟨gl, hg, rfl⟩ := permInv hp
        rw [tns_int]
        have hm : ∀ x, x ∈ gl ↔ GR m ts x := fun x => by rw [hg.mem_iff, hW.all]
        exact q gl ⟨by rw [hg.length_eq]; omega, hg.nodup_iff.mpr hW.nd, fun a ha => hgr ((hm a).mp ha), fun a ha b hb => (hm _).mpr (GR.mul hT ((hm a).mp ha) ((hm b).mp hb)), stay_first (fun a ha => hgr ((hm a).mp ha)) ((hm _).mpr .stay) hs⟩ (by rw [hg.length_eq]; exact hf60)
end
end K50
namespace VL
open PySem PySem.Spec PyProof.Rows L2 HM
def vOrL (ta tb : VTE) : VTE := fun env n Q => ta env n fun d env1 n1 => (∃ x xs, d = .lst (x :: xs) ∧ Q d env1 n1) ∨ (d = .non ∧ tb env1 n1 Q)
theorem ve_orL {X : Cx} {c : Fc} {a b : Expr} {ta tb : VTE} {rest : List Expr} {pos : Pos} (ha : PE X a (tOf c ta)) (hb : PE X (.BoolOp .Or (b :: rest) pos) (tOf c tb)) : PE X (.BoolOp .Or (a :: b :: rest) pos) (tOf c (vOrL ta tb)) := PE.imp (pe_orT ha hb) fun σ H R q => by
  obtain ⟨F, env, n, Q, rr, q, k⟩ := q
  refine ⟨F, env, n, _, rr, q, fun v H' F' d env' n' r' u rp qd => ?_⟩
  rcases qd with ⟨x, xs, rfl, qd⟩ | ⟨rfl, qd⟩
  · obtain ⟨p, ys, rfl, hF, rx⟩ := rp.lst_inv
    refine ⟨true, .inl ⟨ys, .inl (.inl (r'.sub _ _ hF)), ?_⟩, ?_⟩
    · cases rx
      rfl
    · rw [if_pos rfl]
      exact k _ _ F' _ env' n' r' u rp qd
  · cases rp
    refine ⟨false, rfl, ?_⟩
    rw [if_neg Bool.false_ne_true]
    exact ⟨F', env', n', _, r', qd, fun v2 H2 F2 d2 env2 n2 r2 u2 rp2 q2 => k v2 H2 F2 d2 env2 n2 r2 (u.trans u2) rp2 q2⟩
end VL
namespace K50
open PySem PySem.Spec PyProof.Rows L2 HM VL
abbrev s_l_known : Stmt := topS 31
theorem sc_l_known : FnScope ["_law_some"] [] (defScope s_l_known) := ⟨rfl, rfl, rfl, by decide +kernel, rfl, by decide +kernel, by decide +kernel⟩
abbrev s_l_rung : Stmt := topS 32
theorem sc_l_rung : FnScope ["_law_many", "_law_told", "_law_found", "_law_ring", "_law_k"] ["_law_many", "_law_told"] (defScope s_l_rung) := ⟨rfl, rfl, rfl, by decide +kernel, rfl, by decide +kernel, by decide +kernel⟩
section
variable {P : Program} {w : World} {K : PySem.W.Frag} {mg : Str → Option Value} {base : Heap} {am : Am} {gd : Around → Prop} {k : Nat}
def knC : List (Nat × List (List (List Nat))) := [(3, [[[0, 1, 2]], [[0, 1]]]), (4, [[[0, 1, 2, 3]], [[0, 2]]]), (4, [[[0, 1, 2]], [[0, 1], [2, 3]]]), (4, [[[0, 1], [2, 3]], [[0, 2], [1, 3]]]), (5, [[[0, 1, 2, 3, 4]], [[1, 4], [2, 3]]]), (5, [[[0, 1, 2, 3, 4]], [[1, 2, 4, 3]]]), (6, [[[0, 1]], [[2, 3]], [[4, 5]]]), (6, [[[0, 1, 2]], [[3, 4, 5]]]), (7, [[[0, 1, 2, 3]], [[4, 5, 6]]]), (6, [[[0, 1, 2, 3, 4, 5]]]), (7, [[[0, 1, 2, 3, 4, 5, 6]], [[1, 2, 4], [3, 6, 5]]]), (4, [[[0, 1, 2, 3]], [[0, 1]]]), (7, [[[0, 1, 2]], [[0, 1]], [[3, 4]], [[5, 6]]]), (6, [[[0, 1, 2]], [[0, 1]], [[3, 4, 5]]]), (6, [[[0, 1, 2, 3]], [[0, 1]], [[4, 5]]]), (5, [[[0, 1, 2, 3, 4]], [[0, 1, 2]]])]
def rngsD (r : List (List Nat)) : Dt := .lst (r.map fun c => .lst (nsD c))
def knD (e : Nat × List (List (List Nat))) : Dt := .tup [nD e.1, .lst (e.2.map rngsD)]
def spKnownC : VSp := fun ds t Q _ => ds = [] ∧ Q (.lst (knC.map knD)) t
theorem ok_knownC {f : Addr} {fd : FuncData} (F : Fun K "_law_known" "_law_known" s_l_known f fd) (mz : ∀ x ∈ bn, mg x = none) : VFn gd P w K mg base CX0 (k + 1) f fd [] am spKnownC := by
  refine vfn_of F sc_l_known (fun ds n Q E h => ?_) ⟨_, fun cdv A out s H E F0 H0 hcd hgd hr =>
    (vss_cons (vs_set (i := 0) sc_l_known.nd rfl (.inl rfl) (ve_new (vn_lst (va_cons (ve_tupK (ka_cons ve_int (ka_cons (ve_lstK (ka_cons (ve_lstK (ka_cons (ve_lstK (ka_cons ve_int (ka_cons ve_int (ka_cons ve_int ka_nil))) (by decide)) ka_nil) (by decide)) (ka_cons (ve_lstK (ka_cons (ve_lstK (ka_cons ve_int (ka_cons ve_int ka_nil)) (by decide)) ka_nil) (by decide)) ka_nil)) (by decide)) ka_nil)) (by decide)) (va_cons (ve_tupK (ka_cons ve_int (ka_cons (ve_lstK (ka_cons (ve_lstK (ka_cons (ve_lstK (ka_cons ve_int (ka_cons ve_int (ka_cons ve_int (ka_cons ve_int ka_nil)))) (by decide)) ka_nil) (by decide)) (ka_cons (ve_lstK (ka_cons (ve_lstK (ka_cons ve_int (ka_cons ve_int ka_nil)) (by decide)) ka_nil) (by decide)) ka_nil)) (by decide)) ka_nil)) (by decide)) (va_cons (ve_tupK (ka_cons ve_int (ka_cons (ve_lstK (ka_cons (ve_lstK (ka_cons (ve_lstK (ka_cons ve_int (ka_cons ve_int (ka_cons ve_int ka_nil))) (by decide)) ka_nil) (by decide)) (ka_cons (ve_lstK (ka_cons (ve_lstK (ka_cons ve_int (ka_cons ve_int ka_nil)) (by decide)) (ka_cons (ve_lstK (ka_cons ve_int (ka_cons ve_int ka_nil)) (by decide)) ka_nil)) (by decide)) ka_nil)) (by decide)) ka_nil)) (by decide)) va_nil))))))
      (vss_cons (vs_set (i := 0) sc_l_known.nd rfl (.inl rfl) (ve_new (vn_op op_cat lft_cat (ve_var (pv 0)) (ve_lstK (ka_cons (ve_tupK (ka_cons ve_int (ka_cons (ve_lstK (ka_cons (ve_lstK (ka_cons (ve_lstK (ka_cons ve_int (ka_cons ve_int ka_nil)) (by decide)) (ka_cons (ve_lstK (ka_cons ve_int (ka_cons ve_int ka_nil)) (by decide)) ka_nil)) (by decide)) (ka_cons (ve_lstK (ka_cons (ve_lstK (ka_cons ve_int (ka_cons ve_int ka_nil)) (by decide)) (ka_cons (ve_lstK (ka_cons ve_int (ka_cons ve_int ka_nil)) (by decide)) ka_nil)) (by decide)) ka_nil)) (by decide)) ka_nil)) (by decide)) (ka_cons (ve_tupK (ka_cons ve_int (ka_cons (ve_lstK (ka_cons (ve_lstK (ka_cons (ve_lstK (ka_cons ve_int (ka_cons ve_int (ka_cons ve_int (ka_cons ve_int (ka_cons ve_int ka_nil))))) (by decide)) ka_nil) (by decide)) (ka_cons (ve_lstK (ka_cons (ve_lstK (ka_cons ve_int (ka_cons ve_int ka_nil)) (by decide)) (ka_cons (ve_lstK (ka_cons ve_int (ka_cons ve_int ka_nil)) (by decide)) ka_nil)) (by decide)) ka_nil)) (by decide)) ka_nil)) (by decide)) ka_nil)) (by decide)))))
      (vss_cons (vs_set (i := 0) sc_l_known.nd rfl (.inl rfl) (ve_new (vn_op op_cat lft_cat (ve_var (pv 0)) (ve_lstK (ka_cons (ve_tupK (ka_cons ve_int (ka_cons (ve_lstK (ka_cons (ve_lstK (ka_cons (ve_lstK (ka_cons ve_int (ka_cons ve_int (ka_cons ve_int (ka_cons ve_int (ka_cons ve_int ka_nil))))) (by decide)) ka_nil) (by decide)) (ka_cons (ve_lstK (ka_cons (ve_lstK (ka_cons ve_int (ka_cons ve_int (ka_cons ve_int (ka_cons ve_int ka_nil)))) (by decide)) ka_nil) (by decide)) ka_nil)) (by decide)) ka_nil)) (by decide)) (ka_cons (ve_tupK (ka_cons ve_int (ka_cons (ve_lstK (ka_cons (ve_lstK (ka_cons (ve_lstK (ka_cons ve_int (ka_cons ve_int ka_nil)) (by decide)) ka_nil) (by decide)) (ka_cons (ve_lstK (ka_cons (ve_lstK (ka_cons ve_int (ka_cons ve_int ka_nil)) (by decide)) ka_nil) (by decide)) (ka_cons (ve_lstK (ka_cons (ve_lstK (ka_cons ve_int (ka_cons ve_int ka_nil)) (by decide)) ka_nil) (by decide)) ka_nil))) (by decide)) ka_nil)) (by decide)) ka_nil)) (by decide)))))
      (vss_cons (vs_set (i := 0) sc_l_known.nd rfl (.inl rfl) (ve_new (vn_op op_cat lft_cat (ve_var (pv 0)) (ve_lstK (ka_cons (ve_tupK (ka_cons ve_int (ka_cons (ve_lstK (ka_cons (ve_lstK (ka_cons (ve_lstK (ka_cons ve_int (ka_cons ve_int (ka_cons ve_int ka_nil))) (by decide)) ka_nil) (by decide)) (ka_cons (ve_lstK (ka_cons (ve_lstK (ka_cons ve_int (ka_cons ve_int (ka_cons ve_int ka_nil))) (by decide)) ka_nil) (by decide)) ka_nil)) (by decide)) ka_nil)) (by decide)) (ka_cons (ve_tupK (ka_cons ve_int (ka_cons (ve_lstK (ka_cons (ve_lstK (ka_cons (ve_lstK (ka_cons ve_int (ka_cons ve_int (ka_cons ve_int (ka_cons ve_int ka_nil)))) (by decide)) ka_nil) (by decide)) (ka_cons (ve_lstK (ka_cons (ve_lstK (ka_cons ve_int (ka_cons ve_int (ka_cons ve_int ka_nil))) (by decide)) ka_nil) (by decide)) ka_nil)) (by decide)) ka_nil)) (by decide)) (ka_cons (ve_tupK (ka_cons ve_int (ka_cons (ve_lstK (ka_cons (ve_lstK (ka_cons (ve_lstK (ka_cons ve_int (ka_cons ve_int (ka_cons ve_int (ka_cons ve_int (ka_cons ve_int (ka_cons ve_int ka_nil)))))) (by decide)) ka_nil) (by decide)) ka_nil) (by decide)) ka_nil)) (by decide)) ka_nil))) (by decide)))))
      (vss_cons (vs_set (i := 0) sc_l_known.nd rfl (.inl rfl) (ve_new (vn_op op_cat lft_cat (ve_var (pv 0)) (ve_lstK (ka_cons (ve_tupK (ka_cons ve_int (ka_cons (ve_lstK (ka_cons (ve_lstK (ka_cons (ve_lstK (ka_cons ve_int (ka_cons ve_int (ka_cons ve_int (ka_cons ve_int (ka_cons ve_int (ka_cons ve_int (ka_cons ve_int ka_nil))))))) (by decide)) ka_nil) (by decide)) (ka_cons (ve_lstK (ka_cons (ve_lstK (ka_cons ve_int (ka_cons ve_int (ka_cons ve_int ka_nil))) (by decide)) (ka_cons (ve_lstK (ka_cons ve_int (ka_cons ve_int (ka_cons ve_int ka_nil))) (by decide)) ka_nil)) (by decide)) ka_nil)) (by decide)) ka_nil)) (by decide)) (ka_cons (ve_tupK (ka_cons ve_int (ka_cons (ve_lstK (ka_cons (ve_lstK (ka_cons (ve_lstK (ka_cons ve_int (ka_cons ve_int (ka_cons ve_int (ka_cons ve_int ka_nil)))) (by decide)) ka_nil) (by decide)) (ka_cons (ve_lstK (ka_cons (ve_lstK (ka_cons ve_int (ka_cons ve_int ka_nil)) (by decide)) ka_nil) (by decide)) ka_nil)) (by decide)) ka_nil)) (by decide)) ka_nil)) (by decide)))))
      (vss_cons (vs_set (i := 0) sc_l_known.nd rfl (.inl rfl) (ve_new (vn_op op_cat lft_cat (ve_var (pv 0)) (ve_lstK (ka_cons (ve_tupK (ka_cons ve_int (ka_cons (ve_lstK (ka_cons (ve_lstK (ka_cons (ve_lstK (ka_cons ve_int (ka_cons ve_int (ka_cons ve_int ka_nil))) (by decide)) ka_nil) (by decide)) (ka_cons (ve_lstK (ka_cons (ve_lstK (ka_cons ve_int (ka_cons ve_int ka_nil)) (by decide)) ka_nil) (by decide)) (ka_cons (ve_lstK (ka_cons (ve_lstK (ka_cons ve_int (ka_cons ve_int ka_nil)) (by decide)) ka_nil) (by decide)) (ka_cons (ve_lstK (ka_cons (ve_lstK (ka_cons ve_int (ka_cons ve_int ka_nil)) (by decide)) ka_nil) (by decide)) ka_nil)))) (by decide)) ka_nil)) (by decide)) (ka_cons (ve_tupK (ka_cons ve_int (ka_cons (ve_lstK (ka_cons (ve_lstK (ka_cons (ve_lstK (ka_cons ve_int (ka_cons ve_int (ka_cons ve_int ka_nil))) (by decide)) ka_nil) (by decide)) (ka_cons (ve_lstK (ka_cons (ve_lstK (ka_cons ve_int (ka_cons ve_int ka_nil)) (by decide)) ka_nil) (by decide)) (ka_cons (ve_lstK (ka_cons (ve_lstK (ka_cons ve_int (ka_cons ve_int (ka_cons ve_int ka_nil))) (by decide)) ka_nil) (by decide)) ka_nil))) (by decide)) ka_nil)) (by decide)) ka_nil)) (by decide)))))
      (vss_one (vs_ret (ve_new (vn_op op_cat lft_cat (ve_var (pv 0)) (ve_lstK (ka_cons (ve_tupK (ka_cons ve_int (ka_cons (ve_lstK (ka_cons (ve_lstK (ka_cons (ve_lstK (ka_cons ve_int (ka_cons ve_int (ka_cons ve_int (ka_cons ve_int ka_nil)))) (by decide)) ka_nil) (by decide)) (ka_cons (ve_lstK (ka_cons (ve_lstK (ka_cons ve_int (ka_cons ve_int ka_nil)) (by decide)) ka_nil) (by decide)) (ka_cons (ve_lstK (ka_cons (ve_lstK (ka_cons ve_int (ka_cons ve_int ka_nil)) (by decide)) ka_nil) (by decide)) ka_nil))) (by decide)) ka_nil)) (by decide)) (ka_cons (ve_tupK (ka_cons ve_int (ka_cons (ve_lstK (ka_cons (ve_lstK (ka_cons (ve_lstK (ka_cons ve_int (ka_cons ve_int (ka_cons ve_int (ka_cons ve_int (ka_cons ve_int ka_nil))))) (by decide)) ka_nil) (by decide)) (ka_cons (ve_lstK (ka_cons (ve_lstK (ka_cons ve_int (ka_cons ve_int (ka_cons ve_int ka_nil))) (by decide)) ka_nil) (by decide)) ka_nil)) (by decide)) ka_nil)) (by decide)) ka_nil)) (by decide)))))))))))), fun ds t Q E h => ?_⟩
  · obtain ⟨rfl, _⟩ := h
    rfl
  · obtain ⟨rfl, q⟩ := h
    refine ⟨by show 3 ≤ 5000; decide, _, rfl, ?_⟩
    refine ⟨_, rfl, _, _, rfl, rfl, (by show 3 + 2 ≤ 5000; decide), _, rfl, ?_⟩
    refine ⟨_, rfl, _, _, rfl, rfl, (by show 5 + 2 ≤ 5000; decide), _, rfl, ?_⟩
    refine ⟨_, rfl, _, _, rfl, rfl, (by show 7 + 3 ≤ 5000; decide), _, rfl, ?_⟩
    refine ⟨_, rfl, _, _, rfl, rfl, (by show 10 + 2 ≤ 5000; decide), _, rfl, ?_⟩
    refine ⟨_, rfl, _, _, rfl, rfl, (by show 12 + 2 ≤ 5000; decide), _, rfl, ?_⟩
    exact ⟨_, rfl, _, _, rfl, rfl, (by show 14 + 2 ≤ 5000; decide), _, rfl, q⟩
def rungOne (c r : List Nat) : Nat → List Nat
  | 0 => r
  | k + 1 => (rungOne c r k).set (c.getD ((k + (c.length - 1)) % c.length) 0) (c.getD k 0)
def rungF (m : Nat) : List (List Nat) → Nat → List Nat
  | _, 0 => List.range m
  | cs, i + 1 => rungOne (cs.getD i []) (rungF m cs i) (cs.getD i []).length
def spRung : VSp := fun ds t Q _ => ∃ (m : Nat) (cs : List (List Nat)), ds = [nD m, rngsD cs] ∧ m ≤ 4000 ∧ cs.length ≤ 4000 ∧ (∀ c ∈ cs, 0 < c.length ∧ c.length ≤ 4000 ∧ ∀ x ∈ c, x < m) ∧ Q (.lst (nsD (rungF m cs cs.length))) t
theorem rungOne_len (c r : List Nat) : ∀ k, (rungOne c r k).length = r.length
  | 0 => rfl
  | k + 1 => by
    show ((rungOne c r k).set _ _).length = _
    rw [List.length_set, rungOne_len c r k]
theorem rungF_len (m : Nat) (cs : List (List Nat)) : ∀ i, (rungF m cs i).length = m
  | 0 => List.length_range
  | i + 1 => by
    show (rungOne _ _ _).length = _
    rw [rungOne_len, rungF_len m cs i]
theorem ring_get {c : List Nat} {k : Nat} (hk : k < c.length) : atI (nsD c) ((k : Nat) : Int) = some (nD (c.getD k 0)) ∧ atI (nsD c) (((k : Nat) : Int) - 1) = some (nD (c.getD ((k + (c.length - 1)) % c.length) 0)) := by
  have get : ∀ j, j < c.length → (nsD c)[j]? = some (nD (c.getD j 0)) := fun j hj => by
    unfold nsD
    rw [List.getElem?_map, List.getD_eq_getElem?_getD, List.getElem?_eq_getElem hj]
    rfl
  refine ⟨atI_nat (get k hk), ?_⟩
  cases k with
  | zero =>
    unfold atI ixN
    rw [if_neg (by decide), if_pos (by rw [nsD_len]; omega), nsD_len]
    show (nsD c)[((0 : Nat) : Int) - 1 + (c.length : Int) |>.toNat]? = _
    rw [show (((0 : Nat) : Int) - 1 + (c.length : Int)).toNat = c.length - 1 by omega, get _ (by omega), Nat.zero_add, Nat.mod_eq_of_lt (by omega)]
  | succ k =>
    rw [show (((k + 1 : Nat) : Int) - 1) = ((k : Nat) : Int) by omega, atI_nat (get k (by omega)), show k + 1 + (c.length - 1) = k + c.length by omega, Nat.add_mod_right, Nat.mod_eq_of_lt (by omega)]
theorem ok_rung {f : Addr} {fd : FuncData} (F : Fun K "_law_rung" "_law_rung" s_l_rung f fd) (mz : ∀ x ∈ bn, mg x = none) : VFn gd P w K mg base CX0 (k + 1) f fd ["_law_many", "_law_told"] am spRung := by
  refine vfn_of F sc_l_rung (fun ds n Q E h => ?_) ⟨_, fun cdv A out s H E F0 H0 hcd hgd hr =>
    (vss_cons (vs_setN (i := 2) sc_l_rung.nd rfl (.inl rfl) (vn_listRg rfl (by rfl) (mz "list" (by decide)) (vrg_1 (by rfl) (mz "range" (by decide)) (ve_var (pv 0)))))
      (vss_cons (vs_for PassesOwn.never rfl (vi_list (ve_var (pv 1))) (vg_name (pg_name (i := 3) sc_l_rung.nd rfl (.inl rfl)))
        (vss_one (vs_for PassesOwn.never rfl (vi_range1 (by rfl) (mz "range" (by decide)) (vb_cons (ve_cbR call_len_seq lft_len (by rfl) (mz "len" (by decide)) PySem.boot_len (vb_rd (pv 3) vb_nil)) vb_nil)) (vg_name (pg_name (i := 4) sc_l_rung.nd rfl (.inl rfl)))
          (vss_one (vs_setIx (pv 2) (ve_ixO (pv 3) (ve_op op_sub lft_I0 (ve_var (pv 4)) ve_int) (fun _ _ => rfl)) (ve_ixO (pv 3) (ve_var (pv 4)) (fun _ _ => rfl)))))))
      (vss_one (vs_ret (ve_mv (pv 2)))))), fun ds t Q E h => ?_⟩
  · obtain ⟨m, cs, rfl, _⟩ := h
    rfl
  · obtain ⟨m, cs, rfl, hm, hcl, hc, q⟩ := h
    refine vseq_setN ⟨_, rfl, _, rfl, ⟨by omega, by omega, by omega, by omega⟩, ?_⟩
    have e0 : rngD 0 ((m : Int) - 0).toNat = nsD (List.range m) := by
      rw [Int.sub_zero, Int.toNat_natCast]
      unfold rngD nsD
      exact List.map_congr_left fun i _ => by rw [Int.zero_add]; rfl
    rw [e0]
    refine ⟨_, rfl, _, rfl, fun i env t' => t' = t ∧ ∃ s3 s4, env = [.fz (nD m), .fz (rngsD cs), .ow (.lst (nsD (rungF m cs i))), s3, s4], ⟨rfl, .no, .no, rfl⟩, fun i d env t' hd hP => ?_, fun env t' hP => ?_⟩
    · obtain ⟨rfl, s3, s4, rfl⟩ := hP
      rw [List.getElem?_map] at hd
      obtain ⟨c, hci, rfl⟩ := Option.map_eq_some_iff.mp hd
      obtain ⟨hc0, hcl, hcm⟩ := hc c (List.mem_of_getElem? hci)
      have hcD : cs.getD i [] = c := by rw [List.getD_eq_getElem?_getD, hci]; rfl
      refine ⟨⟨_, .inl rfl⟩, _, .inl rfl, _, .inl rfl, rfl, _, rfl, ⟨by rw [nsD_len]; omega, by rw [nsD_len]; omega⟩, fun k env t2 => t2 = t' ∧ ∃ s4, env = [.fz (nD m), .fz (rngsD cs), .ow (.lst (nsD (rungOne c (rungF m cs i) k))), .fz (.lst (nsD c)), s4], ⟨rfl, s4, rfl⟩, fun k d env t2 hd2 hP => ?_, fun env t2 hP => ?_⟩
      · obtain ⟨rfl, s4, rfl⟩ := hP
        obtain ⟨rfl, hj2⟩ := rngD_get0 hd2
        have hk : k < c.length := by rw [nsD_len] at hj2; have : k < ((c.length : Nat) : Int).toNat := hj2; omega
        obtain ⟨g1, g2⟩ := ring_get hk
        refine ⟨⟨_, .inl rfl⟩, _, rfl, _, _, _, .inl rfl, rfl, g1, ⟨_, rfl⟩, ⟨_, .inl rfl⟩, _, rfl, _, _, rfl, rfl, _, _, _, .inl rfl, rfl, g2, _, _, rfl, rfl, ?_, rfl, .fz (nD k), ?_⟩
        · rw [nsD_len, rungOne_len, rungF_len]
          refine hcm _ ?_
          have hlt : (k + (c.length - 1)) % c.length < c.length := Nat.mod_lt _ hc0
          rw [List.getD_eq_getElem?_getD, List.getElem?_eq_getElem hlt]
          exact List.getElem_mem hlt
        · rw [show (nsD (rungOne c (rungF m cs i) k)).set ((c.getD ((k + (c.length - 1)) % c.length) 0)) (nD (c.getD k 0)) = nsD (rungOne c (rungF m cs i) (k + 1)) by
            show _ = ((rungOne c (rungF m cs i) k).set _ _).map nD
            rw [List.map_set]; rfl]
          rfl
      · obtain ⟨rfl, s4, rfl⟩ := hP
        refine ⟨rfl, .fz (.lst (nsD c)), s4, ?_⟩
        rw [rngD_len, nsD_len, Int.toNat_natCast]
        show _ = [.fz (nD m), .fz (rngsD cs), .ow (.lst (nsD (rungOne (cs.getD i []) (rungF m cs i) (cs.getD i []).length))), .fz (.lst (nsD c)), s4]
        rw [hcD]
    · obtain ⟨rfl, s3, s4, rfl⟩ := hP
      rw [List.length_map]
      exact ⟨_, rfl, q⟩
end
end K50
namespace K50
open PySem PySem.Spec PyProof.Rows L2 HM VL
abbrev s_l_group : Stmt := topS 33
theorem sc_l_group : FnScope ["_law_pen_here", "_law_most", "_law_way", "_law_many", "_law_k", "_law_turns", "_law_some", "_law_at", "_law_told", "_law_names", "_law_one", "_law_row"] ["_law_pen_here", "_law_most"] (defScope s_l_group) := ⟨rfl, rfl, rfl, by decide +kernel, rfl, by decide +kernel, by decide +kernel⟩
section
variable {P : Program} {w : World} {K : PySem.W.Frag} {mg : Str → Option Value} {base : Heap} {am : Am} {gd : Around → Prop} {k : Nat}
theorem knC_ok : ∀ e ∈ knC, 2 ≤ e.1 ∧ e.1 ≤ 7 ∧ 0 < e.2.length ∧ e.2.length ≤ 4 ∧ ∀ r ∈ e.2, r.length ≤ 4 ∧ (∀ c ∈ r, 0 < c.length ∧ c.length ≤ 7 ∧ ∀ x ∈ c, x < e.1) ∧ tnB e.1 (rungF e.1 r r.length) = true := by decide +kernel
theorem inv_tn {m : Nat} {l : List Nat} (h : Tn m l) : Tn m ((List.range m).map fun k => l.idxOf k) := by
  refine tn_of (by rw [List.length_map, List.length_range]) (fun x hx => ?_) ?_
  · obtain ⟨k, hk, rfl⟩ := List.mem_map.mp hx
    have := List.idxOf_lt_length_of_mem (h.all (List.mem_range.mp hk))
    rwa [h.len] at this
  · refine List.pairwise_map.mpr (List.Pairwise.imp_of_mem (fun {x y} hx hy hxy e => ?_) List.nodup_range)
    have h1 := List.getElem_idxOf (List.idxOf_lt_length_of_mem (h.all (List.mem_range.mp hx)))
    have h2 := List.getElem_idxOf (List.idxOf_lt_length_of_mem (h.all (List.mem_range.mp hy)))
    exact hxy (by rw [← h1, ← h2]; exact getElem_congr_idx e)
theorem conj_tn {m : Nat} {l r : List Nat} (h : Tn m l) (hr : Tn m r) : Tn m ((List.range m).map fun k => tA l (tA r (l.idxOf k))) := by
  have e : (List.range m).map (fun k => tA l (tA r (l.idxOf k))) = VL.thn (VL.thn ((List.range m).map fun k => l.idxOf k) r) l := by
    unfold VL.thn
    rw [List.map_map, List.map_map]
    rfl
  rw [e]
  exact thn_tn (thn_tn (inv_tn h) hr) h
def spGroupC (p : Addr) : VSp := fun ds t Q _ => ∃ most : Nat, ds = [.obj p, nD most] ∧ 12 ≤ most ∧ most ≤ 60 ∧ ∀ (m : Nat) (gl : List (List Nat)), m ≤ 7 → IsGr m gl → gl.length ≤ most → Q (.lst (tnsD gl)) t
theorem ok_groupC {p f f_l_draw f_l_order f_l_all f_l_known f_l_rung : Addr} {fd fd_l_draw fd_l_order fd_l_all fd_l_known fd_l_rung : FuncData} (F : Fun K "_law_group" "_law_group" s_l_group f fd)
    (G_l_draw : VFn anyA P w K mg base CX0 (k + 3) f_l_draw fd_l_draw ["_law_pen_here", "_law_many"] am (spTake p)) (g_l_draw : mg "_law_draw" = some (.ref f_l_draw)) (k_l_draw : PySem.W.keepIn K (.ref f_l_draw) = true) (b_l_draw : Binds K fd_l_draw ["_law_pen_here", "_law_many"] [])
    (G_l_order : VFn anyA P w K mg base CX0 (k + 3) f_l_order fd_l_order ["_law_pen_here", "_law_many"] am (spOrder p)) (g_l_order : mg "_law_order" = some (.ref f_l_order)) (k_l_order : PySem.W.keepIn K (.ref f_l_order) = true) (b_l_order : Binds K fd_l_order ["_law_pen_here", "_law_many"] [])
    (G_l_all : VFn anyA P w K mg base CX0 (k + 3) f_l_all fd_l_all ["_law_turns", "_law_most"] am spAllC) (g_l_all : mg "_law_all" = some (.ref f_l_all)) (k_l_all : PySem.W.keepIn K (.ref f_l_all) = true) (b_l_all : Binds K fd_l_all ["_law_turns", "_law_most"] [])
    (G_l_known : VFn anyA P w K mg base CX0 (k + 3) f_l_known fd_l_known [] am spKnownC) (g_l_known : mg "_law_known" = some (.ref f_l_known)) (k_l_known : PySem.W.keepIn K (.ref f_l_known) = true) (b_l_known : Binds K fd_l_known [] [])
    (G_l_rung : VFn anyA P w K mg base CX0 (k + 3) f_l_rung fd_l_rung ["_law_many", "_law_told"] am spRung) (g_l_rung : mg "_law_rung" = some (.ref f_l_rung)) (k_l_rung : PySem.W.keepIn K (.ref f_l_rung) = true) (b_l_rung : Binds K fd_l_rung ["_law_many", "_law_told"] [])
    (mz : ∀ x ∈ bn, mg x = none) : VFn gd P w K mg base CX0 (k + 4) f fd ["_law_pen_here", "_law_most"] am (spGroupC p) := by
  refine vfn_of F sc_l_group (fun ds n Q E h => ?_) ⟨_, fun cdv A out s H E F0 H0 hcd hgd hr =>
    (vss_cons (vs_set (i := 2) sc_l_group.nd rfl (.inl rfl) (ve_call G_l_draw trivial (hr.mono (by omega)) (by rfl) g_l_draw k_l_draw b_l_draw pass0 (va_cons (ve_var (pv 0)) (va_cons ve_int va_nil))))
      (vss_cons (vs_if (vt_cmp op_in_seq lft_in (ve_var (pv 2)) (ve_tupK (ka_cons ve_int (ka_cons ve_int (ka_cons ve_int ka_nil))) (by decide)) (by rfl))
        (vss_cons (vs_set (i := 3) sc_l_group.nd rfl (.inr rfl) (ve_op op_add lft_I0 ve_int (ve_call G_l_draw trivial (hr.mono (by omega)) (by rfl) g_l_draw k_l_draw b_l_draw pass0 (va_cons (ve_var (pv 0)) (va_cons ve_int va_nil)))))
        (vss_cons (vs_setLc (i := 5) (own := [("_law_k", 4)]) rfl sc_l_group.nd rfl rfl (sw_true rfl rfl rfl (by decide +kernel)) (vi_range1 (by rfl) (mz "range" (by decide)) (vb_cons (ve_op op_add lft_I0 ve_int (ve_call G_l_draw trivial (hr.mono (by omega)) (by rfl) g_l_draw k_l_draw b_l_draw pass0 (va_cons (ve_var (pv 0)) (va_cons ve_int va_nil)))) vb_nil)) (blkOk_by (own := [("_law_k", 4)]) (N := ["_law_pen_here", "_law_most", "_law_way", "_law_many", "_law_k", "_law_turns", "_law_some", "_law_at", "_law_told", "_law_names", "_law_one", "_law_row"]) (sc := defScope s_l_group) (by decide +kernel)) (tg_name (by simp)) (fun _ _ _ _ _ => (pg_name (i := 4) sc_l_group.nd rfl (.inl rfl))) (fun _ _ _ _ _ _ _ => vts_nil) (fun _ _ _ _ _ _ _ => (ve_tyTR call_tuple_of lft_tupleOf (by rfl) (mz "tuple" (by decide)) (by decide +kernel) (vb_cons (ve_call G_l_order trivial (hr.mono (by omega)) (by rfl) g_l_order k_l_order b_l_order pass0 (va_cons (ve_var (pv 0)) (va_cons (ve_var (pv 3)) va_nil))) vb_nil))))
        (vss_one (vs_fz (i := 5) (vs_ret (ve_orL (ve_call G_l_all trivial (hr.mono (by omega)) (by rfl) g_l_all k_l_all b_l_all pass0 (va_cons (ve_var (pv 5)) (va_cons (ve_var (pv 1)) va_nil))) (ve_one (ve_call G_l_all trivial (hr.mono (by omega)) (by rfl) g_l_all k_l_all b_l_all pass0 (va_cons (ve_new (vn_slL (ve_var (pv 5)) vo_none (vo_some ve_int))) (va_cons (ve_var (pv 1)) va_nil))))))))))
        vss_nil)
      (vss_cons (vs_set (i := 6) sc_l_group.nd rfl (.inl rfl) (ve_call0 G_l_known trivial (hr.mono (by omega)) (by rfl) g_l_known k_l_known b_l_known pass0))
      (vss_cons (vs_set (i := 7) sc_l_group.nd rfl (.inl rfl) (ve_call G_l_draw trivial (hr.mono (by omega)) (by rfl) g_l_draw k_l_draw b_l_draw pass0 (va_cons (ve_var (pv 0)) (va_cons (ve_op op_sub lft_I0 (ve_cbR call_len_seq lft_len (by rfl) (mz "len" (by decide)) PySem.boot_len (vb_rd (pv 6) vb_nil)) ve_int) va_nil))))
      (vss_cons (vs_if (vt_and (vt_cmp op_eq lft_eq (ve_var (pv 2)) ve_int (nomark _)) (vt_and1 (vt_cmp op_eq lft_eq (ve_var (pv 1)) ve_int (nomark _)))).pt
        (vss_one (vs_set (i := 7) sc_l_group.nd rfl (.inl rfl) (ve_op op_sub lft_I0 (ve_op op_sub lft_I0 (ve_cbR call_len_seq lft_len (by rfl) (mz "len" (by decide)) PySem.boot_len (vb_rd (pv 6) vb_nil)) ve_int) (ve_call G_l_draw trivial (hr.mono (by omega)) (by rfl) g_l_draw k_l_draw b_l_draw pass0 (va_cons (ve_var (pv 0)) (va_cons ve_int va_nil))))))
        vss_nil)
      (vss_cons (vs_asg (ve_ixO (pv 6) (ve_var (pv 7)) (fun _ _ => rfl)) (vg_tup (m := 2) rfl (vgs_cons (vg_name (pg_name (i := 3) sc_l_group.nd rfl (.inr rfl))) (vgs_cons (vg_name (pg_name (i := 8) sc_l_group.nd rfl (.inl rfl))) vgs_nil))))
      (vss_cons (vs_set (i := 9) sc_l_group.nd rfl (.inr rfl) (ve_call G_l_order trivial (hr.mono (by omega)) (by rfl) g_l_order k_l_order b_l_order pass0 (va_cons (ve_var (pv 0)) (va_cons (ve_var (pv 3)) va_nil))))
      (vss_cons (vs_setN (i := 5) sc_l_group.nd rfl (.inl rfl) (vn_lst va_nil))
      (vss_cons (vs_for PassesOwn.never rfl (vi_list (ve_var (pv 8))) (vg_name (pg_name (i := 10) sc_l_group.nd rfl (.inl rfl)))
        (vss_cons (vs_set (i := 11) sc_l_group.nd rfl (.inr rfl) (ve_call G_l_rung trivial (hr.mono (by omega)) (by rfl) g_l_rung k_l_rung b_l_rung pass0 (va_cons (ve_var (pv 3)) (va_cons (ve_var (pv 10)) va_nil))))
        (vss_one (vs_expr (ve_m (pe_bm PySem.F.plainAttrs_list PySem.F.slot_list_append PySem.F.type_list_append mt_append (pv 5) (va_cons (ve_tyTR call_tuple_of lft_tupleOf (by rfl) (mz "tuple" (by decide)) (by decide +kernel) (vb_cons (ve_new (vn_lc (own := [("_law_k", 4)]) rfl sc_l_group.nd (vi_range1 (by rfl) (mz "range" (by decide)) (vb_cons (ve_var (pv 3)) vb_nil)) (blkOk_by (own := [("_law_k", 4)]) (N := ["_law_pen_here", "_law_most", "_law_way", "_law_many", "_law_k", "_law_turns", "_law_some", "_law_at", "_law_told", "_law_names", "_law_one", "_law_row"]) (sc := defScope s_l_group) (by decide +kernel)) (tg_name (by simp)) (fun _ _ _ _ _ => (pg_name (i := 4) sc_l_group.nd rfl (.inl rfl))) (fun _ _ _ _ _ _ _ => vts_nil) (fun _ _ _ _ _ _ _ => (ve_ixO (pv 9) (ve_ixO (pv 11) (ve_indexO (pv 9) (ve_var (pv 4))) (fun _ _ => rfl)) (fun _ _ => rfl))))) vb_nil)) va_nil)) lft_append)))))
      (vss_one (vs_fz (i := 5) (vs_ret (ve_orL (ve_call G_l_all trivial (hr.mono (by omega)) (by rfl) g_l_all k_l_all b_l_all pass0 (va_cons (ve_var (pv 5)) (va_cons (ve_var (pv 1)) va_nil))) (ve_one (ve_call G_l_all trivial (hr.mono (by omega)) (by rfl) g_l_all k_l_all b_l_all pass0 (va_cons (ve_new (vn_slL (ve_var (pv 5)) vo_none (vo_some ve_int))) (va_cons (ve_var (pv 1)) va_nil))))))))))))))))), fun ds t Q E h => ?_⟩
  · obtain ⟨most, rfl, _⟩ := h
    rfl
  · obtain ⟨most, rfl, h12, h60, q⟩ := h
    refine ⟨_, rfl, 16, rfl, by decide, by decide, fun way hway => ?_⟩
    dsimp only
    have fin : ∀ (m : Nat) (ts : List (List Nat)) (env : Ev), 1 ≤ m → m ≤ 7 → ts.length ≤ 4 → 0 < ts.length → (∀ g ∈ ts, Tn m g) → env[5]? = some (.fz (.lst (tnsD ts))) → env[1]? = some (.fz (nD most)) →
        vOrL (vCall spAllC (vCons (vVar 5) (vCons (vVar 1) vNil))) (vCall spAllC (vCons (fun env n Q => vSlL (vVar 5) vNoPart (vPart (vC (.int 1))) env n fun k env' n' => ∃ ds, k = Con.lst ds ∧ Q (.lst ds) env' n') (vCons (vVar 1) vNil))) env t (fun d _ n1 => Q d n1) := fun m ts env h1 h7 h4 h0 hT e5 e1 => by
      refine ⟨_, e5, _, e1, m, ts, most, rfl, h1, h7, h4, h0, by omega, h60, hT, fun gl hg hle => .inl ?_, .inr (.inr ⟨rfl, _, e5, 1, rfl, _, rfl, _, rfl, _, e1, m, ts.take 1, most, ?_, h1, h7, by rw [List.length_take]; omega, by rw [List.length_take]; omega, by omega, h60, fun g hg => hT g (List.mem_of_mem_take hg), fun gl hg hle => q m gl h7 hg hle, .inl fun l nd hl => Nat.le_trans (GR.few12 (fun g hg => hT g (List.mem_of_mem_take hg)) h7 (by rw [List.length_take]; omega) nd hl) h12⟩)⟩
      · cases gl with
        | nil => have := hg.hd; cases this
        | cons x l => exact ⟨_, _, rfl, q m _ h7 hg hle⟩
      · rw [cut1]
    refine ⟨_, rfl, way, [1, 2, 3], rfl, .inr rfl, _, rfl, iteB (fun e => ?_) (fun _ => ?_)⟩
    · refine ⟨_, rfl, 6, rfl, by decide, by decide, fun r hr => ⟨_, _, rfl, rfl, ?_⟩⟩
      obtain ⟨m, hm, hm1, hm7⟩ : ∃ m : Nat, (2 : Int) + ((r : Nat) : Int) = (m : Nat) ∧ 1 ≤ m ∧ m ≤ 7 := ⟨2 + r, by omega, by omega, by omega⟩
      have ed : Dt.int (2 + ((r : Nat) : Int)) = nD m := by rw [hm]; rfl
      dsimp only
      rw [ed]
      refine ⟨_, rfl, 2, rfl, by decide, by decide, fun r2 hr2 => ⟨_, _, rfl, rfl, _, rfl, ⟨by omega, by omega⟩, ?_⟩⟩
      refine lc_any (i := 4) (fun j acc => ∃ ts, acc = tnsD ts ∧ ts.length = j ∧ ∀ g ∈ ts, Tn m g) (.head _) (noOw1 (s := .no) rfl no_ow) (by rw [rngD_len]; omega) ⟨[], rfl, rfl, fun g hg => by cases hg⟩ (fun j x acc hx hP R hR => ?_) (fun acc hP => ?_)
      · obtain ⟨ts, rfl, htl, hT⟩ := hP
        refine ⟨_, rfl, _, rfl, m, rfl, by omega, fun l hl => ⟨_, rfl, flats_ns _, hR _ ⟨ts ++ [l], by rw [← tnsD_app], by rw [List.length_append, htl]; rfl, fun g hg => ?_⟩⟩⟩
        rcases List.mem_append.mp hg with hg | hg
        · exact hT g hg
        · rw [List.mem_singleton.mp hg]; exact hl
      · obtain ⟨ts, rfl, htl, hT⟩ := hP
        rw [rngD_len] at htl
        exact ⟨_, rfl, fin m ts _ hm1 hm7 (by omega) (by omega) hT rfl rfl⟩
    · refine ⟨rfl, ?_⟩
      have hkl : (knC.map knD).length = 16 := rfl
      refine ⟨_, rfl, ⟨_, .inl rfl⟩, _, .inl rfl, _, .inl rfl, rfl, _, _, rfl, rfl, 14, rfl, by decide, by decide, fun a0 ha0 => ?_⟩
      dsimp only
      refine vcut (fun env t' => t' = t ∧ ∃ a, a < 16 ∧ env = [.fz (.obj p), .fz (nD most), .fz (nD way), .no, .no, .no, .fz (.lst (knC.map knD)), .fz (nD a), .no, .no, .no, .no]) (fun M hM => ?_) (fun env t' hP => ?_)
      · refine ⟨_, rfl, .inl ⟨_, _, rfl, rfl, _, rfl, iteB (fun _ => ⟨_, rfl, .inl ⟨_, _, rfl, rfl, _, rfl, iteB (fun _ => ?_) (fun _ => hM _ _ ⟨rfl, a0, by omega, rfl⟩)⟩⟩) (fun _ => iteB (fun e => by cases e) (fun _ => hM _ _ ⟨rfl, a0, by omega, rfl⟩))⟩⟩
        refine ⟨⟨_, .inl rfl⟩, _, .inl rfl, _, .inl rfl, rfl, _, _, rfl, rfl, _, rfl, 2, rfl, by decide, by decide, fun r hr => ⟨_, _, rfl, rfl, hM _ _ ⟨rfl, 15 - r, by omega, ?_⟩⟩⟩
        have : Dt.int ((((knC.map knD).length : Nat) : Int) - 1 - ((r : Nat) : Int)) = nD (15 - r) := by rw [hkl]; exact congrArg Dt.int (by omega)
        exact congrArg (fun z => [Sl.fz (.obj p), .fz (nD most), .fz (nD way), .no, .no, .no, .fz (.lst (knC.map knD)), .fz z, .no, .no, .no, .no]) this
      obtain ⟨rfl, a, ha, rfl⟩ := hP
      obtain ⟨e, he⟩ : ∃ e, knC[a]? = some e := ⟨_, List.getElem?_eq_getElem (by show a < 16; exact ha)⟩
      obtain ⟨e2, e7, el0, el4, eR⟩ := knC_ok e (List.mem_of_getElem? he)
      have hat : atI (knC.map knD) ((a : Nat) : Int) = some (knD e) := atI_nat (by rw [List.getElem?_map, he]; rfl)
      refine ⟨⟨_, .inl rfl⟩, _, rfl, _, _, _, .inl rfl, rfl, hat, _, rfl, rfl, _, _, rfl, _, _, rfl, rfl, ?_⟩
      refine ⟨_, rfl, _, rfl, e.1, rfl, by omega, fun names hn => ?_⟩
      refine ⟨Nat.zero_le _, ?_⟩
      refine ⟨_, rfl, _, rfl, fun i env t2 => t2 = t' ∧ ∃ ts s10 s11, ts.length = i ∧ (∀ g ∈ ts, Tn e.1 g) ∧ env = [.fz (.obj p), .fz (nD most), .fz (nD way), .fz (nD e.1), .no, .ow (.lst (tnsD ts)), .fz (.lst (knC.map knD)), .fz (nD a), .fz (.lst (e.2.map rngsD)), .fz (.lst (nsD names)), s10, s11], ⟨rfl, ([] : List (List Nat)), .no, .no, rfl, fun g hg => absurd hg List.not_mem_nil, rfl⟩, fun i d env t2 hd hP => ?_, fun env t2 hP => ?_⟩
      · obtain ⟨rfl, ts, s10, s11, htl, hT, rfl⟩ := hP
        rw [List.getElem?_map] at hd
        obtain ⟨r, hr, rfl⟩ := Option.map_eq_some_iff.mp hd
        obtain ⟨hr4, hrc, hrT⟩ := eR r (List.mem_of_getElem? hr)
        have hrow := tn_B hrT
        refine ⟨_, rfl, _, rfl, e.1, r, rfl, by omega, by omega, fun c hc => ⟨(hrc c hc).1, by have := (hrc c hc).2.1; omega, (hrc c hc).2.2⟩, ?_⟩
        refine ⟨⟨_, rfl⟩, _, rfl, _, rfl, ⟨by omega, by omega⟩, lc_map (i := 4) (fun k => nD (tA names (tA (rungF e.1 r r.length) (names.idxOf k)))) (.head _) (noOw1 (s := .no) rfl no_ow) (by rw [rngD_len]; omega) (fun k d hd2 R hR => ?_) ?_⟩
        · obtain ⟨rfl, hk2⟩ := rngD_get0 hd2
          have hk : k < e.1 := by have : k < ((e.1 : Nat) : Int).toNat := hk2; omega
          have hi := List.idxOf_lt_length_of_mem (hn.all hk)
          have hi2 : names.idxOf k < e.1 := by rwa [hn.len] at hi
          refine ⟨⟨_, .inl rfl⟩, ⟨_, .inl rfl⟩, ⟨_, .inl rfl⟩, _, rfl, names.map (fun i : Nat => (i : Int)), ((k : Nat) : Int), names.idxOf k, .inl (by rw [← nsD_ints]; rfl), rfl, ?_, fun j z hj hz => ?_, _, _, _, .inl rfl, rfl, nsD_tA (by rw [hrow.len]; exact hi2), _, _, _, .inl rfl, rfl, nsD_tA (by rw [hn.len]; exact hrow.at_lt hi2), hR⟩
          · rw [List.getElem?_map, List.getElem?_eq_getElem hi, List.getElem_idxOf]
            rfl
          · rw [List.getElem?_map] at hz
            obtain ⟨y, hy, rfl⟩ := Option.map_eq_some_iff.mp hz
            intro e9
            have e8 : y = k := by omega
            subst e8
            obtain ⟨hjl, ey⟩ := List.getElem?_eq_some_iff.mp hy
            have h9 : (names[j]'hjl == y) = false := List.not_of_lt_findIdx (p := (· == y)) hj
            rw [beq_eq_false_iff_ne] at h9
            exact h9 ey
        · rw [rngD_len, Int.toNat_natCast]
          rw [show (List.range e.1).map (fun k => nD (tA names (tA (rungF e.1 r r.length) (names.idxOf k)))) = nsD ((List.range e.1).map fun k => tA names (tA (rungF e.1 r r.length) (names.idxOf k))) by unfold nsD; rw [List.map_map]; rfl]
          refine ⟨_, rfl, _, rfl, flats_ns _, _, rfl, _, rfl, by rw [tnsD_len]; have := (List.getElem?_eq_some_iff.mp hr).1; omega, rfl, ts ++ [(List.range e.1).map fun k => tA names (tA (rungF e.1 r r.length) (names.idxOf k))], _, _, by rw [List.length_append, htl]; rfl, fun g hg => ?_, by rw [← tnsD_app]; rfl⟩
          rcases List.mem_append.mp hg with hg | hg
          · exact hT g hg
          · rw [List.mem_singleton.mp hg]; exact conj_tn hn hrow
      · obtain ⟨rfl, ts, s10, s11, htl, hT, rfl⟩ := hP
        rw [List.length_map] at htl
        exact ⟨_, rfl, fin e.1 ts _ (by omega) e7 (by omega) (by omega) hT rfl rfl⟩
end
end K50
namespace K50
open PySem PySem.Spec PyProof.Rows L2 HM VL
abbrev s_l_table : Stmt := topS 34
theorem sc_l_table : FnScope ["_law_group_here", "_law_k", "_law_turn", "_law_places", "_law_one", "_law_other"] ["_law_group_here"] (defScope s_l_table) := ⟨rfl, rfl, rfl, by decide +kernel, rfl, by decide +kernel, by decide +kernel⟩
abbrev s_l_eight : Stmt := topS 35
theorem sc_l_eight : FnScope ["_law_units", "_law_a", "_law_b"] [] (defScope s_l_eight) := ⟨rfl, rfl, rfl, by decide +kernel, rfl, by decide +kernel, by decide +kernel⟩
section
variable {P : Program} {w : World} {K : PySem.W.Frag} {mg : Str → Option Value} {base : Heap} {am : Am} {gd : Around → Prop} {k : Nat}
theorem ok_tableC {f f_l_two : Addr} {fd fd_l_two : FuncData} (F : Fun K "_law_table" "_law_table" s_l_table f fd)
    (G_l_two : VFn anyA P w K mg base CX0 (k + 1) f_l_two fd_l_two ["_law_one", "_law_other"] am spTwo) (g_l_two : mg "_law_two" = some (.ref f_l_two)) (k_l_two : PySem.W.keepIn K (.ref f_l_two) = true) (b_l_two : Binds K fd_l_two ["_law_one", "_law_other"] [])
    (mz : ∀ x ∈ bn, mg x = none) : VFn gd P w K mg base CX0 (k + 2) f fd ["_law_group_here"] am spTable := by
  refine vfn_of F sc_l_table (fun ds n Q E h => ?_) ⟨_, fun cdv A out s H E F0 H0 hcd hgd hr =>
    (vss_cons (vs_setN (i := 3) sc_l_table.nd rfl (.inr rfl) (vn_dictT hr.units rfl (by rfl) (mz "dict" (by decide)) (ve_new (vn_lc (own := [("_law_k", 1), ("_law_turn", 2)]) rfl sc_l_table.nd (vi_enum (by rfl) (mz "enumerate" (by decide)) (va_cons (ve_var (pv 0)) va_nil)) (blkOk_by (own := [("_law_k", 1), ("_law_turn", 2)]) (N := ["_law_group_here", "_law_k", "_law_turn", "_law_places", "_law_one", "_law_other"]) (sc := defScope s_l_table) (by decide +kernel)) (tg_two (by simp) (by simp)) (fun _ _ _ _ _ => pg_tup rfl (pgs_cons (pg_name (i := 1) sc_l_table.nd rfl (.inl rfl)) (pgs_cons (pg_name (i := 2) sc_l_table.nd rfl (.inl rfl)) pgs_nil))) (fun _ _ _ _ _ _ _ => vts_nil) (fun _ _ _ _ _ _ _ => (ve_tup (va_cons (ve_var (pv 2)) (va_cons (ve_var (pv 1)) va_nil))))))))
      (vss_one (vs_ret (ve_new (vn_lc (own := [("_law_one", 4)]) rfl sc_l_table.nd (vi_list (ve_var (pv 0))) (blkOk_by (own := [("_law_one", 4)]) (N := ["_law_group_here", "_law_k", "_law_turn", "_law_places", "_law_one", "_law_other"]) (sc := defScope s_l_table) (by decide +kernel)) (tg_name (by simp)) (fun _ _ _ _ _ => (pg_name (i := 4) sc_l_table.nd rfl (.inr rfl))) (fun _ _ _ _ _ _ _ => vts_nil) (fun _ _ _ _ _ _ _ => (ve_new (vn_lc (own := [("_law_other", 5)]) rfl sc_l_table.nd (vi_list (ve_var (pv 0))) (blkOk_by (own := [("_law_other", 5)]) (by rfl)) (tg_name (by simp)) (fun _ _ _ _ _ => (pg_name (i := 5) sc_l_table.nd rfl (.inl rfl))) (fun _ _ _ _ _ _ _ => vts_nil) (fun _ _ _ _ _ _ _ => (ve_dget (hu_of hr) (pv 3) (ve_call G_l_two trivial (hr.mono (by omega)) (by rfl) g_l_two k_l_two b_l_two pass0 (va_cons (ve_var (pv 4)) (va_cons (ve_var (pv 5)) va_nil))) (fun _ _ => rfl))))))))))), fun ds t Q E h => ?_⟩
  · obtain ⟨n, ts, rfl, _⟩ := h
    rfl
  · obtain ⟨m, gl, rfl, h7, hG, q⟩ := h
    obtain ⟨td, etd⟩ : ∃ td, td = Dt.lst (tnsD gl) := ⟨_, rfl⟩
    rw [← etd]
    have hn := hG.few
    have hkn : ((numK gl gl.length).map (·.1)).Nodup := by
      unfold numK
      rw [List.map_map]
      refine List.pairwise_map.mpr (List.Pairwise.imp_of_mem (fun {x y} hx hy hxy e => ?_) (List.pairwise_lt_range (n := gl.length)))
      have hx := List.mem_range.mp hx
      have hy := List.mem_range.mp hy
      have e : glA gl x = glA gl y := kN_inj e
      have : x = y := by
        have h1 := glA_get hx
        have h2 := glA_get hy
        rw [e, ← h2] at h1
        obtain ⟨a1, a2⟩ := List.getElem?_eq_some_iff.mp (h1.trans h2)
        obtain ⟨b1, b2⟩ := List.getElem?_eq_some_iff.mp h2
        exact (List.getElem_inj (i := x) (j := y) (h₀ := a1) (h₁ := b1) hG.nd).mp (by rw [a2, b2])
      omega
    refine ⟨_, rfl, tnsD gl, by rw [etd], lc_map2 (i := 1) (i2 := 2) (fun j => Dt.tup [tupD (kN (glA gl j)), nD j]) (.head _) (.tail _ (.head _)) (noOw2 (s := .no) (s2 := .no) rfl rfl no_ow no_ow) (by rw [enD_len, tnsD_len]; omega) (fun j z hz => ?_) ?_⟩
    · obtain ⟨x, hx, rfl⟩ := enD_get hz
      obtain ⟨rfl, hj⟩ := tns_get hx
      refine ⟨_, _, rfl, fun R hR => ⟨_, rfl, _, rfl, (by decide : 2 ≤ 5000), ?_⟩⟩
      rw [← tup_key] at hR
      exact hR
    have eL : (List.range (enD (tnsD gl)).length).map (fun j => Dt.tup [tupD (kN (glA gl j)), nD j]) = (numK gl gl.length).map fun q => Dt.tup [tupD q.1, q.2] := by
      rw [enD_len, tnsD_len]
      unfold numK
      rw [List.map_map]
      rfl
    refine ⟨_, rfl, numK gl gl.length, by rw [eL], hkn, ?_⟩
    refine ⟨_, rfl, _, etd, lc_map (i := 4) (fun a => rowD gl.length (tblM gl a)) (.head _) (noOw1 (s := .no) rfl no_ow) (by rw [tnsD_len]; omega) (fun j x hx R hR => ?_) ?_⟩
    · obtain ⟨rfl, hj⟩ := tns_get hx
      have hjT := hG.tn _ (glA_mem hj)
      refine ⟨_, rfl, _, etd, lc_map (i := 5) (fun k => nD (tblM gl j k)) (.head _) (noOw1 (s := .no) rfl no_ow) (by rw [tnsD_len]; omega) (fun k x hx R q => ?_) ?_⟩
      · obtain ⟨rfl, hk⟩ := tns_get hx
        have hkT := hG.tn _ (glA_mem hk)
        have hin := hG.mul _ (glA_mem hj) _ (glA_mem hk)
        refine ⟨.inr ⟨_, rfl⟩, _, rfl, _, rfl, m, glA gl j, glA gl k, rfl, hjT, hkT, by omega, nD (tblM gl j k), .inr ⟨_, kN (VL.thn (glA gl j) (glA gl k)), rfl, tup_key _, ?_⟩, q⟩
        have e4 := numK_val hG.nd (Nat.le_refl gl.length) (List.idxOf_lt_length_of_mem hin)
        rw [glA_idx hin] at e4
        exact e4.symm
      · rw [tnsD_len, show (List.range gl.length).map (fun k => nD (tblM gl j k)) = nsD ((List.range gl.length).map (tblM gl j)) by unfold nsD; rw [List.map_map]; rfl]
        exact ⟨_, rfl, hR⟩
    · rw [tnsD_len]
      exact ⟨_, rfl, q⟩
def uC : List (List Nat) := [[0, 1, 2, 3], [1, 4, 3, 6], [2, 7, 4, 1], [3, 2, 5, 4]]
def mC (a b : Nat) : Nat := (((uC.getD (a % 4) []).getD (b % 4) 0) + a / 4 * 4 + b / 4 * 4) % 8
theorem mC_z : ∀ a, a < 8 → mC 0 a = a ∧ mC a 0 = a := by decide +kernel
theorem mC_as : ∀ a, a < 8 → ∀ b, b < 8 → ∀ c, c < 8 → mC (mC a b) c = mC a (mC b c) := by decide +kernel
theorem mC_cn : ∀ a, a < 8 → ∀ b, b < 8 → ∀ c, c < 8 → mC a b = mC a c → b = c := by decide +kernel
theorem hseC : Hse 8 mC := ⟨by decide, fun a b _ _ => Nat.mod_lt _ (by decide), fun a ha => (mC_z a ha).1, fun a ha => (mC_z a ha).2, fun a b c ha hb hc => mC_as a ha b hb c hc, fun a b c ha hb hc => mC_cn a ha b hb c hc⟩
def spEightC : VSp := fun ds t Q _ => ds = [] ∧ Q (houD 8 mC) t
theorem uC_get : ∀ a, a < 4 → ∀ b, b < 4 → (uC.map fun r => Dt.lst (nsD r))[a]? = some (.lst (nsD (uC.getD a []))) ∧ (nsD (uC.getD a []))[b]? = some (nD ((uC.getD a []).getD b 0)) := fun a ha b hb => by
  have h4 : ∀ a, a < 4 → ∃ r, uC[a]? = some r ∧ r.length = 4 := by
    intro a ha
    have : a = 0 ∨ a = 1 ∨ a = 2 ∨ a = 3 := by omega
    rcases this with rfl | rfl | rfl | rfl <;> exact ⟨_, rfl, rfl⟩
  obtain ⟨r, hr, hl⟩ := h4 a ha
  have e : uC.getD a [] = r := by rw [List.getD_eq_getElem?_getD, hr]; rfl
  rw [e]
  refine ⟨by rw [List.getElem?_map, hr]; rfl, ?_⟩
  unfold nsD
  rw [List.getElem?_map, List.getElem?_eq_getElem (by omega), List.getD_eq_getElem?_getD, List.getElem?_eq_getElem (by omega)]
  rfl
theorem ok_eightC {f : Addr} {fd : FuncData} (F : Fun K "_law_eight" "_law_eight" s_l_eight f fd) (mz : ∀ x ∈ bn, mg x = none) : VFn gd P w K mg base CX0 (k + 2) f fd [] am spEightC := by
  refine vfn_of F sc_l_eight (fun ds n Q E h => ?_) ⟨_, fun cdv A out s H E F0 H0 hcd hgd hr =>
    (vss_cons (vs_set (i := 0) sc_l_eight.nd rfl (.inr rfl) (ve_new (vn_lst (va_cons (ve_lstK (ka_cons ve_int (ka_cons ve_int (ka_cons ve_int (ka_cons ve_int ka_nil)))) (by decide)) (va_cons (ve_lstK (ka_cons ve_int (ka_cons ve_int (ka_cons ve_int (ka_cons ve_int ka_nil)))) (by decide)) (va_cons (ve_lstK (ka_cons ve_int (ka_cons ve_int (ka_cons ve_int (ka_cons ve_int ka_nil)))) (by decide)) (va_cons (ve_lstK (ka_cons ve_int (ka_cons ve_int (ka_cons ve_int (ka_cons ve_int ka_nil)))) (by decide)) va_nil)))))))
      (vss_one (vs_ret (ve_new (vn_lc (own := [("_law_a", 1)]) rfl sc_l_eight.nd (vi_range1 (by rfl) (mz "range" (by decide)) (vb_cons ve_int vb_nil)) (blkOk_by (own := [("_law_a", 1)]) (N := ["_law_units", "_law_a", "_law_b"]) (sc := defScope s_l_eight) (by decide +kernel)) (tg_name (by simp)) (fun _ _ _ _ _ => (pg_name (i := 1) sc_l_eight.nd rfl (.inr rfl))) (fun _ _ _ _ _ _ _ => vts_nil) (fun _ _ _ _ _ _ _ => (ve_new (vn_lc (own := [("_law_b", 2)]) rfl sc_l_eight.nd (vi_range1 (by rfl) (mz "range" (by decide)) (vb_cons ve_int vb_nil)) (blkOk_by (own := [("_law_b", 2)]) (by rfl)) (tg_name (by simp)) (fun _ _ _ _ _ => (pg_name (i := 2) sc_l_eight.nd rfl (.inl rfl))) (fun _ _ _ _ _ _ _ => vts_nil) (fun _ _ _ _ _ _ _ => (ve_op op_mod lft_I (ve_op op_add lft_I0 (ve_op op_add lft_I0 (ve_ix ix_list lft_ixL (ve_ixO (pv 0) (ve_op op_mod lft_I (ve_var (pv 1)) ve_int) (fun _ _ => rfl)) (ve_op op_mod lft_I (ve_var (pv 2)) ve_int) (fun _ _ => rfl)) (ve_op op_mul lft_I (ve_op op_fdiv lft_I (ve_var (pv 1)) ve_int) ve_int)) (ve_op op_mul lft_I (ve_op op_fdiv lft_I (ve_var (pv 2)) ve_int) ve_int)) ve_int)))))))))), fun ds t Q E h => ?_⟩
  · obtain ⟨rfl, _⟩ := h
    rfl
  · obtain ⟨rfl, q⟩ := h
    refine ⟨by show 4 ≤ 5000; decide, _, rfl, ?_⟩
    refine ⟨8, rfl, ⟨by decide, by decide⟩, lc_map (i := 1) (fun a => rowD 8 (mC a)) (.head _) (noOw1 (s := .no) rfl no_ow) (by rw [rngD_len]; decide) (fun a d hd R hR => ?_) ?_⟩
    · obtain ⟨rfl, ha⟩ := rngD_get0 hd
      have ha : a < 8 := ha
      refine ⟨8, rfl, ⟨by decide, by decide⟩, lc_map (i := 2) (fun b => nD (mC a b)) (.head _) (noOw1 (s := .no) rfl no_ow) (by rw [rngD_len]; decide) (fun b d hd R q => ?_) ?_⟩
      · obtain ⟨rfl, hb⟩ := rngD_get0 hd
        have hb : b < 8 := hb
        have ga := (uC_get (a % 4) (Nat.mod_lt _ (by decide)) (b % 4) (Nat.mod_lt _ (by decide)))
        have e1 : ((a : Nat) : Int) % 4 = ((a % 4 : Nat) : Int) := by omega
        have e2 : ((b : Nat) : Int) % 4 = ((b % 4 : Nat) : Int) := by omega
        have h1 : atI (uC.map fun r => Dt.lst (nsD r)) (((a : Nat) : Int) % 4) = some (.lst (nsD (uC.getD (a % 4) []))) := by rw [e1]; exact atI_nat ga.1
        have h2 : atI (nsD (uC.getD (a % 4) [])) (((b : Nat) : Int) % 4) = some (nD ((uC.getD (a % 4) []).getD (b % 4) 0)) := by rw [e2]; exact atI_nat ga.2
        refine ⟨⟨_, .inl rfl⟩, _, rfl, _, _, rfl, rfl, (by show (0 : Int) < 4; decide), _, _, _, .inl rfl, rfl, h1, _, rfl, _, _, rfl, rfl, (by show (0 : Int) < 4; decide), _, _, _, rfl, rfl, h2, _, rfl, _, _, rfl, rfl, ⟨by decide, by omega⟩, _, _, rfl, rfl, .inr ⟨by omega, by omega⟩, _, _, rfl, rfl, _, rfl, _, _, rfl, rfl, ⟨by decide, by omega⟩, _, _, rfl, rfl, .inr ⟨by omega, by omega⟩, _, _, rfl, rfl, _, _, rfl, rfl, (by show (0 : Int) < 8; decide), ?_⟩
        have e3 : ((((uC.getD (a % 4) []).getD (b % 4) 0 : Nat) : Int) + ((a : Nat) : Int) / 4 * 4 + ((b : Nat) : Int) / 4 * 4) % 8 = ((mC a b : Nat) : Int) := by
          unfold mC
          generalize (uC.getD (a % 4) []).getD (b % 4) 0 = u
          omega
        exact Eq.mpr (congrArg (fun z => R (Dt.int z) _ t) e3) q
      · exact ⟨_, rfl, hR⟩
    · exact ⟨_, rfl, q⟩
end
end K50
namespace K50
open PySem PySem.Spec PyProof.Rows L2 HM VL
abbrev s_l_part : Stmt := topS 37
theorem sc_l_part : FnScope ["_law_house_here", "_law_numbers", "_law_found", "_law_waiting", "_law_here", "_law_number", "_law_there"] ["_law_house_here", "_law_numbers"] (defScope s_l_part) := ⟨rfl, rfl, rfl, by decide +kernel, rfl, by decide +kernel, by decide +kernel⟩
section
variable {P : Program} {w : World} {K : PySem.W.Frag} {mg : Str → Option Value} {base : Heap} {am : Am} {gd : Around → Prop} {k : Nat}
theorem ok_partB {f : Addr} {fd : FuncData} (F : Fun K "_law_part" "_law_part" s_l_part f fd) (mz : ∀ x ∈ bn, mg x = none) : VFn gd P w K mg base CX0 (k + 1) f fd ["_law_house_here", "_law_numbers"] am spPart := by
  refine vfn_of F sc_l_part (fun ds n Q E h => ?_) ⟨_, fun cdv A out s H E F0 H0 hcd hgd hr =>
    (vss_cons (vs_setN (i := 2) sc_l_part.nd rfl (.inl rfl) (vn_dispK (fun F0 H0 => ve_int) (fun F0 H0 => ve_bl)))
      (vss_cons (vs_setN (i := 3) sc_l_part.nd rfl (.inl rfl) (vn_lst (va_cons ve_int va_nil)))
      (vss_cons (vs_while PassesOwn.never (vt_cmpN (op_neD hr.units) lft_neD (pv 3) (vr_of (ve_new (vn_lst va_nil))) (nomark _))
        (vss_cons (vs_set (i := 4) sc_l_part.nd rfl (.inl rfl) (ve_m0 (pe_bm0 PySem.F.plainAttrs_list PySem.F.slot_list_pop PySem.F.type_list_pop mt_pop (pv 3)) lft_pop))
        (vss_one (vs_for PassesOwn.never rfl (vi_list (ve_var (pv 1))) (vg_name (pg_name (i := 5) sc_l_part.nd rfl (.inl rfl)))
          (vss_cons (vs_set (i := 6) sc_l_part.nd rfl (.inl rfl) (ve_ix ix_list lft_ixL (ve_ixO (pv 0) (ve_var (pv 4)) (fun _ _ => rfl)) (ve_var (pv 5)) (fun _ _ => rfl)))
          (vss_one (vs_if (vt_dnotin (hu_of hr) (ve_var (pv 6)) (pv 2))
            (vss_cons (vs_dput (hu_of hr) (pv 2) (ve_var (pv 6)) ve_bl rfl)
            (vss_one (vs_expr (ve_m (pe_bm PySem.F.plainAttrs_list PySem.F.slot_list_append PySem.F.type_list_append mt_append (pv 3) (va_cons (ve_var (pv 6)) va_nil)) lft_append))))
            vss_nil)))))))
      (vss_one (vs_ret (ve_tyTR call_tuple_of lft_tupleOf (by rfl) (mz "tuple" (by decide)) (by decide +kernel) (vb_cons (ve_new (vn_dsortK rfl (by rfl) (mz "sorted" (by decide)) (pv 2))) vb_nil))))))), fun ds t Q E h => ?_⟩
  · obtain ⟨n, m, gs, rfl, _⟩ := h
    rfl
  · obtain ⟨n, m, gs, rfl, h0, h60, hgl, hm, hg, q⟩ := h
    obtain ⟨hou, ehou⟩ : ∃ hou, hou = houD n m := ⟨_, rfl⟩
    rw [← ehou]
    refine ⟨.inl 0, rfl, by decide, ?_⟩
    let I : List Nat → List Nat → Sl → Ev → Prop := fun fs ws s4 env => ∃ kvs s5 s6, env = [.fz hou, .fz (.lst (nsD gs)), .ow (.dK kvs), .ow (.lst (nsD ws)), s4, s5, s6] ∧ kvs.map (·.1) = fs.map (fun i : Nat => (Sum.inl (i : Int) : Key))
    have hfew : ∀ {fs ws : List Nat}, Wt m gs fs ws → fs.length ≤ n := fun h => few_of_nodup h.nd fun x hx => (h.rc x hx).lt h0 hm hg
    refine ⟨fun mm env t' => ∃ fs ws, mm = 2 * (61 - fs.length) + ws.length ∧ t' = t ∧ (∃ s4, I fs ws s4 env) ∧ Wt m gs fs ws, ⟨_, [0], [0], rfl, rfl, ⟨.no, _, .no, .no, rfl, rfl⟩, ⟨by simp, fun x hx => by rw [List.mem_singleton.mp hx]; exact .zero, by simp, fun x hx => hx, by simp, fun x hx hn => absurd hx hn⟩⟩, fun mm env t' hW => ?_⟩
    obtain ⟨fs, ws, rfl, rfl, ⟨s4, kvs, s5, s6, rfl, hk⟩, hW⟩ := hW
    refine ⟨⟨_, .inr ⟨_, rfl, rfl⟩⟩, by decide, _, rfl, _, .inr ⟨_, rfl, rfl⟩, dNeD_pl (pl_ns ws) rfl (dep_ns ws) (by decide) fun b hb => ⟨rfl, b, rfl, iteB (fun e => ?_) (fun e => ?_)⟩⟩
    · have hne : ws ≠ [] := fun z => (hb.mp e) (nsD_nil.mpr z)
      obtain ⟨ws', x0, rfl⟩ : ∃ l x, ws = l ++ [x] := ⟨_, _, (List.dropLast_concat_getLast hne).symm⟩
      have hx0 : x0 ∈ fs := hW.sb x0 (by simp)
      have hx0n : x0 < n := (hW.rc x0 hx0).lt h0 hm hg
      have hwn := hW.wn
      rw [List.nodup_append] at hwn
      have hx0w : x0 ∉ ws' := fun z => hwn.2.2 x0 z x0 (by simp) rfl
      have hfn := hfew hW
      refine ⟨⟨_, rfl⟩, _, rfl, nD x0, rfl, nsD_last, ?_⟩
      rw [nsD_dropLast]
      refine ⟨_, rfl, nsD gs, rfl, fun j env t3 => t3 = t' ∧ ∃ ext, I (fs ++ ext) (ws' ++ ext) (.fz (nD x0)) env ∧ (fs ++ ext).Nodup ∧ (∀ x ∈ fs ++ ext, Rch m gs x) ∧ ∀ g ∈ gs.take j, m x0 g ∈ fs ++ ext, ⟨rfl, [], ⟨kvs, s5, s6, by rw [List.append_nil]; rfl, by rw [List.append_nil]; exact hk⟩, by rw [List.append_nil]; exact hW.nd, by rw [List.append_nil]; exact hW.rc, fun g hg => by rw [List.take_zero] at hg; cases hg⟩, fun j x env t3 hx hP => ?_, fun env t3 hP => ?_⟩
      · obtain ⟨rfl, ext, ⟨kvs, s5, s6, rfl, hk⟩, hnd, hrc, hcl⟩ := hP
        unfold nsD at hx
        rw [List.getElem?_map] at hx
        obtain ⟨g, hg1, rfl⟩ := Option.map_eq_some_iff.mp hx
        have hgm := List.mem_of_getElem? hg1
        have hl : (fs ++ ext).length ≤ n := few_of_nodup hnd fun x hx => (hrc x hx).lt h0 hm hg
        have hkl : kvs.length = (fs ++ ext).length := by
          have := congrArg List.length hk
          rw [List.length_map, List.length_map] at this
          exact this
        have htk : ∀ g2 ∈ gs.take (j + 1), g2 ∈ gs.take j ∨ g2 = g := fun g2 h => by
          rw [take_snoc' hg1] at h
          rcases List.mem_append.mp h with h | h
          · exact .inl h
          · exact .inr (List.mem_singleton.mp h)
        have hmem : (valD kvs (Sum.inl ((m x0 g : Nat) : Int) : Key)).isSome = decide (m x0 g ∈ fs ++ ext) := by
          rw [valD_some, hk]
          exact decide_eq_decide.mpr keyN_mem
        refine ⟨⟨_, .inl rfl⟩, _, rfl, _, _, _, .inl (by rw [ehou]; rfl), rfl, hou_at hx0n, _, rfl, _, _, _, rfl, rfl, row_at (hg g hgm), ?_⟩
        refine ⟨_, rfl, _, .inl ⟨kvs, .inl ((m x0 g : Nat) : Int), rfl, rfl, rfl⟩, _, rfl, iteB (fun e2 => ?_) (fun e2 => ?_)⟩
        · have hnin : m x0 g ∉ fs ++ ext := by
            have e3 : (!(valD kvs (Sum.inl ((m x0 g : Nat) : Int) : Key)).isSome) = true := e2
            rw [hmem, Bool.not_eq_true', decide_eq_false_iff_not] at e3
            exact e3
          have hnk : (Sum.inl ((m x0 g : Nat) : Int) : Key) ∉ kvs.map (·.1) := by rw [hk, keyN_mem]; exact hnin
          refine ⟨.inl ⟨_, rfl⟩, _, rfl, .inl ⟨kvs, .inl ((m x0 g : Nat) : Int), rfl, rfl, by omega, ⟨_, rfl⟩, _, rfl, _, rfl, _, rfl, ?_, rfl, ext ++ [m x0 g], ⟨putD kvs (.inl ((m x0 g : Nat) : Int)) (.bl true), .fz (nD g), .fz (nD (m x0 g)), ?_, ?_⟩, ?_, fun x hx => ?_, fun g2 hg2 => ?_⟩⟩
          · have := few_of_nodup (n := n) (l := ws' ++ ext) ?_ fun x hx => ?_
            · rw [nsD_len]; omega
            · rw [List.nodup_append] at hnd ⊢
              exact ⟨hwn.1, hnd.2.1, fun a ha b hb => hnd.2.2 a (hW.sb a (List.mem_append_left _ ha)) b hb⟩
            · rcases List.mem_append.mp hx with hx | hx
              · exact (hW.rc x (hW.sb x (List.mem_append_left _ hx))).lt h0 hm hg
              · exact (hrc x (List.mem_append_right _ hx)).lt h0 hm hg
          · rw [nsD_app, ← List.append_assoc]
            rfl
          · rw [putD_new hnk, List.map_append, hk, ← List.append_assoc, List.map_append (l₁ := fs ++ ext)]
            rfl
          · rw [← List.append_assoc, List.nodup_append]
            exact ⟨hnd, by simp, fun a ha b hb z => hnin (by rw [List.mem_singleton.mp hb] at z; rw [← z]; exact ha)⟩
          · rw [← List.append_assoc] at hx
            rcases List.mem_append.mp hx with hx | hx
            · exact hrc x hx
            · rw [List.mem_singleton.mp hx]
              exact .step (hW.rc x0 hx0) hgm
          · rw [← List.append_assoc]
            rcases htk g2 hg2 with h | rfl
            · exact List.mem_append_left _ (hcl g2 h)
            · exact List.mem_append_right _ (List.mem_singleton.mpr rfl)
        · have hin : m x0 g ∈ fs ++ ext := by
            have e3 : (!(valD kvs (Sum.inl ((m x0 g : Nat) : Int) : Key)).isSome) = false := e2
            rw [hmem, Bool.not_eq_false', decide_eq_true_iff] at e3
            exact e3
          refine ⟨rfl, ext, ⟨kvs, _, _, rfl, hk⟩, hnd, hrc, fun g2 hg2 => ?_⟩
          rcases htk g2 hg2 with h | rfl
          · exact hcl g2 h
          · exact hin
      · obtain ⟨rfl, ext, ⟨kvs, s5, s6, rfl, hk⟩, hnd, hrc, hcl⟩ := hP
        rw [nsD_len, List.take_of_length_le (Nat.le_refl _)] at hcl
        have hl : (fs ++ ext).length ≤ n := few_of_nodup hnd fun x hx => (hrc x hx).lt h0 hm hg
        rw [List.length_append] at hl
        rw [List.nodup_append] at hnd
        refine ⟨_, by rw [List.length_append, List.length_append, List.length_append, List.length_singleton]; omega, fs ++ ext, ws' ++ ext, rfl, rfl, ⟨_, kvs, s5, s6, rfl, hk⟩, ⟨List.nodup_append.mpr hnd, hrc, List.mem_append_left _ hW.ze, fun x hx => ?_, ?_, fun x hx hnx g hg => ?_⟩⟩
        · rcases List.mem_append.mp hx with hx | hx
          · exact List.mem_append_left _ (hW.sb x (List.mem_append_left _ hx))
          · exact List.mem_append_right _ hx
        · rw [List.nodup_append]
          exact ⟨hwn.1, hnd.2.1, fun a ha b hb => hnd.2.2 a (hW.sb a (List.mem_append_left _ ha)) b hb⟩
        · rw [List.mem_append, not_or] at hnx
          rcases List.mem_append.mp hx with hx | hx
          · by_cases z : x = x0
            · rw [z]
              exact hcl g hg
            · exact List.mem_append_left _ (hW.cl x hx (by rw [List.mem_append, List.mem_singleton, not_or]; exact ⟨hnx.1, z⟩) g hg)
          · exact absurd hx hnx.2
    · have hnil : ws = [] := Classical.byContradiction fun z => by
        have := hb.mpr fun h => z (nsD_nil.mp h)
        rw [this] at e
        cases e
      subst hnil
      have hfn := hfew hW
      refine ⟨kvs, fs.map (fun i : Nat => (i : Int)), rfl, by rw [hk, List.map_map]; rfl, by rw [List.length_map]; omega, fun ns h1 h2 => ⟨_, rfl, _, rfl, flats_int ns, ?_⟩⟩
      obtain ⟨l, rfl, hpm⟩ := perm_cast h1
      rw [← nsD_ints]
      refine q l ⟨lt_of_le_nodup' h2 (hpm.nodup_iff.mpr hW.nd), fun x => ?_⟩
      rw [hpm.mem_iff, hW.all]
end
end K50
namespace K50
open PySem PySem.Spec PyProof.Rows L2 HM VL
abbrev s_l_house : Stmt := topS 36
theorem sc_l_house : FnScope ["_law_pen_here", "_law_most"] ["_law_pen_here", "_law_most"] (defScope s_l_house) := ⟨rfl, rfl, rfl, by decide +kernel, rfl, by decide +kernel, by decide +kernel⟩
abbrev s_l_some_part : Stmt := topS 38
theorem sc_l_some_part : FnScope ["_law_pen_here", "_law_house_here", "_law_k"] ["_law_pen_here", "_law_house_here"] (defScope s_l_some_part) := ⟨rfl, rfl, rfl, by decide +kernel, rfl, by decide +kernel, by decide +kernel⟩
section
variable {P : Program} {w : World} {K : PySem.W.Frag} {mg : Str → Option Value} {base : Heap} {am : Am} {gd : Around → Prop} {k : Nat}
def spHouseC (p : Addr) : VSp := fun ds t Q _ => ∃ most : Nat, ds = [.obj p, nD most] ∧ 12 ≤ most ∧ most ≤ 60 ∧ ∀ (n : Nat) (m : Nat → Nat → Nat), Hse n m → n ≤ most → Q (houD n m) t
theorem ok_houseC {p f f_l_draw f_l_eight f_l_table f_l_group : Addr} {fd fd_l_draw fd_l_eight fd_l_table fd_l_group : FuncData} (F : Fun K "_law_house" "_law_house" s_l_house f fd)
    (G_l_draw : VFn anyA P w K mg base CX0 (k + 4) f_l_draw fd_l_draw ["_law_pen_here", "_law_many"] am (spTake p)) (g_l_draw : mg "_law_draw" = some (.ref f_l_draw)) (k_l_draw : PySem.W.keepIn K (.ref f_l_draw) = true) (b_l_draw : Binds K fd_l_draw ["_law_pen_here", "_law_many"] [])
    (G_l_eight : VFn anyA P w K mg base CX0 (k + 4) f_l_eight fd_l_eight [] am spEightC) (g_l_eight : mg "_law_eight" = some (.ref f_l_eight)) (k_l_eight : PySem.W.keepIn K (.ref f_l_eight) = true) (b_l_eight : Binds K fd_l_eight [] [])
    (G_l_table : VFn anyA P w K mg base CX0 (k + 4) f_l_table fd_l_table ["_law_group_here"] am spTable) (g_l_table : mg "_law_table" = some (.ref f_l_table)) (k_l_table : PySem.W.keepIn K (.ref f_l_table) = true) (b_l_table : Binds K fd_l_table ["_law_group_here"] [])
    (G_l_group : VFn anyA P w K mg base CX0 (k + 4) f_l_group fd_l_group ["_law_pen_here", "_law_most"] am (spGroupC p)) (g_l_group : mg "_law_group" = some (.ref f_l_group)) (k_l_group : PySem.W.keepIn K (.ref f_l_group) = true) (b_l_group : Binds K fd_l_group ["_law_pen_here", "_law_most"] [])
    (mz : ∀ x ∈ bn, mg x = none) : VFn gd P w K mg base CX0 (k + 5) f fd ["_law_pen_here", "_law_most"] am (spHouseC p) := by
  refine vfn_of F sc_l_house (fun ds n Q E h => ?_) ⟨_, fun cdv A out s H E F0 H0 hcd hgd hr =>
    (vss_cons (vs_if (vt_cmp op_eq lft_eq (ve_call G_l_draw trivial (hr.mono (by omega)) (by rfl) g_l_draw k_l_draw b_l_draw pass0 (va_cons (ve_var (pv 0)) (va_cons ve_int va_nil))) ve_int (nomark _))
        (vss_one (vs_ret (ve_call0 G_l_eight trivial (hr.mono (by omega)) (by rfl) g_l_eight k_l_eight b_l_eight pass0)))
        vss_nil)
      (vss_one (vs_ret (ve_call G_l_table trivial (hr.mono (by omega)) (by rfl) g_l_table k_l_table b_l_table pass0 (va_cons (ve_call G_l_group trivial (hr.mono (by omega)) (by rfl) g_l_group k_l_group b_l_group pass0 (va_cons (ve_var (pv 0)) (va_cons (ve_var (pv 1)) va_nil))) va_nil))))), fun ds t Q E h => ?_⟩
  · obtain ⟨most, rfl, _⟩ := h
    rfl
  · obtain ⟨most, rfl, h12, h60, q⟩ := h
    refine ⟨_, rfl, 10, rfl, by decide, by decide, fun r hr => .inl ⟨_, _, rfl, rfl, _, rfl, iteB (fun _ => ⟨rfl, q 8 mC hseC (by omega)⟩) (fun _ => ?_)⟩⟩
    exact ⟨_, rfl, _, rfl, most, rfl, h12, h60, fun m gl h7 hg hl => ⟨m, gl, rfl, h7, hg, q _ _ (hse_tbl hg) hl⟩⟩
def spSomePart (p : Addr) : VSp := fun ds t Q _ => ∃ (n : Nat) (m : Nat → Nat → Nat), ds = [.obj p, houD n m] ∧ Hse n m ∧ n ≤ 60 ∧ ∀ L, Sub n m L → Q (.tup (nsD L)) t
theorem ok_somepart {p f f_l_draw f_l_part : Addr} {fd fd_l_draw fd_l_part : FuncData} (F : Fun K "_law_some_part" "_law_some_part" s_l_some_part f fd)
    (G_l_draw : VFn anyA P w K mg base CX0 (k + 4) f_l_draw fd_l_draw ["_law_pen_here", "_law_many"] am (spTake p)) (g_l_draw : mg "_law_draw" = some (.ref f_l_draw)) (k_l_draw : PySem.W.keepIn K (.ref f_l_draw) = true) (b_l_draw : Binds K fd_l_draw ["_law_pen_here", "_law_many"] [])
    (G_l_part : VFn anyA P w K mg base CX0 (k + 4) f_l_part fd_l_part ["_law_house_here", "_law_numbers"] am spPart) (g_l_part : mg "_law_part" = some (.ref f_l_part)) (k_l_part : PySem.W.keepIn K (.ref f_l_part) = true) (b_l_part : Binds K fd_l_part ["_law_house_here", "_law_numbers"] [])
    (mz : ∀ x ∈ bn, mg x = none) : VFn gd P w K mg base CX0 (k + 5) f fd ["_law_pen_here", "_law_house_here"] am (spSomePart p) := by
  refine vfn_of F sc_l_some_part (fun ds n Q E h => ?_) ⟨_, fun cdv A out s H E F0 H0 hcd hgd hr =>
    (vss_one (vs_ret (ve_call G_l_part trivial (hr.mono (by omega)) (by rfl) g_l_part k_l_part b_l_part pass0 (va_cons (ve_var (pv 1)) (va_cons (ve_new (vn_lc (own := [("_law_k", 2)]) rfl sc_l_some_part.nd (vi_range1 (by rfl) (mz "range" (by decide)) (vb_cons (ve_call G_l_draw trivial (hr.mono (by omega)) (by rfl) g_l_draw k_l_draw b_l_draw pass0 (va_cons (ve_var (pv 0)) (va_cons ve_int va_nil))) vb_nil)) (blkOk_by (own := [("_law_k", 2)]) (N := ["_law_pen_here", "_law_house_here", "_law_k"]) (sc := defScope s_l_some_part) (by decide +kernel)) (tg_name (by simp)) (fun _ _ _ _ _ => (pg_name (i := 2) sc_l_some_part.nd rfl (.inl rfl))) (fun _ _ _ _ _ _ _ => vts_nil) (fun _ _ _ _ _ _ _ => (ve_call G_l_draw trivial (hr.mono (by omega)) (by rfl) g_l_draw k_l_draw b_l_draw pass0 (va_cons (ve_var (pv 0)) (va_cons (ve_cbR call_len_seq lft_len (by rfl) (mz "len" (by decide)) PySem.boot_len (vb_rd (pv 1) vb_nil)) va_nil)))))) va_nil))))), fun ds t Q E h => ?_⟩
  · obtain ⟨n, m, rfl, _⟩ := h
    rfl
  · obtain ⟨n, m, rfl, hH, hn, q⟩ := h
    have hp0 := hH.pos
    refine ⟨_, rfl, _, rfl, 3, rfl, by decide, by decide, fun r hr => ⟨_, rfl, ⟨by omega, by omega⟩, ?_⟩⟩
    refine lc_any (i := 2) (fun j acc => ∃ gs, acc = nsD gs ∧ gs.length = j ∧ ∀ g ∈ gs, g < n) (.head _) (noOw1 (s := .no) rfl no_ow) (by rw [rngD_len]; omega) ⟨[], rfl, rfl, fun g hg => absurd hg List.not_mem_nil⟩ (fun j x acc hx hP R hR => ?_) (fun acc hP => ?_)
    · obtain ⟨gs, rfl, hgl, hg⟩ := hP
      refine ⟨_, rfl, ⟨_, .inl rfl⟩, _, .inl rfl, _, .inl rfl, rfl, n, by rw [List.length_map, List.length_range]; rfl, hp0, by omega, fun y hy => hR _ ⟨gs ++ [y], by rw [← nsD_app], by rw [List.length_append, hgl]; rfl, fun g h => ?_⟩⟩
      rcases List.mem_append.mp h with h | h
      · exact hg g h
      · rw [List.mem_singleton.mp h]; exact hy
    · obtain ⟨gs, rfl, hgl, hg⟩ := hP
      rw [rngD_len] at hgl
      exact ⟨_, rfl, n, m, gs, rfl, hp0, hn, by omega, hH.lt, hg, fun l hl => q l (hl.sub hH hg)⟩
end
end K50
namespace VL
open PySem PySem.Spec PyProof.Rows L2 HM
theorem valD_putD {κ : Type} [DecidableEq κ] (kvs : List (κ × Dt)) (k k' : κ) (v : Dt) : valD (putD kvs k v) k' = if k' = k then some v else valD kvs k' := by
  unfold putD
  by_cases h : (kvs.any fun p => decide (p.1 = k)) = true
  · rw [if_pos h]
    induction kvs with
    | nil => cases h
    | cons p r ih =>
      rw [List.map_cons]
      unfold valD at ih ⊢
      by_cases hp : p.1 = k
      · rw [if_pos hp]
        by_cases hk : k' = k
        · subst hk
          rw [List.find?_cons_of_pos (by simpa using hp), if_pos rfl]
          rfl
        · rw [List.find?_cons_of_neg (by simpa [hp] using fun z => hk z.symm), if_neg hk, List.find?_cons_of_neg (by simpa [hp] using fun z => hk z.symm)]
          by_cases hr : (r.any fun p => decide (p.1 = k)) = true
          · rw [ih hr, if_neg hk]
          · congr 1
            rw [show (r.map fun p => if p.1 = k then (p.1, v) else p) = r from (List.map_congr_left fun q hq => if_neg fun z => hr (List.any_eq_true.mpr ⟨q, hq, by simpa using z⟩)).trans (List.map_id _)]
      · rw [if_neg hp]
        have hr : (r.any fun p => decide (p.1 = k)) = true := by
          rw [List.any_cons] at h
          simpa [hp] using h
        by_cases hk : p.1 = k'
        · rw [List.find?_cons_of_pos (by simpa using hk), List.find?_cons_of_pos (by simpa using hk), if_neg (fun z => hp (hk.trans z))]
        · rw [List.find?_cons_of_neg (by simpa using hk), ih hr, List.find?_cons_of_neg (by simpa using hk)]
  · rw [if_neg h]
    unfold valD
    rw [List.find?_append]
    by_cases hk : k' = k
    · subst hk
      rw [if_pos rfl]
      have : kvs.find? (fun kv => decide (kv.1 = k')) = none := List.find?_eq_none.mpr fun q hq z => h (List.any_eq_true.mpr ⟨q, hq, z⟩)
      rw [this]
      simp
    · rw [if_neg hk]
      cases e : kvs.find? (fun kv => decide (kv.1 = k')) with
      | none =>
        simp
        exact fun z => hk z.symm
      | some q => rfl
theorem putD_keys {κ : Type} [DecidableEq κ] (kvs : List (κ × Dt)) (k : κ) (v : Dt) : (putD kvs k v).map (·.1) = if k ∈ kvs.map (·.1) then kvs.map (·.1) else kvs.map (·.1) ++ [k] := by
  by_cases h : k ∈ kvs.map (·.1)
  · rw [if_pos h]
    unfold putD
    obtain ⟨p, hp, e⟩ := List.mem_map.mp h
    rw [if_pos (List.any_eq_true.mpr ⟨p, hp, decide_eq_true e⟩), List.map_map]
    refine List.map_congr_left fun q _ => ?_
    show (if q.1 = k then (q.1, v) else q).1 = q.1
    by_cases z : q.1 = k
    · rw [if_pos z]
    · rw [if_neg z]
  · rw [if_neg h, putD_new h, List.map_append]
    rfl
def Dk (n : Nat) (l : List Int) (kvs : List (Key × Dt)) : Prop := ∃ fs : List Nat, kvs.map (·.1) = fs.map (fun i : Nat => (Sum.inl (i : Int) : Key)) ∧ fs.Nodup ∧ (∀ f ∈ fs, f < n) ∧ ∀ x, x < n → ∀ v, l[x]? = some v → valD kvs (Sum.inl (x : Int)) = if v < 0 then none else some (.int v)
section
variable {n : Nat} {l : List Int} {kvs : List (Key × Dt)}
theorem Dk.start : Dk n (List.replicate n (-1)) [] := ⟨[], rfl, List.nodup_nil, fun f h => absurd h List.not_mem_nil, fun x hx v hv => by
  rw [List.getElem?_replicate, if_pos hx] at hv
  cases hv
  rfl⟩
theorem Dk.len (d : Dk n l kvs) : kvs.length ≤ n := by
  obtain ⟨fs, h1, h2, h3, _⟩ := d
  have := congrArg List.length h1
  rw [List.length_map, List.length_map] at this
  rw [this]
  exact few_of_nodup h2 h3
theorem Dk.put (d : Dk n l kvs) {y : Nat} (hy : y < n) {v : Int} (hv : 0 ≤ v) : Dk n (l.set y v) (putD kvs (Sum.inl (y : Int)) (.int v)) := by
  obtain ⟨fs, h1, h2, h3, h4⟩ := d
  have val : ∀ x, x < n → ∀ u, (l.set y v)[x]? = some u → valD (putD kvs (Sum.inl (y : Int)) (.int v)) (Sum.inl (x : Int)) = if u < 0 then none else some (.int u) := fun x hx u hu => by
    rw [valD_putD]
    by_cases z : y = x
    · subst z
      rw [if_pos rfl]
      rw [List.getElem?_set] at hu
      split at hu
      · split at hu
        · cases hu
          rw [if_neg (by omega)]
        · cases hu
      · rename_i z; exact absurd rfl z
    · rw [if_neg (fun w => z (by have := Sum.inl.inj w; omega))]
      rw [List.getElem?_set_ne z] at hu
      exact h4 x hx u hu
  by_cases hin : y ∈ fs
  · exact ⟨fs, by rw [putD_keys, if_pos (by rw [h1, keyN_mem]; exact hin)]; exact h1, h2, h3, val⟩
  · refine ⟨fs ++ [y], by rw [putD_keys, if_neg (by rw [h1, keyN_mem]; exact hin), h1, List.map_append]; rfl, ?_, fun f hf => ?_, val⟩
    · rw [List.nodup_append]
      exact ⟨h2, List.pairwise_singleton .., fun a ha b hb z => hin (by rw [List.mem_singleton.mp hb] at z; rw [← z]; exact ha)⟩
    · rcases List.mem_append.mp hf with hf | hf
      · exact h3 f hf
      · rw [List.mem_singleton.mp hf]; exact hy
end
end VL
namespace K50
open PySem PySem.Spec PyProof.Rows L2 HM VL
abbrev s_l_moved : Stmt := topS 39
theorem sc_l_moved : FnScope ["_law_house_here", "_law_part_here", "_law_share", "_law_firsts", "_law_number", "_law_inner", "_law_k", "_law_first"] ["_law_house_here", "_law_part_here"] (defScope s_l_moved) := ⟨rfl, rfl, rfl, by decide +kernel, rfl, by decide +kernel, by decide +kernel⟩
section
variable {P : Program} {w : World} {K : PySem.W.Frag} {mg : Str → Option Value} {base : Heap} {am : Am} {gd : Around → Prop} {k : Nat}
theorem ok_moved {f : Addr} {fd : FuncData} (F : Fun K "_law_moved" "_law_moved" s_l_moved f fd) (mz : ∀ x ∈ bn, mg x = none) : VFn gd P w K mg base CX0 (k + 1) f fd ["_law_house_here", "_law_part_here"] am spLShares := by
  refine vfn_of F sc_l_moved (fun ds n Q E h => ?_) ⟨_, fun cdv A out s H E F0 H0 hcd hgd hr =>
    (vss_cons (vs_setN (i := 2) sc_l_moved.nd rfl (.inr rfl) vn_dnewK)
      (vss_cons (vs_setN (i := 3) sc_l_moved.nd rfl (.inr rfl) (vn_lst va_nil))
      (vss_cons (vs_for PassesOwn.never rfl (vi_range1 (by rfl) (mz "range" (by decide)) (vb_cons (ve_cbR call_len_seq lft_len (by rfl) (mz "len" (by decide)) PySem.boot_len (vb_rd (pv 0) vb_nil)) vb_nil)) (vg_name (pg_name (i := 4) sc_l_moved.nd rfl (.inl rfl)))
        (vss_one (vs_if (vt_dnotin (hu_of hr) (ve_var (pv 4)) (pv 2))
          (vss_cons (vs_for PassesOwn.never rfl (vi_tup (ve_var (pv 1))) (vg_name (pg_name (i := 5) sc_l_moved.nd rfl (.inl rfl)))
            (vss_one (vs_dput (hu_of hr) (pv 2) (ve_ix ix_list lft_ixL (ve_ixO (pv 0) (ve_var (pv 5)) (fun _ _ => rfl)) (ve_var (pv 4)) (fun _ _ => rfl)) (ve_cbR call_len_seq lft_len (by rfl) (mz "len" (by decide)) PySem.boot_len (vb_rd (pv 3) vb_nil)) rfl)))
          (vss_one (vs_expr (ve_m (pe_bm PySem.F.plainAttrs_list PySem.F.slot_list_append PySem.F.type_list_append mt_append (pv 3) (va_cons (ve_var (pv 4)) va_nil)) lft_append))))
          vss_nil)))
      (vss_one (vs_fz (i := 3) (vs_ret (ve_new (vn_lc (own := [("_law_k", 6)]) rfl sc_l_moved.nd (vi_range1 (by rfl) (mz "range" (by decide)) (vb_cons (ve_cbR call_len_seq lft_len (by rfl) (mz "len" (by decide)) PySem.boot_len (vb_rd (pv 0) vb_nil)) vb_nil)) (blkOk_by (own := [("_law_k", 6)]) (N := ["_law_house_here", "_law_part_here", "_law_share", "_law_firsts", "_law_number", "_law_inner", "_law_k", "_law_first"]) (sc := defScope s_l_moved) (by decide +kernel)) (tg_name (by simp)) (fun _ _ _ _ _ => (pg_name (i := 6) sc_l_moved.nd rfl (.inr rfl))) (fun _ _ _ _ _ _ _ => vts_nil) (fun _ _ _ _ _ _ _ => (ve_new (vn_lc (own := [("_law_first", 7)]) rfl sc_l_moved.nd (vi_list (ve_var (pv 3))) (blkOk_by (own := [("_law_first", 7)]) (by rfl)) (tg_name (by simp)) (fun _ _ _ _ _ => (pg_name (i := 7) sc_l_moved.nd rfl (.inl rfl))) (fun _ _ _ _ _ _ _ => vts_nil) (fun _ _ _ _ _ _ _ => (ve_dget (hu_of hr) (pv 2) (ve_ix ix_list lft_ixL (ve_ixO (pv 0) (ve_var (pv 7)) (fun _ _ => rfl)) (ve_var (pv 6)) (fun _ _ => rfl)) (fun _ _ => rfl)))))))))))))), fun ds t Q E h => ?_⟩
  · obtain ⟨n, m, L, rfl, _⟩ := h
    rfl
  · obtain ⟨n, m, L, rfl, hH, hn, hS, q⟩ := h
    have hlh : ((List.range n).map fun a => rowD n (m a)).length = n := by rw [List.length_map, List.length_range]
    have hL : L.length ≤ 60 := Nat.le_trans (few_of_nodup hS.nd hS.lt) hn
    refine ⟨Nat.zero_le _, ?_⟩
    refine ⟨⟨_, .inl rfl⟩, _, .inl rfl, _, .inl rfl, rfl, _, rfl, ⟨by omega, by rw [hlh]; omega⟩, ?_⟩
    rw [hlh]
    refine ⟨fun j env t' => t' = t ∧ ∃ kvs s4 s5, Dk n (pJ n m L j 0) kvs ∧ env = [.fz (houD n m), .fz (.tup (nsD L)), .ow (.dK kvs), .ow (.lst (nsD (lst m L j))), s4, s5, .no, .no], ⟨rfl, [], .no, .no, by rw [pJ_start]; exact Dk.start, rfl⟩, fun j x env t' hx hP => ?_, fun env t' hP => ?_⟩
    · obtain ⟨rfl, kvs, s4, s5, hD, rfl⟩ := hP
      obtain ⟨rfl, hj⟩ := rngD_get0 hx
      have hj : j < n := by have : j < ((n : Nat) : Int).toNat := hj; omega
      have hval : valD kvs (Sum.inl (j : Int) : Key) = if (if rp m L j < j then ((plc m L j : Nat) : Int) else -1) < 0 then none else some (.int (if rp m L j < j then ((plc m L j : Nat) : Int) else -1)) := by
        obtain ⟨_, _, _, _, h4⟩ := hD
        exact h4 j hj _ (pJ_zero hj)
      have hdl := hD.len
      refine ⟨_, rfl, _, .inl ⟨kvs, .inl ((j : Nat) : Int), rfl, rfl, rfl⟩, _, rfl, iteB (fun e => ?_) (fun e => ?_)⟩
      · have hr : rp m L j = j := by
          have h1 := (rp_le (m := m) j L).1
          rcases Nat.lt_or_ge (rp m L j) j with z | z
          · have e : (!(valD kvs (Sum.inl (j : Int) : Key)).isSome) = true := e
            rw [hval, if_pos z, if_neg (by omega)] at e
            cases e
          · omega
        refine ⟨_, rfl, _, rfl, fun i env t2 => t2 = t' ∧ ∃ kvs s5, Dk n (pJ n m L j i) kvs ∧ env = [.fz (houD n m), .fz (.tup (nsD L)), .ow (.dK kvs), .ow (.lst (nsD (lst m L j))), .fz (nD j), s5, .no, .no], ⟨rfl, kvs, s5, hD, rfl⟩, fun i x env t2 hx hP => ?_, fun env t2 hP => ?_⟩
        · obtain ⟨rfl, kvs, s5, hD, rfl⟩ := hP
          unfold nsD at hx
          rw [List.getElem?_map] at hx
          obtain ⟨x, hx1, rfl⟩ := Option.map_eq_some_iff.mp hx
          have hxn := hS.lt x (List.mem_of_getElem? hx1)
          have hxj := hH.lt x j hxn hj
          have hdl := hD.len
          refine ⟨⟨_, .inr ⟨_, rfl, rfl⟩⟩, _, .inr ⟨_, rfl, rfl⟩, _, .inl rfl, rfl, .inl ⟨_, rfl⟩, ⟨_, .inl rfl⟩, _, rfl, _, _, _, .inl rfl, rfl, hou_at hxn, _, rfl, _, _, _, rfl, rfl, row_at hj, .inl ⟨kvs, .inl ((m x j : Nat) : Int), rfl, rfl, by omega, rfl, putD kvs (.inl ((m x j : Nat) : Int)) (.int (((lst m L j).length : Nat) : Int)), .fz (nD x), ?_, ?_⟩⟩
          · rw [← pJ_set hH hS hj hr hx1]
            exact hD.put hxj (Int.natCast_nonneg _)
          · rw [nsD_len]
            rfl
        · obtain ⟨rfl, kvs, s5, hD, rfl⟩ := hP
          rw [nsD_len, pJ_next hH hS hj hr] at hD
          refine ⟨⟨_, rfl⟩, _, rfl, _, rfl, _, rfl, by rw [nsD_len]; exact Nat.le_trans (List.length_filter_le _ _) (by rw [List.length_range]; omega), rfl, kvs, .fz (nD j), s5, hD, ?_⟩
          rw [lst_succ, if_pos (show isL m L j = true from decide_eq_true hr), ← nsD_app]
          rfl
      · have hr : rp m L j ≠ j := fun z => by
          have e : (!(valD kvs (Sum.inl (j : Int) : Key)).isSome) = false := e
          rw [hval, z, if_neg (Nat.lt_irrefl _), if_pos (by decide)] at e
          cases e
        rw [pJ_skip hH hS hj hr] at hD
        refine ⟨rfl, kvs, .fz (nD j), s5, hD, ?_⟩
        rw [lst_succ, if_neg (by unfold isL; simpa using hr), List.append_nil]
        rfl
    · obtain ⟨rfl, kvs, s4, s5, hD, rfl⟩ := hP
      rw [rngD_len, show ((n : Nat) : Int).toNat = n by omega] at hD ⊢
      have hval : ∀ x, x < n → valD kvs (Sum.inl (x : Int) : Key) = some (nD (plc m L x)) := fun x hx => by
        obtain ⟨_, _, _, _, h4⟩ := hD
        have h1 := (rp_le (m := m) x L).1
        rw [h4 x hx _ (pJ_zero hx), if_pos (show rp m L x < n by omega), if_neg (by omega)]
        rfl
      obtain ⟨ls, els⟩ : ∃ ls, ls = lst m L n := ⟨_, rfl⟩
      rw [← els]
      have hll : ls.length ≤ n := by rw [els]; exact Nat.le_trans (List.length_filter_le _ _) (by rw [List.length_range]; exact Nat.le_refl _)
      refine ⟨_, rfl, ⟨_, .inl rfl⟩, _, .inl rfl, _, .inl rfl, rfl, _, rfl, ⟨by omega, by rw [hlh]; omega⟩, ?_⟩
      rw [hlh]
      refine lc_map (i := 6) (fun g => rowD ls.length fun i => shMv n m L i g) (.head _) (noOw1 (s := .no) rfl no_ow) (by rw [rngD_len]; omega) (fun g x hx R hR => ?_) ?_
      · obtain ⟨rfl, hg⟩ := rngD_get0 hx
        have hg : g < n := by have : g < ((n : Nat) : Int).toNat := hg; omega
        refine ⟨_, rfl, _, rfl, lc_map (i := 7) (fun i => nD (shMv n m L i g)) (.head _) (noOw1 (s := .no) rfl no_ow) (by rw [nsD_len]; omega) (fun i x hx R hR => ?_) ?_⟩
        · unfold nsD at hx
          rw [List.getElem?_map] at hx
          obtain ⟨y, hy, rfl⟩ := Option.map_eq_some_iff.mp hx
          have hi := (List.getElem?_eq_some_iff.mp hy).1
          have ey : shAt n m L i = y := by
            have := shAt_get (n := n) (m := m) (L := L) (i := i) (by rw [← els]; exact hi)
            rw [← els, hy] at this
            exact (Option.some.inj this).symm
          have hyn : y < n := (lst_mem.mp (by rw [← els]; exact List.mem_of_getElem? hy)).1
          have hyg := hH.lt y g hyn hg
          unfold shMv at hR
          rw [ey] at hR
          exact ⟨.inl ⟨_, rfl⟩, ⟨_, .inl rfl⟩, _, rfl, _, _, _, .inl rfl, rfl, hou_at hyn, _, rfl, _, _, _, rfl, rfl, row_at hg, nD (plc m L (m y g)), .inl ⟨kvs, .inl ((m y g : Nat) : Int), rfl, rfl, (hval _ hyg).symm⟩, hR⟩
        · refine ⟨_, rfl, ?_⟩
          have e : (List.range (nsD ls).length).map (fun i => nD (shMv n m L i g)) = nsD ((List.range ls.length).map fun i => shMv n m L i g) := by unfold nsD; rw [List.map_map, List.length_map]; rfl
          rw [e]
          exact hR
      · refine ⟨_, rfl, ?_⟩
        rw [rngD_len, Int.toNat_natCast]
        have := q
        rw [← els] at this
        exact this
end
end K50
namespace K50
open PySem PySem.Spec PyProof.Rows L2 HM VL
abbrev s_l_set : Stmt := topS 40
theorem sc_l_set : FnScope ["_law_pen_here", "_law_house_here", "_law_most", "_law_row", "_law_found", "_law_turn", "_law_rows", "_law_there", "_law_goal", "_law_names", "_law_k"] ["_law_pen_here", "_law_house_here", "_law_most"] (defScope s_l_set) := ⟨rfl, rfl, rfl, by decide +kernel, rfl, by decide +kernel, by decide +kernel⟩
section
variable {P : Program} {w : World} {K : PySem.W.Frag} {mg : Str → Option Value} {base : Heap} {am : Am} {gd : Around → Prop} {k : Nat}
def spSetC (p : Addr) : VSp := fun ds t Q _ => ∃ (n : Nat) (m : Nat → Nat → Nat) (most : Nat), ds = [.obj p, houD n m, nD most] ∧ Hse n m ∧ n ≤ 60 ∧ most ≤ 60 ∧ ∀ (N : Nat) (a : Nat → Nat → Nat), Act n m N a → N ≤ most → Q (setD n N a) t
theorem ok_setC {p f f_l_draw f_l_some_part f_l_moved f_l_order : Addr} {fd fd_l_draw fd_l_some_part fd_l_moved fd_l_order : FuncData} (F : Fun K "_law_set" "_law_set" s_l_set f fd)
    (G_l_draw : VFn anyA P w K mg base CX0 (k + 5) f_l_draw fd_l_draw ["_law_pen_here", "_law_many"] am (spTake p)) (g_l_draw : mg "_law_draw" = some (.ref f_l_draw)) (k_l_draw : PySem.W.keepIn K (.ref f_l_draw) = true) (b_l_draw : Binds K fd_l_draw ["_law_pen_here", "_law_many"] [])
    (G_l_some_part : VFn anyA P w K mg base CX0 (k + 5) f_l_some_part fd_l_some_part ["_law_pen_here", "_law_house_here"] am (spSomePart p)) (g_l_some_part : mg "_law_some_part" = some (.ref f_l_some_part)) (k_l_some_part : PySem.W.keepIn K (.ref f_l_some_part) = true) (b_l_some_part : Binds K fd_l_some_part ["_law_pen_here", "_law_house_here"] [])
    (G_l_moved : VFn anyA P w K mg base CX0 (k + 5) f_l_moved fd_l_moved ["_law_house_here", "_law_part_here"] am spLShares) (g_l_moved : mg "_law_moved" = some (.ref f_l_moved)) (k_l_moved : PySem.W.keepIn K (.ref f_l_moved) = true) (b_l_moved : Binds K fd_l_moved ["_law_house_here", "_law_part_here"] [])
    (G_l_order : VFn anyA P w K mg base CX0 (k + 5) f_l_order fd_l_order ["_law_pen_here", "_law_many"] am (spOrder p)) (g_l_order : mg "_law_order" = some (.ref f_l_order)) (k_l_order : PySem.W.keepIn K (.ref f_l_order) = true) (b_l_order : Binds K fd_l_order ["_law_pen_here", "_law_many"] [])
    (mz : ∀ x ∈ bn, mg x = none) : VFn gd P w K mg base CX0 (k + 6) f fd ["_law_pen_here", "_law_house_here", "_law_most"] am (spSetC p) := by
  refine vfn_of F sc_l_set (fun ds n Q E h => ?_) ⟨_, fun cdv A out s H E F0 H0 hcd hgd hr =>
    (vss_cons (vs_setLcF (i := 4) (own := [("_law_row", 3)]) rfl sc_l_set.nd rfl rfl (sw_true rfl rfl rfl (by decide +kernel)) (vi_list (ve_var (pv 1))) (blkOk_by (own := [("_law_row", 3)]) (N := ["_law_pen_here", "_law_house_here", "_law_most", "_law_row", "_law_found", "_law_turn", "_law_rows", "_law_there", "_law_goal", "_law_names", "_law_k"]) (sc := defScope s_l_set) (by decide +kernel)) (tg_name (by simp)) (fun _ _ _ _ _ => (pg_name (i := 3) sc_l_set.nd rfl (.inl rfl))) (fun _ _ _ _ _ _ _ => vts_nil) (fun _ _ _ _ _ _ _ => (ve_new (vn_lst va_nil))))
      (vss_cons (vs_for PassesOwn.never rfl (vi_range1 (by rfl) (mz "range" (by decide)) (vb_cons (ve_call G_l_draw trivial (hr.mono (by omega)) (by rfl) g_l_draw k_l_draw b_l_draw pass0 (va_cons (ve_var (pv 0)) (va_cons ve_int va_nil))) vb_nil)) (vg_name (pg_name (i := 5) sc_l_set.nd rfl (.inl rfl)))
        (vss_cons (vs_set (i := 6) sc_l_set.nd rfl (.inl rfl) (ve_call G_l_moved trivial (hr.mono (by omega)) (by rfl) g_l_moved k_l_moved b_l_moved pass0 (va_cons (ve_var (pv 1)) (va_cons (ve_call G_l_some_part trivial (hr.mono (by omega)) (by rfl) g_l_some_part k_l_some_part b_l_some_part pass0 (va_cons (ve_var (pv 0)) (va_cons (ve_var (pv 1)) va_nil))) va_nil))))
        (vss_one (vs_if (vt_cmp op_le lft_B0 (ve_op op_add lft_I0 (ve_cbR call_len_seq lft_len (by rfl) (mz "len" (by decide)) PySem.boot_len (vb_cons (ve_ixO (pv 4) ve_int (fun _ _ => rfl)) vb_nil)) (ve_cbR call_len_seq lft_len (by rfl) (mz "len" (by decide)) PySem.boot_len (vb_cons (ve_ixO (pv 6) ve_int (fun _ _ => rfl)) vb_nil))) (ve_var (pv 2)) (nomark _))
          (vss_one (vs_setLcF (i := 4) (own := [("_law_row", 3), ("_law_there", 7)]) rfl sc_l_set.nd rfl rfl (sw_true rfl rfl rfl (by decide +kernel)) (vi_zip (by rfl) (mz "zip" (by decide)) (va_cons (ve_var (pv 4)) (va_cons (ve_var (pv 6)) va_nil))) (blkOk_by (own := [("_law_row", 3), ("_law_there", 7)]) (N := ["_law_pen_here", "_law_house_here", "_law_most", "_law_row", "_law_found", "_law_turn", "_law_rows", "_law_there", "_law_goal", "_law_names", "_law_k"]) (sc := defScope s_l_set) (by decide +kernel)) (tg_two (by simp) (by simp)) (fun _ _ _ _ _ => pg_tup rfl (pgs_cons (pg_name (i := 3) sc_l_set.nd rfl (.inr rfl)) (pgs_cons (pg_name (i := 7) sc_l_set.nd rfl (.inl rfl)) pgs_nil))) (fun _ _ _ _ _ _ _ => vts_nil) (fun _ _ _ _ _ _ _ => (ve_new (vn_op op_cat lft_cat (ve_var (pv 3)) (ve_new (vn_lc (own := [("_law_goal", 8)]) rfl sc_l_set.nd (vi_list (ve_var (pv 7))) (blkOk_by (own := [("_law_goal", 8)]) (by rfl)) (tg_name (by simp)) (fun _ _ _ _ _ => (pg_name (i := 8) sc_l_set.nd rfl (.inl rfl))) (fun _ _ _ _ _ _ _ => vts_nil) (fun _ _ _ _ _ _ _ => (ve_op op_add lft_I0 (ve_cbR call_len_seq lft_len (by rfl) (mz "len" (by decide)) PySem.boot_len (vb_rd (pv 3) vb_nil)) (ve_var (pv 8)))))))))))
          vss_nil))))
      (vss_cons (vs_set (i := 9) sc_l_set.nd rfl (.inr rfl) (ve_call G_l_order trivial (hr.mono (by omega)) (by rfl) g_l_order k_l_order b_l_order pass0 (va_cons (ve_var (pv 0)) (va_cons (ve_cbR call_len_seq lft_len (by rfl) (mz "len" (by decide)) PySem.boot_len (vb_cons (ve_ixO (pv 4) ve_int (fun _ _ => rfl)) vb_nil)) va_nil))))
      (vss_one (vs_ret (ve_new (vn_lc (own := [("_law_row", 3)]) rfl sc_l_set.nd (vi_list (ve_var (pv 4))) (blkOk_by (own := [("_law_row", 3)]) (N := ["_law_pen_here", "_law_house_here", "_law_most", "_law_row", "_law_found", "_law_turn", "_law_rows", "_law_there", "_law_goal", "_law_names", "_law_k"]) (sc := defScope s_l_set) (by decide +kernel)) (tg_name (by simp)) (fun _ _ _ _ _ => (pg_name (i := 3) sc_l_set.nd rfl (.inr rfl))) (fun _ _ _ _ _ _ _ => vts_nil) (fun _ _ _ _ _ _ _ => (ve_new (vn_lc (own := [("_law_k", 10)]) rfl sc_l_set.nd (vi_range1 (by rfl) (mz "range" (by decide)) (vb_cons (ve_cbR call_len_seq lft_len (by rfl) (mz "len" (by decide)) PySem.boot_len (vb_rd (pv 9) vb_nil)) vb_nil)) (blkOk_by (own := [("_law_k", 10)]) (by rfl)) (tg_name (by simp)) (fun _ _ _ _ _ => (pg_name (i := 10) sc_l_set.nd rfl (.inl rfl))) (fun _ _ _ _ _ _ _ => vts_nil) (fun _ _ _ _ _ _ _ => (ve_ixO (pv 9) (ve_ixO (pv 3) (ve_indexO (pv 9) (ve_var (pv 10))) (fun _ _ => rfl)) (fun _ _ => rfl))))))))))))), fun ds t Q E h => ?_⟩
  · obtain ⟨n, m, most, rfl, _⟩ := h
    rfl
  · obtain ⟨n, m, most, rfl, hH, hn, hm60, q⟩ := h
    have hp0 := hH.pos
    have hlh : ((List.range n).map fun a => rowD n (m a)).length = n := by rw [List.length_map, List.length_range]
    have hat : ∀ {N : Nat} {a : Nat → Nat → Nat}, atI ((List.range n).map fun g => rowD N fun x => a x g) 0 = some (rowD N fun x => a x 0) := fun {N a} => atI_nat (j := 0) (by rw [List.getElem?_map, List.getElem?_range hp0]; rfl)
    have hrl : ∀ {N : Nat} {f : Nat → Nat}, (nsD ((List.range N).map f)).length = N := fun {N f} => by rw [nsD_len, List.length_map, List.length_range]
    refine ⟨_, rfl, _, rfl, lc_map (i := 3) (fun _ => .lst []) (.head _) (noOw1 (s := .no) rfl no_ow) (by rw [hlh]; omega) (fun j d hd R hR => ⟨Nat.zero_le _, _, rfl, hR⟩) ?_⟩
    rw [hlh]
    refine ⟨_, rfl, ?_⟩
    refine ⟨_, rfl, 6, rfl, by decide, by decide, fun r hr => ⟨_, rfl, ⟨by omega, by omega⟩, fun i env t' => t' = t ∧ ∃ N a s5 s6, Act n m N a ∧ N ≤ most ∧ env = [.fz (.obj p), .fz (houD n m), .fz (nD most), .no, .fz (setD n N a), s5, s6, .no, .no, .no, .no], ⟨rfl, 0, fun _ _ => 0, .no, .no, act_none, Nat.zero_le _, rfl⟩, fun i d env t' hd hP => ?_, fun env t' hP => ?_⟩⟩
    · obtain ⟨rfl, N, a, s5, s6, hA, hN, rfl⟩ := hP
      obtain ⟨rfl, _⟩ := rngD_get0 hd
      refine ⟨_, rfl, _, rfl, _, rfl, n, m, rfl, hH, hn, fun L hS => ⟨n, m, L, rfl, hH, hn, hS, ?_⟩⟩
      have hB := act_sh hH hS
      obtain ⟨N2, hN2⟩ : ∃ N2, N2 = (lst m L n).length := ⟨_, rfl⟩
      obtain ⟨b, hb⟩ : ∃ b, b = shMv n m L := ⟨_, rfl⟩
      rw [← hN2, ← hb] at hB ⊢
      have hN2l : N2 ≤ 60 := by rw [hN2]; exact Nat.le_trans (List.length_filter_le _ _) (by rw [List.length_range]; exact hn)
      refine ⟨⟨_, .inl rfl⟩, _, _, _, .inl rfl, rfl, hat, _, .inl rfl, rfl, ⟨_, .inl rfl⟩, _, _, _, .inl rfl, rfl, hat, _, .inl rfl, rfl, _, _, rfl, rfl, _, rfl, _, _, rfl, rfl, _, rfl, iteB (fun e => ?_) (fun e => ⟨rfl, N, a, _, _, hA, hN, rfl⟩)⟩
      rw [hrl, hrl] at e
      have e : ((N : Nat) : Int) + ((N2 : Nat) : Int) ≤ ((most : Nat) : Int) := of_decide_eq_true e
      have hzl : (zipD ((List.range n).map fun g => rowD N fun x => a x g) ((List.range n).map fun g => rowD N2 fun x => b x g)).length = n := by rw [zipD_len, List.length_map, List.length_map, List.length_range, Nat.min_self]
      refine ⟨_, rfl, _, rfl, _, _, .inr rfl, lc_map2 (i := 3) (i2 := 7) (fun g => rowD (N + N2) fun x => besM N a b x g) (.head _) (.tail _ (.head _)) (noOw2 (s := .no) (s2 := .no) rfl rfl no_ow no_ow) (by rw [hzl]; omega) (fun g d hd => ?_) ?_⟩
      · obtain ⟨u, v, hu, hv, rfl⟩ := zipD_get hd
        obtain ⟨hg, rfl⟩ := rows_get hu
        obtain ⟨_, rfl⟩ := rows_get hv
        refine ⟨_, _, rfl, fun R hR => ⟨_, rfl, _, rfl, _, rfl, lc_map (i := 8) (fun x => nD (N + b x g)) (.head _) (noOw1 (s := .no) rfl no_ow) (by rw [hrl]; omega) (fun x d hx R hR => ?_) ?_⟩⟩
        · obtain ⟨hx2, rfl⟩ := row_get hx
          refine ⟨⟨_, .inl rfl⟩, _, .inl rfl, _, .inl rfl, rfl, _, rfl, _, _, rfl, rfl, ?_⟩
          rw [hrl]
          exact Eq.mpr (congrArg (fun z => R (Dt.int z) _ t') (show ((N : Nat) : Int) + ((b x g : Nat) : Int) = ((N + b x g : Nat) : Int) by omega)) hR
        · rw [hrl]
          refine ⟨_, rfl, _, _, rfl, rfl, by rw [hrl, List.length_map, List.length_range]; omega, _, rfl, ?_⟩
          have e : nsD ((List.range N).map fun x => a x g) ++ (List.range N2).map (fun x => nD (N + b x g)) = nsD ((List.range (N + N2)).map fun x => besM N a b x g) := by
            have h1 := rowI_bes N N2 a b g
            have h2 := congrArg (List.map Dt.int) h1
            rw [rowI_D, List.map_append, rowI_D, List.map_map] at h2
            exact h2.symm
          rw [e]
          exact hR
      · rw [hzl]
        exact ⟨_, rfl, rfl, N + N2, besM N a b, _, _, act_bes hA hB, by omega, rfl⟩
    · obtain ⟨rfl, N, a, s5, s6, hA, hN, rfl⟩ := hP
      refine ⟨_, rfl, ⟨_, .inl rfl⟩, _, _, _, .inl rfl, rfl, hat, _, .inl rfl, rfl, N, by rw [hrl]; rfl, by omega, fun o ho => ?_⟩
      have hsl : ((List.range n).map fun g => rowD N fun x => a x g).length = n := by rw [List.length_map, List.length_range]
      refine ⟨_, rfl, _, rfl, lc_map (i := 3) (fun g => rowD N fun y => anM o a y g) (.head _) (noOw1 (s := .no) rfl no_ow) (by rw [hsl]; omega) (fun g d hd R hR => ?_) ?_⟩
      · obtain ⟨hg, rfl⟩ := rows_get hd
        refine ⟨⟨_, .inl rfl⟩, _, .inl rfl, _, .inl rfl, rfl, _, rfl, ⟨by rw [nsD_len, ho.len]; omega, by rw [nsD_len, ho.len]; omega⟩, lc_map (i := 10) (fun y => nD (anM o a y g)) (.head _) (noOw1 (s := .no) rfl no_ow) (by rw [rngD_len, nsD_len, ho.len]; omega) (fun y d hd2 R hR => ?_) ?_⟩
        · obtain ⟨rfl, hk2⟩ := rngD_get0 hd2
          have hk : y < N := by rw [nsD_len, ho.len] at hk2; have : y < ((N : Nat) : Int).toNat := hk2; omega
          have hi := List.idxOf_lt_length_of_mem (ho.all hk)
          have hi2 : o.idxOf y < N := by rwa [ho.len] at hi
          refine ⟨⟨_, .inl rfl⟩, ⟨_, .inl rfl⟩, ⟨_, .inl rfl⟩, _, rfl, o.map (fun i : Nat => (i : Int)), ((y : Nat) : Int), o.idxOf y, .inl (by rw [← nsD_ints]; rfl), rfl, ?_, fun j z hj hz => ?_, _, _, _, .inl rfl, rfl, row_at hi2, _, _, _, .inl rfl, rfl, nsD_tA (by rw [ho.len]; exact hA.lt _ g hi2 hg), hR⟩
          · rw [List.getElem?_map, List.getElem?_eq_getElem hi, List.getElem_idxOf]
            rfl
          · rw [List.getElem?_map] at hz
            obtain ⟨x, hx, rfl⟩ := Option.map_eq_some_iff.mp hz
            intro e9
            have e8 : x = y := by omega
            subst e8
            obtain ⟨hjl, ey⟩ := List.getElem?_eq_some_iff.mp hx
            have h9 : (o[j]'hjl == x) = false := List.not_of_lt_findIdx (p := (· == x)) hj
            rw [beq_eq_false_iff_ne] at h9
            exact h9 ey
        · rw [rngD_len, nsD_len, ho.len, Int.toNat_natCast, show (List.range N).map (fun y => nD (anM o a y g)) = nsD ((List.range N).map fun y => anM o a y g) by unfold nsD; rw [List.map_map]; rfl]
          exact ⟨_, rfl, hR⟩
      · rw [hsl]
        exact ⟨_, rfl, q N (anM o a) (act_an hA ho) hN⟩
end
end K50
namespace VL
open PySem PySem.Spec PyProof.Rows L2 HM
def vAugC (i : Nat) (C : Int → Int → Prop) (g : Int → Int → Int) (te : VTE) : VTS := fun V env n => ∃ x, env[i]? = some (.fz (.int x)) ∧ te env n fun d env1 n1 => ∃ y, d = .int y ∧ C x y ∧ V.nx (env1.set i (.fz (.int (g x y)))) n1
section
variable {X : Cx} {c : Fc} {te : VTE} {e : Expr} {pos : Pos}
theorem vs_augC {i : Nat} {x : Str} {op : Operator} {C : Int → Int → Prop} {g : Int → Int → Int} {pos' : Pos} (hN : X.N.Nodup) (hi : X.N[i]? = some x) (hx : Loc X.env.scope x) (he : PE X e (tOf c te)) (ho : PIp X op (rI C fun i j => .int (g i j))) (hf : X.fn x = true ∨ X.env.scope.names.lookup x = some .local := by first | exact .inl rfl | exact .inr rfl | assumption) :
    PS X (.AugAssign (.Name x pos') op e pos) (sOf c (vAugC i C g te)) := PS.imp (ps_aug hN hi hx he ho hf) fun D σ H ⟨F, env, n, V, r, ⟨x, ex, q⟩, k⟩ => by
  obtain ⟨v, e2, rp⟩ := r.sl i _ ex
  rw [rp.int_inv] at e2
  refine ⟨_, e2, F, env, n, _, r, q, fun v H' F' d env' n' r' w rp qd => ?_⟩
  obtain ⟨y, rfl, hC, qd⟩ := qd
  exact ⟨_, _, rfl, rp.int_inv, hC, k.nx F' H' _ _ n' (r'.setF (.int _)) w qd⟩
theorem ip_mulW : PIp X .Mult (rI CMulW fun i j => .int (i * j)) := by
  intro pins s σ H x y v u Q I r1 r2 h
  obtain ⟨i, j, e1, e2, hc, q⟩ := h
  subst e1; subst e2
  obtain ⟨t, rfl⟩ := r1
  obtain ⟨t', rfl⟩ := r2
  exact imul_int ⟨.int _, H, I.tok _, ⟨_, rfl⟩, q⟩ hc.ok
theorem ip_fdivC : PIp X .FloorDiv (rI CDiv fun i j => .int (i / j)) := iop_fdiv
end
theorem pow_abs {b : Int} {k : Nat} (hb : b.natAbs < 2 ^ k) : ∀ e : Nat, (b ^ e).natAbs < 2 ^ (k * e + 1)
  | 0 => by rw [Int.pow_zero]; exact Nat.one_lt_two_pow (by omega)
  | e + 1 => by
    rw [Int.pow_succ]
    have := wide_lt (pow_abs hb e) hb
    rwa [show k * e + 1 + k = k * (e + 1) + 1 by rw [Nat.mul_succ]; omega] at this
end VL
namespace K50
open PySem PySem.Spec PyProof.Rows L2 HM VL
abbrev s_power : Stmt := topS 6
theorem sc_power : FnScope ["base", "times", "told", "square", "left"] ["base", "times"] (defScope s_power) := ⟨rfl, rfl, rfl, by decide +kernel, rfl, by decide +kernel, by decide +kernel⟩
abbrev s_l_often : Stmt := topS 42
theorem sc_l_often : FnScope ["_law_number", "_law_many", "_law_found", "_law_k"] ["_law_number", "_law_many"] (defScope s_l_often) := ⟨rfl, rfl, rfl, by decide +kernel, rfl, by decide +kernel, by decide +kernel⟩
section
variable {P : Program} {w : World} {K : PySem.W.Frag} {mg : Str → Option Value} {base : Heap} {am : Am} {gd : Around → Prop} {k : Nat}
def spPower : VSp := fun ds t Q _ => ∃ (b : Int) (e : Nat), ds = [.int b, nD e] ∧ b.natAbs ≤ 10 ^ 30 ∧ e ≤ 60 ∧ Q (.int (b ^ e)) t
theorem ok_power {f : Addr} {fd : FuncData} (F : Fun K "power" "power" s_power f fd) (mz : ∀ x ∈ bn, mg x = none) : VFn gd P w K mg base CX0 (k + 1) f fd ["base", "times"] am spPower := by
  refine vfn_of F sc_power (fun ds n Q E h => ?_) ⟨_, fun cdv A out s H E F0 H0 hcd hgd hr =>
    (vss_cons (vs_set (i := 2) sc_power.nd rfl (.inl rfl) ve_int)
      (vss_cons (vs_set (i := 3) sc_power.nd rfl (.inl rfl) (ve_var (pv 0)))
      (vss_cons (vs_set (i := 4) sc_power.nd rfl (.inl rfl) (ve_var (pv 1)))
      (vss_cons (vs_while PassesOwn.never (vt_cmp op_gt lft_B0 (ve_var (pv 4)) ve_int (nomark _))
        (vss_cons (vs_if (vt_cmp op_eq lft_eq (ve_op op_mod lft_I (ve_var (pv 4)) ve_int) ve_int (nomark _))
          (vss_one (vs_augC (i := 2) sc_power.nd rfl (.inl rfl) (ve_var (pv 3)) ip_mulW))
          vss_nil)
        (vss_cons (vs_augC (i := 4) sc_power.nd rfl (.inl rfl) ve_int ip_fdivC)
        (vss_one (vs_if (vt_cmp op_gt lft_B0 (ve_var (pv 4)) ve_int (nomark _))
          (vss_one (vs_augC (i := 3) sc_power.nd rfl (.inl rfl) (ve_var (pv 3)) ip_mulW))
          vss_nil)))))
      (vss_one (vs_ret (ve_var (pv 2)))))))), fun ds t Q E h => ?_⟩
  · obtain ⟨b, e, rfl, _⟩ := h
    rfl
  · obtain ⟨b, e, rfl, hb, he, q⟩ := h
    have hb2 : b.natAbs < 2 ^ 100 := by omega
    have hmul : ∀ u s : Nat, u ≤ 60 → s ≤ 60 → CMulW (b ^ u) (b ^ s) := fun u s hu hs => wide_mul (pow_abs hb2 u) (pow_abs hb2 s) (by omega) (by omega) (by omega)
    refine ⟨_, rfl, _, rfl, fun mm env t' => t' = t ∧ ∃ u s l : Nat, mm = l ∧ u + s * l = e ∧ (0 < l → s ≤ e) ∧ env = [.fz (.int b), .fz (nD e), .fz (.int (b ^ u)), .fz (.int (b ^ s)), .fz (nD l)], ⟨e, rfl, 0, 1, e, rfl, by omega, fun h => h, by rw [Int.pow_zero, Int.pow_succ, Int.pow_zero, Int.one_mul]; rfl⟩, fun mm env t' hW => ?_⟩
    obtain ⟨rfl, u, s, l, rfl, hs, hle, rfl⟩ := hW
    refine ⟨_, rfl, _, _, rfl, rfl, _, rfl, iteB (fun h => ?_) (fun h => ?_)⟩
    · have h0 : 0 < mm := by have : (0 : Int) < ((mm : Nat) : Int) := of_decide_eq_true h; omega
      have hse := hle h0
      have hl : s * mm = (s + s) * (mm / 2) + s * (mm % 2) := by
        rw [← Nat.two_mul, Nat.mul_comm 2 s, Nat.mul_assoc, ← Nat.mul_add, Nat.div_add_mod]
      refine vcut (fun env t2 => t2 = t' ∧ env = [.fz (.int b), .fz (nD e), .fz (.int (b ^ (u + s * (mm % 2)))), .fz (.int (b ^ s)), .fz (nD mm)]) (fun M hM => ?_) (fun env t2 hP => ?_)
      · refine ⟨_, rfl, _, _, rfl, rfl, (by show (0 : Int) < 2; decide), .inl ⟨_, _, rfl, rfl, _, rfl, iteB (fun h2 => ?_) (fun h2 => ?_)⟩⟩
        · have h2 : ((mm : Nat) : Int) % 2 = 1 := of_decide_eq_true h2
          refine ⟨_, rfl, _, rfl, _, rfl, hmul u s (by omega) (by omega), hM _ _ ⟨rfl, ?_⟩⟩
          rw [show mm % 2 = 1 by omega, Nat.mul_one, Int.pow_add]
          try rfl
        · have h2 : ¬ ((mm : Nat) : Int) % 2 = 1 := of_decide_eq_false h2
          refine hM _ _ ⟨rfl, ?_⟩
          rw [show mm % 2 = 0 by omega, Nat.mul_zero, Nat.add_zero]
          try rfl
      obtain ⟨rfl, rfl⟩ := hP
      have hdv : Dt.int (((mm : Nat) : Int) / 2) = nD (mm / 2) := congrArg Dt.int (by omega)
      refine ⟨_, rfl, _, rfl, ⟨by decide, by decide⟩, ?_⟩
      dsimp only
      rw [show ∀ a : Int, (HDiv.hDiv a 2 : Int) = a / 2 from fun _ => rfl, hdv]
      refine ⟨_, rfl, _, _, rfl, rfl, _, rfl, iteB (fun h3 => ?_) (fun h3 => ?_)⟩
      · have h3 : 0 < mm / 2 := by have : (0 : Int) < ((mm / 2 : Nat) : Int) := of_decide_eq_true h3; omega
        have hs2 : s + s ≤ (s + s) * (mm / 2) := Nat.le_mul_of_pos_right _ h3
        refine ⟨_, rfl, _, rfl, _, rfl, hmul s s (by omega) (by omega), mm / 2, by omega, rfl, u + s * (mm % 2), s + s, mm / 2, rfl, by omega, fun _ => by omega, ?_⟩
        rw [Int.pow_add b s s]
        rfl
      · have h3 : mm / 2 = 0 := by have : ¬ (0 : Int) < ((mm / 2 : Nat) : Int) := of_decide_eq_false h3; omega
        refine ⟨mm / 2, by omega, rfl, u + s * (mm % 2), s, mm / 2, rfl, ?_, fun z => by omega, rfl⟩
        rw [h3] at hl ⊢
        omega
    · have h0 : mm = 0 := by have : ¬ (0 : Int) < ((mm : Nat) : Int) := of_decide_eq_false h; omega
      subst h0
      refine ⟨_, rfl, ?_⟩
      rw [show u = e by omega]
      exact q
theorem ok_often {f : Addr} {fd : FuncData} (F : Fun K "_law_often" "_law_often" s_l_often f fd) (mz : ∀ x ∈ bn, mg x = none) : VFn gd P w K mg base CX0 (k + 1) f fd ["_law_number", "_law_many"] am spPower := by
  refine vfn_of F sc_l_often (fun ds n Q E h => ?_) ⟨_, fun cdv A out s H E F0 H0 hcd hgd hr =>
    (vss_cons (vs_set (i := 2) sc_l_often.nd rfl (.inl rfl) ve_int)
      (vss_cons (vs_for PassesOwn.never rfl (vi_range1 (by rfl) (mz "range" (by decide)) (vb_cons (ve_var (pv 1)) vb_nil)) (vg_name (pg_name (i := 3) sc_l_often.nd rfl (.inl rfl)))
        (vss_one (vs_set (i := 2) sc_l_often.nd rfl (.inl rfl) (ve_op op_mulW lft_I (ve_var (pv 2)) (ve_var (pv 0))))))
      (vss_one (vs_ret (ve_var (pv 2)))))), fun ds t Q E h => ?_⟩
  · obtain ⟨b, e, rfl, _⟩ := h
    rfl
  · obtain ⟨b, e, rfl, hb, he, q⟩ := h
    have hb2 : b.natAbs < 2 ^ 100 := by omega
    refine ⟨_, rfl, _, rfl, ⟨by omega, by omega⟩, fun i env t' => t' = t ∧ ∃ s3, env = [.fz (.int b), .fz (nD e), .fz (.int (b ^ i)), s3], ⟨rfl, .no, by rw [Int.pow_zero]; rfl⟩, fun i d env t' hd hP => ?_, fun env t' hP => ?_⟩
    · obtain ⟨rfl, s3, rfl⟩ := hP
      obtain ⟨rfl, hi⟩ := rngD_get0 hd
      have hi : i < e := by have : i < ((e : Nat) : Int).toNat := hi; omega
      refine ⟨_, rfl, _, rfl, _, _, rfl, rfl, wide_mul (pow_abs hb2 i) hb2 (by omega) (by omega) (by omega), rfl, .fz (nD i), ?_⟩
      rw [Int.pow_succ]
      rfl
    · obtain ⟨rfl, s3, rfl⟩ := hP
      rw [rngD_len, Int.toNat_natCast]
      exact ⟨_, rfl, q⟩
end
end K50
namespace K50
open PySem PySem.Spec PyProof.Rows L2 HM VL
abbrev s_shares : Stmt := topS 12
theorem sc_shares : FnScope ["house", "part", "least", "places", "number", "inner"] ["house", "part"] (defScope s_shares) := ⟨rfl, rfl, rfl, by decide +kernel, rfl, by decide +kernel, by decide +kernel⟩
section
variable {P : Program} {w : World} {K : PySem.W.Frag} {mg : Str → Option Value} {base : Heap} {am : Am} {gd : Around → Prop} {k : Nat}
theorem ok_shares {f : Addr} {fd : FuncData} (F : Fun K "shares" "shares" s_shares f fd) (mz : ∀ x ∈ bn, mg x = none) : VFn gd P w K mg base CX0 (k + 1) f fd ["house", "part"] am spShares := by
  refine vfn_of F sc_shares (fun ds n Q E h => ?_) ⟨_, fun cdv A out s H E F0 H0 hcd hgd hr =>
    (vss_cons (vs_setN (i := 2) sc_shares.nd rfl (.inl rfl) (vn_lst va_nil))
      (vss_cons (vs_setN (i := 3) sc_shares.nd rfl (.inl rfl) (vn_op op_rep lft_rep (ve_new (vn_lst (va_cons (ve_neg ve_int) va_nil))) (ve_cbR call_len_seq lft_len (by rfl) (mz "len" (by decide)) PySem.boot_len (vb_rd (pv 0) vb_nil))))
      (vss_cons (vs_for PassesOwn.never rfl (vi_range1 (by rfl) (mz "range" (by decide)) (vb_cons (ve_cbR call_len_seq lft_len (by rfl) (mz "len" (by decide)) PySem.boot_len (vb_rd (pv 0) vb_nil)) vb_nil)) (vg_name (pg_name (i := 4) sc_shares.nd rfl (.inl rfl)))
        (vss_one (vs_if (vt_cmp op_eq lft_eq (ve_ixO (pv 3) (ve_var (pv 4)) (fun _ _ => rfl)) (ve_neg ve_int) (nomark _))
          (vss_cons (vs_for PassesOwn.never rfl (vi_tup (ve_var (pv 1))) (vg_name (pg_name (i := 5) sc_shares.nd rfl (.inl rfl)))
            (vss_one (vs_setIx (pv 3) (ve_ix ix_list lft_ixL (ve_ixO (pv 0) (ve_var (pv 5)) (fun _ _ => rfl)) (ve_var (pv 4)) (fun _ _ => rfl)) (ve_cbR call_len_seq lft_len (by rfl) (mz "len" (by decide)) PySem.boot_len (vb_rd (pv 2) vb_nil)))))
          (vss_one (vs_expr (ve_m (pe_bm PySem.F.plainAttrs_list PySem.F.slot_list_append PySem.F.type_list_append mt_append (pv 2) (va_cons (ve_var (pv 4)) va_nil)) lft_append))))
          vss_nil)))
      (vss_one (vs_ret (ve_tup (va_cons (ve_mv (pv 2)) (va_cons (ve_mv (pv 3)) va_nil)))))))), fun ds t Q E h => ?_⟩
  · obtain ⟨n, m, L, rfl, _⟩ := h
    rfl
  · obtain ⟨n, m, L, rfl, hH, hn, hS, q⟩ := h
    have hlh : ((List.range n).map fun a => rowD n (m a)).length = n := by rw [List.length_map, List.length_range]
    have hL : L.length ≤ 60 := Nat.le_trans (few_of_nodup hS.nd hS.lt) hn
    refine ⟨Nat.zero_le _, _, rfl, (by decide : 1 ≤ 5000), _, rfl, ⟨_, .inl rfl⟩, _, .inl rfl, _, .inl rfl, rfl, _, n, rfl, by rw [hlh], by omega, by show 1 * n ≤ 5000; omega, ?_⟩
    rw [rep_m1, ← pJ_start (m := m) (P := L)]
    refine ⟨⟨_, .inl rfl⟩, _, .inl rfl, _, .inl rfl, rfl, _, rfl, ⟨by omega, by rw [hlh]; omega⟩, ?_⟩
    rw [hlh]
    refine ⟨fun j env t' => t' = t ∧ ∃ s4 s5, env = [.fz (houD n m), .fz (.tup (nsD L)), .ow (.lst (nsD (lst m L j))), .ow (.lst ((pJ n m L j 0).map Dt.int)), s4, s5], ⟨rfl, .no, .no, rfl⟩, fun j x env t' hx hP => ?_, fun env t' hP => ?_⟩
    · obtain ⟨rfl, s4, s5, rfl⟩ := hP
      obtain ⟨rfl, hj⟩ := rngD_get0 hx
      have hj : j < n := by have : j < ((n : Nat) : Int).toNat := hj; omega
      have hget : atI ((pJ n m L j 0).map Dt.int) (j : Int) = some (.int (if rp m L j < j then ((plc m L j : Nat) : Int) else -1)) := atI_nat (by rw [List.getElem?_map, pJ_zero hj]; rfl)
      refine ⟨⟨_, .inr ⟨_, rfl, rfl⟩⟩, _, rfl, _, _, _, .inr ⟨_, rfl, rfl⟩, rfl, hget, _, rfl, .inl ⟨_, _, rfl, rfl, _, rfl, iteB (fun e => ?_) (fun e => ?_)⟩⟩
      · have e := of_decide_eq_true e
        have hr : rp m L j = j := by
          have h1 := (rp_le (m := m) j L).1
          rcases Nat.lt_or_ge (rp m L j) j with z | z
          · rw [if_pos z] at e; omega
          · omega
        refine ⟨_, rfl, _, rfl, fun i env t2 => t2 = t' ∧ ∃ s5, env = [.fz (houD n m), .fz (.tup (nsD L)), .ow (.lst (nsD (lst m L j))), .ow (.lst ((pJ n m L j i).map Dt.int)), .fz (nD j), s5], ⟨rfl, s5, rfl⟩, fun i x env t2 hx hP => ?_, fun env t2 hP => ?_⟩
        · obtain ⟨rfl, s5, rfl⟩ := hP
          unfold nsD at hx
          rw [List.getElem?_map] at hx
          obtain ⟨x, hx1, rfl⟩ := Option.map_eq_some_iff.mp hx
          have hxn := hS.lt x (List.mem_of_getElem? hx1)
          have hxj := hH.lt x j hxn hj
          refine ⟨⟨_, .inr ⟨_, rfl, rfl⟩⟩, _, .inr ⟨_, rfl, rfl⟩, _, .inl rfl, rfl, ⟨_, rfl⟩, ⟨_, .inl rfl⟩, _, rfl, _, _, _, .inl rfl, rfl, hou_at hxn, _, rfl, _, _, _, rfl, rfl, row_at hj, _, m x j, rfl, rfl, by rw [List.length_map, pJ_len]; exact hxj, rfl, .fz (nD x), ?_⟩
          rw [← pJ_set hH hS hj hr hx1, List.map_set, nsD_len]
          rfl
        · obtain ⟨rfl, s5, rfl⟩ := hP
          rw [nsD_len, pJ_next hH hS hj hr]
          refine ⟨⟨_, rfl⟩, _, rfl, _, rfl, _, rfl, by rw [nsD_len]; exact Nat.le_trans (List.length_filter_le _ _) (by rw [List.length_range]; omega), rfl, .fz (nD j), s5, ?_⟩
          rw [lst_succ, if_pos (show isL m L j = true from decide_eq_true hr), ← nsD_app]
          rfl
      · have e := of_decide_eq_false e
        have hr : rp m L j ≠ j := fun z => e (by rw [z, if_neg (Nat.lt_irrefl _)])
        refine ⟨rfl, .fz (nD j), s5, ?_⟩
        rw [lst_succ, if_neg (by unfold isL; simpa using hr), List.append_nil, ← pJ_skip hH hS hj hr]
        rfl
    · obtain ⟨rfl, s4, s5, rfl⟩ := hP
      rw [rngD_len, show ((n : Nat) : Int).toNat = n by omega, pJ_end hH hS]
      exact ⟨_, rfl, _, rfl, (by decide : 2 ≤ 5000), q⟩
end
end K50
namespace K50
open PySem PySem.Spec PyProof.Rows L2 HM VL
abbrev s_is_whole : Stmt := topS 4
theorem sc_is_whole : FnScope ["thing"] ["thing"] (defScope s_is_whole) := ⟨rfl, rfl, rfl, by decide +kernel, rfl, by decide +kernel, by decide +kernel⟩
abbrev s_is_number : Stmt := topS 5
theorem sc_is_number : FnScope ["thing", "many"] ["thing", "many"] (defScope s_is_number) := ⟨rfl, rfl, rfl, by decide +kernel, rfl, by decide +kernel, by decide +kernel⟩
abbrev s_check_number : Stmt := topS 8
theorem sc_check_number : FnScope ["house", "thing"] ["house", "thing"] (defScope s_check_number) := ⟨rfl, rfl, rfl, by decide +kernel, rfl, by decide +kernel, by decide +kernel⟩
abbrev s_part_of : Stmt := topS 9
theorem sc_part_of : FnScope ["house", "numbers", "number", "movers", "found", "seen", "at", "mover", "come_to"] ["house", "numbers"] (defScope s_part_of) := ⟨rfl, rfl, rfl, by decide +kernel, rfl, by decide +kernel, by decide +kernel⟩
section
variable {P : Program} {w : World} {K : PySem.W.Frag} {mg : Str → Option Value} {base : Heap} {am : Am} {gd : Around → Prop} {k : Nat}
theorem ok_whole {f : Addr} {fd : FuncData} (F : Fun K "is_whole" "is_whole" s_is_whole f fd) (mz : ∀ x ∈ bn, mg x = none) : VFn gd P w K mg base CX0 (k + 1) f fd ["thing"] am spWhole := by
  refine vfn_of F sc_is_whole (fun ds n Q E h => ?_) ⟨_, fun cdv A out s H E F0 H0 hcd hgd hr =>
    (vss_one (vs_ret (ve_and (ve_isi (T' := "int") (by rfl) (mz "isinstance" (by decide)) (by rfl) (mz "int" (by decide)) (ve_var (pv 0))) (ve_one (ve_not (ve_isi (T' := "bool") (by rfl) (mz "isinstance" (by decide)) (by rfl) (mz "bool" (by decide)) (ve_var (pv 0)))))))), fun ds n Q E h => ?_⟩
  · obtain ⟨d, rfl, _⟩ := h
    rfl
  · obtain ⟨d, rfl, ht, q⟩ := h
    refine ⟨d, rfl, d, "int", _, rfl, ht, kit_int ht, _, rfl, iteB (fun h1 => ⟨d, rfl, d, "bool", _, rfl, ht, kit_bool ht, _, rfl, ?_⟩) (fun h1 => ?_)⟩
    · have e : (!blD d) = whoD d := by cases d <;> first | rfl | (exact absurd h1 (by decide)) | (cases h1)
      rw [e]
      exact q
    · have e : false = whoD d := by cases d <;> first | rfl | (cases h1)
      rw [e]
      exact q
theorem ok_number {f f_is_whole : Addr} {fd fd_is_whole : FuncData} (F : Fun K "is_number" "is_number" s_is_number f fd) (G_is_whole : VFn anyA P w K mg base CX0 (k + 1) f_is_whole fd_is_whole ["thing"] am spWhole) (g_is_whole : mg "is_whole" = some (.ref f_is_whole)) (k_is_whole : PySem.W.keepIn K (.ref f_is_whole) = true) (b_is_whole : Binds K fd_is_whole ["thing"] [])
    (mz : ∀ x ∈ bn, mg x = none) : VFn gd P w K mg base CX0 (k + 2) f fd ["thing", "many"] am spNumber := by
  refine vfn_of F sc_is_number (fun ds n Q E h => ?_) ⟨_, fun cdv A out s H E F0 H0 hcd hgd hr =>
    (vss_one (vs_ret (ve_and (ve_call G_is_whole trivial (hr.mono (by omega)) (by rfl) g_is_whole k_is_whole b_is_whole pass0 (va_cons (ve_var (pv 0)) va_nil)) (ve_one (ve_chain op_le op_lt lft_B0 lft_B0 ve_int (ve_var (pv 0)) (ve_var (pv 1))))))), fun ds n Q E h => ?_⟩
  · obtain ⟨d, m, rfl, _⟩ := h
    rfl
  · obtain ⟨d, m, rfl, ht, q⟩ := h
    refine ⟨d, rfl, d, rfl, ht, _, rfl, iteB (fun h1 => ?_) (fun h1 => ?_)⟩
    · cases d with
      | int i =>
        refine ⟨.int i, rfl, 0, i, rfl, rfl, _, rfl, iteB (fun h2 => ⟨.int m, rfl, i, m, rfl, rfl, ?_⟩) (fun h2 => ?_)⟩
        · have e : decide (i < m) = nuD m (.int i) := by show _ = (decide (0 ≤ i) && decide (i < m)); rw [h2, Bool.true_and]
          show Q (.bl (decide (i < m))) n
          rw [e]
          exact q
        · have e : false = nuD m (.int i) := by show _ = (decide (0 ≤ i) && decide (i < m)); rw [h2, Bool.false_and]
          rw [e]
          exact q
      | _ => cases h1
    · have e : false = nuD m d := by cases d <;> first | rfl | (cases h1)
      rw [e]
      exact q
/-- the number is one of the house -/
theorem ok_check {f f_is_number : Addr} {fd fd_is_number : FuncData} (F : Fun K "check_number" "check_number" s_check_number f fd) (G_is_number : VFn anyA P w K mg base CX0 (k + 2) f_is_number fd_is_number ["thing", "many"] am spNumber) (g_is_number : mg "is_number" = some (.ref f_is_number)) (k_is_number : PySem.W.keepIn K (.ref f_is_number) = true) (b_is_number : Binds K fd_is_number ["thing", "many"] [])
    (mz : ∀ x ∈ bn, mg x = none) : VFn gd P w K mg base CX0 (k + 3) f fd ["house", "thing"] am spCheck := by
  refine vfn_of F sc_check_number (fun ds n Q E h => ?_) ⟨_, fun cdv A out s H E F0 H0 hcd hgd hr =>
    (vss_one (vs_if (vt_not (vt_val (ve_call G_is_number trivial (hr.mono (by omega)) (by rfl) g_is_number k_is_number b_is_number pass0 (va_cons (ve_var (pv 1)) (va_cons (ve_cbR call_len_seq lft_len (by rfl) (mz "len" (by decide)) PySem.boot_len (vb_rd (pv 0) vb_nil)) va_nil)))))
        (vss_one vs_never)
        vss_nil)), fun ds n Q E h => ?_⟩
  · obtain ⟨rows, d, rfl, _⟩ := h
    rfl
  · obtain ⟨rows, d, rfl, ht, hn, q⟩ := h
    refine ⟨d, rfl, ⟨_, .inl rfl⟩, .lst rows, .inl rfl, rows, .inl rfl, rfl, d, _, rfl, ht, _, rfl, ?_⟩
    rw [hn]
    exact q
end
end K50
namespace K50
open PySem PySem.Spec PyProof.Rows L2 HM VL
section
variable {P : Program} {w : World} {K : PySem.W.Frag} {mg : Str → Option Value} {base : Heap} {am : Am} {gd : Around → Prop} {k : Nat}
theorem ok_part {f f_check_number : Addr} {fd fd_check_number : FuncData} (F : Fun K "part_of" "part_of" s_part_of f fd) (G_check_number : VFn anyA P w K mg base CX0 (k + 3) f_check_number fd_check_number ["house", "thing"] am spCheck) (g_check_number : mg "check_number" = some (.ref f_check_number)) (k_check_number : PySem.W.keepIn K (.ref f_check_number) = true) (b_check_number : Binds K fd_check_number ["house", "thing"] [])
    (mz : ∀ x ∈ bn, mg x = none) : VFn gd P w K mg base CX0 (k + 4) f fd ["house", "numbers"] am spPart := by
  refine vfn_of F sc_part_of (fun ds n Q E h => ?_) ⟨_, fun cdv A out s H E F0 H0 hcd hgd hr =>
    (vss_cons (vs_for PassesOwn.never rfl (vi_list (ve_var (pv 1))) (vg_name (pg_name (i := 2) sc_part_of.nd rfl (.inl rfl)))
        (vss_one (vs_expr (ve_call G_check_number trivial (hr.mono (by omega)) (by rfl) g_check_number k_check_number b_check_number pass0 (va_cons (ve_var (pv 0)) (va_cons (ve_var (pv 2)) va_nil))))))
      (vss_cons (vs_set (i := 3) sc_part_of.nd rfl (.inl rfl) (ve_new (vn_sortS w rfl rfl (by rfl) (mz "sorted" (by decide)) (vn_tyR (cr_setW w rfl rfl) lft_setI (by rfl) (mz "set" (by decide)) (by decide +kernel) (vb_rd (pv 1) vb_nil)))))
      (vss_cons (vs_setN (i := 4) sc_part_of.nd rfl (.inl rfl) (vn_lst (va_cons ve_int va_nil)))
      (vss_cons (vs_setN (i := 5) sc_part_of.nd rfl (.inl rfl) (vn_setOneI w rfl (kds_ok F hcd) (fun F0 H0 => ve_int)))
      (vss_cons (vs_set (i := 6) sc_part_of.nd rfl (.inl rfl) ve_int)
      (vss_cons (vs_while PassesOwn.never (vt_cmp op_lt lft_B0 (ve_var (pv 6)) (ve_cbR call_len_seq lft_len (by rfl) (mz "len" (by decide)) PySem.boot_len (vb_rd (pv 4) vb_nil)) (nomark _))
        (vss_cons (vs_for PassesOwn.never rfl (vi_list (ve_var (pv 3))) (vg_name (pg_name (i := 7) sc_part_of.nd rfl (.inl rfl)))
          (vss_cons (vs_set (i := 8) sc_part_of.nd rfl (.inl rfl) (ve_ix ix_list lft_ixL (ve_ixO (pv 0) (ve_ixO (pv 4) (ve_var (pv 6)) (fun _ _ => rfl)) (fun _ _ => rfl)) (ve_var (pv 7)) (fun _ _ => rfl)))
          (vss_one (vs_if (vt_snotin w rfl (ve_var (pv 8)) (pv 5) (by rfl))
            (vss_cons (vs_expr (ve_sadd w rfl (pv 5) (ve_var (pv 8))))
            (vss_one (vs_expr (ve_m (pe_bm PySem.F.plainAttrs_list PySem.F.slot_list_append PySem.F.type_list_append mt_append (pv 4) (va_cons (ve_var (pv 8)) va_nil)) lft_append))))
            vss_nil))))
        (vss_one (vs_augI (i := 6) sc_part_of.nd rfl (.inl rfl) ve_int ip_add))))
      (vss_one (vs_ret (ve_tyTR call_tuple_of lft_tupleOf (by rfl) (mz "tuple" (by decide)) (by decide +kernel) (vb_cons (ve_new (vn_cbR cr_sorted lft_sorted (by rfl) (mz "sorted" (by decide)) (by decide +kernel) (vb_rd (pv 4) vb_nil))) vb_nil)))))))))), fun ds t Q E h => ?_⟩
  · obtain ⟨n, m, gs, rfl, _⟩ := h
    rfl
  · obtain ⟨n, m, gs, rfl, h0, h60, hgl, hm, hg, q⟩ := h
    obtain ⟨hou, ehou⟩ : ∃ hou, hou = houD n m := ⟨_, rfl⟩
    rw [← ehou]
    refine ⟨_, rfl, nsD gs, rfl, fun i env t' => t' = t ∧ ∃ s2, env = [.fz hou, .fz (.lst (nsD gs)), s2, .no, .no, .no, .no, .no, .no], ⟨rfl, .no, rfl⟩, fun i x env t' hx hP => ?_, fun env t' hP => ?_⟩
    · obtain ⟨rfl, s2, rfl⟩ := hP
      unfold nsD at hx
      rw [List.getElem?_map] at hx
      obtain ⟨g, hg1, rfl⟩ := Option.map_eq_some_iff.mp hx
      have hgn := hg g (List.mem_of_getElem? hg1)
      refine ⟨hou, rfl, nD g, rfl, _, nD g, by rw [ehou]; rfl, tyN g, ?_, rfl, _, rfl⟩
      rw [List.length_map, List.length_range]
      show (decide (0 ≤ (g : Int)) && decide ((g : Int) < (n : Int))) = true
      rw [decide_eq_true (by omega), decide_eq_true (by omega)]
      rfl
    obtain ⟨rfl, s2, rfl⟩ := hP
    -- movers = sorted(set(numbers))
    refine ⟨⟨_, .inl rfl⟩, _, .inl rfl, gs.map (fun i : Nat => (i : Int)), by rw [nsD_ints], by rw [List.length_map]; omega, fun c hc => ⟨rfl, _, c, rfl, by rw [List.length_map] at hc; omega, fun ns h1 h2 h3 => ⟨_, rfl, ?_⟩⟩⟩
    obtain ⟨ms, rfl, hms⟩ := cast_ints (ns := ns) (l := gs) fun j => by
      rw [h2, decide_eq_true_iff, List.mem_map]
      exact ⟨fun ⟨i, hi, e⟩ => ⟨i, hi, e.symm⟩, fun ⟨i, hi, e⟩ => ⟨i, hi, e.symm⟩⟩
    have hmg : ∀ g ∈ ms, g < n := fun g h => hg g ((hms g).mp h)
    have hrc : ∀ x, Rch m ms x ↔ Rch m gs x := fun x => ⟨Rch.mono fun g h => (hms g).mp h, Rch.mono fun g h => (hms g).mpr h⟩
    rw [← nsD_ints]
    -- found = [0], seen = {0}, at = 0
    refine ⟨by decide, _, rfl, ?_⟩
    -- while
    let I : List Nat → Nat → Ev → Prop := fun fs at_ env => ∃ S s2 s7 s8, env = [.fz hou, .fz (.lst (nsD gs)), s2, .fz (.lst (nsD ms)), .ow (.lst (nsD fs)), .ow (.set w S fs.length), .fz (nD at_), s7, s8] ∧ (∀ i : Nat, S (i : Int) = decide (i ∈ fs)) ∧ Fnd m ms fs at_ ∧ at_ ≤ fs.length
    have hfew : ∀ {fs : List Nat} {at_ : Nat}, Fnd m ms fs at_ → fs.length ≤ n := fun h => few_of_nodup h.nd fun x hx => (h.rc x hx).lt h0 hm hmg
    refine ⟨fun mm env t'' => ∃ fs at_, mm = 61 - at_ ∧ t'' = t' ∧ I fs at_ env, ⟨_, [0], 0, rfl, rfl, _, s2, .no, .no, rfl, fun i => by simp [eq_comm], Fnd.start m ms, Nat.zero_le _⟩, fun mm env t'' hW => ?_⟩
    obtain ⟨fs, at_, rfl, rfl, S, s2, s7, s8, rfl, hS, hF, hat⟩ := hW
    have hfn := hfew hF
    refine ⟨_, rfl, ⟨_, .inr ⟨_, rfl, rfl⟩⟩, _, .inr ⟨_, rfl, rfl⟩, _, .inl rfl, rfl, _, _, rfl, rfl, _, rfl, iteB (fun e => ?_) (fun e => ?_)⟩
    · have hlt : at_ < fs.length := by
        have := of_decide_eq_true e
        rw [nsD_len] at this
        omega
      obtain ⟨x0, hx0⟩ : ∃ x0, fs[at_]? = some x0 := ⟨_, List.getElem?_eq_getElem hlt⟩
      have hx0n : x0 < n := (hF.rc x0 (List.mem_of_getElem? hx0)).lt h0 hm hmg
      refine ⟨_, rfl, nsD ms, rfl, fun j env t3 => t3 = t'' ∧ ∃ fs2, fs <+: fs2 ∧ I fs2 at_ env ∧ ∀ g ∈ ms.take j, m x0 g ∈ fs2, ⟨rfl, fs, List.prefix_refl _, ⟨S, s2, s7, s8, rfl, hS, hF, hat⟩, fun g hg => by rw [List.take_zero] at hg; cases hg⟩, fun j x env t3 hx hP => ?_, fun env t3 hP => ?_⟩
      · obtain ⟨rfl, fs2, hpre, ⟨S, s2, s7, s8, rfl, hS, hF, hat⟩, hcl⟩ := hP
        unfold nsD at hx
        rw [List.getElem?_map] at hx
        obtain ⟨g, hg1, rfl⟩ := Option.map_eq_some_iff.mp hx
        have hgm := List.mem_of_getElem? hg1
        have hgn := hmg g hgm
        have hfn := hfew hF
        have hx02 : fs2[at_]? = some x0 := by
          obtain ⟨r, rfl⟩ := hpre
          rw [List.getElem?_append_left hlt]
          exact hx0
        refine ⟨⟨_, .inl rfl⟩, ⟨_, .inr ⟨_, rfl, rfl⟩⟩, _, rfl, _, _, _, .inr ⟨_, rfl, rfl⟩, rfl, nsD_get hx02, _, _, _, .inl (by rw [ehou]; rfl), rfl, hou_at hx0n, _, rfl, _, _, _, rfl, rfl, row_at hgn, ?_⟩
        refine ⟨_, rfl, S, _, _, rfl, rfl, _, rfl, iteB (fun e2 => ?_) (fun e2 => ?_)⟩
        · have hnin : m x0 g ∉ fs2 := by
            have e3 : (!S (m x0 g : Nat)) = true := e2
            rw [hS, Bool.not_eq_true', decide_eq_false_iff_not] at e3
            exact e3
          have hSf : S ((m x0 g : Nat) : Int) = false := by rw [hS]; exact decide_eq_false hnin
          refine ⟨⟨_, _, rfl⟩, _, rfl, S, _, _, rfl, rfl, by omega, ⟨_, rfl⟩, _, rfl, _, rfl, _, rfl, by rw [nsD_len]; omega, rfl, fs2 ++ [m x0 g], hpre.trans (List.prefix_append _ _), ⟨fun j => S j || decide (j = ((m x0 g : Nat) : Int)), s2, .fz (nD g), .fz (nD (m x0 g)), ?_, fun i => ?_, hF.more hat hnin (.step (hF.rc x0 (List.mem_of_getElem? hx02)) hgm), by rw [List.length_append]; omega⟩, fun g2 hg2 => ?_⟩
          · rw [hSf, List.length_append]
            unfold nsD
            rw [List.map_append]
            rfl
          · show (S (i : Int) || decide ((i : Int) = (m x0 g : Nat))) = _
            rw [hS]
            by_cases z : i ∈ fs2
            · simp [z]
            · by_cases z2 : i = m x0 g
              · simp [z2]
              · have : ¬ (i : Int) = (m x0 g : Nat) := by omega
                simp [z, z2, this]
          · rw [take_snoc' hg1] at hg2
            rcases List.mem_append.mp hg2 with hg2 | hg2
            · exact List.mem_append_left _ (hcl g2 hg2)
            · rw [List.mem_singleton.mp hg2]
              exact List.mem_append_right _ (List.mem_singleton.mpr rfl)
        · have hin : m x0 g ∈ fs2 := by
            have e3 : (!S (m x0 g : Nat)) = false := e2
            rw [hS, Bool.not_eq_false', decide_eq_true_iff] at e3
            exact e3
          refine ⟨rfl, fs2, hpre, ⟨S, s2, _, _, rfl, hS, hF, hat⟩, fun g2 hg2 => ?_⟩
          rw [take_snoc' hg1] at hg2
          rcases List.mem_append.mp hg2 with hg2 | hg2
          · exact hcl g2 hg2
          · rw [List.mem_singleton.mp hg2]
            exact hin
      · obtain ⟨rfl, fs2, hpre, ⟨S, s2, s7, s8, rfl, hS, hF, hat⟩, hcl⟩ := hP
        rw [nsD_len, List.take_of_length_le (Nat.le_refl _)] at hcl
        have hll := hpre.length_le
        have hfn := hfew hF
        refine ⟨_, rfl, _, rfl, 61 - (at_ + 1), by omega, fs2, at_ + 1, rfl, rfl, S, s2, s7, s8, rfl, hS, ⟨hF.nd, hF.rc, hF.ze, fun i x hi hx g hg => ?_⟩, by omega⟩
        by_cases z : i = at_
        · subst z
          have hx02 : fs2[i]? = some x0 := by
            obtain ⟨r, rfl⟩ := hpre
            rw [List.getElem?_append_left hlt]
            exact hx0
          rw [hx02] at hx
          cases hx
          exact hcl g hg
        · exact hF.cl i x (by omega) hx g hg
    · have hge : at_ = fs.length := by
        have : ¬ ((at_ : Nat) : Int) < ((nsD fs).length : Int) := fun z => by rw [decide_eq_true z] at e; cases e
        rw [nsD_len] at this
        omega
      subst hge
      -- return tuple(sorted(found))
      refine ⟨⟨_, .inr ⟨_, rfl, rfl⟩⟩, _, .inr ⟨_, rfl, rfl⟩, fs.map (fun i : Nat => (i : Int)), by rw [nsD_ints], by rw [List.length_map]; omega, fun ns' h1 h2 => ⟨flats_int ns', _, rfl, _, rfl, flats_int ns', ?_⟩⟩
      obtain ⟨l, rfl, hpm⟩ := perm_cast h1
      rw [← nsD_ints]
      refine q l ⟨lt_of_le_nodup' h2 (hpm.nodup_iff.mpr hF.nd), fun x => ?_⟩
      rw [hpm.mem_iff, hF.all, hrc]
end
end K50
namespace K50
open PySem PySem.Spec PyProof.Rows L2 HM VL
abbrev s_makers_of : Stmt := topS 10
theorem sc_makers_of : FnScope ["house", "makers", "part", "number"] ["house"] (defScope s_makers_of) := ⟨rfl, rfl, rfl, by decide +kernel, rfl, by decide +kernel, by decide +kernel⟩
abbrev s_leaders_of : Stmt := topS 14
theorem sc_leaders_of : FnScope ["house", "told", "maker", "back", "number", "leader"] ["house"] (defScope s_leaders_of) := ⟨rfl, rfl, rfl, by decide +kernel, rfl, by decide +kernel, by decide +kernel⟩
section
variable {P : Program} {w : World} {K : PySem.W.Frag} {mg : Str → Option Value} {base : Heap} {am : Am} {gd : Around → Prop} {k : Nat}
theorem ok_makers {f f_part_of : Addr} {fd fd_part_of : FuncData} (F : Fun K "makers_of" "makers_of" s_makers_of f fd)
    (G_part_of : VFn anyA P w K mg base CX0 (k + 4) f_part_of fd_part_of ["house", "numbers"] am spPart) (g_part_of : mg "part_of" = some (.ref f_part_of)) (k_part_of : PySem.W.keepIn K (.ref f_part_of) = true) (b_part_of : Binds K fd_part_of ["house", "numbers"] [])
    (mz : ∀ x ∈ bn, mg x = none) : VFn gd P w K mg base CX0 (k + 5) f fd ["house"] am spMakers := by
  refine vfn_of F sc_makers_of (fun ds n Q E h => ?_) ⟨_, fun cdv A out s H E F0 H0 hcd hgd hr =>
    (vss_cons (vs_setN (i := 1) sc_makers_of.nd rfl (.inl rfl) (vn_lst va_nil))
      (vss_cons (vs_set (i := 2) sc_makers_of.nd rfl (.inl rfl) (ve_tup (va_cons ve_int va_nil)))
      (vss_cons (vs_for PassesOwn.never rfl (vi_range1 (by rfl) (mz "range" (by decide)) (vb_cons (ve_cbR call_len_seq lft_len (by rfl) (mz "len" (by decide)) PySem.boot_len (vb_rd (pv 0) vb_nil)) vb_nil)) (vg_name (pg_name (i := 3) sc_makers_of.nd rfl (.inl rfl)))
        (vss_one (vs_if (vt_cmpR op_notIn_seq lft_in (ve_var (pv 3)) (vr_var (pv 2)) (by rfl))
          (vss_cons (vs_expr (ve_m (pe_bm PySem.F.plainAttrs_list PySem.F.slot_list_append PySem.F.type_list_append mt_append (pv 1) (va_cons (ve_var (pv 3)) va_nil)) lft_append))
          (vss_one (vs_set (i := 2) sc_makers_of.nd rfl (.inl rfl) (ve_callR G_part_of trivial (hr.mono (by omega)) (by rfl) g_part_of k_part_of b_part_of pass0 (vb_rd (pv 0) (vb_rd (pv 1) vb_nil))))))
          vss_nil)))
      (vss_one (vs_ret (ve_mv (pv 1))))))), fun ds t Q E h => ?_⟩
  · obtain ⟨n, m, rfl, _⟩ := h
    rfl
  · obtain ⟨n, m, rfl, hH, hn, q⟩ := h
    have hlh : ((List.range n).map fun a => rowD n (m a)).length = n := by rw [List.length_map, List.length_range]
    refine ⟨Nat.zero_le _, (by decide : 1 ≤ 5000), ⟨_, .inl rfl⟩, _, .inl rfl, _, .inl rfl, rfl, _, rfl, ⟨by omega, by rw [hlh]; omega⟩, ?_⟩
    rw [hlh]
    refine ⟨fun i env t' => t' = t ∧ ∃ (gs l : List Nat) (s3 : Sl), env = [.fz (houD n m), .ow (.lst (nsD gs)), .fz (.tup (nsD l)), s3] ∧ IsPt m gs l ∧ gs.length ≤ i ∧ (∀ g ∈ gs, g < n) ∧ ∀ x, x < i → x ∈ l, ⟨rfl, [], [0], _, rfl, ⟨List.pairwise_singleton .., fun x => ?_⟩, Nat.le_refl _, fun g hg => (by cases hg), fun x hx => absurd hx (Nat.not_lt_zero x)⟩, fun i x env t' hx hP => ?_, fun env t' hP => ?_⟩
    · rw [List.mem_singleton]
      constructor
      · rintro rfl
        exact .zero
      · intro r
        cases r with
        | zero => rfl
        | step _ hg => cases hg
    · obtain ⟨rfl, gs, l, s3, rfl, hl, hgl, hgn, hil⟩ := hP
      obtain ⟨rfl, hi⟩ := rngD_get0 hx
      have hi : i < n := by have : i < ((n : Nat) : Int).toNat := hi; omega
      refine ⟨_, rfl, _, .inl rfl, _, _, rfl, .inr (by rw [nsD_ints]), rfl, _, rfl, iteB (fun e => ?_) (fun e => ?_)⟩
      · have hni : i ∉ l := fun z => by
          have e : (!decide ((i : Int) ∈ l.map fun i : Nat => (i : Int))) = true := e
          rw [decide_eq_true (mem_ints.mpr z)] at e
          cases e
        have e7 : nsD gs ++ [Dt.int (i : Int)] = nsD (gs ++ [i]) := by unfold nsD; rw [List.map_append]; rfl
        refine ⟨⟨_, rfl⟩, _, rfl, _, rfl, _, rfl, by rw [nsD_len]; omega, ?_⟩
        refine ⟨⟨_, .inl rfl⟩, ⟨_, .inr ⟨_, rfl, rfl⟩⟩, _, .inr ⟨_, rfl, rfl⟩, _, .inl rfl, n, m, gs ++ [i], by rw [e7], hH.pos, hn, by rw [List.length_append]; show gs.length + 1 < 64; omega, hH.lt, fun g hg => ?_, fun l2 hl2 => ⟨flats_ns l2, rfl, gs ++ [i], l2, _, by rw [e7]; rfl, hl2, by rw [List.length_append]; exact Nat.succ_le_succ hgl, fun g hg => ?_, fun x hx2 => ?_⟩⟩
        · rcases List.mem_append.mp hg with hg | hg
          · exact hgn g hg
          · rw [List.mem_singleton.mp hg]; exact hi
        · rcases List.mem_append.mp hg with hg | hg
          · exact hgn g hg
          · rw [List.mem_singleton.mp hg]; exact hi
        · rcases Nat.lt_or_ge x i with z | z
          · exact (hl2.mem x).mpr (Rch.mono (fun g hg => List.mem_append_left _ hg) ((hl.mem x).mp (hil x z)))
          · have : x = i := by omega
            rw [this]
            exact (hl2.mem i).mpr (rch_one hH (by simp) hi)
      · have hin : i ∈ l := by
          have e : (!decide ((i : Int) ∈ l.map fun i : Nat => (i : Int))) = false := e
          rw [Bool.not_eq_false', decide_eq_true_iff] at e
          exact mem_ints.mp e
        refine ⟨rfl, gs, l, _, rfl, hl, by omega, hgn, fun x hx2 => ?_⟩
        rcases Nat.lt_or_ge x i with z | z
        · exact hil x z
        · have : x = i := by omega
          rw [this]
          exact hin
    · obtain ⟨rfl, gs, l, s3, rfl, hl, hgl, hgn, hil⟩ := hP
      rw [rngD_len] at hgl hil
      have e9 : ((n : Nat) : Int).toNat = n := by omega
      rw [e9] at hgl hil
      exact ⟨_, rfl, q gs ⟨hgl, hgn, fun x hx => (hl.mem x).mp (hil x hx)⟩⟩
theorem ok_leaders {f f_makers_of : Addr} {fd fd_makers_of : FuncData} (F : Fun K "leaders_of" "leaders_of" s_leaders_of f fd)
    (G_makers_of : VFn anyA P w K mg base CX0 (k + 5) f_makers_of fd_makers_of ["house"] am spMakers) (g_makers_of : mg "makers_of" = some (.ref f_makers_of)) (k_makers_of : PySem.W.keepIn K (.ref f_makers_of) = true) (b_makers_of : Binds K fd_makers_of ["house"] [])
    (mz : ∀ x ∈ bn, mg x = none) : VFn gd P w K mg base CX0 (k + 6) f fd ["house"] am spLeaders := by
  refine vfn_of F sc_leaders_of (fun ds n Q E h => ?_) ⟨_, fun cdv A out s H E F0 H0 hcd hgd hr =>
    (vss_cons (vs_setN (i := 1) sc_leaders_of.nd rfl (.inl rfl) (vn_lst va_nil))
      (vss_cons (vs_for PassesOwn.never rfl (vi_list (ve_call G_makers_of trivial (hr.mono (by omega)) (by rfl) g_makers_of k_makers_of b_makers_of pass0 (va_cons (ve_var (pv 0)) va_nil))) (vg_name (pg_name (i := 2) sc_leaders_of.nd rfl (.inr rfl)))
        (vss_cons (vs_set (i := 3) sc_leaders_of.nd rfl (.inl rfl) (ve_index (ve_ixO (pv 0) (ve_var (pv 2)) (fun _ _ => rfl)) ve_int))
        (vss_cons (vs_setLcF (i := 5) (own := [("number", 4)]) rfl sc_leaders_of.nd rfl rfl (sw_true rfl rfl rfl (by decide +kernel)) (vi_list (ve_ixO (pv 0) (ve_var (pv 3)) (fun _ _ => rfl))) (blkOk_by (own := [("number", 4)]) (N := ["house", "told", "maker", "back", "number", "leader"]) (sc := defScope s_leaders_of) (by decide +kernel)) (tg_name (by simp)) (fun _ _ _ _ _ => (pg_name (i := 4) sc_leaders_of.nd rfl (.inl rfl))) (fun _ _ _ _ _ _ _ => vts_nil) (fun _ _ _ _ _ _ _ => (ve_ix ix_list lft_ixL (ve_ixO (pv 0) (ve_var (pv 4)) (fun _ _ => rfl)) (ve_var (pv 2)) (fun _ _ => rfl))))
        (vss_one (vs_if (vt_cmpN (op_neD hr.units) lft_neD (pv 5) (vr_of (ve_new (vn_listRg rfl (by rfl) (mz "list" (by decide)) (vrg_1 (by rfl) (mz "range" (by decide)) (ve_cbR call_len_seq lft_len (by rfl) (mz "len" (by decide)) PySem.boot_len (vb_rd (pv 0) vb_nil)))))) (nomark _))
          (vss_one (vs_expr (ve_m (pe_bm PySem.F.plainAttrs_list PySem.F.slot_list_append PySem.F.type_list_append mt_append (pv 1) (va_cons (ve_var (pv 5)) va_nil)) lft_append)))
          vss_nil)))))
      (vss_one (vs_ret (ve_mv (pv 1)))))), fun ds t Q E h => ?_⟩
  · obtain ⟨n, m, rfl, _⟩ := h
    rfl
  · obtain ⟨n, m, rfl, hH, hn, q⟩ := h
    have hlh : ((List.range n).map fun a => rowD n (m a)).length = n := by rw [List.length_map, List.length_range]
    refine ⟨Nat.zero_le _, _, rfl, n, m, rfl, hH, hn, fun gs G => ?_⟩
    refine ⟨_, rfl, fun i env t' => t' = t ∧ ∃ (ls : List (List Nat)) (s2 s3 s5 : Sl), env = [.fz (houD n m), .ow (.lst (tlD ls)), s2, s3, .no, s5] ∧ ls.length ≤ i ∧ (∀ l ∈ ls, ∃ g, g < n ∧ IsCj n m g l) ∧ ∀ j g, j < i → gs[j]? = some g → ∃ l, IsCj n m g l ∧ (l ∈ ls ∨ l = List.range n), ⟨rfl, [], _, _, _, rfl, Nat.le_refl _, fun l hl => (by cases hl), fun j g hj => absurd hj (Nat.not_lt_zero j)⟩, fun i x env t' hx hP => ?_, fun env t' hP => ?_⟩
    · obtain ⟨rfl, ls, s2, s3, s5, rfl, hll, hcj, hall⟩ := hP
      unfold nsD at hx
      rw [List.getElem?_map] at hx
      obtain ⟨g, hgi, rfl⟩ := Option.map_eq_some_iff.mp hx
      have hg := G.2.1 g (List.mem_of_getElem? hgi)
      have hi := (List.getElem?_eq_some_iff.mp hgi).1
      have hgl := G.1
      obtain ⟨b, hb, e1, e2⟩ := hH.inv2 hg
      refine ⟨⟨_, .inl rfl⟩, _, rfl, _, _, _, .inl rfl, rfl, hou_at hg, ⟨_, rfl⟩, (List.range n).map fun k => (m g k : Int), 0, b, ?_, rfl, ?_, fun i z hi hz => ?_, ?_⟩
      · unfold rowD nsD
        rw [List.map_map, List.map_map]
        rfl
      · rw [List.getElem?_map, List.getElem?_range hb]
        show some ((m g b : Nat) : Int) = _
        rw [e1]
        rfl
      · rw [List.getElem?_map, List.getElem?_range (by omega)] at hz
        cases hz
        intro z
        have z : ((m g i : Nat) : Int) = 0 := z
        exact absurd (hH.cn g i b hg (by omega) hb (by omega)) (by omega)
      refine ⟨⟨_, .inl rfl⟩, _, rfl, _, _, _, .inl rfl, rfl, hou_at hb, _, rfl, ?_⟩
      refine lc_map (i := 4) (fun j => nD (m (m b j) g)) (.head _) (noOw1 rfl no_ow) (by rw [nsD_len, List.length_map, List.length_range]; omega) (fun j x hx R hR => ?_) ?_
      · unfold nsD at hx
        rw [List.map_map, List.getElem?_map] at hx
        obtain ⟨y, hy, rfl⟩ := Option.map_eq_some_iff.mp hx
        have hj : j < n := by have := (List.getElem?_eq_some_iff.mp hy).1; rwa [List.length_range] at this
        rw [List.getElem?_range hj] at hy
        cases hy
        have hbj := hH.lt b j hb hj
        exact ⟨⟨_, .inl rfl⟩, _, rfl, _, _, _, .inl rfl, rfl, hou_at hbj, _, rfl, _, _, _, rfl, rfl, row_at hg, hR⟩
      rw [nsD_len, List.length_map, List.length_range]
      have el : (List.range n).map (fun j => nD (m (m b j) g)) = nsD ((List.range n).map fun j => m (m b j) g) := by unfold nsD; rw [List.map_map]; rfl
      rw [el]
      have hc : IsCj n m g ((List.range n).map fun j => m (m b j) g) := ⟨b, hb, e1, e2, rfl⟩
      have er : rngD 0 ((n : Nat) : Int).toNat = nsD (List.range n) := rng_ns n
      have ez : rngD 0 (((n : Nat) : Int) - 0).toNat = nsD (List.range n) := by rw [Int.sub_zero]; exact er
      refine ⟨_, rfl, ⟨_, .inl rfl⟩, ⟨_, .inl rfl⟩, _, .inl rfl, _, .inl rfl, rfl, ?_⟩
      rw [hlh]
      obtain ⟨c, ec⟩ : ∃ c, c = (List.range n).map fun j => m (m b j) g := ⟨_, rfl⟩
      rw [← ec] at hc ⊢
      refine ⟨_, rfl, ⟨by omega, by omega, by omega, by omega⟩, _, rfl, _, .inl rfl, ?_⟩
      rw [ez]
      refine dNeD_pl (pl_ls1 _) (pl_ls1 _) (dep_ls1 _) (dep_ls1 _) fun q2 hq2 => ⟨rfl, q2, rfl, iteB (fun e => ?_) (fun e => ?_)⟩
      · have e7 : tlD ls ++ [Dt.lst (nsD c)] = tlD (ls ++ [c]) := by unfold tlD; rw [List.map_append]; rfl
        refine ⟨⟨_, rfl⟩, _, rfl, _, rfl, _, rfl, by unfold tlD; rw [List.length_map]; omega, rfl, ls ++ [c], _, _, _, by rw [e7]; rfl, by rw [List.length_append]; exact Nat.succ_le_succ hll, fun l hl => ?_, fun j g2 hj hg2 => ?_⟩
        · rcases List.mem_append.mp hl with hl | hl
          · exact hcj l hl
          · rw [List.mem_singleton.mp hl]; exact ⟨g, hg, hc⟩
        · rcases Nat.lt_or_ge j i with z | z
          · obtain ⟨l, h1, h2⟩ := hall j g2 z hg2
            exact ⟨l, h1, h2.imp (fun z => List.mem_append_left _ z) id⟩
          · have : j = i := by omega
            subst this
            rw [hgi] at hg2
            cases hg2
            exact ⟨c, hc, .inl (by simp)⟩
      · have ecr : c = List.range n := by
          have h1 : ¬ (Dt.lst (nsD c) ≠ Dt.lst (nsD (List.range n))) := fun z => by rw [hq2.mpr z] at e; cases e
          have h2 := Classical.not_not.mp h1
          injection h2 with h2
          exact nsD_inj h2
        refine ⟨rfl, ls, _, _, _, rfl, by omega, hcj, fun j g2 hj hg2 => ?_⟩
        rcases Nat.lt_or_ge j i with z | z
        · exact hall j g2 z hg2
        · have : j = i := by omega
          subst this
          rw [hgi] at hg2
          cases hg2
          exact ⟨c, hc, .inr ecr⟩
    · obtain ⟨rfl, ls, s2, s3, s5, rfl, hll, hcj, hall⟩ := hP
      rw [nsD_len] at hll hall
      exact ⟨_, rfl, q ls ⟨Nat.le_trans hll G.1, hcj, gs, G, fun g hg => by
        obtain ⟨j, hj, e⟩ := List.getElem_of_mem hg
        exact hall j g hj (by rw [List.getElem?_eq_getElem hj, e])⟩⟩
end
end K50
namespace K50
open PySem PySem.Spec PyProof.Rows L2 HM VL
abbrev s_all_led : Stmt := topS 15
theorem sc_all_led : FnScope ["leaders", "part", "found", "seen", "at", "leader", "number", "goal"] ["leaders", "part"] (defScope s_all_led) := ⟨rfl, rfl, rfl, by decide +kernel, rfl, by decide +kernel, by decide +kernel⟩
section
variable {P : Program} {w : World} {K : PySem.W.Frag} {mg : Str → Option Value} {base : Heap} {am : Am} {gd : Around → Prop} {k : Nat}
theorem ok_all_led {f : Addr} {fd : FuncData} (F : Fun K "all_led" "all_led" s_all_led f fd) (mz : ∀ x ∈ bn, mg x = none) : VFn gd P w K mg base CX0 (k + 1) f fd ["leaders", "part"] am spAllLed := by
  refine vfn_of F sc_all_led (fun ds n Q E h => ?_) ⟨_, fun cdv A out s H E F0 H0 hcd hgd hr =>
    (vss_cons (vs_setN (i := 2) sc_all_led.nd rfl (.inl rfl) (vn_lst (va_cons (ve_var (pv 1)) va_nil)))
      (vss_cons (vs_setN (i := 3) sc_all_led.nd rfl (.inl rfl) (vn_setOneTW P w rfl rfl hr.units (kds_ok F hcd) (fun F0 H0 => (ve_var (pv 1)))))
      (vss_cons (vs_set (i := 4) sc_all_led.nd rfl (.inl rfl) ve_int)
      (vss_cons (vs_while PassesOwn.never (vt_cmp op_lt lft_B0 (ve_var (pv 4)) (ve_cbR call_len_seq lft_len (by rfl) (mz "len" (by decide)) PySem.boot_len (vb_rd (pv 2) vb_nil)) (nomark _))
        (vss_cons (vs_for PassesOwn.never rfl (vi_list (ve_var (pv 0))) (vg_name (pg_name (i := 5) sc_all_led.nd rfl (.inr rfl)))
          (vss_cons (vs_set (i := 7) sc_all_led.nd rfl (.inl rfl) (ve_tyTR call_tuple_of lft_tupleOf (by rfl) (mz "tuple" (by decide)) (by decide +kernel) (vb_cons (ve_new (vn_cbR cr_sorted lft_sorted (by rfl) (mz "sorted" (by decide)) (by decide +kernel) (vb_cons (ve_new (vn_lc (own := [("number", 6)]) rfl sc_all_led.nd (vi_tup (ve_ixO (pv 2) (ve_var (pv 4)) (fun _ _ => rfl))) (blkOk_by (own := [("number", 6)]) (N := ["leaders", "part", "found", "seen", "at", "leader", "number", "goal"]) (sc := defScope s_all_led) (by decide +kernel)) (tg_name (by simp)) (fun _ _ _ _ _ => (pg_name (i := 6) sc_all_led.nd rfl (.inl rfl))) (fun _ _ _ _ _ _ _ => vts_nil) (fun _ _ _ _ _ _ _ => (ve_ixO (pv 5) (ve_var (pv 6)) (fun _ _ => rfl))))) vb_nil))) vb_nil)))
          (vss_one (vs_if (vt_snotinTW P w rfl rfl hr.units (ve_var (pv 7)) (pv 3) (by rfl))
            (vss_cons (vs_expr (ve_saddTW P w rfl rfl hr.units (pv 3) (ve_var (pv 7))))
            (vss_one (vs_expr (ve_m (pe_bm PySem.F.plainAttrs_list PySem.F.slot_list_append PySem.F.type_list_append mt_append (pv 2) (va_cons (ve_var (pv 7)) va_nil)) lft_append))))
            vss_nil))))
        (vss_one (vs_augI (i := 4) sc_all_led.nd rfl (.inl rfl) ve_int ip_add))))
      (vss_one (vs_ret (ve_mv (pv 2)))))))), fun ds t Q E h => ?_⟩
  · obtain ⟨n, m, ls, H, rfl, _⟩ := h
    rfl
  · obtain ⟨n, m, ls, H, rfl, hH, hn, hL, hS, q⟩ := h
    have hH60 : H.length ≤ 60 := Nat.le_trans (few_of_nodup hS.nd hS.lt) hn
    refine ⟨_, rfl, (by decide : 1 ≤ 5000), _, rfl, kI H, tup_kI H, ?_⟩
    let I : List (List Nat) → Nat → Ev → Prop := fun L at_ env => ∃ ks s5 s7, env = [.fz (.lst (tlD ls)), .fz (.tup (nsD H)), .ow (.lst (tnD L)), .ow (.setT P w ks), .fz (nD at_), s5, .no, s7] ∧ Same ks L ∧ L.Nodup ∧ L[0]? = some H ∧ (∀ K ∈ L, ∃ g, g < n ∧ Led n m H g K) ∧ (∀ i K, i < at_ → L[i]? = some K → ∀ l ∈ ls, ∀ g, g < n → IsCj n m g l → ∀ K', Led n m K g K' → K' ∈ L) ∧ at_ ≤ L.length
    have few : ∀ {L : List (List Nat)}, L.Nodup → (∀ K ∈ L, ∃ g, g < n ∧ Led n m H g K) → L.length ≤ 2400 := fun {L} nd hL => few_subs hH hn nd fun K hK => by
      obtain ⟨g, hg, z⟩ := hL K hK
      exact z.sub hH hS hg
    refine ⟨fun mm env t'' => ∃ L at_, mm = 2401 - at_ ∧ t'' = t ∧ I L at_ env, ⟨_, [H], 0, rfl, rfl, _, _, _, rfl, same_one H, by simp, rfl, fun K hK => ⟨0, hH.pos, by rw [List.mem_singleton.mp hK]; exact led_zero hH hS⟩, fun i K hi => absurd hi (Nat.not_lt_zero i), Nat.zero_le _⟩, fun mm env t'' hW => ?_⟩
    obtain ⟨L, at_, rfl, rfl, ks, s5, s7, rfl, hSm, hnd, hhd, hled, hcl, hat⟩ := hW
    have hfew := few hnd hled
    refine ⟨_, rfl, ⟨_, .inr ⟨_, rfl, rfl⟩⟩, _, .inr ⟨_, rfl, rfl⟩, _, .inl rfl, rfl, _, _, rfl, rfl, _, rfl, iteB (fun e => ?_) (fun e => ?_)⟩
    · have hlt : at_ < L.length := by
        have := of_decide_eq_true e
        rw [tnD_len] at this
        omega
      obtain ⟨K0, hK0⟩ : ∃ K0, L[at_]? = some K0 := ⟨_, List.getElem?_eq_getElem hlt⟩
      obtain ⟨g0, hg0, hL0⟩ := hled K0 (List.mem_of_getElem? hK0)
      have sK0 := hL0.sub hH hS hg0
      have hK60 : K0.length ≤ 60 := Nat.le_trans (few_of_nodup sK0.nd sK0.lt) hn
      refine ⟨_, rfl, tlD ls, rfl, fun j env t3 => t3 = t'' ∧ ∃ L2, L <+: L2 ∧ I L2 at_ env ∧ ∀ l ∈ ls.take j, ∀ g, g < n → IsCj n m g l → ∀ K', Led n m K0 g K' → K' ∈ L2, ⟨rfl, L, List.prefix_refl _, ⟨ks, s5, s7, rfl, hSm, hnd, hhd, hled, hcl, hat⟩, fun l hl => by rw [List.take_zero] at hl; cases hl⟩, fun j x env t3 hx hP => ?_, fun env t3 hP => ?_⟩
      · obtain ⟨rfl, L2, hpre, ⟨ks, s5, s7, rfl, hSm, hnd, hhd, hled, hcl, hat⟩, hnew⟩ := hP
        unfold tlD at hx
        rw [List.getElem?_map] at hx
        obtain ⟨l, hl1, rfl⟩ := Option.map_eq_some_iff.mp hx
        have hlm := List.mem_of_getElem? hl1
        obtain ⟨g, hg, hc⟩ := hL.cj l hlm
        have hK02 : L2[at_]? = some K0 := by
          obtain ⟨r, rfl⟩ := hpre
          rw [List.getElem?_append_left hlt]
          exact hK0
        have hfew := few hnd hled
        obtain ⟨b, hb, e1, e2, el⟩ := hc
        refine ⟨⟨_, .inr ⟨_, rfl, rfl⟩⟩, _, rfl, _, _, _, .inr ⟨_, rfl, rfl⟩, rfl, tnD_get hK02, _, rfl, ?_⟩
        refine lc_map (i := 6) (fun j => nD (m (m b (tA K0 j)) g)) (.head _) (noOw1 rfl no_ow) (by rw [nsD_len]; omega) (fun j x hx R hR => ?_) ?_
        · unfold nsD at hx
          rw [List.getElem?_map] at hx
          obtain ⟨y, hy, rfl⟩ := Option.map_eq_some_iff.mp hx
          have ey : tA K0 j = y := by
            have := tA_get (List.getElem?_eq_some_iff.mp hy).1
            rw [hy] at this
            exact (Option.some.inj this).symm
          have hyn := sK0.lt y (List.mem_of_getElem? hy)
          rw [ey] at hR
          have hly : l[y]? = some (m (m b y) g) := by rw [el, List.getElem?_map, List.getElem?_range hyn]; rfl
          exact ⟨⟨_, .inl rfl⟩, _, rfl, _, _, _, .inl rfl, rfl, nsD_get hly, hR⟩
        have nd : (K0.map fun x => m (m b x) g).Nodup := List.pairwise_map.mpr (List.Pairwise.imp_of_mem (fun {x y} hx hy hxy e => hxy (hH.cn b x y hb (sK0.lt x hx) (sK0.lt y hy) (hH.rc (hH.lt b x hb (sK0.lt x hx)) (hH.lt b y hb (sK0.lt y hy)) hg e))) sK0.nd)
        have em : (List.range (nsD K0).length).map (fun j => nD (m (m b (tA K0 j)) g)) = ((K0.map fun x => m (m b x) g).map fun i : Nat => (i : Int)).map Dt.int := by
          rw [← nsD_ints, nsD_len]
          unfold nsD
          rw [List.map_map]
          refine List.ext_getElem? fun j => ?_
          rw [List.getElem?_map, List.getElem?_map]
          by_cases hj : j < K0.length
          · rw [List.getElem?_range hj, tA_get hj]
            rfl
          · rw [List.getElem?_eq_none (by rw [List.length_range]; omega), List.getElem?_eq_none (by omega)]
            rfl
        rw [em]
        refine ⟨_, rfl, _, rfl, by rw [List.length_map, List.length_map]; omega, fun ns hpm hpw => ⟨flats_int ns, _, rfl, _, rfl, flats_int ns, ?_⟩⟩
        obtain ⟨K1, e6, hpl, hup⟩ := sorted_ns nd hpm hpw
        rw [e6]
        have hK1 : Led n m K0 g K1 := ⟨hup, b, hb, e1, e2, fun y => by rw [List.Perm.mem_iff hpl, List.mem_map]⟩
        have uni : ∀ g', g' < n → IsCj n m g' l → ∀ K', Led n m K0 g' K' → K' = K1 := fun g' hg' hc' K' hK' => by
          obtain ⟨b', hb', f1, f2, el'⟩ := hc'
          obtain ⟨b2, hb2, p1, p2, mem⟩ := hK'.ex
          have e3 : b2 = b' := hH.cn g' b2 b' hg' hb2 hb' (by rw [p1, f1])
          subst e3
          refine rising_eq hK'.up hup fun y => ?_
          rw [mem y, List.Perm.mem_iff hpl, List.mem_map]
          have same : ∀ x ∈ K0, m (m b2 x) g' = m (m b x) g := fun x hx => by
            have hxn := sK0.lt x hx
            have := congrArg (·[x]?) (el'.symm.trans el)
            simp only [List.getElem?_map, List.getElem?_range hxn] at this
            exact Option.some.inj this
          exact ⟨fun ⟨x, hx, e⟩ => ⟨x, hx, by rw [← same x hx]; exact e⟩, fun ⟨x, hx, e⟩ => ⟨x, hx, by rw [same x hx]; exact e⟩⟩
        have hadd : ∀ L3 : List (List Nat), L2 <+: L3 → K1 ∈ L3 → ∀ l' ∈ ls.take (j + 1), ∀ g', g' < n → IsCj n m g' l' → ∀ K', Led n m K0 g' K' → K' ∈ L3 := fun L3 hp hin l' hl' g' hg' hc' K' hK' => by
          rw [take_snoc' hl1] at hl'
          rcases List.mem_append.mp hl' with hl' | hl'
          · exact hp.subset (hnew l' hl' g' hg' hc' K' hK')
          · rw [List.mem_singleton.mp hl'] at hc'
            rw [uni g' hg' hc' K' hK']
            exact hin
        refine ⟨_, rfl, ks, kI K1, rfl, tup_kI K1, _, rfl, iteB (fun e => ?_) (fun e => ?_)⟩
        · rw [hSm.in_] at e
          have hll := hpre.length_le
          have hni : K1 ∉ L2 := fun z => by rw [decide_eq_true z] at e; cases e
          have hap : L2 <+: L2 ++ [K1] := List.prefix_append _ _
          refine ⟨⟨_, rfl⟩, _, rfl, ks, kI K1, rfl, tup_kI K1, by rw [hSm.2]; omega, ⟨_, rfl⟩, _, rfl, _, rfl, _, rfl, by rw [tnD_len]; omega, rfl, L2 ++ [K1], hpre.trans hap, ⟨addT ks (kI K1), _, _, by rw [tnD_snoc]; rfl, hSm.add hni, ?_, ?_, fun K hK => ?_, fun i K hi hK l' hl' g' hg' hc' K' hK' => ?_, by rw [List.length_append]; omega⟩, hadd _ hap (by simp)⟩
          · rw [List.nodup_append]
            exact ⟨hnd, by simp, fun a ha c hc z => hni (by rw [List.mem_singleton.mp hc] at z; rw [← z]; exact ha)⟩
          · rw [List.getElem?_append_left (by omega)]
            exact hhd
          · rcases List.mem_append.mp hK with hK | hK
            · exact hled K hK
            · rw [List.mem_singleton.mp hK]
              exact ⟨m g0 g, hH.lt g0 g hg0 hg, hL0.then_ hH hS hg0 hg hK1⟩
          · rw [List.getElem?_append_left (by omega)] at hK
            exact List.mem_append_left _ (hcl i K hi hK l' hl' g' hg' hc' K' hK')
        · rw [hSm.in_] at e
          have hin : K1 ∈ L2 := Classical.byContradiction fun z => by rw [decide_eq_false z] at e; cases e
          exact ⟨rfl, L2, hpre, ⟨ks, _, _, rfl, hSm, hnd, hhd, hled, hcl, hat⟩, hadd L2 (List.prefix_refl _) hin⟩
      · obtain ⟨rfl, L2, hpre, ⟨ks, s5, s7, rfl, hSm, hnd, hhd, hled, hcl, hat⟩, hnew⟩ := hP
        rw [tlD_len, List.take_of_length_le (Nat.le_refl _)] at hnew
        have hll := hpre.length_le
        have hfew := few hnd hled
        refine ⟨_, rfl, _, rfl, 2401 - (at_ + 1), by omega, L2, at_ + 1, rfl, rfl, ks, s5, s7, rfl, hSm, hnd, hhd, hled, fun i K hi hK l hl g hg hc K' hK' => ?_, by omega⟩
        by_cases z : i = at_
        · subst z
          have hK02 : L2[i]? = some K0 := by
            obtain ⟨r, rfl⟩ := hpre
            rw [List.getElem?_append_left hlt]
            exact hK0
          rw [hK02] at hK
          cases hK
          exact hnew l hl g hg hc K' hK'
        · exact hcl i K (by omega) hK l hl g hg hc K' hK'
    · have hge : at_ = L.length := by
        have : ¬ ((at_ : Nat) : Int) < ((tnD L).length : Int) := fun z => by rw [decide_eq_true z] at e; cases e
        rw [tnD_len] at this
        omega
      subst hge
      refine ⟨_, rfl, q L ⟨hhd, hnd, fun K => ⟨hled K, fun ⟨g, hg, hK⟩ => ?_⟩⟩⟩
      obtain ⟨gs, G, hgs⟩ := hL.all
      refine orb_all hH hS G (List.mem_of_getElem? hhd) (fun K hK g hg l hl => ?_) hg hK
      obtain ⟨c, hc, hc2⟩ := hgs g hg
      obtain ⟨g1, hg1, L1⟩ := hled K hK
      have sK := L1.sub hH hS hg1
      rcases hc2 with hc2 | rfl
      · obtain ⟨i, hi, e⟩ := List.getElem_of_mem hK
        exact hcl i K hi (by rw [List.getElem?_eq_getElem hi, e]) c hc2 g (G.2.1 g hg) hc l hl
      · rw [led_still hH sK (G.2.1 g hg) hc hl]
        exact hK
end
end K50
namespace K50
open PySem PySem.Spec PyProof.Rows L2 HM VL
abbrev s_grown_by : Stmt := topS 16
theorem sc_grown_by : FnScope ["house", "part", "makers", "number", "movers", "firsts", "within", "at", "row", "mover", "come_to", "inner"] ["house", "part", "makers", "number"] (defScope s_grown_by) := ⟨rfl, rfl, rfl, by decide +kernel, rfl, by decide +kernel, by decide +kernel⟩
section
variable {P : Program} {w : World} {K : PySem.W.Frag} {mg : Str → Option Value} {base : Heap} {am : Am} {gd : Around → Prop} {k : Nat}
theorem ok_grown {f : Addr} {fd : FuncData} (F : Fun K "grown_by" "grown_by" s_grown_by f fd) (mz : ∀ x ∈ bn, mg x = none) : VFn gd P w K mg base CX0 (k + 1) f fd ["house", "part", "makers", "number"] am spGrown := by
  refine vfn_of F sc_grown_by (fun ds n Q E h => ?_) ⟨_, fun cdv A out s H E F0 H0 hcd hgd hr =>
    (vss_cons (vs_set (i := 4) sc_grown_by.nd rfl (.inl rfl) (ve_new (vn_lst (va_star (ve_var (pv 2)) (va_cons (ve_var (pv 3)) va_nil)))))
      (vss_cons (vs_setN (i := 5) sc_grown_by.nd rfl (.inl rfl) (vn_lst (va_cons ve_int va_nil)))
      (vss_cons (vs_setN (i := 6) sc_grown_by.nd rfl (.inl rfl) (vn_tyR (cr_setTuW w rfl rfl) lft_setTu (by rfl) (mz "set" (by decide)) (by decide +kernel) (vb_rd (pv 1) vb_nil)))
      (vss_cons (vs_set (i := 7) sc_grown_by.nd rfl (.inl rfl) ve_int)
      (vss_cons (vs_while PassesOwn.never (vt_cmp op_lt lft_B0 (ve_var (pv 7)) (ve_cbR call_len_seq lft_len (by rfl) (mz "len" (by decide)) PySem.boot_len (vb_rd (pv 5) vb_nil)) (nomark _))
        (vss_cons (vs_set (i := 8) sc_grown_by.nd rfl (.inl rfl) (ve_ixO (pv 0) (ve_ixO (pv 5) (ve_var (pv 7)) (fun _ _ => rfl)) (fun _ _ => rfl)))
        (vss_cons (vs_for PassesOwn.never rfl (vi_list (ve_var (pv 4))) (vg_name (pg_name (i := 9) sc_grown_by.nd rfl (.inl rfl)))
          (vss_cons (vs_set (i := 10) sc_grown_by.nd rfl (.inl rfl) (ve_ixO (pv 8) (ve_var (pv 9)) (fun _ _ => rfl)))
          (vss_one (vs_if (vt_snotin w rfl (ve_var (pv 10)) (pv 6) (by rfl))
            (vss_cons (vs_expr (ve_m (pe_bm PySem.F.plainAttrs_list PySem.F.slot_list_append PySem.F.type_list_append mt_append (pv 5) (va_cons (ve_var (pv 10)) va_nil)) lft_append))
            (vss_one (vs_for PassesOwn.never rfl (vi_tup (ve_var (pv 1))) (vg_name (pg_name (i := 11) sc_grown_by.nd rfl (.inl rfl)))
              (vss_one (vs_expr (ve_sadd w rfl (pv 6) (ve_ix ix_list lft_ixL (ve_ixO (pv 0) (ve_var (pv 11)) (fun _ _ => rfl)) (ve_var (pv 10)) (fun _ _ => rfl))))))))
            vss_nil))))
        (vss_one (vs_augI (i := 7) sc_grown_by.nd rfl (.inl rfl) ve_int ip_add)))))
      (vss_one (vs_ret (ve_tyTR call_tuple_of lft_tupleOf (by rfl) (mz "tuple" (by decide)) (by decide +kernel) (vb_cons (ve_new (vn_sortZ w rfl rfl (by rfl) (mz "sorted" (by decide)) (pv 6))) vb_nil))))))))), fun ds t Q E h => ?_⟩
  · obtain ⟨n, m, H, gs, x, rfl, _⟩ := h
    rfl
  · obtain ⟨n, m, H, gs, x, rfl, hH, hn, hgl, hg, hp, hx, q⟩ := h
    have hS : Sub n m H := hp.sub hH hg
    have hH60 : H.length ≤ 60 := Nat.le_trans (few_of_nodup hS.nd hS.lt) hn
    have hh : ∀ g ∈ gs ++ [x], g < n := fun g hg2 => by
      rcases List.mem_append.mp hg2 with z | z
      · exact hg g z
      · rw [List.mem_singleton.mp z]; exact hx
    refine ⟨_, rfl, _, .inr rfl, _, rfl, by rw [List.length_append, nsD_len]; show gs.length + 1 ≤ 5000; omega, _, rfl, by decide, ⟨_, .inl rfl⟩, _, .inl rfl, kI H, by rw [nsD_ints]; rfl, by unfold kI; rw [List.length_map]; omega, fun c0 hc0 => ⟨rfl, ?_⟩⟩
    have hc0 : c0 ≤ H.length := by unfold kI at hc0; rwa [List.length_map] at hc0
    have em : nsD gs ++ [nD x] = nsD (gs ++ [x]) := nsD_snoc gs x
    rw [em]
    obtain ⟨hs, ehs⟩ : ∃ hs, hs = gs ++ [x] := ⟨_, rfl⟩
    rw [← ehs] at hh q ⊢
    let I : Sl → List Nat → List Nat → Nat → Ev → Prop := fun s8 fs W at_ env => ∃ S c s9 s10 s11, env = [.fz (houD n m), .fz (.tup (nsD H)), .fz (.lst (nsD gs)), .fz (nD x), .fz (.lst (nsD hs)), .ow (.lst (nsD fs)), .ow (.set w S c), .fz (nD at_), s8, s9, s10, s11] ∧ SetN S c W ∧ Grow n m H hs fs W ∧ at_ ≤ fs.length
    have few : ∀ {fs W : List Nat}, Grow n m H hs fs W → fs.length ≤ n := fun G => few_of_nodup G.ndf fun f hf => (G.rc f (G.fw f hf)).lt hH.pos hH.lt hh
    have fewW : ∀ {W : List Nat}, W.Nodup → (∀ y ∈ W, Rch m hs y) → W.length ≤ n := fun nd G => few_of_nodup nd fun f hf => (G f hf).lt hH.pos hH.lt hh
    refine ⟨fun mm env t'' => ∃ s8 fs W at_, mm = 61 - at_ ∧ t'' = t ∧ I s8 fs W at_ env ∧ ∀ i f, i < at_ → fs[i]? = some f → ∀ g ∈ hs, m f g ∈ W, ⟨_, .no, [0], H, 0, rfl, rfl, ⟨_, _, .no, .no, .no, rfl, ⟨fun j => ?_, hS.nd, hc0⟩, ⟨fun y hy => ?_, by simp, by simp, fun f hf => by rw [List.mem_singleton.mp hf]; exact hS.ze, fun f hf h hh2 => by rw [List.mem_singleton.mp hf, hH.zr h (hS.lt h hh2)]; exact hh2, fun y hy => ⟨0, by simp, y, hy, hH.zr y (hS.lt y hy)⟩⟩, Nat.zero_le _⟩, fun i f hi => absurd hi (Nat.not_lt_zero i)⟩, fun mm env t'' hW => ?_⟩
    · rw [decide_eq_true_iff]
      unfold kI
      rw [List.mem_map]
      exact ⟨fun ⟨i, hi, e⟩ => ⟨i, hi, e.symm⟩, fun ⟨i, hi, e⟩ => ⟨i, hi, e.symm⟩⟩
    · rw [ehs]
      exact Rch.mono (fun g hg => List.mem_append_left _ hg) ((hp.mem y).mp hy)
    obtain ⟨s8, fs, W, at_, rfl, rfl, ⟨S, c, s9, s10, s11, rfl, hSn, hG, hat⟩, hcl⟩ := hW
    have hfn := few hG
    refine ⟨_, rfl, ⟨_, .inr ⟨_, rfl, rfl⟩⟩, _, .inr ⟨_, rfl, rfl⟩, _, .inl rfl, rfl, _, _, rfl, rfl, _, rfl, iteB (fun e => ?_) (fun e => ?_)⟩
    · have hlt : at_ < fs.length := by
        have := of_decide_eq_true e
        rw [nsD_len] at this
        omega
      obtain ⟨x0, hx0⟩ : ∃ x0, fs[at_]? = some x0 := ⟨_, List.getElem?_eq_getElem hlt⟩
      have hx0r := hG.rc x0 (hG.fw x0 (List.mem_of_getElem? hx0))
      have hx0n : x0 < n := hx0r.lt hH.pos hH.lt hh
      refine ⟨⟨_, .inl rfl⟩, ⟨_, .inr ⟨_, rfl, rfl⟩⟩, _, rfl, _, _, _, .inr ⟨_, rfl, rfl⟩, rfl, nsD_get hx0, _, _, _, .inl rfl, rfl, hou_at hx0n, ?_⟩
      refine ⟨_, rfl, nsD hs, rfl, fun j env t3 => t3 = t'' ∧ ∃ fs2 W2, fs <+: fs2 ∧ (∀ y ∈ W, y ∈ W2) ∧ I (.fz (rowD n (m x0))) fs2 W2 at_ env ∧ ∀ g ∈ hs.take j, m x0 g ∈ W2, ⟨rfl, fs, W, List.prefix_refl _, fun _ z => z, ⟨S, c, s9, s10, s11, rfl, hSn, hG, hat⟩, fun g hg => by rw [List.take_zero] at hg; cases hg⟩, fun j y env t3 hy hP => ?_, fun env t3 hP => ?_⟩
      · obtain ⟨rfl, fs2, W2, hpre, hWW, ⟨S, c, s9, s10, s11, rfl, hSn, hG, hat⟩, hnew⟩ := hP
        unfold nsD at hy
        rw [List.getElem?_map] at hy
        obtain ⟨g, hg1, rfl⟩ := Option.map_eq_some_iff.mp hy
        have hgm := List.mem_of_getElem? hg1
        have hgn := hh g hgm
        have hfn := few hG
        have hWn := fewW hSn.2.1 hG.rc
        have hcmn := hH.lt x0 g hx0n hgn
        have hcr : Rch m hs (m x0 g) := .step hx0r hgm
        refine ⟨⟨_, .inl rfl⟩, _, rfl, _, _, _, .inl rfl, rfl, row_at hgn, _, rfl, S, c, _, rfl, rfl, _, rfl, iteB (fun e2 => ?_) (fun e2 => ?_)⟩
        · have hni : m x0 g ∉ W2 := fun z => by
            have e2 : (!S ((m x0 g : Nat) : Int)) = true := e2
            rw [hSn.in_, decide_eq_true z] at e2
            cases e2
          refine ⟨⟨_, rfl⟩, _, rfl, _, rfl, _, rfl, by rw [nsD_len]; omega, ?_⟩
          refine ⟨_, rfl, nsD H, rfl, fun i env t4 => t4 = t3 ∧ ∃ S3 c3 W3 s11, env = [.fz (houD n m), .fz (.tup (nsD H)), .fz (.lst (nsD gs)), .fz (nD x), .fz (.lst (nsD hs)), .ow (.lst (nsD (fs2 ++ [m x0 g]))), .ow (.set w S3 c3), .fz (nD at_), .fz (rowD n (m x0)), .fz (nD g), .fz (nD (m x0 g)), s11] ∧ SetN S3 c3 W3 ∧ (∀ y ∈ W2, y ∈ W3) ∧ (∀ h ∈ H.take i, m h (m x0 g) ∈ W3) ∧ ∀ y ∈ W3, y ∈ W2 ∨ ∃ h ∈ H, m h (m x0 g) = y,
            ⟨rfl, S, c, W2, s11, by rw [← nsD_snoc]; rfl, hSn, fun _ z => z, fun h hh2 => by rw [List.take_zero] at hh2; (cases hh2), fun y hy => .inl hy⟩, fun i y env t4 hy hP => ?_, fun env t4 hP => ?_⟩
          · obtain ⟨rfl, S3, c3, W3, s11, rfl, hS3, hsub, hco, hof⟩ := hP
            unfold nsD at hy
            rw [List.getElem?_map] at hy
            obtain ⟨h, hh1, rfl⟩ := Option.map_eq_some_iff.mp hy
            have hhm := List.mem_of_getElem? hh1
            have hhn := hS.lt h hhm
            have hW3 := fewW hS3.2.1 fun y hy => by
              rcases hof y hy with z | ⟨h2, z, rfl⟩
              · exact hG.rc y z
              · refine hH.rch hh ?_ hcr
                rw [ehs]
                exact Rch.mono (fun g hg => List.mem_append_left _ hg) ((hp.mem h2).mp z)
            have hc3 := hS3.2.2
            obtain ⟨W4, hS4, hW4⟩ := hS3.add (m h (m x0 g))
            refine ⟨⟨_, _, rfl⟩, ⟨_, .inl rfl⟩, _, rfl, _, _, _, .inl rfl, rfl, hou_at hhn, _, rfl, _, _, _, rfl, rfl, row_at hcmn, S3, c3, _, rfl, rfl, by omega, rfl, _, _, W4, _, rfl, hS4, fun y hy => (hW4 y).mpr (.inl (hsub y hy)), fun h2 hh2 => ?_, fun y hy => ?_⟩
            · rw [take_snoc' hh1] at hh2
              rcases List.mem_append.mp hh2 with z | z
              · exact (hW4 _).mpr (.inl (hco h2 z))
              · rw [List.mem_singleton.mp z]
                exact (hW4 _).mpr (.inr rfl)
            · rcases (hW4 y).mp hy with z | rfl
              · exact hof y z
              · exact .inr ⟨h, hhm, rfl⟩
          · obtain ⟨rfl, S3, c3, W3, s11, rfl, hS3, hsub, hco, hof⟩ := hP
            rw [nsD_len, List.take_of_length_le (Nat.le_refl _)] at hco
            have hap : fs2 <+: fs2 ++ [m x0 g] := List.prefix_append _ _
            refine ⟨rfl, fs2 ++ [m x0 g], W3, hpre.trans hap, fun y hy => hsub y (hWW y hy), ⟨S3, c3, _, _, _, rfl, hS3, ⟨fun y hy => ?_, List.mem_append_left _ hG.f0, ?_, fun f hf => ?_, fun f hf h hh2 => ?_, fun y hy => ?_⟩, by rw [List.length_append]; omega⟩, fun g2 hg2 => ?_⟩
            · rcases hof y hy with z | ⟨h2, z, rfl⟩
              · exact hG.rc y z
              · refine hH.rch hh ?_ hcr
                rw [ehs]
                exact Rch.mono (fun g hg => List.mem_append_left _ hg) ((hp.mem h2).mp z)
            · rw [List.nodup_append]
              exact ⟨hG.ndf, by simp, fun a ha b hb z => hni (by rw [List.mem_singleton.mp hb] at z; rw [← z]; exact hG.fw a ha)⟩
            · rcases List.mem_append.mp hf with z | z
              · exact hsub f (hG.fw f z)
              · rw [List.mem_singleton.mp z]
                have := hco 0 hS.ze
                rwa [hH.zl _ hcmn] at this
            · rcases List.mem_append.mp hf with z | z
              · exact hsub _ (hG.co f z h hh2)
              · rw [List.mem_singleton.mp z]
                exact hco h hh2
            · rcases hof y hy with z | ⟨h2, z, e⟩
              · obtain ⟨f, hf, r⟩ := hG.of y z
                exact ⟨f, List.mem_append_left _ hf, r⟩
              · exact ⟨m x0 g, by simp, h2, z, e⟩
            · rw [take_snoc' hg1] at hg2
              rcases List.mem_append.mp hg2 with z | z
              · exact hsub _ (hnew g2 z)
              · rw [List.mem_singleton.mp z]
                have := hco 0 hS.ze
                rwa [hH.zl _ hcmn] at this
        · have hin : m x0 g ∈ W2 := Classical.byContradiction fun z => by
            have e2 : (!S ((m x0 g : Nat) : Int)) = false := e2
            rw [hSn.in_, decide_eq_false z] at e2
            cases e2
          refine ⟨rfl, fs2, W2, hpre, hWW, ⟨S, c, _, _, _, rfl, hSn, hG, hat⟩, fun g2 hg2 => ?_⟩
          rw [take_snoc' hg1] at hg2
          rcases List.mem_append.mp hg2 with z | z
          · exact hnew g2 z
          · rw [List.mem_singleton.mp z]
            exact hin
      · obtain ⟨rfl, fs2, W2, hpre, hWW, ⟨S, c, s9, s10, s11, rfl, hSn, hG, hat⟩, hnew⟩ := hP
        rw [nsD_len, List.take_of_length_le (Nat.le_refl _)] at hnew
        have hll := hpre.length_le
        have hfn := few hG
        refine ⟨_, rfl, _, rfl, 61 - (at_ + 1), by omega, _, fs2, W2, at_ + 1, rfl, rfl, ⟨S, c, s9, s10, s11, rfl, hSn, hG, by omega⟩, fun i f hi hf g hg => ?_⟩
        by_cases z : i = at_
        · subst z
          have hx02 : fs2[i]? = some x0 := by
            obtain ⟨r, rfl⟩ := hpre
            rw [List.getElem?_append_left hlt]
            exact hx0
          rw [hx02] at hf
          cases hf
          exact hnew g hg
        · have hi2 : i < at_ := by omega
          have hfi : fs[i]? = some f := by
            obtain ⟨r, rfl⟩ := hpre
            rwa [List.getElem?_append_left (by omega)] at hf
          exact hWW _ (hcl i f hi2 hfi g hg)
    · have hge : at_ = fs.length := by
        have : ¬ ((at_ : Nat) : Int) < ((nsD fs).length : Int) := fun z => by rw [decide_eq_true z] at e; cases e
        rw [nsD_len] at this
        omega
      subst hge
      have hall := hG.all hH hS hh fun f hf g hg => by
        obtain ⟨i, hi, e⟩ := List.getElem_of_mem hf
        exact hcl i f hi (by rw [List.getElem?_eq_getElem hi, e]) g hg
      have hWn := fewW hSn.2.1 hG.rc
      have hcn := hSn.2.2
      obtain ⟨l, hl⟩ := pt_ex hH hh
      refine ⟨S, c, rfl, by omega, fun ns h1 h2 h3 => ⟨_, rfl, _, rfl, flats_int ns, ?_⟩⟩
      have e9 : ns.map Dt.int = nsD l := rising_ints hl.up h1 fun j => by
        rw [h2, hSn.1, decide_eq_true_iff, List.mem_map]
        exact ⟨fun ⟨i, hi, e⟩ => ⟨i, (hl.mem i).mpr ((hall i).mp hi), e.symm⟩, fun ⟨i, hi, e⟩ => ⟨i, (hall i).mpr ((hl.mem i).mp hi), e.symm⟩⟩
      rw [e9]
      exact q l hl
end
end K50
namespace K50
open PySem PySem.Spec PyProof.Rows L2 HM VL
abbrev s_parts_by_kind : Stmt := topS 17
theorem sc_parts_by_kind : FnScope ["house", "leaders", "told", "makers", "seen", "at", "part", "number", "grown", "alike", "other"] ["house"] (defScope s_parts_by_kind) := ⟨rfl, rfl, rfl, by decide +kernel, rfl, by decide +kernel, by decide +kernel⟩
section
variable {P : Program} {w : World} {K : PySem.W.Frag} {mg : Str → Option Value} {base : Heap} {am : Am} {gd : Around → Prop} {k : Nat}
theorem ok_bykind {f f_leaders_of f_all_led f_grown_by f_shares : Addr} {fd fd_leaders_of fd_all_led fd_grown_by fd_shares : FuncData} (F : Fun K "parts_by_kind" "parts_by_kind" s_parts_by_kind f fd)
    (G_leaders_of : VFn anyA P w K mg base CX0 (k + 6) f_leaders_of fd_leaders_of ["house"] am spLeaders) (g_leaders_of : mg "leaders_of" = some (.ref f_leaders_of)) (k_leaders_of : PySem.W.keepIn K (.ref f_leaders_of) = true) (b_leaders_of : Binds K fd_leaders_of ["house"] [])
    (G_all_led : VFn anyA P w K mg base CX0 (k + 1) f_all_led fd_all_led ["leaders", "part"] am spAllLed) (g_all_led : mg "all_led" = some (.ref f_all_led)) (k_all_led : PySem.W.keepIn K (.ref f_all_led) = true) (b_all_led : Binds K fd_all_led ["leaders", "part"] [])
    (G_grown_by : VFn anyA P w K mg base CX0 (k + 1) f_grown_by fd_grown_by ["house", "part", "makers", "number"] am spGrown) (g_grown_by : mg "grown_by" = some (.ref f_grown_by)) (k_grown_by : PySem.W.keepIn K (.ref f_grown_by) = true) (b_grown_by : Binds K fd_grown_by ["house", "part", "makers", "number"] [])
    (G_shares : VFn anyA P w K mg base CX0 (k + 1) f_shares fd_shares ["house", "part"] am spShares) (g_shares : mg "shares" = some (.ref f_shares)) (k_shares : PySem.W.keepIn K (.ref f_shares) = true) (b_shares : Binds K fd_shares ["house", "part"] [])
    (mz : ∀ x ∈ bn, mg x = none) : VFn gd P w K mg base CX0 (k + 7) f fd ["house"] am spByKind := by
  refine vfn_of F sc_parts_by_kind (fun ds n Q E h => ?_) ⟨_, fun cdv A out s H E F0 H0 hcd hgd hr =>
    (vss_cons (vs_set (i := 1) sc_parts_by_kind.nd rfl (.inl rfl) (ve_call G_leaders_of trivial (hr.mono (by omega)) (by rfl) g_leaders_of k_leaders_of b_leaders_of pass0 (va_cons (ve_var (pv 0)) va_nil)))
      (vss_cons (vs_setN (i := 2) sc_parts_by_kind.nd rfl (.inl rfl) (vn_lst (va_cons (ve_lstK (ka_cons (ve_tupK (ka_cons ve_int ka_nil) (by decide)) ka_nil) (by decide)) va_nil)))
      (vss_cons (vs_setN (i := 3) sc_parts_by_kind.nd rfl (.inl rfl) (vn_lst (va_cons (ve_new (vn_lst va_nil)) va_nil)))
      (vss_cons (vs_setN (i := 4) sc_parts_by_kind.nd rfl (.inl rfl) (vn_setOneTW P w rfl rfl hr.units (kds_ok F hcd) (fun F0 H0 => (ve_tupK (ka_cons ve_int ka_nil) (by decide)))))
      (vss_cons (vs_set (i := 5) sc_parts_by_kind.nd rfl (.inl rfl) ve_int)
      (vss_cons (vs_while PassesOwn.never (vt_cmp op_lt lft_B0 (ve_var (pv 5)) (ve_cbR call_len_seq lft_len (by rfl) (mz "len" (by decide)) PySem.boot_len (vb_rd (pv 2) vb_nil)) (nomark _))
        (vss_cons (vs_set (i := 6) sc_parts_by_kind.nd rfl (.inl rfl) (ve_ix ix_list lft_ixL (ve_ixO (pv 2) (ve_var (pv 5)) (fun _ _ => rfl)) ve_int (fun _ _ => rfl)))
        (vss_cons (vs_for PassesOwn.never rfl (vi_list (ve_ix ix_tup lft_ixT (ve_call G_shares trivial (hr.mono (by omega)) (by rfl) g_shares k_shares b_shares pass0 (va_cons (ve_var (pv 0)) (va_cons (ve_var (pv 6)) va_nil))) ve_int (fun _ _ => rfl))) (vg_name (pg_name (i := 7) sc_parts_by_kind.nd rfl (.inl rfl)))
          (vss_cons (vs_set (i := 8) sc_parts_by_kind.nd rfl (.inl rfl) (ve_call G_grown_by trivial (hr.mono (by omega)) (by rfl) g_grown_by k_grown_by b_grown_by pass0 (va_cons (ve_var (pv 0)) (va_cons (ve_var (pv 6)) (va_cons (ve_ixO (pv 3) (ve_var (pv 5)) (fun _ _ => rfl)) (va_cons (ve_var (pv 7)) va_nil))))))
          (vss_one (vs_if (vt_snotinTW P w rfl rfl hr.units (ve_var (pv 8)) (pv 4) (by rfl))
            (vss_cons (vs_set (i := 9) sc_parts_by_kind.nd rfl (.inl rfl) (ve_call G_all_led trivial (hr.mono (by omega)) (by rfl) g_all_led k_all_led b_all_led pass0 (va_cons (ve_var (pv 1)) (va_cons (ve_var (pv 8)) va_nil))))
            (vss_cons (vs_for PassesOwn.never rfl (vi_list (ve_var (pv 9))) (vg_name (pg_name (i := 10) sc_parts_by_kind.nd rfl (.inl rfl)))
              (vss_one (vs_expr (ve_saddTW P w rfl rfl hr.units (pv 4) (ve_var (pv 10))))))
            (vss_cons (vs_expr (ve_m (pe_bm PySem.F.plainAttrs_list PySem.F.slot_list_append PySem.F.type_list_append mt_append (pv 2) (va_cons (ve_var (pv 9)) va_nil)) lft_append))
            (vss_one (vs_expr (ve_m (pe_bm PySem.F.plainAttrs_list PySem.F.slot_list_append PySem.F.type_list_append mt_append (pv 3) (va_cons (ve_new (vn_lst (va_star (ve_ixO (pv 3) (ve_var (pv 5)) (fun _ _ => rfl)) (va_cons (ve_var (pv 7)) va_nil)))) va_nil)) lft_append))))))
            vss_nil))))
        (vss_one (vs_augI (i := 5) sc_parts_by_kind.nd rfl (.inl rfl) ve_int ip_add)))))
      (vss_one (vs_ret (ve_mv (pv 2)))))))))), fun ds t Q E h => ?_⟩
  · obtain ⟨n, m, rfl, _⟩ := h
    rfl
  · obtain ⟨n, m, rfl, hH, hn, q⟩ := h
    refine ⟨_, rfl, n, m, rfl, hH, hn, fun ls hL => ?_⟩
    refine ⟨(by decide : 1 ≤ 5000), Nat.zero_le _, _, rfl, (by decide : 1 ≤ 5000), kI [0], rfl, ?_⟩
    let I : Nat → List (List (List Nat)) → List (List Nat) → Sl → Ev → Prop := fun at_ T M s6 env => ∃ ks s7 s8 s9 s10, env = [.fz (houD n m), .fz (.lst (tlD ls)), .ow (.lst (ttD T)), .ow (.lst (tlD M)), .ow (.setT P w ks), .fz (nD at_), s6, s7, s8, s9, s10] ∧ Same ks T.flatten ∧ Srch n m T M ∧ at_ ≤ T.length
    refine ⟨fun mm env t'' => ∃ T M at_ s6, mm = 2401 - at_ ∧ t'' = t ∧ I at_ T M s6 env ∧ ∀ (i : Nat) (O : List (List Nat)) (H : List Nat), i < at_ → T[i]? = some O → O[0]? = some H → ∀ y, y < n → ∃ l ∈ T.flatten, IsPt m (H ++ [y]) l, ⟨_, [[[0]]], [[]], 0, .no, rfl, rfl, ⟨[kI [0]], .no, .no, .no, .no, rfl, same_one [0], srch_start hH, Nat.zero_le _⟩, fun i O H hi => absurd hi (Nat.not_lt_zero i)⟩, fun mm env t'' hW => ?_⟩
    obtain ⟨T, M, at_, s6, rfl, rfl, ⟨ks, s7, s8, s9, s10, rfl, hSm, hS, hat⟩, hcl⟩ := hW
    obtain ⟨few1, few2⟩ := hS.few hH hn
    refine ⟨_, rfl, ⟨_, .inr ⟨_, rfl, rfl⟩⟩, _, .inr ⟨_, rfl, rfl⟩, _, .inl rfl, rfl, _, _, rfl, rfl, _, rfl, iteB (fun e => ?_) (fun e => ?_)⟩
    · have hlt : at_ < T.length := by
        have := of_decide_eq_true e
        rw [ttD_len] at this
        omega
      obtain ⟨O, hO⟩ : ∃ O, T[at_]? = some O := ⟨_, List.getElem?_eq_getElem hlt⟩
      obtain ⟨H, gs, hM, hp, hg, hlen, o⟩ := hS.orb at_ O hO
      have sH := hp.sub hH hg
      have hH60 : H.length ≤ 60 := Nat.le_trans (few_of_nodup sH.nd sH.lt) hn
      refine ⟨⟨_, .inr ⟨_, rfl, rfl⟩⟩, _, rfl, _, _, _, .inr ⟨_, rfl, rfl⟩, rfl, ttD_get hO, _, _, _, rfl, rfl, tnD_get (i := 0) o.hd, _, rfl, _, rfl, n, m, H, rfl, hH, hn, sH, ?_⟩
      refine ⟨_, _, _, rfl, rfl, rfl, _, rfl, fun j env t3 => t3 = t'' ∧ ∃ T2 M2, T <+: T2 ∧ M <+: M2 ∧ I at_ T2 M2 (.fz (.tup (nsD H))) env ∧ ∀ k ∈ (lst m H n).take j, ∃ l ∈ T2.flatten, IsPt m (gs ++ [k]) l, ⟨rfl, T, M, List.prefix_refl _, List.prefix_refl _, ⟨ks, s7, s8, s9, s10, rfl, hSm, hS, hat⟩, fun k hk => by rw [List.take_zero] at hk; cases hk⟩, fun j y env t3 hy hP => ?_, fun env t3 hP => ?_⟩
      · obtain ⟨rfl, T2, M2, hT2, hM2, ⟨ks, s7, s8, s9, s10, rfl, hSm, hS, hat⟩, hnew⟩ := hP
        unfold nsD at hy
        rw [List.getElem?_map] at hy
        obtain ⟨k, hk1, rfl⟩ := Option.map_eq_some_iff.mp hy
        obtain ⟨hkn, hkr⟩ := lst_mem.mp (List.mem_of_getElem? hk1)
        obtain ⟨few1, few2⟩ := hS.few hH hn
        have hO2 : T2[at_]? = some O := by
          obtain ⟨r, rfl⟩ := hT2
          rw [List.getElem?_append_left hlt]
          exact hO
        have hM3 : M2[at_]? = some gs := by
          obtain ⟨r, rfl⟩ := hM2
          rw [List.getElem?_append_left (List.getElem?_eq_some_iff.mp hM).1]
          exact hM
        have hHin : H ∈ T2.flatten := List.mem_flatten.mpr ⟨O, List.mem_of_getElem? hO2, o.self⟩
        have hgk : ∀ g ∈ gs ++ [k], g < n := fun g hg2 => by
          rcases List.mem_append.mp hg2 with z | z
          · exact hg g z
          · rw [List.mem_singleton.mp z]; exact hkn
        refine ⟨_, rfl, _, rfl, ⟨_, .inr ⟨_, rfl, rfl⟩⟩, _, rfl, _, _, _, .inr ⟨_, rfl, rfl⟩, rfl, tlD_get hM3, _, rfl, n, m, H, gs, k, rfl, hH, hn, by omega, hg, hp, hkn, fun l hl => ?_⟩
        have sl := hl.sub hH hgk
        have hadd : ∀ T3 : List (List (List Nat)), (∀ x ∈ T2.flatten, x ∈ T3.flatten) → l ∈ T3.flatten → ∀ k2 ∈ (lst m H n).take (j + 1), ∃ l ∈ T3.flatten, IsPt m (gs ++ [k2]) l := fun T3 h1 h2 k2 hk2 => by
          rw [take_snoc' hk1] at hk2
          rcases List.mem_append.mp hk2 with z | z
          · obtain ⟨l2, h3, h4⟩ := hnew k2 z
            exact ⟨l2, h1 l2 h3, h4⟩
          · rw [List.mem_singleton.mp z]
            exact ⟨l, h2, hl⟩
        refine ⟨_, rfl, ks, kI l, rfl, tup_kI l, _, rfl, iteB (fun e => ?_) (fun e => ?_)⟩
        · rw [hSm.in_] at e
          have hni : l ∉ T2.flatten := fun z => by rw [decide_eq_true z] at e; cases e
          have hHl : ∀ x ∈ H, x ∈ l := fun x hx => (hl.mem x).mpr (Rch.mono (fun g hg => List.mem_append_left _ hg) ((hp.mem x).mp hx))
          have hll : H.length + 1 ≤ l.length := by
            rcases Nat.lt_or_ge H.length l.length with z | z
            · exact z
            · exfalso
              have : l = H := rising_eq sl.up sH.up fun x => ⟨fun hx => full_of_nodup sH.nd hHl z x hx, hHl x⟩
              rw [this] at hni
              exact hni hHin
          refine ⟨_, rfl, _, rfl, n, m, ls, l, rfl, hH, hn, hL, sl, fun O2 o2 => ?_⟩
          have few3 := few_subs hH hn o2.nd (o2.sub hH sl)
          have hap := hS.apart hH sl hni o2
          refine ⟨_, rfl, tnD O2, rfl, fun i env t4 => t4 = t3 ∧ ∃ ks2 s10, env = [.fz (houD n m), .fz (.lst (tlD ls)), .ow (.lst (ttD T2)), .ow (.lst (tlD M2)), .ow (.setT P w ks2), .fz (nD at_), .fz (.tup (nsD H)), .fz (nD k), .fz (.tup (nsD l)), .fz (.lst (tnD O2)), s10] ∧ Same ks2 (T2.flatten ++ O2.take i), ⟨rfl, ks, s10, rfl, by rw [List.take_zero, List.append_nil]; exact hSm⟩, fun i y env t4 hy hP => ?_, fun env t4 hP => ?_⟩
          · obtain ⟨rfl, ks2, s10, rfl, hSm2⟩ := hP
            unfold tnD at hy
            rw [List.getElem?_map] at hy
            obtain ⟨K, hK1, rfl⟩ := Option.map_eq_some_iff.mp hy
            have hKO := List.mem_of_getElem? hK1
            have hiO := (List.getElem?_eq_some_iff.mp hK1).1
            have hKn : K ∉ T2.flatten ++ O2.take i := fun z => by
              rcases List.mem_append.mp z with z | z
              · exact hap K hKO z
              · have h1 : (O2.take (i + 1)).Nodup := o2.nd.sublist (List.take_sublist _ _)
                rw [take_snoc' hK1, List.nodup_append] at h1
                exact h1.2.2 K z K (by simp) rfl
            refine ⟨⟨_, rfl⟩, _, rfl, ks2, kI K, rfl, tup_kI K, by rw [hSm2.2, List.length_append, List.length_take]; omega, rfl, _, _, rfl, ?_⟩
            rw [take_snoc' hK1, ← List.append_assoc]
            exact hSm2.add hKn
          · obtain ⟨rfl, ks2, s10, rfl, hSm2⟩ := hP
            rw [tnD_len, List.take_of_length_le (Nat.le_refl _), ← flat_snoc] at hSm2
            have hM2l : M2.length = T2.length := hS.len
            have e8 : nsD gs ++ [nD k] = nsD (gs ++ [k]) := nsD_snoc gs k
            have hS2 := hS.add hH hl hgk (by rw [List.length_append]; show gs.length + 1 + 1 ≤ l.length; omega) hni o2
            refine ⟨⟨_, rfl⟩, _, rfl, _, rfl, _, rfl, by rw [ttD_len]; omega, ⟨_, rfl⟩, ⟨_, .inr ⟨_, rfl, rfl⟩⟩, _, rfl, _, _, _, .inr ⟨_, rfl, rfl⟩, rfl, tlD_get hM3, _, .inr rfl, _, rfl, by rw [List.length_append, nsD_len]; show gs.length + 1 ≤ 5000; omega, _, rfl, _, rfl, _, rfl, by rw [tlD_len]; omega, rfl, T2 ++ [O2], M2 ++ [gs ++ [k]], hT2.trans (List.prefix_append _ _), hM2.trans (List.prefix_append _ _), ⟨ks2, _, _, _, _, by rw [e8, ttD_snoc, tlD_snoc]; rfl, hSm2, hS2, by rw [List.length_append]; omega⟩, hadd _ (fun x hx => by rw [flat_snoc]; exact List.mem_append_left _ hx) (by rw [flat_snoc]; exact List.mem_append_right _ o2.self)⟩
        · rw [hSm.in_] at e
          have hin : l ∈ T2.flatten := Classical.byContradiction fun z => by rw [decide_eq_false z] at e; cases e
          exact ⟨rfl, T2, M2, hT2, hM2, ⟨ks, _, _, _, _, rfl, hSm, hS, hat⟩, hadd T2 (fun _ z => z) hin⟩
      · obtain ⟨rfl, T2, M2, hT2, hM2, ⟨ks, s7, s8, s9, s10, rfl, hSm, hS, hat⟩, hnew⟩ := hP
        rw [nsD_len, List.take_of_length_le (Nat.le_refl _)] at hnew
        have hll := hT2.length_le
        obtain ⟨few1, few2⟩ := hS.few hH hn
        refine ⟨_, rfl, _, rfl, 2401 - (at_ + 1), by omega, T2, M2, at_ + 1, _, rfl, rfl, ⟨ks, s7, s8, s9, s10, rfl, hSm, hS, by omega⟩, fun i O3 H3 hi hO3 hH3 y hy => ?_⟩
        obtain ⟨r, rfl⟩ := id hT2
        rw [List.getElem?_append_left (by omega)] at hO3
        by_cases z : i = at_
        · subst z
          rw [hO] at hO3
          cases hO3
          rw [o.hd] at hH3
          cases hH3
          obtain ⟨l, hl1, hl2⟩ := hnew (rp m H y) (lst_mem.mpr ⟨sH.rp_lt hH hy, sH.rp_rp hH hy⟩)
          exact ⟨l, hl1, grown_cls hH sH hg hp hy (sH.rp_cls hH hy) hl2⟩
        · obtain ⟨l, hl1, hl2⟩ := hcl i O3 H3 (by omega) hO3 hH3 y hy
          exact ⟨l, by rw [List.flatten_append]; exact List.mem_append_left _ hl1, hl2⟩
    · have hge : at_ = T.length := by
        have : ¬ ((at_ : Nat) : Int) < ((ttD T).length : Int) := fun z => by rw [decide_eq_true z] at e; cases e
        rw [ttD_len] at this
        omega
      subst hge
      exact ⟨_, rfl, q T (hS.all hH fun i O H hi hO => hcl i O H (List.getElem?_eq_some_iff.mp hi).1 hi hO)⟩
end
end K50
namespace K50
open PySem PySem.Spec PyProof.Rows L2 HM VL
abbrev s_in_order : Stmt := topS 18
theorem sc_in_order : FnScope ["parts"] ["parts"] (defScope s_in_order) := ⟨rfl, rfl, rfl, by decide +kernel, rfl, by decide +kernel, by decide +kernel⟩
section
variable {P : Program} {w : World} {K : PySem.W.Frag} {mg : Str → Option Value} {base : Heap} {am : Am} {gd : Around → Prop} {k : Nat}
theorem ok_in_order {f cc Pt : Addr} {fd : FuncData} (F : Fun K "in_order" "in_order" s_in_order f fd) (hco : fd.code = .ref cc) (TB : GxR.TabB base mg cc Pt) (LI : LamIn am Pt "in_order.<locals>.<lambda>")
    (mz : ∀ x ∈ bn, mg x = none) : VFn gd P w K mg base CX0 (k + 1) f fd ["parts"] am spInOrder := by
  refine vfn_of F sc_in_order (fun ds n Q E h => ?_) ⟨_, fun cdv A out s H E F0 H0 hcd hgd hr =>
    (vss_one (vs_ret (ve_new (vn_sortLam LI hr.units hr.depth (by rfl) (mz "sorted" (by decide)) (mz "len" (by decide)) TB (hcd.symm.trans hco) (by rfl) (ve_var (pv 0)) (by rfl) (fun _ _ _ _ _ => rfl) (by rfl) (by rfl) (by rfl) (by decide +kernel) (by rfl) (by rfl) (by rfl))))), fun ds t Q E h => ?_⟩
  · obtain ⟨L, rfl, _⟩ := h
    rfl
  · obtain ⟨L, rfl, h1, h2, q⟩ := h
    refine ⟨_, rfl, L.map kI, by rw [tnD_tu], by rw [List.length_map]; exact h1, fun b hb => ?_, fun L' pm ps => ?_⟩
    · obtain ⟨K, hK, rfl⟩ := List.mem_map.mp hb
      unfold kI
      rw [List.length_map]
      exact h2 K hK
    · obtain ⟨M, rfl, hM⟩ := perm_kI pm
      rw [← tnD_tu]
      exact ⟨_, rfl, q M hM (List.pairwise_map.mp ps)⟩
end
end K50
namespace K50
open PySem PySem.Spec PyProof.Rows L2 HM VL
abbrev s_kinds_of : Stmt := topS 19
theorem sc_kinds_of : FnScope ["house", "alike"] ["house"] (defScope s_kinds_of) := ⟨rfl, rfl, rfl, by decide +kernel, rfl, by decide +kernel, by decide +kernel⟩
section
variable {P : Program} {w : World} {K : PySem.W.Frag} {mg : Str → Option Value} {base : Heap} {am : Am} {gd : Around → Prop} {k : Nat}
theorem ok_kinds_of {f f_in_order f_parts_by_kind : Addr} {fd fd_in_order fd_parts_by_kind : FuncData} (F : Fun K "kinds_of" "kinds_of" s_kinds_of f fd)
    (G_in_order : VFn anyA P w K mg base CX0 (k + 1) f_in_order fd_in_order ["parts"] am spInOrder) (g_in_order : mg "in_order" = some (.ref f_in_order)) (k_in_order : PySem.W.keepIn K (.ref f_in_order) = true) (b_in_order : Binds K fd_in_order ["parts"] [])
    (G_parts_by_kind : VFn anyA P w K mg base CX0 (k + 7) f_parts_by_kind fd_parts_by_kind ["house"] am spByKind) (g_parts_by_kind : mg "parts_by_kind" = some (.ref f_parts_by_kind)) (k_parts_by_kind : PySem.W.keepIn K (.ref f_parts_by_kind) = true) (b_parts_by_kind : Binds K fd_parts_by_kind ["house"] [])
    (mz : ∀ x ∈ bn, mg x = none) : VFn gd P w K mg base CX0 (k + 8) f fd ["house"] am spKinds := by
  refine vfn_of F sc_kinds_of (fun ds n Q E h => ?_) ⟨_, fun cdv A out s H E F0 H0 hcd hgd hr =>
    (vss_one (vs_ret (ve_call G_in_order trivial (hr.mono (by omega)) (by rfl) g_in_order k_in_order b_in_order pass0 (va_cons (ve_new (vn_lc (own := [("alike", 1)]) rfl sc_kinds_of.nd (vi_list (ve_call G_parts_by_kind trivial (hr.mono (by omega)) (by rfl) g_parts_by_kind k_parts_by_kind b_parts_by_kind pass0 (va_cons (ve_var (pv 0)) va_nil))) (blkOk_by (own := [("alike", 1)]) (N := ["house", "alike"]) (sc := defScope s_kinds_of) (by decide +kernel)) (tg_name (by simp)) (fun _ _ _ _ _ => (pg_name (i := 1) sc_kinds_of.nd rfl (.inl rfl))) (fun _ _ _ _ _ _ _ => vts_nil) (fun _ _ _ _ _ _ _ => (ve_cb (cr_minT rfl hr.units) lft_minT (by rfl) (mz "min" (by decide)) (by decide +kernel) (va_cons (ve_var (pv 1)) va_nil))))) va_nil)))), fun ds t Q E h => ?_⟩
  · obtain ⟨n, m, rfl, _⟩ := h
    rfl
  · obtain ⟨n, m, rfl, hH, hn, q⟩ := h
    refine ⟨_, rfl, n, m, rfl, hH, hn, fun T hT => ?_⟩
    obtain ⟨f1, f2, f3⟩ := hT.few hH hn
    refine ⟨_, rfl, lc_any (i := 1) (fun j acc => ∃ M, acc = tnD M ∧ Leasts T j M) (.head _) (noOw1 rfl no_ow) (by rw [ttD_len]; omega) ⟨[], rfl, rfl, fun i O hi => absurd hi (Nat.not_lt_zero i)⟩ (fun j x acc hx hP R hR => ?_) fun acc hP => ?_⟩
    · obtain ⟨M, rfl, hM⟩ := hP
      unfold ttD at hx
      rw [List.getElem?_map] at hx
      obtain ⟨O, hO, rfl⟩ := Option.map_eq_some_iff.mp hx
      obtain ⟨g1, g2⟩ := f1 O (List.mem_of_getElem? hO)
      refine ⟨_, rfl, O.map kI, by rw [tnD_tu], fun z => g1 (List.map_eq_nil_iff.mp z), fun b hb hm => ?_⟩
      obtain ⟨K, hK, rfl⟩ := List.mem_map.mp hb
      exact hR _ ⟨M ++ [K], by rw [← tup_tu, tnD_snoc], hM.more hO hK fun y hy => hm (kI y) (List.mem_map.mpr ⟨y, hy, rfl⟩)⟩
    · obtain ⟨M, rfl, hM⟩ := hP
      rw [ttD_len] at hM
      refine ⟨_, rfl, M, rfl, by rw [hM.1]; omega, fun K hK => ?_, fun L pm ord => q L (hM.kinds hH hT pm ord)⟩
      obtain ⟨i, hi, e⟩ := List.getElem_of_mem hK
      have hi2 : i < T.length := by rw [← hM.1]; exact hi
      obtain ⟨K2, a1, a2, _⟩ := hM.2 i _ hi2 (List.getElem?_eq_getElem hi2)
      rw [List.getElem?_eq_getElem hi, e] at a1
      cases a1
      have s := (f1 _ (List.getElem_mem hi2)).2 K a2
      have := few_of_nodup s.nd s.lt
      omega
end
end K50
namespace K50
open PySem PySem.Spec PyProof.Rows L2 HM VL
abbrev s_pieces : Stmt := topS 21
theorem sc_pieces : FnScope ["rows", "told", "seen", "first", "row", "piece", "thing"] ["rows"] (defScope s_pieces) := ⟨rfl, rfl, rfl, by decide +kernel, rfl, by decide +kernel, by decide +kernel⟩
section
variable {P : Program} {w : World} {K : PySem.W.Frag} {mg : Str → Option Value} {base : Heap} {am : Am} {gd : Around → Prop} {k : Nat}
theorem ok_pieces {f : Addr} {fd : FuncData} (F : Fun K "pieces" "pieces" s_pieces f fd) (mz : ∀ x ∈ bn, mg x = none) : VFn gd P w K mg base CX0 (k + 1) f fd ["rows"] am spPcs := by
  refine vfn_of F sc_pieces (fun ds n Q E h => ?_) ⟨_, fun cdv A out s H E F0 H0 hcd hgd hr =>
    (vss_cons (vs_setN (i := 1) sc_pieces.nd rfl (.inl rfl) (vn_lst va_nil))
      (vss_cons (vs_setN (i := 2) sc_pieces.nd rfl (.inl rfl) (vn_set0 w rfl rfl (by rfl) (mz "set" (by decide))))
      (vss_cons (vs_for PassesOwn.never rfl (vi_range1 (by rfl) (mz "range" (by decide)) (vb_cons (ve_cbR call_len_seq lft_len (by rfl) (mz "len" (by decide)) PySem.boot_len (vb_cons (ve_ixO (pv 0) ve_int (fun _ _ => rfl)) vb_nil)) vb_nil)) (vg_name (pg_name (i := 3) sc_pieces.nd rfl (.inr rfl)))
        (vss_one (vs_if (vt_snotin w rfl (ve_var (pv 3)) (pv 2) (by rfl))
          (vss_cons (vs_set (i := 5) sc_pieces.nd rfl (.inl rfl) (ve_new (vn_sortS w rfl rfl (by rfl) (mz "sorted" (by decide)) (vn_scI (iv := 4) (own := [("row", 4)]) w rfl rfl sc_pieces.nd (vi_list (ve_var (pv 0))) (blkOk_by (own := [("row", 4)]) (N := ["rows", "told", "seen", "first", "row", "piece", "thing"]) (sc := defScope s_pieces) (by decide +kernel)) (fun _ _ _ _ _ => (pg_name (i := 4) sc_pieces.nd rfl (.inl rfl))) (fun _ _ _ _ _ _ _ => (ve_ixO (pv 4) (ve_var (pv 3)) (fun _ _ => rfl)))))))
          (vss_cons (vs_expr (ve_m (pe_bm PySem.F.plainAttrs_list PySem.F.slot_list_append PySem.F.type_list_append mt_append (pv 1) (va_cons (ve_var (pv 5)) va_nil)) lft_append))
          (vss_one (vs_for PassesOwn.never rfl (vi_list (ve_var (pv 5))) (vg_name (pg_name (i := 6) sc_pieces.nd rfl (.inl rfl)))
            (vss_one (vs_expr (ve_sadd w rfl (pv 2) (ve_var (pv 6)))))))))
          vss_nil)))
      (vss_one (vs_ret (ve_mv (pv 1))))))), fun ds t Q E h => ?_⟩
  · obtain ⟨n, m, N, a, rfl, _⟩ := h
    rfl
  · obtain ⟨n, m, N, a, rfl, hH, hn, hA, hN, q⟩ := h
    refine ⟨Nat.zero_le _, ?_⟩
    have hp := hH.pos
    refine ⟨⟨_, .inl rfl⟩, _, _, _, .inl rfl, rfl, set_at hp, _, .inl rfl, rfl, _, rfl, ⟨by omega, by rw [nsD_len, List.length_map, List.length_range]; omega⟩, ?_⟩
    rw [nsD_len, List.length_map, List.length_range]
    refine ⟨fun x env t' => t' = t ∧ ∃ S c W s3 s5 s6, env = [.fz (setD n N a), .ow (.lst (tlD (((List.range x).filter (fst1 n a)).map (orb n N a)))), .ow (.set w S c), s3, .no, s5, s6] ∧ SetN S c W ∧ ∀ y, y ∈ W ↔ ∃ z, z ∈ fsts n N a ∧ z < x ∧ y ∈ orb n N a z, ⟨rfl, _, _, [], .no, .no, .no, rfl, ⟨fun j => ⟨fun z => (by cases z), fun ⟨i, hi, _⟩ => by cases hi⟩, by simp, Nat.le_refl 0⟩, fun y => ⟨fun z => (by cases z), fun ⟨z, _, hz, _⟩ => absurd hz (Nat.not_lt_zero z)⟩⟩, fun x d env t' hx hP => ?_, fun env t' hP => ?_⟩
    · obtain ⟨rfl, S, c, W, s3, s5, s6, rfl, hS, hW⟩ := hP
      obtain ⟨rfl, hx2⟩ := rngD_get0 hx
      have hx : x < N := by have : x < ((N : Nat) : Int).toNat := hx2; omega
      have hWN : W.length ≤ N := few_of_nodup hS.2.1 fun y hy => by
        obtain ⟨z, _, _, hm⟩ := (hW y).mp hy
        exact (orb_mem.mp hm).1
      have hmet : x ∉ W ↔ fst1 n a x = true := by
        rw [hW]
        constructor
        · intro hn2
          refine fst1_iff.mpr fun g hg => Nat.le_of_not_lt fun hl => hn2 ?_
          obtain ⟨z, hz, hm⟩ := fst_ex hH hA (x + 1) x (Nat.lt_succ_self x) hx
          obtain ⟨hzN, hzf⟩ := fsts_mem.mp hz
          obtain ⟨_, k, hk, ek⟩ := orb_mem.mp hm
          have h1 := hzf (m k g) (hH.lt k g hk hg)
          rw [← hA.mu z k g hzN hk hg, ek] at h1
          exact ⟨z, hz, by omega, hm⟩
        · rintro hf ⟨z, hz, hl, hm⟩
          obtain ⟨hzN, _⟩ := fsts_mem.mp hz
          obtain ⟨_, k, hk, ek⟩ := orb_mem.mp hm
          obtain ⟨b, hb, _, _, e3⟩ := hA.back hH hzN hk
          have := fst1_iff.mp hf b hb
          rw [ek] at e3
          omega
      have hsucc : ∀ y, (∃ z, z ∈ fsts n N a ∧ z < x + 1 ∧ y ∈ orb n N a z) ↔ (∃ z, z ∈ fsts n N a ∧ z < x ∧ y ∈ orb n N a z) ∨ (fst1 n a x = true ∧ y ∈ orb n N a x) := fun y => by
        constructor
        · rintro ⟨z, hz, hl, hm⟩
          rcases Nat.lt_or_ge z x with h | h
          · exact .inl ⟨z, hz, h, hm⟩
          · have : z = x := by omega
            subst this
            exact .inr ⟨fst1_iff.mpr (fsts_mem.mp hz).2, hm⟩
        · rintro (⟨z, hz, hl, hm⟩ | ⟨hf, hm⟩)
          · exact ⟨z, hz, by omega, hm⟩
          · exact ⟨x, fsts_mem.mpr ⟨hx, fst1_iff.mp hf⟩, by omega, hm⟩
      have hrs : (List.range (x + 1)).filter (fst1 n a) = (List.range x).filter (fst1 n a) ++ if fst1 n a x = true then [x] else [] := by
        rw [List.range_succ, List.filter_append, List.filter_cons]
        split <;> rfl
      have htl : (tlD (((List.range x).filter (fst1 n a)).map (orb n N a))).length ≤ 900 := by
        rw [tlD_len, List.length_map]
        exact Nat.le_trans (List.length_filter_le _ _) (by rw [List.length_range]; omega)
      refine ⟨_, rfl, S, c, ((x : Nat) : Int), rfl, rfl, _, rfl, iteB (fun e => ?_) (fun e => ?_)⟩
      · have hf : fst1 n a x = true := hmet.mp fun z => by
          have e : (!S ((x : Nat) : Int)) = true := e
          rw [hS.in_ x, decide_eq_true z] at e
          cases e
        rw [if_pos hf] at hrs
        refine ⟨_, rfl, _, rfl, noOw1 (s := .no) rfl no_ow, by rw [setD_len]; omega, List.mem_cons_self, fun g => ((a x g : Nat) : Int), fun g d hd R hR => ?_, fun S2 c2 h2 hc2 => ⟨S2, c2, rfl, by rw [setD_len] at hc2; omega, fun ns pw mem len => ⟨_, rfl, ?_⟩⟩⟩
        · obtain ⟨hg, rfl⟩ := rows_get hd
          exact ⟨⟨_, .inl rfl⟩, _, rfl, _, _, _, .inl rfl, rfl, row_at hx, hR⟩
        rw [setD_len] at h2
        have ens : ns.map Dt.int = nsD (orb n N a x) := rising_ints (orb_up x) pw fun j => by
          rw [mem j, h2 j, decide_eq_true_iff, List.mem_map]
          constructor
          · rintro ⟨g, hg, rfl⟩
            exact ⟨a x g, orb_mem.mpr ⟨hA.lt x g hx hg, g, hg, rfl⟩, rfl⟩
          · rintro ⟨y, hy, rfl⟩
            obtain ⟨_, g, hg, e⟩ := orb_mem.mp hy
            exact ⟨g, hg, by show ((a x g : Nat) : Int) = _; rw [e]⟩
        rw [ens]
        refine ⟨⟨_, rfl⟩, _, rfl, _, rfl, _, rfl, by omega, ?_⟩
        rw [tlD_snoc]
        refine ⟨_, rfl, _, rfl, fun j env t2 => t2 = t' ∧ ∃ S c W2 s6, env = [.fz (setD n N a), .ow (.lst (tlD (((List.range x).filter (fst1 n a)).map (orb n N a) ++ [orb n N a x]))), .ow (.set w S c), .fz (nD x), .no, .fz (.lst (nsD (orb n N a x))), s6] ∧ SetN S c W2 ∧ ∀ y, y ∈ W2 ↔ y ∈ W ∨ y ∈ (orb n N a x).take j, ⟨rfl, S, c, W, s6, rfl, hS, fun y => by rw [List.take_zero]; exact ⟨.inl, fun z => z.elim id fun z => by cases z⟩⟩, fun j d env t2 hx3 hP => ?_, fun env t2 hP => ?_⟩
        · obtain ⟨rfl, S, c, W2, s6, rfl, hS2, hW2⟩ := hP
          unfold nsD at hx3
          rw [List.getElem?_map] at hx3
          obtain ⟨y, hy, rfl⟩ := Option.map_eq_some_iff.mp hx3
          have hl2 : W2.length ≤ N := few_of_nodup hS2.2.1 fun z hz => by
            rcases (hW2 z).mp hz with h | h
            · obtain ⟨z2, _, _, hm⟩ := (hW z).mp h
              exact (orb_mem.mp hm).1
            · exact (orb_mem.mp (List.mem_of_mem_take h)).1
          have hc3 := hS2.2.2
          obtain ⟨W3, hS3, hW3⟩ := hS2.add y
          refine ⟨⟨_, _, rfl⟩, _, rfl, S, c, ((y : Nat) : Int), rfl, rfl, by omega, rfl, _, _, W3, _, rfl, hS3, fun z => ?_⟩
          rw [hW3, hW2, take_snoc' hy, List.mem_append, List.mem_singleton, or_assoc]
        · obtain ⟨rfl, S, c, W2, s6, rfl, hS2, hW2⟩ := hP
          refine ⟨rfl, S, c, W2, _, _, s6, by rw [hrs, List.map_append]; rfl, hS2, fun y => ?_⟩
          rw [hW2, nsD_len, List.take_of_length_le (Nat.le_refl _), hsucc, hW]
          exact ⟨fun z => z.elim .inl fun z => .inr ⟨hf, z⟩, fun z => z.elim .inl fun z => .inr z.2⟩
      · have hf : ¬ fst1 n a x = true := fun z => by
          have e : (!S ((x : Nat) : Int)) = false := e
          rw [hS.in_ x, decide_eq_false (hmet.mpr z)] at e
          cases e
        rw [if_neg hf, List.append_nil] at hrs
        refine ⟨rfl, S, c, W, _, s5, s6, by rw [hrs]; rfl, hS, fun y => ?_⟩
        rw [hsucc, hW]
        exact ⟨.inl, fun z => z.elim id fun z => absurd z.1 hf⟩
    · obtain ⟨rfl, S, c, W, s3, s5, s6, rfl, hS, hW⟩ := hP
      rw [rngD_len, Int.toNat_natCast]
      exact ⟨_, rfl, q⟩
end
end K50
namespace VL
open PySem PySem.Spec PyProof.Rows L2 HM
def subM (P : List Nat) (m : Nat → Nat → Nat) (i j : Nat) : Nat := P.idxOf (m (tA P i) (tA P j))
def subA (P : List Nat) (a : Nat → Nat → Nat) (x i : Nat) : Nat := a x (tA P i)
section
variable {n N : Nat} {m a : Nat → Nat → Nat} {P : List Nat}
theorem at_idx {g : Nat} (h : g ∈ P) : tA P (P.idxOf g) = g := by
  have h1 := List.idxOf_lt_length_of_mem h
  have h2 := tA_get h1
  rw [List.getElem?_eq_getElem h1, List.getElem_idxOf h1] at h2
  exact (Option.some.inj h2).symm
theorem idx_at (nd : P.Nodup) {i : Nat} (hi : i < P.length) : P.idxOf (tA P i) = i := by
  have hm := tA_mem hi
  have h1 := List.idxOf_lt_length_of_mem hm
  have e : P[P.idxOf (tA P i)]? = P[i]? := by rw [tA_get h1, at_idx hm, tA_get hi]
  exact (List.getElem?_inj h1 nd).mp e
theorem sub_len (s : Sub n m P) : 0 < P.length := List.length_pos_of_mem s.ze
theorem sub_tA0 (s : Sub n m P) : tA P 0 = 0 := by
  have h1 := List.idxOf_lt_length_of_mem s.ze
  by_cases z : P.idxOf 0 = 0
  · have := at_idx s.ze
    rwa [z] at this
  · have h2 := List.pairwise_iff_getElem.mp s.up 0 (P.idxOf 0) (sub_len s) h1 (by omega)
    rw [List.getElem_idxOf] at h2
    omega
theorem hse_sub (h : Hse n m) (s : Sub n m P) : Hse P.length (subM P m) := by
  have at_ : ∀ i, i < P.length → tA P i ∈ P ∧ tA P i < n := fun i hi => ⟨tA_mem hi, s.lt _ (tA_mem hi)⟩
  have mm : ∀ i j, i < P.length → j < P.length → m (tA P i) (tA P j) ∈ P := fun i j hi hj => s.mul _ (at_ i hi).1 _ (at_ j hj).1
  refine ⟨sub_len s, fun i j hi hj => List.idxOf_lt_length_of_mem (mm i j hi hj), fun i hi => ?_, fun i hi => ?_, fun i j k hi hj hk => ?_, fun i j k hi hj hk e => ?_⟩
  · unfold subM
    rw [sub_tA0 s, h.zl _ (at_ i hi).2, idx_at s.nd hi]
  · unfold subM
    rw [sub_tA0 s, h.zr _ (at_ i hi).2, idx_at s.nd hi]
  · unfold subM
    rw [at_idx (mm i j hi hj), at_idx (mm j k hj hk), h.as _ _ _ (at_ i hi).2 (at_ j hj).2 (at_ k hk).2]
  · have e2 := congrArg (tA P) e
    unfold subM at e2
    rw [at_idx (mm i j hi hj), at_idx (mm i k hi hk)] at e2
    have e3 := h.cn _ _ _ (at_ i hi).2 (at_ j hj).2 (at_ k hk).2 e2
    rw [← idx_at s.nd hj, ← idx_at s.nd hk, e3]
theorem act_sub (h : Hse n m) (s : Sub n m P) (A : Act n m N a) : Act P.length (subM P m) N (subA P a) := by
  have at_ : ∀ i, i < P.length → tA P i ∈ P ∧ tA P i < n := fun i hi => ⟨tA_mem hi, s.lt _ (tA_mem hi)⟩
  refine ⟨fun x i hx hi => A.lt x _ hx (at_ i hi).2, fun x hx => ?_, fun x i j hx hi hj => ?_⟩
  · unfold subA
    rw [sub_tA0 s, A.ze x hx]
  · unfold subA subM
    rw [at_idx (s.mul _ (at_ i hi).1 _ (at_ j hj).1), A.mu x _ _ hx (at_ i hi).2 (at_ j hj).2]
end
end VL
namespace VL
open PySem PySem.Spec PyProof.Rows L2 HM
def dig (c : Nat) : Nat → Nat → Nat → Nat
  | 0, _, _ => 0
  | N + 1, q, x => if x = N then q % c else dig c N (q / c) x
theorem dig_last (c N q : Nat) : dig c (N + 1) q N = q % c := by rw [dig, if_pos rfl]
theorem dig_low (c N q : Nat) {x : Nat} (h : x < N) : dig c (N + 1) q x = dig c N (q / c) x := by rw [dig, if_neg (by omega)]
theorem dig_lt {c : Nat} (hc : 0 < c) : ∀ (N q x : Nat), dig c N q x < c
  | 0, _, _ => hc
  | N + 1, q, x => by
    rw [dig]
    split
    · exact Nat.mod_lt _ hc
    · exact dig_lt hc N _ x
/-- how many words are alike at x and at r x -/
theorem cnt_words {c : Nat} {r : Nat → Nat} : ∀ N, (∀ x, x < N → r x ≤ x) →
    ((List.range (c ^ N)).filter fun q => (List.range N).all fun x => decide (dig c N q x = dig c N q (r x))).length = c ^ ((List.range N).filter fun x => decide (r x = x)).length
  | 0, _ => rfl
  | N + 1, h => by
    have ih := cnt_words (c := c) N fun x hx => h x (by omega)
    rw [Nat.pow_succ, filt_pairs]
    have hrs : (List.range (N + 1)).filter (fun x => decide (r x = x)) = (List.range N).filter (fun x => decide (r x = x)) ++ if r N = N then [N] else [] := by
      rw [List.range_succ, List.filter_append, List.filter_cons]
      by_cases e : r N = N
      · rw [if_pos (decide_eq_true e), if_pos e, List.filter_nil]
      · rw [if_neg (by simpa using e), if_neg e, List.filter_nil]
    have key : ∀ q, q < c ^ N → ((List.range c).filter fun y => (List.range (N + 1)).all fun x => decide (dig c (N + 1) (q * c + y) x = dig c (N + 1) (q * c + y) (r x))).length =
        if ((List.range N).all fun x => decide (dig c N q x = dig c N q (r x))) = true then (if r N = N then c else 1) else 0 := fun q hq => by
      have hd : ∀ y, y < c → ∀ x, x < N → dig c (N + 1) (q * c + y) x = dig c N q x := fun y hy x hx => by
        rw [dig_low c N _ hx, Nat.mul_comm, Nat.mul_add_div (by omega), Nat.div_eq_of_lt hy, Nat.add_zero]
      have hl : ∀ y, y < c → dig c (N + 1) (q * c + y) N = y := fun y hy => by rw [dig_last, Nat.mul_add_mod', Nat.mod_eq_of_lt hy]
      have hsp : ∀ y, y < c → ((List.range (N + 1)).all fun x => decide (dig c (N + 1) (q * c + y) x = dig c (N + 1) (q * c + y) (r x))) =
          (((List.range N).all fun x => decide (dig c N q x = dig c N q (r x))) && decide (r N = N ∨ y = dig c N q (r N))) := fun y hy => by
        rw [List.range_succ, List.all_append, List.all_cons, List.all_nil, Bool.and_true]
        congr 1
        · rw [Bool.eq_iff_iff, List.all_eq_true, List.all_eq_true]
          constructor
          · intro z x hx
            have hx' := List.mem_range.mp hx
            have := z x hx
            rw [hd y hy x hx', hd y hy (r x) (by have := h x (by omega); omega)] at this
            exact this
          · intro z x hx
            have hx' := List.mem_range.mp hx
            rw [hd y hy x hx', hd y hy (r x) (by have := h x (by omega); omega)]
            exact z x hx
        · rw [hl y hy]
          refine decide_eq_decide.mpr ?_
          by_cases e : r N = N
          · rw [e, hl y hy]
            exact ⟨fun _ => .inl rfl, fun _ => rfl⟩
          · have := h N (Nat.lt_succ_self N)
            rw [hd y hy (r N) (by omega)]
            exact ⟨.inr, fun z => z.elim (fun z => absurd z e) id⟩
      have hf : ((List.range c).filter fun y => (List.range (N + 1)).all fun x => decide (dig c (N + 1) (q * c + y) x = dig c (N + 1) (q * c + y) (r x))) =
          (List.range c).filter fun y => ((List.range N).all fun x => decide (dig c N q x = dig c N q (r x))) && decide (r N = N ∨ y = dig c N q (r N)) :=
        List.filter_congr fun y hy => hsp y (List.mem_range.mp hy)
      rw [hf]
      cases hb : (List.range N).all fun x => decide (dig c N q x = dig c N q (r x)) with
      | false =>
        rw [if_neg (by simp)]
        simp
      | true =>
        rw [if_pos rfl]
        by_cases e : r N = N
        · rw [if_pos e, List.filter_eq_self.mpr (fun y _ => by simp [e]), List.length_range]
        · rw [if_neg e]
          have hc : 0 < c := by
            rcases Nat.eq_zero_or_pos c with z | z
            · have hN : 0 < N := by have := h N (Nat.lt_succ_self N); omega
              rw [z, Nat.zero_pow hN] at hq
              exact absurd hq (Nat.not_lt_zero _)
            · exact z
          have hdl := dig_lt hc N q (r N)
          have e2 : ((List.range c).filter fun y => true && decide (r N = N ∨ y = dig c N q (r N))) = [dig c N q (r N)] := by
            refine rising_eq (List.Pairwise.filter _ List.pairwise_lt_range) (List.pairwise_singleton ..) fun y => ?_
            rw [List.mem_filter, List.mem_range, Bool.true_and, decide_eq_true_iff, List.mem_singleton]
            exact ⟨fun z => z.2.elim (fun z => absurd z e) id, fun z => ⟨z ▸ hdl, .inr z⟩⟩
          rw [e2]
          rfl
    rw [List.map_congr_left fun q hq => key q (List.mem_range.mp hq), hrs, List.length_append]
    have sm : ∀ (k : Nat) (p : Nat → Bool) (l : List Nat), (l.map fun q => if p q = true then k else 0).sum = (l.filter p).length * k := fun k p l => by
      induction l with
      | nil => rw [List.map_nil, List.sum_nil, List.filter_nil, List.length_nil, Nat.zero_mul]
      | cons x l ih =>
        rw [List.map_cons, List.sum_cons, ih, List.filter_cons]
        cases p x with
        | true => rw [if_pos rfl, if_pos rfl, List.length_cons, Nat.succ_mul, Nat.add_comm]
        | false => rw [if_neg (by simp), if_neg (by simp), Nat.zero_add]
    rw [sm, ih]
    by_cases e : r N = N
    · rw [if_pos e, if_pos e, List.length_singleton, Nat.pow_succ]
    · rw [if_neg e, if_neg e, List.length_nil, Nat.add_zero, Nat.mul_one]
section
variable {n : Nat} {m : Nat → Nat → Nat} {N : Nat} {a : Nat → Nat → Nat} {c : Nat} {L : List Nat}
/-- the first thing of the piece -/
def rpo (n N : Nat) (a : Nat → Nat → Nat) (x : Nat) : Nat := (orb n N a x).headD x
theorem rpo_spec (h : Hse n m) (A : Act n m N a) {x : Nat} (hx : x < N) : rpo n N a x ∈ orb n N a x ∧ ∀ y ∈ orb n N a x, rpo n N a x ≤ y := by
  have hs := orb_self h A hx
  have hu := orb_up (n := n) (N := N) (a := a) x
  unfold rpo
  match e : orb n N a x with
  | [] => rw [e] at hs; cases hs
  | z :: l =>
    rw [e] at hu
    refine ⟨List.mem_cons_self, fun y hy => ?_⟩
    rcases List.mem_cons.mp hy with rfl | hy
    · exact Nat.le_refl _
    · exact Nat.le_of_lt ((List.pairwise_cons.mp hu).1 y hy)
theorem rpo_le (h : Hse n m) (A : Act n m N a) {x : Nat} (hx : x < N) : rpo n N a x ≤ x := (rpo_spec h A hx).2 x (orb_self h A hx)
theorem rpo_near (h : Hse n m) (A : Act n m N a) {x g : Nat} (hx : x < N) (hg : g < n) : rpo n N a (a x g) = rpo n N a x := by
  have h1 := rpo_spec h A hx
  have h2 := rpo_spec h A (A.lt x g hx hg)
  rw [orb_near h A hx hg] at h2
  exact Nat.le_antisymm (h2.2 _ h1.1) (h1.2 _ h2.1)
theorem rpo_fst (h : Hse n m) (A : Act n m N a) {x : Nat} (hx : x < N) : fst1 n a x = decide (rpo n N a x = x) := by
  obtain ⟨h1, h2⟩ := rpo_spec h A hx
  rw [Bool.eq_iff_iff, fst1_iff, decide_eq_true_iff]
  constructor
  · intro z
    obtain ⟨_, g, hg, e⟩ := orb_mem.mp h1
    have := z g hg
    have := rpo_le h A hx
    omega
  · intro e g hg
    have := h2 (a x g) (orb_mem.mpr ⟨A.lt x g hx hg, g, hg, rfl⟩)
    omega
theorem still_iff (h : Hse n m) (A : Act n m N a) (d : Nat → Nat) : ((List.range n).all fun g => (List.range N).all fun x => decide (d (a x g) = d x)) = (List.range N).all fun x => decide (d x = d (rpo n N a x)) := by
  rw [Bool.eq_iff_iff, List.all_eq_true, List.all_eq_true]
  constructor
  · intro z x hx
    have hx' := List.mem_range.mp hx
    obtain ⟨_, g, hg, e⟩ := orb_mem.mp (rpo_spec h A hx').1
    have := of_decide_eq_true (List.all_eq_true.mp (z g (List.mem_range.mpr hg)) x hx)
    rw [← e, this]
    exact decide_eq_true rfl
  · intro z g hg
    refine List.all_eq_true.mpr fun x hx => decide_eq_true ?_
    have hx' := List.mem_range.mp hx
    have hg' := List.mem_range.mp hg
    rw [of_decide_eq_true (z _ (List.mem_range.mpr (A.lt x g hx' hg'))), rpo_near h A hx' hg', ← of_decide_eq_true (z x hx)]
theorem fix_count (h : Hse n m) (A : Act n m N a) (c : Nat) : ((List.range (c ^ N)).filter fun q => (List.range n).all fun g => (List.range N).all fun x => decide (dig c N q (a x g) = dig c N q x)).length = c ^ (fsts n N a).length := by
  have e1 := List.filter_congr (l := List.range (c ^ N)) (p := fun q => (List.range n).all fun g => (List.range N).all fun x => decide (dig c N q (a x g) = dig c N q x)) (q := fun q => (List.range N).all fun x => decide (dig c N q x = dig c N q (rpo n N a x))) fun q _ => still_iff h A (dig c N q)
  rw [e1, cnt_words (r := rpo n N a) N fun x hx => rpo_le h A hx]
  unfold fsts
  rw [List.filter_congr fun x hx => rpo_fst h A (List.mem_range.mp hx)]
def pcsP (L : List Nat) (N : Nat) (a : Nat → Nat → Nat) : List (List Nat) := pcs L.length N (subA L a)
theorem pcsP_len : (pcsP L N a).length = (fsts L.length N (subA L a)).length := by unfold pcsP pcs; rw [List.length_map]
theorem all_tA (P : List Nat) (p : Nat → Bool) : ((List.range P.length).all fun j => p (tA P j)) = P.all p := by
  have := all_idx P p
  rw [List.all_map] at this
  exact this
theorem fix_countL (h : Hse n m) (A : Act n m N a) (s : Sub n m L) (c : Nat) : ((List.range (c ^ N)).filter fun q => L.all fun g => (List.range N).all fun x => decide (dig c N q (a x g) = dig c N q x)).length = c ^ (pcsP L N a).length := by
  rw [pcsP_len, ← fix_count (hse_sub h s) (act_sub h s A) c]
  congr 1
  refine List.filter_congr fun q _ => ?_
  exact (all_tA L fun g => (List.range N).all fun x => decide (dig c N q (a x g) = dig c N q x)).symm
end
theorem tA_range {N x : Nat} {f : Nat → Nat} (h : x < N) : tA ((List.range N).map f) x = f x := by
  unfold tA
  rw [List.getD_eq_getElem?_getD, List.getElem?_map, List.getElem?_range h]
  rfl
/-- all words of length N over c colours, in order -/
def wds (c N : Nat) : List (List Nat) := (List.range (c ^ N)).map fun q => (List.range N).map (dig c N q)
theorem wds_len (c N : Nat) : (wds c N).length = c ^ N := by unfold wds; rw [List.length_map, List.length_range]
theorem wds_succ (c N : Nat) : wds c (N + 1) = (wds c N).flatMap fun w => (List.range c).map fun y => w ++ [y] := by
  unfold wds
  rw [Nat.pow_succ, range_mul, List.map_flatMap, List.flatMap_map]
  refine flatMap_congr' fun q _ => ?_
  rw [List.map_map]
  refine List.map_congr_left fun y hy => ?_
  have hy' := List.mem_range.mp hy
  show (List.range (N + 1)).map (dig c (N + 1) (q * c + y)) = (List.range N).map (dig c N q) ++ [y]
  rw [List.range_succ, List.map_append, List.map_singleton, dig_last, Nat.mul_add_mod', Nat.mod_eq_of_lt hy']
  congr 1
  refine List.map_congr_left fun x hx => ?_
  rw [dig_low c N _ (List.mem_range.mp hx), Nat.mul_comm, Nat.mul_add_div (by omega), Nat.div_eq_of_lt hy', Nat.add_zero]
where
  flatMap_congr' {α β : Type} {f g : α → List β} : ∀ {l : List α}, (∀ x ∈ l, f x = g x) → l.flatMap f = l.flatMap g
    | [], _ => rfl
    | x :: l, h => by rw [List.flatMap_cons, List.flatMap_cons, h x List.mem_cons_self, flatMap_congr' fun y hy => h y (List.mem_cons_of_mem _ hy)]
end VL
namespace K50
open PySem PySem.Spec PyProof.Rows L2 HM VL
abbrev s_pieces_by : Stmt := topS 23
theorem sc_pieces_by : FnScope ["rows", "part", "number"] ["rows", "part"] (defScope s_pieces_by) := ⟨rfl, rfl, rfl, by decide +kernel, rfl, by decide +kernel, by decide +kernel⟩
abbrev s_colour_marks : Stmt := topS 24
theorem sc_colour_marks : FnScope ["kinds", "rows", "colours", "part"] ["kinds", "rows", "colours"] (defScope s_colour_marks) := ⟨rfl, rfl, rfl, by decide +kernel, rfl, by decide +kernel, by decide +kernel⟩
section
variable {P : Program} {w : World} {K : PySem.W.Frag} {mg : Str → Option Value} {base : Heap} {am : Am} {gd : Around → Prop} {k : Nat}
def spPcsBy : VSp := fun ds t Q _ => ∃ (n : Nat) (m : Nat → Nat → Nat) (N : Nat) (a : Nat → Nat → Nat) (L : List Nat), ds = [setD n N a, .tup (nsD L)] ∧ Hse n m ∧ n ≤ 60 ∧ Act n m N a ∧ N ≤ 900 ∧ Sub n m L ∧ Q (.lst (tlD (pcsP L N a))) t
theorem ok_piecesby {f f_pieces : Addr} {fd fd_pieces : FuncData} (F : Fun K "pieces_by" "pieces_by" s_pieces_by f fd)
    (G_pieces : VFn anyA P w K mg base CX0 (k + 1) f_pieces fd_pieces ["rows"] am spPcs) (g_pieces : mg "pieces" = some (.ref f_pieces)) (k_pieces : PySem.W.keepIn K (.ref f_pieces) = true) (b_pieces : Binds K fd_pieces ["rows"] [])
    (mz : ∀ x ∈ bn, mg x = none) : VFn gd P w K mg base CX0 (k + 2) f fd ["rows", "part"] am spPcsBy := by
  refine vfn_of F sc_pieces_by (fun ds n Q E h => ?_) ⟨_, fun cdv A out s H E F0 H0 hcd hgd hr =>
    (vss_one (vs_ret (ve_call G_pieces trivial (hr.mono (by omega)) (by rfl) g_pieces k_pieces b_pieces pass0 (va_cons (ve_new (vn_lc (own := [("number", 2)]) rfl sc_pieces_by.nd (vi_tup (ve_var (pv 1))) (blkOk_by (own := [("number", 2)]) (N := ["rows", "part", "number"]) (sc := defScope s_pieces_by) (by decide +kernel)) (tg_name (by simp)) (fun _ _ _ _ _ => (pg_name (i := 2) sc_pieces_by.nd rfl (.inl rfl))) (fun _ _ _ _ _ _ _ => vts_nil) (fun _ _ _ _ _ _ _ => (ve_ixO (pv 0) (ve_var (pv 2)) (fun _ _ => rfl))))) va_nil)))), fun ds t Q E h => ?_⟩
  · obtain ⟨n, m, N, a, L, rfl, _⟩ := h
    rfl
  · obtain ⟨n, m, N, a, L, rfl, hH, hn, hA, hN, hS, q⟩ := h
    have hL : L.length ≤ n := few_of_nodup hS.nd hS.lt
    refine ⟨_, rfl, _, rfl, lc_map (i := 2) (fun i => rowD N fun x => subA L a x i) (.head _) (noOw1 (s := .no) rfl no_ow) (by rw [nsD_len]; omega) (fun i d hd R hR => ?_) ?_⟩
    · unfold nsD at hd
      rw [List.getElem?_map] at hd
      obtain ⟨g, hg, rfl⟩ := Option.map_eq_some_iff.mp hd
      have hgn := hS.lt g (List.mem_of_getElem? hg)
      have e : tA L i = g := by
        have := tA_get (List.getElem?_eq_some_iff.mp hg).1
        rw [hg] at this
        exact (Option.some.inj this).symm
      unfold subA at hR
      rw [e] at hR
      exact ⟨⟨_, .inl rfl⟩, _, rfl, _, _, _, .inl rfl, rfl, atI_nat (by rw [List.getElem?_map, List.getElem?_range hgn]; rfl), hR⟩
    · rw [nsD_len]
      exact ⟨_, rfl, L.length, subM L m, N, subA L a, rfl, hse_sub hH hS, by omega, act_sub hH hS hA, by omega, q⟩
def cmsD (ks : List (List Nat)) (N : Nat) (a : Nat → Nat → Nat) (c : Int) : List Dt := ks.map fun L => .int (c ^ (pcsP L N a).length)
def spColMN : VSpN := fun ds t Q => ∃ (n : Nat) (m : Nat → Nat → Nat) (ks : List (List Nat)) (N : Nat) (a : Nat → Nat → Nat) (c : Int), ds = [.lst (tnD ks), setD n N a, .int c] ∧ Hse n m ∧ n ≤ 60 ∧ ks.length ≤ 5000 ∧ (∀ L ∈ ks, Sub n m L) ∧ Act n m N a ∧ N ≤ 60 ∧ c.natAbs ≤ 10 ^ 30 ∧ Q (.lst (cmsD ks N a c)) t
theorem ok_colm {f f_power f_pieces_by : Addr} {fd fd_power fd_pieces_by : FuncData} (F : Fun K "colour_marks" "colour_marks" s_colour_marks f fd)
    (G_power : VFn anyA P w K mg base CX0 (k + 2) f_power fd_power ["base", "times"] am spPower) (g_power : mg "power" = some (.ref f_power)) (k_power : PySem.W.keepIn K (.ref f_power) = true) (b_power : Binds K fd_power ["base", "times"] [])
    (G_pieces_by : VFn anyA P w K mg base CX0 (k + 2) f_pieces_by fd_pieces_by ["rows", "part"] am spPcsBy) (g_pieces_by : mg "pieces_by" = some (.ref f_pieces_by)) (k_pieces_by : PySem.W.keepIn K (.ref f_pieces_by) = true) (b_pieces_by : Binds K fd_pieces_by ["rows", "part"] [])
    (mz : ∀ x ∈ bn, mg x = none) : VFnN gd P w K mg base CX0 (k + 3) f fd ["kinds", "rows", "colours"] am spColMN := by
  refine vfn_ofN F sc_colour_marks (fun ds n Q h => ?_) ⟨_, fun cdv A out s H E F0 H0 hcd hgd hr =>
    (pssN_one (ps_retN (vn_lc (own := [("part", 3)]) rfl sc_colour_marks.nd (vi_list (ve_var (pv 0))) (blkOk_by (own := [("part", 3)]) (N := ["kinds", "rows", "colours", "part"]) (sc := defScope s_colour_marks) (by decide +kernel)) (tg_name (by simp)) (fun _ _ _ _ _ => (pg_name (i := 3) sc_colour_marks.nd rfl (.inl rfl))) (fun _ _ _ _ _ _ _ => vts_nil) (fun _ _ _ _ _ _ _ => (ve_call G_power trivial (hr.mono (by omega)) (by rfl) g_power k_power b_power pass0 (va_cons (ve_var (pv 2)) (va_cons (ve_cbR call_len_seq lft_len (by rfl) (mz "len" (by decide)) PySem.boot_len (vb_cons (ve_call G_pieces_by trivial (hr.mono (by omega)) (by rfl) g_pieces_by k_pieces_by b_pieces_by pass0 (va_cons (ve_var (pv 1)) (va_cons (ve_var (pv 3)) va_nil))) vb_nil)) va_nil))))))), fun ds t Q h => ?_⟩
  · obtain ⟨n, m, ks, N, a, c, rfl, _⟩ := h
    rfl
  · obtain ⟨n, m, ks, N, a, c, rfl, hH, hn, hk, hS, hA, hN, hc, q⟩ := h
    have hpl : ∀ L, (pcsP L N a).length ≤ N := fun L => by
      unfold pcsP pcs
      rw [List.length_map]
      exact Nat.le_trans (List.length_filter_le _ _) (by rw [List.length_range]; exact Nat.le_refl _)
    refine ⟨_, rfl, _, rfl, lc_map (i := 3) (fun j => .int (c ^ (pcsP (tL ks j) N a).length)) (.head _) (noOw1 (s := .no) rfl no_ow) (by rw [tnD_len]; exact hk) (fun j d hd R hR => ?_) ?_⟩
    · unfold tnD at hd
      rw [List.getElem?_map] at hd
      obtain ⟨L, hL, rfl⟩ := Option.map_eq_some_iff.mp hd
      have e : tL ks j = L := by
        unfold tL
        rw [List.getD_eq_getElem?_getD, hL]
        rfl
      rw [e] at hR
      refine ⟨_, rfl, _, rfl, _, rfl, n, m, N, a, L, rfl, hH, hn, hA, by omega, hS L (List.mem_of_getElem? hL), _, .inl rfl, rfl, c, (pcsP L N a).length, by rw [tlD_len]; rfl, hc, Nat.le_trans (hpl L) hN, hR⟩
    · rw [tnD_len]
      have e : (List.range ks.length).map (fun j => Dt.int (c ^ (pcsP (tL ks j) N a).length)) = cmsD ks N a c := map_tL (fun L => Dt.int (c ^ (pcsP L N a).length)) ks
      rw [e]
      exact q
end
end K50
namespace K50
open PySem PySem.Spec PyProof.Rows L2 HM VL
abbrev s_l_pieces : Stmt := topS 41
theorem sc_l_pieces : FnScope ["_law_rows", "_law_part_here", "_law_met", "_law_found", "_law_first", "_law_k", "_law_piece", "_law_one"] ["_law_rows", "_law_part_here"] (defScope s_l_pieces) := ⟨rfl, rfl, rfl, by decide +kernel, rfl, by decide +kernel, by decide +kernel⟩
section
variable {P : Program} {w : World} {K : PySem.W.Frag} {mg : Str → Option Value} {base : Heap} {am : Am} {gd : Around → Prop} {k : Nat}
theorem ok_lpieces {f : Addr} {fd : FuncData} (F : Fun K "_law_pieces" "_law_pieces" s_l_pieces f fd) (mz : ∀ x ∈ bn, mg x = none) : VFn gd P w K mg base CX0 (k + 1) f fd ["_law_rows", "_law_part_here"] am spPcsBy := by
  refine vfn_of F sc_l_pieces (fun ds n Q E h => ?_) ⟨_, fun cdv A out s H E F0 H0 hcd hgd hr =>
    (vss_cons (vs_setN (i := 2) sc_l_pieces.nd rfl (.inl rfl) vn_dnewK)
      (vss_cons (vs_setN (i := 3) sc_l_pieces.nd rfl (.inl rfl) (vn_lst va_nil))
      (vss_cons (vs_for PassesOwn.never rfl (vi_range1 (by rfl) (mz "range" (by decide)) (vb_cons (ve_cbR call_len_seq lft_len (by rfl) (mz "len" (by decide)) PySem.boot_len (vb_cons (ve_ixO (pv 0) ve_int (fun _ _ => rfl)) vb_nil)) vb_nil)) (vg_name (pg_name (i := 4) sc_l_pieces.nd rfl (.inr rfl)))
        (vss_one (vs_if (vt_dnotin (hu_of hr) (ve_var (pv 4)) (pv 2))
          (vss_cons (vs_set (i := 6) sc_l_pieces.nd rfl (.inl rfl) (ve_new (vn_sortS w rfl rfl (by rfl) (mz "sorted" (by decide)) (vn_tyR (cr_setW w rfl rfl) lft_setI (by rfl) (mz "set" (by decide)) (by decide +kernel) (vb_cons (ve_new (vn_lc (own := [("_law_k", 5)]) rfl sc_l_pieces.nd (vi_tup (ve_var (pv 1))) (blkOk_by (own := [("_law_k", 5)]) (N := ["_law_rows", "_law_part_here", "_law_met", "_law_found", "_law_first", "_law_k", "_law_piece", "_law_one"]) (sc := defScope s_l_pieces) (by decide +kernel)) (tg_name (by simp)) (fun _ _ _ _ _ => (pg_name (i := 5) sc_l_pieces.nd rfl (.inl rfl))) (fun _ _ _ _ _ _ _ => vts_nil) (fun _ _ _ _ _ _ _ => (ve_ix ix_list lft_ixL (ve_ixO (pv 0) (ve_var (pv 5)) (fun _ _ => rfl)) (ve_var (pv 4)) (fun _ _ => rfl))))) vb_nil)))))
          (vss_cons (vs_for PassesOwn.never rfl (vi_list (ve_var (pv 6))) (vg_name (pg_name (i := 7) sc_l_pieces.nd rfl (.inl rfl)))
            (vss_one (vs_dput (hu_of hr) (pv 2) (ve_var (pv 7)) ve_bl rfl)))
          (vss_one (vs_expr (ve_m (pe_bm PySem.F.plainAttrs_list PySem.F.slot_list_append PySem.F.type_list_append mt_append (pv 3) (va_cons (ve_var (pv 6)) va_nil)) lft_append)))))
          vss_nil)))
      (vss_one (vs_ret (ve_mv (pv 3))))))), fun ds t Q E h => ?_⟩
  · obtain ⟨n, m, N, a, L, rfl, _⟩ := h
    rfl
  · obtain ⟨n0, m0, N, a0, L, rfl, hH0, hn, hA0, hN, hS, q⟩ := h
    have hL : L.length ≤ n0 := few_of_nodup hS.nd hS.lt
    have hH := hse_sub hH0 hS
    have hA := act_sub hH0 hS hA0
    have hp0 := hH0.pos
    obtain ⟨n, en⟩ : ∃ n, n = L.length := ⟨_, rfl⟩
    obtain ⟨a, ea⟩ : ∃ a, a = subA L a0 := ⟨_, rfl⟩
    obtain ⟨m, em⟩ : ∃ m, m = subM L m0 := ⟨_, rfl⟩
    have q : Q (.lst (tlD (pcs n N a))) t := by rw [en, ea]; exact q
    rw [← en, ← em] at hH hA
    rw [← ea] at hA
    refine ⟨Nat.zero_le _, ?_⟩
    refine ⟨⟨_, .inl rfl⟩, _, _, _, .inl rfl, rfl, set_at hp0, _, .inl rfl, rfl, _, rfl, ⟨by omega, by rw [nsD_len, List.length_map, List.length_range]; omega⟩, ?_⟩
    rw [nsD_len, List.length_map, List.length_range]
    refine ⟨fun x env t' => t' = t ∧ ∃ kvs W s4 s6 s7, env = [.fz (setD n0 N a0), .fz (.tup (nsD L)), .ow (.dK kvs), .ow (.lst (tlD (((List.range x).filter (fst1 n a)).map (orb n N a)))), s4, .no, s6, s7] ∧ kvs.map (·.1) = W.map (fun i : Nat => (Sum.inl (i : Int) : Key)) ∧ W.Nodup ∧ ∀ y, y ∈ W ↔ ∃ z, z ∈ fsts n N a ∧ z < x ∧ y ∈ orb n N a z, ⟨rfl, [], [], .no, .no, .no, rfl, rfl, List.nodup_nil, fun y => ⟨fun z => (by cases z), fun ⟨z, _, hz, _⟩ => absurd hz (Nat.not_lt_zero z)⟩⟩, fun x d env t' hx hP => ?_, fun env t' hP => ?_⟩
    · obtain ⟨rfl, kvs, W, s4, s6, s7, rfl, hk, hnd, hW⟩ := hP
      obtain ⟨rfl, hx2⟩ := rngD_get0 hx
      have hx : x < N := by have : x < ((N : Nat) : Int).toNat := hx2; omega
      have hWN : W.length ≤ N := few_of_nodup hnd fun y hy => by
        obtain ⟨z, _, _, hm⟩ := (hW y).mp hy
        exact (orb_mem.mp hm).1
      have hmet : x ∉ W ↔ fst1 n a x = true := by
        rw [hW]
        constructor
        · intro hn2
          refine fst1_iff.mpr fun g hg => Nat.le_of_not_lt fun hl => hn2 ?_
          obtain ⟨z, hz, hm⟩ := fst_ex hH hA (x + 1) x (Nat.lt_succ_self x) hx
          obtain ⟨hzN, hzf⟩ := fsts_mem.mp hz
          obtain ⟨_, k, hk, ek⟩ := orb_mem.mp hm
          have h1 := hzf (m k g) (hH.lt k g hk hg)
          rw [← hA.mu z k g hzN hk hg, ek] at h1
          exact ⟨z, hz, by omega, hm⟩
        · rintro hf ⟨z, hz, hl, hm⟩
          obtain ⟨hzN, _⟩ := fsts_mem.mp hz
          obtain ⟨_, k, hk, ek⟩ := orb_mem.mp hm
          obtain ⟨b, hb, _, _, e3⟩ := hA.back hH hzN hk
          have := fst1_iff.mp hf b hb
          rw [ek] at e3
          omega
      have hsucc : ∀ y, (∃ z, z ∈ fsts n N a ∧ z < x + 1 ∧ y ∈ orb n N a z) ↔ (∃ z, z ∈ fsts n N a ∧ z < x ∧ y ∈ orb n N a z) ∨ (fst1 n a x = true ∧ y ∈ orb n N a x) := fun y => by
        constructor
        · rintro ⟨z, hz, hl, hm⟩
          rcases Nat.lt_or_ge z x with h | h
          · exact .inl ⟨z, hz, h, hm⟩
          · have : z = x := by omega
            subst this
            exact .inr ⟨fst1_iff.mpr (fsts_mem.mp hz).2, hm⟩
        · rintro (⟨z, hz, hl, hm⟩ | ⟨hf, hm⟩)
          · exact ⟨z, hz, by omega, hm⟩
          · exact ⟨x, fsts_mem.mpr ⟨hx, fst1_iff.mp hf⟩, by omega, hm⟩
      have hrs : (List.range (x + 1)).filter (fst1 n a) = (List.range x).filter (fst1 n a) ++ if fst1 n a x = true then [x] else [] := by
        rw [List.range_succ, List.filter_append, List.filter_cons]
        split <;> rfl
      have htl : (tlD (((List.range x).filter (fst1 n a)).map (orb n N a))).length ≤ 900 := by
        rw [tlD_len, List.length_map]
        exact Nat.le_trans (List.length_filter_le _ _) (by rw [List.length_range]; omega)
      have hmem : (valD kvs (Sum.inl ((x : Nat) : Int) : Key)).isSome = decide (x ∈ W) := by
        rw [valD_some, hk]
        exact decide_eq_decide.mpr keyN_mem
      refine ⟨_, rfl, _, .inl ⟨kvs, .inl ((x : Nat) : Int), rfl, rfl, rfl⟩, _, rfl, iteB (fun e => ?_) (fun e => ?_)⟩
      · have hf : fst1 n a x = true := hmet.mp fun z => by
          have e : (!(valD kvs (Sum.inl ((x : Nat) : Int) : Key)).isSome) = true := e
          rw [hmem, decide_eq_true z] at e
          cases e
        rw [if_pos hf] at hrs
        refine ⟨_, rfl, _, rfl, lc_map (i := 5) (fun i => nD (a x i)) (.head _) (noOw1 (s := .no) rfl no_ow) (by rw [nsD_len]; omega) (fun i d hd R hR => ?_) ?_⟩
        · unfold nsD at hd
          rw [List.getElem?_map] at hd
          obtain ⟨g, hg, rfl⟩ := Option.map_eq_some_iff.mp hd
          have hgn := hS.lt g (List.mem_of_getElem? hg)
          have e4 : tA L i = g := by
            have := tA_get (List.getElem?_eq_some_iff.mp hg).1
            rw [hg] at this
            exact (Option.some.inj this).symm
          have e5 : a x i = a0 x g := by rw [ea]; unfold subA; rw [e4]
          rw [e5] at hR
          exact ⟨⟨_, .inl rfl⟩, _, rfl, _, _, _, .inl rfl, rfl, set_at hgn, _, rfl, _, _, _, rfl, rfl, row_at hx, hR⟩
        rw [nsD_len, ← en]
        refine ⟨_, rfl, (List.range n).map (fun i => ((a x i : Nat) : Int)), by rw [List.map_map]; rfl, by rw [List.length_map, List.length_range]; omega, fun mm hm => ⟨rfl, _, mm, rfl, by rw [List.length_map, List.length_range] at hm; omega, fun ns pw mem len => ⟨_, rfl, ?_⟩⟩⟩
        have ens : ns.map Dt.int = nsD (orb n N a x) := rising_ints (orb_up x) pw fun j => by
          rw [mem j, decide_eq_true_iff, List.mem_map, decide_eq_true_iff, List.mem_map]
          constructor
          · rintro ⟨g, hg, rfl⟩
            exact ⟨a x g, orb_mem.mpr ⟨hA.lt x g hx (List.mem_range.mp hg), g, List.mem_range.mp hg, rfl⟩, rfl⟩
          · rintro ⟨y, hy, rfl⟩
            obtain ⟨_, g, hg, e⟩ := orb_mem.mp hy
            exact ⟨g, List.mem_range.mpr hg, by show ((a x g : Nat) : Int) = _; rw [e]⟩
        rw [ens]
        refine ⟨_, rfl, _, rfl, fun j env t2 => t2 = t' ∧ ∃ kvs W2 s7, env = [.fz (setD n0 N a0), .fz (.tup (nsD L)), .ow (.dK kvs), .ow (.lst (tlD (((List.range x).filter (fst1 n a)).map (orb n N a)))), .fz (nD x), .no, .fz (.lst (nsD (orb n N a x))), s7] ∧ kvs.map (·.1) = W2.map (fun i : Nat => (Sum.inl (i : Int) : Key)) ∧ W2.Nodup ∧ ∀ y, y ∈ W2 ↔ y ∈ W ∨ y ∈ (orb n N a x).take j, ⟨rfl, kvs, W, s7, rfl, hk, hnd, fun y => by rw [List.take_zero]; exact ⟨.inl, fun z => z.elim id fun z => by cases z⟩⟩, fun j d env t2 hx3 hP => ?_, fun env t2 hP => ?_⟩
        · obtain ⟨rfl, kvs, W2, s7, rfl, hk2, hnd2, hW2⟩ := hP
          unfold nsD at hx3
          rw [List.getElem?_map] at hx3
          obtain ⟨y, hy, rfl⟩ := Option.map_eq_some_iff.mp hx3
          have hl2 : W2.length ≤ N := few_of_nodup hnd2 fun z hz => by
            rcases (hW2 z).mp hz with h | h
            · obtain ⟨z2, _, _, hm⟩ := (hW z).mp h
              exact (orb_mem.mp hm).1
            · exact (orb_mem.mp (List.mem_of_mem_take h)).1
          have hkl : kvs.length = W2.length := by
            have := congrArg List.length hk2
            rw [List.length_map, List.length_map] at this
            exact this
          refine ⟨.inl ⟨_, rfl⟩, _, rfl, .inl ⟨kvs, .inl ((y : Nat) : Int), rfl, rfl, by omega, rfl, putD kvs (.inl ((y : Nat) : Int)) (.bl true), (if y ∈ W2 then W2 else W2 ++ [y]), .fz (nD y), rfl, ?_, ?_, fun z => ?_⟩⟩
          · rw [putD_keys, hk2]
            by_cases h : y ∈ W2
            · rw [if_pos h, if_pos (keyN_mem.mpr h)]
            · rw [if_neg h, if_neg (fun z => h (keyN_mem.mp z)), List.map_append]
              rfl
          · by_cases h : y ∈ W2
            · rw [if_pos h]; exact hnd2
            · rw [if_neg h, List.nodup_append]
              exact ⟨hnd2, List.pairwise_singleton .., fun u hu v hv z => h (by rw [List.mem_singleton.mp hv] at z; rw [← z]; exact hu)⟩
          · rw [take_snoc' hy, List.mem_append, List.mem_singleton, ← or_assoc, ← hW2]
            by_cases h : y ∈ W2
            · rw [if_pos h]
              exact ⟨.inl, fun w => w.elim id fun w => w ▸ h⟩
            · rw [if_neg h, List.mem_append, List.mem_singleton]
        · obtain ⟨rfl, kvs, W2, s7, rfl, hk2, hnd2, hW2⟩ := hP
          refine ⟨⟨_, rfl⟩, _, rfl, _, rfl, _, rfl, by omega, rfl, kvs, W2, .fz (nD x), .fz (.lst (nsD (orb n N a x))), s7, ?_, hk2, hnd2, fun y => ?_⟩
          · rw [hrs, List.map_append, List.map_singleton, ← tlD_snoc]
            rfl
          · rw [hW2, nsD_len, List.take_of_length_le (Nat.le_refl _), hsucc, hW]
            exact ⟨fun z => z.elim .inl fun z => .inr ⟨hf, z⟩, fun z => z.elim .inl fun z => .inr z.2⟩
      · have hf : ¬ fst1 n a x = true := fun z => by
          have e : (!(valD kvs (Sum.inl ((x : Nat) : Int) : Key)).isSome) = false := e
          rw [hmem, decide_eq_false (hmet.mpr z)] at e
          cases e
        rw [if_neg hf, List.append_nil] at hrs
        refine ⟨rfl, kvs, W, _, s6, s7, by rw [hrs]; rfl, hk, hnd, fun y => ?_⟩
        rw [hsucc, hW]
        exact ⟨.inl, fun z => z.elim id fun z => absurd z.1 hf⟩
    · obtain ⟨rfl, kvs, W, s4, s6, s7, rfl, hk, hnd, hW⟩ := hP
      rw [rngD_len, Int.toNat_natCast]
      exact ⟨_, rfl, q⟩
end
end K50
namespace K50
open PySem PySem.Spec PyProof.Rows L2 HM VL
abbrev s_l_right : Stmt := topS 45
theorem sc_l_right : FnScope ["_law_kinds", "_law_rows", "_law_colours", "_law_part_here", "_law_due", "_law_held", "_law_turn", "_law_told"] ["_law_kinds", "_law_rows", "_law_colours"] (defScope s_l_right) := ⟨rfl, rfl, rfl, by decide +kernel, rfl, by decide +kernel, by decide +kernel⟩
section
variable {P : Program} {w : World} {K : PySem.W.Frag} {mg : Str → Option Value} {base : Heap} {am : Am} {gd : Around → Prop} {k : Nat}
def spRightC : VSp := fun ds t Q _ => ∃ (n : Nat) (m : Nat → Nat → Nat) (ks : List (List Nat)) (N : Nat) (a : Nat → Nat → Nat) (c : Int), ds = [.lst (tnD ks), setD n N a, .int c] ∧ Hse n m ∧ n ≤ 60 ∧ ks.length ≤ 1523 ∧ (∀ L ∈ ks, Sub n m L) ∧ Act n m N a ∧ N ≤ 12 ∧ c.natAbs ≤ 10 ^ 30 ∧ Q (.bl true) t
theorem ok_rightC {f f_l_often f_l_pieces f_colour_marks : Addr} {fd fd_l_often fd_l_pieces fd_colour_marks : FuncData} (F : Fun K "_law_right" "_law_right" s_l_right f fd)
    (G_l_often : VFn anyA P w K mg base CX0 (k + 3) f_l_often fd_l_often ["_law_number", "_law_many"] am spPower) (g_l_often : mg "_law_often" = some (.ref f_l_often)) (k_l_often : PySem.W.keepIn K (.ref f_l_often) = true) (b_l_often : Binds K fd_l_often ["_law_number", "_law_many"] [])
    (G_l_pieces : VFn anyA P w K mg base CX0 (k + 3) f_l_pieces fd_l_pieces ["_law_rows", "_law_part_here"] am spPcsBy) (g_l_pieces : mg "_law_pieces" = some (.ref f_l_pieces)) (k_l_pieces : PySem.W.keepIn K (.ref f_l_pieces) = true) (b_l_pieces : Binds K fd_l_pieces ["_law_rows", "_law_part_here"] [])
    (GN_colour_marks : VFnN anyA P w K mg base CX0 (k + 3) f_colour_marks fd_colour_marks ["kinds", "rows", "colours"] am spColMN) (g_colour_marks : mg "colour_marks" = some (.ref f_colour_marks)) (k_colour_marks : PySem.W.keepIn K (.ref f_colour_marks) = true) (b_colour_marks : Binds K fd_colour_marks ["kinds", "rows", "colours"] [])
    (mz : ∀ x ∈ bn, mg x = none) : VFn noRepr P w K mg base CX0 (k + 4) f fd ["_law_kinds", "_law_rows", "_law_colours"] am spRightC := by
  refine vfn_of F sc_l_right (fun ds n Q E h => ?_) ⟨_, fun cdv A out s H E F0 H0 hcd hgd hr =>
    (vss_cons (vs_setLcF (i := 4) (own := [("_law_part_here", 3)]) rfl sc_l_right.nd rfl rfl (sw_true rfl rfl rfl (by decide +kernel)) (vi_list (ve_var (pv 0))) (blkOk_by (own := [("_law_part_here", 3)]) (N := ["_law_kinds", "_law_rows", "_law_colours", "_law_part_here", "_law_due", "_law_held", "_law_turn", "_law_told"]) (sc := defScope s_l_right) (by decide +kernel)) (tg_name (by simp)) (fun _ _ _ _ _ => (pg_name (i := 3) sc_l_right.nd rfl (.inl rfl))) (fun _ _ _ _ _ _ _ => vts_nil) (fun _ _ _ _ _ _ _ => (ve_call G_l_often trivial (hr.mono (by omega)) (by rfl) g_l_often k_l_often b_l_often pass0 (va_cons (ve_var (pv 2)) (va_cons (ve_cbR call_len_seq lft_len (by rfl) (mz "len" (by decide)) PySem.boot_len (vb_cons (ve_call G_l_pieces trivial (hr.mono (by omega)) (by rfl) g_l_pieces k_l_pieces b_l_pieces pass0 (va_cons (ve_var (pv 1)) (va_cons (ve_var (pv 3)) va_nil))) vb_nil)) va_nil)))))
      (vss_cons (vs_set (i := 5) sc_l_right.nd rfl (.inl rfl) (ve_cbR (call_reprD (by exact hgd) hr) lft_reprS (by rfl) (mz "repr" (by decide)) (by decide +kernel) (vb_cons (ve_new (vn_lst (va_cons (ve_var (pv 0)) (va_cons (ve_var (pv 1)) va_nil)))) vb_nil)))
      (vss_cons (vs_for PassesOwn.never rfl (vi_range1 (by rfl) (mz "range" (by decide)) (vb_cons ve_int vb_nil)) (vg_name (pg_name (i := 6) sc_l_right.nd rfl (.inl rfl)))
        (vss_cons (vs_setN (i := 7) sc_l_right.nd rfl (.inl rfl) (vn_callN GN_colour_marks trivial (hr.mono (by omega)) (by rfl) g_colour_marks k_colour_marks b_colour_marks pass0 (va_cons (ve_var (pv 0)) (va_cons (ve_var (pv 1)) (va_cons (ve_var (pv 2)) va_nil)))))
        (vss_cons (vs_if (vt_frz (i := 7) (fun F0 H0 => (vt_or (vt_not (vt_val (ve_isi (T' := "list") (by rfl) (mz "isinstance" (by decide)) (by rfl) (mz "list" (by decide)) (ve_var (pv 7))))) (vt_or (vt_cmp op_ne lft_neS (ve_cbR (call_reprD (by exact hgd) hr) lft_reprS (by rfl) (mz "repr" (by decide)) (by decide +kernel) (vb_rd (pv 7) vb_nil)) (ve_cbR (call_reprD (by exact hgd) hr) lft_reprS (by rfl) (mz "repr" (by decide)) (by decide +kernel) (vb_rd (pv 4) vb_nil)) (nomark _)) (vt_or1 (vt_cmp op_ne lft_neS (ve_cbR (call_reprD (by exact hgd) hr) lft_reprS (by rfl) (mz "repr" (by decide)) (by decide +kernel) (vb_cons (ve_new (vn_lst (va_cons (ve_var (pv 0)) (va_cons (ve_var (pv 1)) va_nil)))) vb_nil)) (ve_var (pv 5)) (nomark _))))).pt))
          (vss_one (vs_ret ve_bl))
          vss_nil)
        (vss_one (vs_expr (ve_m (pe_bm PySem.F.plainAttrs_list PySem.F.slot_list_append PySem.F.type_list_append mt_append (pv 7) (va_cons ve_int va_nil)) lft_append))))))
      (vss_one (vs_ret ve_bl))))), fun ds t Q E h => ?_⟩
  · obtain ⟨n, m, ks, N, a, c, rfl, _⟩ := h
    rfl
  · obtain ⟨n, m, ks, N, a, c, rfl, hH, hn, hk, hS, hA, hN, hc, q⟩ := h
    have hpl : ∀ L, (pcsP L N a).length ≤ 12 := fun L => by
      unfold pcsP pcs
      rw [List.length_map]
      exact Nat.le_trans (List.length_filter_le _ _) (by rw [List.length_range]; exact hN)
    have hall : rpS (.lst [.lst (tnD ks), setD n N a]) := (Sm.lst (e := 4) (k := 2) (c := 1680242) (l := 2) (fun d hd => by
      rcases List.mem_cons.mp hd with rfl | hd
      · exact (sm_tn hn hS (by omega)).mono (Nat.le_refl _) (by decide)
      · rw [List.mem_singleton.mp hd]
        exact sm_set hn hA (by omega)) (Nat.le_refl _)).rp (by decide) (by decide) (by decide) (by decide)
    have hcm : rpS (.lst (cmsD ks N a c)) := (Sm.lst (e := 361) (k := 0) (c := 362) (l := 1523) (fun d hd => by
      obtain ⟨L, hL, rfl⟩ := List.mem_map.mp hd
      refine Sm.int ?_
      rw [Int.natAbs_pow]
      refine Nat.lt_of_le_of_lt (Nat.le_trans (Nat.pow_le_pow_left hc _) (Nat.pow_le_pow_right (by decide) (hpl L))) ?_
      rw [← Nat.pow_mul]
      exact Nat.pow_lt_pow_right (by decide) (by decide)) (by unfold cmsD; rw [List.length_map]; exact hk)).rp (by decide) (by decide) (by decide) (by decide)
    refine ⟨_, rfl, _, rfl, lc_map (i := 3) (fun j => .int (c ^ (pcsP (tL ks j) N a).length)) (.head _) (noOw1 (s := .no) rfl no_ow) (by rw [tnD_len]; omega) (fun j d hd R hR => ?_) ?_⟩
    · unfold tnD at hd
      rw [List.getElem?_map] at hd
      obtain ⟨L, hL, rfl⟩ := Option.map_eq_some_iff.mp hd
      have e : tL ks j = L := by
        unfold tL
        rw [List.getD_eq_getElem?_getD, hL]
        rfl
      rw [e] at hR
      exact ⟨_, rfl, _, rfl, _, rfl, n, m, N, a, L, rfl, hH, hn, hA, by omega, hS L (List.mem_of_getElem? hL), _, .inl rfl, rfl, c, (pcsP L N a).length, by rw [tlD_len]; rfl, hc, Nat.le_trans (hpl L) (by decide), hR⟩
    rw [tnD_len, show (List.range ks.length).map (fun j => Dt.int (c ^ (pcsP (tL ks j) N a).length)) = cmsD ks N a c from map_tL (fun L => Dt.int (c ^ (pcsP L N a).length)) ks]
    refine ⟨_, rfl, ?_⟩
    refine ⟨_, rfl, _, rfl, (by show 2 ≤ 5000; decide), _, rfl, _, rfl, hall, rfl, ?_⟩
    refine ⟨2, rfl, ⟨by decide, by decide⟩, fun i env t' => t' = t ∧ ∃ s6 s7, env = [.fz (.lst (tnD ks)), .fz (setD n N a), .fz (.int c), .no, .fz (.lst (cmsD ks N a c)), .fz (shD (.lst [.lst (tnD ks), setD n N a])), s6, s7], ⟨rfl, .no, .no, rfl⟩, fun i d env t' hd hP => ?_, fun env t' hP => ?_⟩
    · obtain ⟨rfl, s6, s7, rfl⟩ := hP
      refine ⟨_, rfl, _, rfl, _, rfl, n, m, ks, N, a, c, rfl, hH, hn, by omega, hS, hA, by omega, hc, ?_⟩
      refine ⟨_, rfl, _, rfl, _, "list", true, rfl, (by show ("list" : String) ≠ ""; decide), (by show kitB "list" "list" = some true; decide +kernel), true, rfl, iteB (fun e => by cases e) (fun _ => ?_)⟩
      refine ⟨⟨_, .inl rfl⟩, _, .inl rfl, _, rfl, hcm, rfl, ⟨_, .inl rfl⟩, _, .inl rfl, _, rfl, hcm, rfl, dNe_sh ⟨_, rfl, iteB (fun e => by cases e) (fun _ => ?_)⟩⟩
      refine ⟨_, rfl, _, rfl, (by show 2 ≤ 5000; decide), _, rfl, _, rfl, hall, rfl, _, rfl, dNe_sh ⟨_, rfl, rfl, iteB (fun e => by cases e) (fun _ => ?_)⟩⟩
      exact ⟨⟨_, rfl⟩, _, rfl, _, rfl, by unfold cmsD; rw [List.length_map]; omega, rfl, _, _, rfl⟩
    · obtain ⟨rfl, s6, s7, rfl⟩ := hP
      exact q
end
end K50
namespace HM
open PySem PySem.Spec PyProof.Rows L2
section
variable {prog : Program} {w : World} {A : Around} {E : Value → Shared → Prop} {R : Result → Shared → Prop} {I : Addr} {fp wr : List Addr} {n : Nat} {P : Nat → Value → Prop} {St : Nat → Heap → Prop}
theorem sub_ls_str : isSubtype (.type "list") (.type "str") = pure false := by rw [isSubtype_type]; kernel_rfl
theorem sub_ls_bytes : isSubtype (.type "list") (.type "bytes") = pure false := by rw [isSubtype_type]; kernel_rfl
theorem sub_ls_bytearray : isSubtype (.type "list") (.type "bytearray") = pure false := by rw [isSubtype_type]; kernel_rfl
theorem args_sum2 (a b : Value) : argsOk "sum" ⟨[a, b], []⟩ := by unfold argsOk; kernel_rfl
def PL (h : Heap) (a : Addr) (its : List Value) : Prop := ∃ m, h.get? a = some { cls := .type "list", data := .seq its.toArray m }
def catI (itv : Nat → List Value) (x0 : List Value) : Nat → List Value
  | 0 => x0
  | i + 1 => catI itv x0 i ++ itv i
theorem sumL_loop (W : Walks prog w A.in1 I fp wr n P St) (h0 : Heap) (val : Nat → Addr) (itv : Nat → List Value) (x0 : List Value) (hP : ∀ i v, i < n → P i v → v = .ref (val i)) (hI : ∀ i, i < n → PL h0 (val i) (itv i)) (S : Addr) (hSf : S ∉ fp) (hS0 : h0.get? S = none) (hW0 : ∀ b ∈ wr, h0.get? b = none) (hWS : ∀ b ∈ wr, b < S) (N0 : Nat) (hNS : N0 ≤ S)
    (hsz : ∀ i, i ≤ n → (catI itv x0 i).length ≤ sizeLine) :
    ∀ (k i : Nat) (s : Shared) (cur : Addr) (c : Nat), n - i = k → i ≤ n → St i s.heap → (∀ b o, h0.get? b = some o → s.heap.get? b = some o) → s.heap.get? S = some { cls := .type "list", data := .seq #[.ref cur] c } → PL s.heap cur (catI itv x0 i) → cur ≠ S → cur ∉ wr →
    (∀ h' tk cur', (∀ b o, h0.get? b = some o → h'.get? b = some o) → PL h' cur' (catI itv x0 n) → ((n = i ∧ cur' = cur) ∨ N0 ≤ cur') → R (.ok (.ret (.ref cur'))) { s with heap := h', toks := tk }) →
    codeAny (model prog w) A (.builtin "sum.loop" ⟨[.ref I, .ref S, rawInt 2, rawInt 0], []⟩) R s := by
  have hSw : S ∉ wr := fun h => hSf (W.sub _ h)
  intro k
  induction k with
  | zero =>
    intro i s cur c hk hi hst hold hS hcur hcS hcw hR
    have hin : i = n := by omega
    subst hin
    refine codeAny_builtin F.entry_sum_loop ?_
    rw [Around.under_plainId F.plain_sum_loop _]
    show wpAny _ A.in1 (seqItems? (.ref S) >>= _) _ _ s
    refine wpAny_bind (wpAny_seqItems hS rfl ?_)
    show wpAny _ A.in1 (tryCatch (pyNext (.ref I)) _ >>= _) _ _ s
    refine wpAny_bind (wpAny_tryCatch (W.done s _ _ hst fun h' tk hk' => ?_))
    have hold' : ∀ b o, h0.get? b = some o → h'.get? b = some o := fun b o e => hk' b o (fun hb => by rw [hW0 b hb] at e; cases e) (hold b o e)
    obtain ⟨m, em⟩ := hcur
    exact wpAny_pure (hR h' tk cur hold' ⟨m, hk' _ _ hcw em⟩ (.inl ⟨rfl, rfl⟩))
  | succ k ih =>
    intro i s cur c hk hi hst hold hS hcur hcS hcw hR
    have hlt : i < n := by omega
    refine codeAny_builtin F.entry_sum_loop ?_
    rw [Around.under_plainId F.plain_sum_loop _]
    show wpAny _ A.in1 (seqItems? (.ref S) >>= _) _ _ s
    refine wpAny_bind (wpAny_seqItems hS rfl ?_)
    show wpAny _ A.in1 (tryCatch (pyNext (.ref I)) _ >>= _) _ _ s
    refine wpAny_bind (wpAny_tryCatch (W.item i s _ _ hlt hst fun v h' tk hPv hst' hk' => ?_))
    obtain rfl := hP i v hlt hPv
    have hold' : ∀ b o, h0.get? b = some o → h'.get? b = some o := fun b o e => hk' b o (fun hb => by rw [hW0 b hb] at e; cases e) (hold b o e)
    obtain ⟨m, em⟩ := hcur
    obtain ⟨m2, em2⟩ := hI i hlt
    have em' := hk' _ _ hcw em
    have em2' := hold' _ _ em2
    have hS' := hk' S _ hSw hS
    show wpAny _ A.in1 ((holding [Value.ref (val i)] (binaryOp .Add (.ref cur) (.ref (val i)))).attempt >>= _) _ _ _
    refine wpAny_bind (wpAny_attempt (wpAny_holding (PySem.P.add_list em' em2' ?_ (by have := hsz (i + 1) hlt; rw [catI, List.length_append] at this; rw [List.size_toArray, List.size_toArray]; exact this))))
    have ea : (catI itv x0 i).toArray ++ (itv i).toArray = (catI itv x0 (i + 1)).toArray := by rw [catI]; simp
    rw [ea]
    have hgs : S < h'.objs.size := Heap.lt_size hS'
    have hSp : (h'.push { cls := .type "list", data := .seq (catI itv x0 (i + 1)).toArray }).get? S = some { cls := .type "list", data := .seq #[.ref cur] c } := Heap.get?_push_of_some _ hS'
    have hnp : (h'.push { cls := .type "list", data := .seq (catI itv x0 (i + 1)).toArray }).get? h'.objs.size = some { cls := .type "list", data := .seq (catI itv x0 (i + 1)).toArray } := Heap.get?_push_size _ rfl
    have hne : h'.objs.size ≠ S := Nat.ne_of_gt hgs
    show wpAny _ A.in1 (updateSeq S (fun _ => #[.ref h'.objs.size]) >>= _) _ _ _
    refine wpAny_bind (wpAny_updateSeq hSp rfl ?_)
    have hS₂ := Heap.get?_update_self (Obj.mapSeq fun _ => #[Value.ref h'.objs.size]) hSp rfl
    refine wpAny_bind (wpAny_letGo ?_)
    have fr : ∀ b o, b ≠ S → h'.get? b = some o → (((h'.push { cls := .type "list", data := .seq (catI itv x0 (i + 1)).toArray }).update S (Obj.mapSeq fun _ => #[Value.ref h'.objs.size])).update S (Obj.mapSeq fun _ => #[Value.ref h'.objs.size])).get? b = some o := fun b o hb e => by
      rw [Heap.get?_update_other _ _ (Ne.symm hb), Heap.get?_update_other _ _ (Ne.symm hb)]
      exact Heap.get?_push_of_some _ e
    refine wpAny_bind (wpAny_updateSeq hS₂ rfl (wpAny_pure ⟨plainId_quiet F.plain_sum_loop _, ih (i + 1) _ h'.objs.size _ (by omega) hlt (W.frame _ _ _ hst' fun b hb o e => fr b o (fun z => hSf (z ▸ hb)) e) (fun b o e => fr b o (fun z => by rw [z, hS0] at e; cases e) (hold' b o e)) (Heap.get?_update_self _ hS₂ rfl) ⟨0, ?_⟩ hne (fun hb => ?_) fun h'' t'' cur' ho hc hn' => ?_⟩))
    · rw [Heap.get?_update_other _ _ (Ne.symm hne), Heap.get?_update_other _ _ (Ne.symm hne)]
      exact hnp
    · exact Nat.lt_irrefl _ (Nat.lt_trans (hWS _ hb) hgs)
    · refine hR h'' t'' cur' ho hc (.inr ?_)
      rcases hn' with ⟨_, rfl⟩ | h
      · exact Nat.le_trans hNS (Nat.le_of_lt hgs)
      · exact h
end
section
variable {prog : Program} {w : World} {A : Around} {E : Value → Shared → Prop} {s : Shared}
theorem sumL_raw {l st : Addr} {as : List Addr} {itv : Nat → List Value} {x0 : List Value} {Q : Value → Shared → Prop} (hh : A.handled = none) (hl : s.heap.IsList l (as.map Value.ref).toArray) (hst : PL s.heap st x0) (hx : ∀ i, i < as.length → PL s.heap (as.getD i 0) (itv i))
    (hsz : ∀ i, i ≤ as.length → (catI itv x0 i).length ≤ sizeLine)
    (h : ∀ h' tk cur', (∀ b o, s.heap.get? b = some o → h'.get? b = some o) → PL h' cur' (catI itv x0 as.length) → ((as.length = 0 ∧ cur' = st) ∨ s.heap.objs.size ≤ cur') → Q (.ref cur') { s with heap := h', toks := tk }) :
    wpAny (model prog w) A (call (.builtin "sum") [.ref l, .ref st]) Q E s := by
  have hlt : l < s.heap.objs.size := by obtain ⟨_, e, _⟩ := hl; exact Heap.lt_size e
  obtain ⟨m, em⟩ := hst
  have hlst : st < s.heap.objs.size := Heap.lt_size em
  refine call_function_tree F.kind_sum F.plain_sum F.entry_sum (args_sum2 _ _) ?_
  unfold Builtin.«sum»
  simp only [List.length_cons, List.length_nil]
  rw [if_neg (by decide)]
  refine wpAny_bind (wpAny_of_eq (show Builtin.Builtins.bindParams "sum" ["start"] 0 ⟨[Value.ref st], []⟩ = pure [some (Value.ref st)] from rfl) ?_)
  refine wpAny_bind (wpAny_pyIter_list hl ?_)
  have e1 : (s.heap.push { cls := .type "list_iterator", data := .fields #[.ref l, .int 0 0] }).get? st = some { cls := .type "list", data := .seq x0.toArray m } := Heap.get?_push_of_some _ em
  refine wpAny_bind (wpAny_pure ?_)
  simp only [List.forIn_cons, List.forIn_nil]
  refine wpAny_bind (wpAny_bind (wpAny_bind (wpAny_isInstance (T := "list") (b := false) ⟨_, e1, rfl⟩ sub_ls_str ?_)))
  simp only [Bool.false_eq_true, if_false]
  refine wpAny_pure (wpAny_bind (wpAny_bind (wpAny_isInstance (T := "list") (b := false) ⟨_, e1, rfl⟩ sub_ls_bytes ?_)))
  simp only [Bool.false_eq_true, if_false]
  refine wpAny_pure (wpAny_bind (wpAny_bind (wpAny_isInstance (T := "list") (b := false) ⟨_, e1, rfl⟩ sub_ls_bytearray ?_)))
  simp only [Bool.false_eq_true, if_false]
  refine wpAny_pure (wpAny_pure ?_)
  refine wpAny_bind (wpAny_newObj_type ?_)
  have hsz1 : (s.heap.push { cls := .type "list_iterator", data := .fields #[.ref l, .int 0 0] }).objs.size = s.heap.objs.size + 1 := Heap.size_push ..
  have hS : (s.heap.push { cls := .type "list_iterator", data := .fields #[.ref l, .int 0 0] }).objs.size ∉ [s.heap.objs.size, l] := fun hm => by
    rw [hsz1] at hm
    rcases List.mem_cons.mp hm with z | z
    · exact Nat.succ_ne_self _ z
    · have := List.mem_singleton.mp z
      rw [← this] at hlt
      exact absurd hlt (Nat.not_lt.mpr (Nat.le_succ _))
  have hn : ∀ b, s.heap.objs.size ≤ b → s.heap.get? b = none := fun b hb => by
    cases e : s.heap.get? b with
    | none => rfl
    | some o => exact absurd (Heap.lt_size e) (Nat.not_lt.mpr hb)
  have hnl : as.length = ((as.map Value.ref).toArray).size := by rw [List.size_toArray, List.length_map]
  refine wpAny_pure ⟨plainId_quiet F.plain_sum_loop _, sumL_loop (Walks.list (A := A.in1) hh s.heap.objs.size l (Nat.ne_of_lt hlt) (as.map Value.ref).toArray) s.heap (fun i => as.getD i 0) itv x0 (fun i v hi hv => ?_) (fun i hi => hx i (by rw [hnl]; exact hi)) _ hS (hn _ (by rw [hsz1]; exact Nat.le_succ _)) (fun b hb => by rw [List.mem_singleton.mp hb]; exact hn _ (Nat.le_refl _)) (fun b hb => by rw [List.mem_singleton.mp hb, hsz1]; exact Nat.lt_succ_self _) s.heap.objs.size (by rw [hsz1]; exact Nat.le_succ _) (fun i hi => hsz i (by rw [hnl]; exact hi)) _ 0 _ st 0 rfl (Nat.zero_le _) ?_ (fun b o e => ?_) (Heap.get?_push_size _ rfl) ⟨m, ?_⟩ (by rw [hsz1]; exact Nat.ne_of_lt (Nat.lt_succ_of_lt hlst)) (fun z => Nat.ne_of_lt hlst (List.mem_singleton.mp z)) fun h' tk cur' ho hc hcc => ?_⟩
  · rw [List.getElem?_toArray, List.getElem?_map] at hv
    obtain ⟨a, ha, rfl⟩ := Option.map_eq_some_iff.mp hv
    show Value.ref a = Value.ref (as.getD i 0)
    rw [List.getD_eq_getElem?_getD, ha]
    rfl
  · exact ⟨⟨_, Heap.get?_push_of_some _ (Heap.get?_push_size _ rfl), rfl, rfl⟩, (hl.push _).push _⟩
  · exact Heap.get?_push_of_some _ (Heap.get?_push_of_some _ e)
  · exact Heap.get?_push_of_some _ e1
  · rw [← hnl] at hc hcc
    exact h h' tk cur' ho hc (hcc.imp (fun z => ⟨z.1, z.2⟩) id)
end
/-- sum(xss, x0), lists -/
def rSumL : List V → Hp → VK → Prop := fun vs H Q => ∃ (l st : Addr) (as : List Addr) (xv : Nat → List V) (x0 : List V), vs = [.ref l, .ref st] ∧ H l = some (.lst (as.map V.ref)) ∧ H st = some (.lst x0) ∧ (∀ i a, as[i]? = some a → H a = some (.lst (xv i))) ∧
  x0.length + (((List.range as.length).map xv).flatten).length ≤ sizeLine ∧ (as = [] → Q (.ref st) H) ∧ ∀ p, H p = none → Q (.ref p) (upd H p (.lst (x0 ++ ((List.range as.length).map xv).flatten)))
theorem catI_vals {xv : Nat → List V} {itv : Nat → List Value} {x0 : List V} {i0 : List Value} (h0 : Vals x0 i0) : ∀ n, (∀ i, i < n → Vals (xv i) (itv i)) → Vals (x0 ++ ((List.range n).map xv).flatten) (catI itv i0 n)
  | 0, _ => by rw [List.range_zero, List.map_nil, List.flatten_nil, List.append_nil]; exact h0
  | n + 1, h => by
    rw [List.range_succ, List.map_append, List.flatten_append, ← List.append_assoc]
    have e : (List.map xv [n]).flatten = xv n := by rw [List.map_cons, List.map_nil, List.flatten_cons, List.flatten_nil, List.append_nil]
    rw [e]
    exact (catI_vals h0 n fun i hi => h i (by omega)).append (h n (by omega))
theorem catI_le {itv : Nat → List Value} {i0 : List Value} : ∀ {n i : Nat}, i ≤ n → (catI itv i0 i).length ≤ (catI itv i0 n).length
  | 0, i, h => by rw [show i = 0 by omega]; exact Nat.le_refl _
  | n + 1, i, h => by
    by_cases z : i = n + 1
    · rw [z]; exact Nat.le_refl _
    · refine Nat.le_trans (catI_le (n := n) (by omega)) ?_
      rw [catI, List.length_append]
      omega
theorem cr_sumL {X : Cx} (hc : X.calm = true) : CallR X (.builtin "sum") rSumL := by
  intro pins s σ H vs us Q I r h
  obtain ⟨l, st, as, xv, x0, rfl, hl, hst, hx, hz, q0, q1⟩ := h
  obtain ⟨u1, u2, rfl, r1, r2⟩ : ∃ u1 u2, us = [u1, u2] ∧ RelV (.ref l) u1 ∧ RelV (.ref st) u2 := by
    cases r with
    | cons a b =>
      cases b with
      | cons c d =>
        cases d
        exact ⟨_, _, rfl, a, c⟩
  cases r1
  cases r2
  obtain ⟨z, its, m, rv, el, eh⟩ := I.lstM hl
  obtain ⟨z0, i0, m0, rv0, el0, eh0⟩ := I.lstM hst
  have ei : its = as.map Value.ref := by
    clear hl hx hz q0 q1 z el eh
    induction as generalizing its with
    | nil => cases rv; rfl
    | cons a t ih =>
      rw [List.map_cons] at rv
      cases rv with
      | cons p q =>
        cases p
        rw [ih _ q]
        rfl
  subst ei
  have hv : ∀ i, ∃ it : List Value, i < as.length → (Vals (xv i) it ∧ PL s.heap (as.getD i 0) it) := fun i => by
    by_cases hi : i < as.length
    · have e : as[i]? = some as[i] := List.getElem?_eq_getElem hi
      obtain ⟨_, it, mm, rr, _, ee⟩ := I.lstM (hx i _ e)
      refine ⟨it, fun _ => ⟨rr, mm, ?_⟩⟩
      rw [List.getD_eq_getElem?_getD, e]
      exact ee
    · exact ⟨[], fun z => absurd z hi⟩
  have hv2 := fun i => Classical.choose_spec (hv i)
  have hcat := catI_vals rv0 as.length fun i hi => (hv2 i hi).1
  have hlen : (catI (fun i => Classical.choose (hv i)) i0 as.length).length ≤ sizeLine := by
    rw [← hcat.length, List.length_append]
    exact hz
  refine sumL_raw (I.ok.hd hc) ⟨_, eh, rfl, m, rfl⟩ ⟨m0, eh0⟩ (fun i hi => (hv2 i hi).2) (fun i hi => Nat.le_trans (catI_le hi) hlen) fun h' tk cur' ho hcu hcc => ?_
  obtain ⟨mc, ec⟩ := hcu
  rcases hcc with ⟨e0, rfl⟩ | hn
  · exact ⟨.ref _, H, I.kept ho, rfl, q0 (List.eq_nil_of_length_eq_zero e0)⟩
  · have hge := hn
    exact ⟨.ref _, _, I.laid (t' := tk) (o := .lst (x0 ++ ((List.range as.length).map xv).flatten)) ho hge ⟨by rw [List.length_append]; exact hz, _, mc, hcat, ec⟩, rfl, q1 _ (I.hok.fresh hge)⟩
end HM
namespace VL
open PySem PySem.Spec PyProof.Rows L2 HM
section
variable {c : Fc} {X : Cx} {e : Expr} {es : List Expr} {x : Str} {p pos : Pos} {tas : VTA}
/-- sum(lists, start): the lists one behind another -/
def dSumL : RCD := fun ds Q => ∃ (dss : List (List Dt)) (d0 : List Dt), ds = [.lst (dss.map Dt.lst), .lst d0] ∧ d0.length + dss.flatten.length ≤ 16777216 ∧ Q (.lst (d0 ++ dss.flatten))
theorem rps_lsts {F : Hp} : ∀ {xs : List V} {dss : List (List Dt)}, Rps F xs (dss.map Dt.lst) → ∃ (as : List Addr) (xv : Nat → List V), xs = as.map V.ref ∧ (∀ i a, as[i]? = some a → F a = some (.lst (xv i))) ∧ Rps F (((List.range as.length).map xv).flatten) dss.flatten
  | xs, [], h => by
    cases h
    exact ⟨[], fun _ => [], rfl, fun i a e => by simp at e, .nil⟩
  | xs, d :: ds, h => by
    rw [List.map_cons] at h
    cases h with
    | cons h t =>
      obtain ⟨as, xv, rfl, h1, h2⟩ := rps_lsts t
      cases h with
      | lst e1 r1 =>
        rename_i a ys
        refine ⟨a :: as, fun i => match i with | 0 => ys | j + 1 => xv j, rfl, fun i b hb => ?_, ?_⟩
        · cases i with
          | zero =>
            simp only [List.getElem?_cons_zero, Option.some.injEq] at hb
            subst hb
            exact e1
          | succ j => exact h1 j b (by simpa using hb)
        · rw [List.length_cons, List.range_succ_eq_map, List.map_cons, List.flatten_cons, List.map_map, List.flatten_cons]
          exact Rps.append r1 h2
theorem sumL_of {σ : L2.St} {H : Hp} {R : VK} (h : tOf c (vCB dSumL tas) σ H R) : tCB rSumL (aOf c tas) σ H R := by
  obtain ⟨F, env, n, Q, rr, q, k⟩ := h
  refine ⟨F, env, n, _, rr, q, fun vs H' F' ds env' n' r2 w rp qd => ?_⟩
  obtain ⟨dss, d0, rfl, hz, qv⟩ := qd
  obtain ⟨v1, v2, rfl, p1, p2⟩ := rp.two
  cases p1 with
  | lst e1 s1 =>
  rename_i l xs
  have p2' := p2
  cases p2 with
  | lst e2 s2 =>
  rename_i st x0
  obtain ⟨as, xv, rfl, hx, hr⟩ := rps_lsts s1
  have hall := Rps.append s2 hr
  have hlen : x0.length + (((List.range as.length).map xv).flatten).length = d0.length + dss.flatten.length := by rw [s2.len, hr.len]
  refine ⟨l, st, as, xv, x0, rfl, r2.sub _ _ e1, r2.sub _ _ e2, fun i a ha => r2.sub _ _ (hx i a ha), by rw [hlen, sizeLine_eq]; exact hz, fun e => ?_, fun p np => ?_⟩
  · subst e
    have e3 : dss.flatten = [] := by
      have := hr.len
      rw [List.length_nil, List.range_zero, List.map_nil, List.flatten_nil, List.length_nil] at this
      exact List.eq_nil_of_length_eq_zero this.symm
    rw [e3, List.append_nil] at qv
    exact k _ _ F' _ env' n' r2 w p2' qv
  · obtain ⟨_, _, nf⟩ := r2.new0 np
    exact k _ _ (upd F' p (.lst _)) _ env' n' (r2.layF np _) (w.trans (up_lay nf)) (.lst upd_same (hall.up (up_lay nf))) qv
theorem ve_sumL (hX : X.calm = true) (hg : Gl X x) (hm : X.mg x = none) (hv : bootBuiltins x = some (.builtin "sum")) (ha : PA X (e :: es) (aOf c tas)) (hn : x ≠ "__name__" := by decide) (hdb : (x == ("__debug__" : Str)) = false := by decide)
    (he : starEach (e :: es) X.env = (false, eval e X.env) :: starEach es X.env := by rfl) (hpl : (backTo pos (starEach es X.env)).any (·.1) = false := by rfl) : PE X (.Call (.Name x p) (e :: es) [] pos) (tOf c (vCB dSumL tas)) := PE.imp (pe_callB (cr_sumL hX) hg hm hv ha hn hdb he hpl) fun _ _ _ => sumL_of
end
end VL
namespace K50
open PySem PySem.Spec PyProof.Rows L2 HM VL
abbrev s_l_colourings : Stmt := topS 43
theorem sc_l_colourings : FnScope ["_law_many", "_law_colours", "_law_found", "_law_k", "_law_one", "_law_colour"] ["_law_many", "_law_colours"] (defScope s_l_colourings) := ⟨rfl, rfl, rfl, by decide +kernel, rfl, by decide +kernel, by decide +kernel⟩
abbrev s_l_kept : Stmt := topS 44
theorem sc_l_kept : FnScope ["_law_rows", "_law_part_here", "_law_colours", "_law_many", "_law_one", "_law_k", "_law_goal", "_law_moving"] ["_law_rows", "_law_part_here", "_law_colours"] (defScope s_l_kept) := ⟨rfl, rfl, rfl, by decide +kernel, rfl, by decide +kernel, by decide +kernel⟩
section
variable {P : Program} {w : World} {K : PySem.W.Frag} {mg : Str → Option Value} {base : Heap} {am : Am} {gd : Around → Prop} {k : Nat}
def spColourings : VSp := fun ds t Q _ => ∃ (N c : Nat), ds = [nD N, nD c] ∧ N ≤ 12 ∧ c ≤ 1000 ∧ (∀ i, i ≤ N → c ^ i ≤ 1000) ∧ Q (.lst (tnD (wds c N))) t
theorem ok_colourings {f : Addr} {fd : FuncData} (F : Fun K "_law_colourings" "_law_colourings" s_l_colourings f fd) (mz : ∀ x ∈ bn, mg x = none) : VFn gd P w K mg base CX0 (k + 1) f fd ["_law_many", "_law_colours"] am spColourings := by
  refine vfn_of F sc_l_colourings (fun ds n Q E h => ?_) ⟨_, fun cdv A out s H E F0 H0 hcd hgd hr =>
    (vss_cons (vs_set (i := 2) sc_l_colourings.nd rfl (.inl rfl) (ve_new (vn_lst (va_cons (ve_tup va_nil) va_nil))))
      (vss_cons (vs_for PassesOwn.never rfl (vi_range1 (by rfl) (mz "range" (by decide)) (vb_cons (ve_var (pv 0)) vb_nil)) (vg_name (pg_name (i := 3) sc_l_colourings.nd rfl (.inl rfl)))
        (vss_one (vs_set (i := 2) sc_l_colourings.nd rfl (.inl rfl) (ve_sumL rfl (by rfl) (mz "sum" (by decide)) (by decide +kernel) (va_cons (ve_new (vn_lc (own := [("_law_one", 4)]) rfl sc_l_colourings.nd (vi_list (ve_var (pv 2))) (blkOk_by (own := [("_law_one", 4)]) (N := ["_law_many", "_law_colours", "_law_found", "_law_k", "_law_one", "_law_colour"]) (sc := defScope s_l_colourings) (by decide +kernel)) (tg_name (by simp)) (fun _ _ _ _ _ => (pg_name (i := 4) sc_l_colourings.nd rfl (.inr rfl))) (fun _ _ _ _ _ _ _ => vts_nil) (fun _ _ _ _ _ _ _ => (ve_new (vn_lc (own := [("_law_colour", 5)]) rfl sc_l_colourings.nd (vi_range1 (by rfl) (mz "range" (by decide)) (vb_cons (ve_var (pv 1)) vb_nil)) (blkOk_by (own := [("_law_colour", 5)]) (by rfl)) (tg_name (by simp)) (fun _ _ _ _ _ => (pg_name (i := 5) sc_l_colourings.nd rfl (.inl rfl))) (fun _ _ _ _ _ _ _ => vts_nil) (fun _ _ _ _ _ _ _ => (ve_catT (ve_var (pv 4)) (ve_tup (va_cons (ve_var (pv 5)) va_nil))))))))) (va_cons (ve_new (vn_lst va_nil)) va_nil))))))
      (vss_one (vs_ret (ve_var (pv 2)))))), fun ds t Q E h => ?_⟩
  · obtain ⟨N, c, rfl, _⟩ := h
    rfl
  · obtain ⟨N, c, rfl, hN, hc, hb, q⟩ := h
    refine ⟨Nat.zero_le _, (by decide : 1 ≤ 5000), _, rfl, ?_⟩
    refine ⟨_, rfl, _, rfl, ⟨by omega, by omega⟩, fun i env t' => t' = t ∧ ∃ s3, env = [.fz (nD N), .fz (nD c), .fz (.lst (tnD (wds c i))), s3, .no, .no], ⟨rfl, .no, rfl⟩, fun i d env t' hd hP => ?_, fun env t' hP => ?_⟩
    · obtain ⟨rfl, s3, rfl⟩ := hP
      obtain ⟨rfl, hi⟩ := rngD_get0 hd
      have hi : i < N := by have : i < ((N : Nat) : Int).toNat := hi; omega
      have hl : (tnD (wds c i)).length = c ^ i := by rw [tnD_len, wds_len]
      refine ⟨_, rfl, _, rfl, lc_map (i := 4) (fun q => .lst (tnD ((List.range c).map fun y => tL (wds c i) q ++ [y]))) (.head _) (noOw1 (s := .no) rfl no_ow) (by rw [hl]; have := hb i (by omega); omega) (fun q d hd R hR => ?_) ?_⟩
      · unfold tnD at hd
        rw [List.getElem?_map] at hd
        obtain ⟨wd, hw, rfl⟩ := Option.map_eq_some_iff.mp hd
        have ew : tL (wds c i) q = wd := by
          unfold tL
          rw [List.getD_eq_getElem?_getD, hw]
          rfl
        rw [ew] at hR
        have hwl : wd.length = i := by
          unfold wds at hw
          rw [List.getElem?_map] at hw
          obtain ⟨_, _, rfl⟩ := Option.map_eq_some_iff.mp hw
          rw [List.length_map, List.length_range]
        refine ⟨_, rfl, _, rfl, ⟨by omega, by omega⟩, lc_map (i := 5) (fun y => .tup (nsD (wd ++ [y]))) (.head _) (noOw1 (s := .no) rfl no_ow) (by rw [rngD_len, Int.toNat_natCast]; omega) (fun y d hy R hR => ?_) ?_⟩
        · obtain ⟨rfl, _⟩ := rngD_get0 hy
          refine ⟨_, rfl, _, rfl, (by decide : 1 ≤ 5000), _, _, rfl, rfl, (by show (nsD wd).length + 1 ≤ 5000; rw [nsD_len]; omega), ?_⟩
          have e : nsD (wd ++ [y]) = nsD wd ++ [Dt.int (y : Int)] := by unfold nsD; rw [List.map_append]; rfl
          rw [e] at hR
          exact hR
        · rw [rngD_len, Int.toNat_natCast]
          refine ⟨_, rfl, ?_⟩
          have e : (List.range c).map (fun y => Dt.tup (nsD (wd ++ [y]))) = tnD ((List.range c).map fun y => wd ++ [y]) := by unfold tnD; rw [List.map_map]; rfl
          rw [e]
          exact hR
      · rw [hl]
        have e2 : (((List.range (c ^ i)).map fun q => tnD ((List.range c).map fun y => tL (wds c i) q ++ [y])).flatten) = tnD (wds c (i + 1)) := by
          have := map_tL (fun w => tnD ((List.range c).map fun y => w ++ [y])) (wds c i)
          rw [wds_len] at this
          rw [this, wds_succ]
          unfold tnD
          rw [List.map_flatMap, List.flatMap_def]
        refine ⟨_, rfl, Nat.zero_le _, _, rfl, (List.range (c ^ i)).map (fun q => tnD ((List.range c).map fun y => tL (wds c i) q ++ [y])), [], by rw [List.map_map]; rfl, ?_, rfl, .fz (nD i), ?_⟩
        · rw [e2, tnD_len, wds_len]
          have := hb (i + 1) (by omega)
          show 0 + _ ≤ _
          omega
        · rw [e2]
          rfl
    · obtain ⟨rfl, s3, rfl⟩ := hP
      rw [rngD_len, Int.toNat_natCast]
      exact ⟨_, rfl, q⟩
def spKept : VSp := fun ds t Q _ => ∃ (n : Nat) (m : Nat → Nat → Nat) (N : Nat) (a : Nat → Nat → Nat) (L : List Nat) (c : Nat), ds = [setD n N a, .tup (nsD L), nD c] ∧ Hse n m ∧ n ≤ 60 ∧ Act n m N a ∧ N ≤ 12 ∧ Sub n m L ∧ c ≤ 1000 ∧ (∀ i, i ≤ N → c ^ i ≤ 1000) ∧ Q (.int ((c : Int) ^ (pcsP L N a).length)) t
theorem ok_kept {f f_l_colourings : Addr} {fd fd_l_colourings : FuncData} (F : Fun K "_law_kept" "_law_kept" s_l_kept f fd)
    (G_l_colourings : VFn anyA P w K mg base CX0 (k + 1) f_l_colourings fd_l_colourings ["_law_many", "_law_colours"] am spColourings) (g_l_colourings : mg "_law_colourings" = some (.ref f_l_colourings)) (k_l_colourings : PySem.W.keepIn K (.ref f_l_colourings) = true) (b_l_colourings : Binds K fd_l_colourings ["_law_many", "_law_colours"] [])
    (mz : ∀ x ∈ bn, mg x = none) : VFn gd P w K mg base CX0 (k + 2) f fd ["_law_rows", "_law_part_here", "_law_colours"] am spKept := by
  refine vfn_of F sc_l_kept (fun ds n Q E h => ?_) ⟨_, fun cdv A out s H E F0 H0 hcd hgd hr =>
    (vss_cons (vs_set (i := 3) sc_l_kept.nd rfl (.inl rfl) ve_int)
      (vss_cons (vs_for PassesOwn.never rfl (vi_list (ve_call G_l_colourings trivial (hr.mono (by omega)) (by rfl) g_l_colourings k_l_colourings b_l_colourings pass0 (va_cons (ve_cbR call_len_seq lft_len (by rfl) (mz "len" (by decide)) PySem.boot_len (vb_cons (ve_ixO (pv 0) ve_int (fun _ _ => rfl)) vb_nil)) (va_cons (ve_var (pv 2)) va_nil)))) (vg_name (pg_name (i := 4) sc_l_kept.nd rfl (.inr rfl)))
        (vss_cons (vs_setLcF (i := 7) (own := [("_law_k", 5)]) rfl sc_l_kept.nd rfl rfl (sw_true rfl rfl rfl (by decide +kernel)) (vi_tup (ve_var (pv 1))) (blkOk_by (own := [("_law_k", 5)]) (N := ["_law_rows", "_law_part_here", "_law_colours", "_law_many", "_law_one", "_law_k", "_law_goal", "_law_moving"]) (sc := defScope s_l_kept) (by decide +kernel)) (tg_name (by simp)) (fun _ _ _ _ _ => (pg_name (i := 5) sc_l_kept.nd rfl (.inl rfl))) (fun _ _ _ _ _ _ _ => vts_one (vt_cmpR (op_neD hr.units) lft_neD (ve_new (vn_lc (own := [("_law_goal", 6)]) rfl sc_l_kept.nd (vi_list (ve_ixO (pv 0) (ve_var (pv 5)) (fun _ _ => rfl))) (blkOk_by (own := [("_law_goal", 6)]) (by rfl)) (tg_name (by simp)) (fun _ _ _ _ _ => (pg_name (i := 6) sc_l_kept.nd rfl (.inl rfl))) (fun _ _ _ _ _ _ _ => vts_nil) (fun _ _ _ _ _ _ _ => (ve_ix ix_tup lft_ixT (ve_var (pv 4)) (ve_var (pv 6)) (fun _ _ => rfl))))) (vr_of (ve_new (vn_tyR call_list_of lft_listOf (by rfl) (mz "list" (by decide)) (by decide +kernel) (vb_rd (pv 4) vb_nil)))) (nomark _))) (fun _ _ _ _ _ _ _ => (ve_var (pv 5))))
        (vss_one (vs_set (i := 3) sc_l_kept.nd rfl (.inl rfl) (ve_op op_add lft_I0 (ve_var (pv 3)) (ve_intB (by rfl) (mz "int" (by decide)) (ve_cmpN (op_eqD hr.units) lft_eqD (pv 7) (vr_of (ve_new (vn_lst va_nil))) (nomark _))))))))
      (vss_one (vs_ret (ve_var (pv 3)))))), fun ds t Q E h => ?_⟩
  · obtain ⟨n, m, N, a, L, c, rfl, _⟩ := h
    rfl
  · obtain ⟨n, m, N, a, L, c, rfl, hH, hn, hA, hN, hS, hc, hb, q⟩ := h
    have hp0 := hH.pos
    have hL : L.length ≤ n := few_of_nodup hS.nd hS.lt
    have hat : atI ((List.range n).map fun g => rowD N fun x => a x g) 0 = some (rowD N fun x => a x 0) := atI_nat (j := 0) (by rw [List.getElem?_map, List.getElem?_range hp0]; rfl)
    have hrl : ∀ {f : Nat → Nat}, (nsD ((List.range N).map f)).length = N := fun {f} => by rw [nsD_len, List.length_map, List.length_range]
    obtain ⟨kp, ekp⟩ : ∃ kp : List Nat → Bool, kp = fun wd => L.all fun g => decide ((List.range N).map (fun x => tA wd (a x g)) = wd) := ⟨_, rfl⟩
    have hfin : (((wds c N).filter kp).length : Nat) = c ^ (pcsP L N a).length := by
      rw [← fix_countL hH hA hS c, ekp]
      unfold wds
      rw [List.filter_map, List.length_map]
      congr 1
      refine List.filter_congr fun q _ => ?_
      show (L.all fun g => decide ((List.range N).map (fun x => tA ((List.range N).map (dig c N q)) (a x g)) = (List.range N).map (dig c N q))) = _
      rw [Bool.eq_iff_iff, List.all_eq_true, List.all_eq_true]
      have ea : ∀ g ∈ L, ∀ x, x < N → tA ((List.range N).map (dig c N q)) (a x g) = dig c N q (a x g) := fun g hg x hx => tA_range (hA.lt x g hx (hS.lt g hg))
      constructor
      · intro z g hg
        have z := of_decide_eq_true (z g hg)
        refine List.all_eq_true.mpr fun x hx => decide_eq_true ?_
        have hx' := List.mem_range.mp hx
        have := congrArg (fun l : List Nat => l[x]?) z
        simp only [List.getElem?_map, List.getElem?_range hx', Option.map_some, Option.some.injEq] at this
        rw [ea g hg x hx'] at this
        exact this
      · intro z g hg
        refine decide_eq_true (List.map_congr_left fun x hx => ?_)
        rw [ea g hg x (List.mem_range.mp hx)]
        exact of_decide_eq_true (List.all_eq_true.mp (z g hg) x hx)
    skip
    refine ⟨⟨_, .inl rfl⟩, _, _, _, .inl rfl, rfl, hat, _, .inl rfl, rfl, _, rfl, N, c, by rw [hrl]; rfl, hN, hc, hb, _, rfl, fun i env t' => t' = t ∧ ∃ s4 s7, (∀ k, s4 ≠ Sl.ow k) ∧ env = [.fz (setD n N a), .fz (.tup (nsD L)), .fz (nD c), .fz (nD (((wds c N).take i).filter kp).length), s4, .no, .no, s7], ⟨rfl, .no, .no, no_ow, rfl⟩, fun i d env t' hd hP => ?_, fun env t' hP => ?_⟩
    · obtain ⟨rfl, s4, s7, _, rfl⟩ := hP
      unfold tnD at hd
      rw [List.getElem?_map] at hd
      obtain ⟨wd, hw, rfl⟩ := Option.map_eq_some_iff.mp hd
      have hwl : wd.length = N := by
        unfold wds at hw
        rw [List.getElem?_map] at hw
        obtain ⟨_, _, rfl⟩ := Option.map_eq_some_iff.mp hw
        rw [List.length_map, List.length_range]
      refine ⟨_, rfl, _, rfl, lc_filter1 (i := 5) (fun j => !decide ((List.range N).map (fun x => tA wd (a x (tA L j))) = wd)) (fun j => nD (tA L j)) (.head _) (noOw1 (s := .no) rfl no_ow) (by rw [nsD_len]; omega) (fun j d hd => ?_) ?_⟩
      · unfold nsD at hd
        rw [List.getElem?_map] at hd
        obtain ⟨g, hg, rfl⟩ := Option.map_eq_some_iff.mp hd
        have eg : tA L j = g := by
          have := tA_get (List.getElem?_eq_some_iff.mp hg).1
          rw [hg] at this
          exact (Option.some.inj this).symm
        rw [eg]
        have hgn := hS.lt g (List.mem_of_getElem? hg)
        refine ⟨fun R hR => ?_, fun _ R hR => ⟨_, rfl, hR⟩⟩
        refine ⟨⟨_, .inl rfl⟩, _, rfl, _, _, _, .inl rfl, rfl, set_at hgn, _, rfl, lc_map (i := 6) (fun x => nD (tA wd (a x g))) (.head _) (noOw1 (s := .no) rfl no_ow) (by rw [hrl]; omega) (fun x d hx R hR => ?_) ?_⟩
        · obtain ⟨hx2, rfl⟩ := row_get hx
          exact ⟨_, rfl, _, rfl, _, _, _, rfl, rfl, nsD_tA (by rw [hwl]; exact hA.lt _ g hx2 hgn), hR⟩
        · rw [hrl]
          have e1 : (List.range N).map (fun x => nD (tA wd (a x g))) = nsD ((List.range N).map fun x => tA wd (a x g)) := by unfold nsD; rw [List.map_map]; rfl
          rw [e1]
          refine ⟨_, rfl, ⟨_, .inl rfl⟩, _, .inl rfl, _, .inr rfl, flats_ns _, _, rfl, dNeD_pl (pl_ls1 _) (pl_ls1 _) (dep_ls1 _) (dep_ls1 _) fun b hb => ⟨rfl, b, rfl, ?_⟩⟩
          have eb : b = !decide ((List.range N).map (fun x => tA wd (a x g)) = wd) := by
            rw [Bool.eq_iff_iff, hb, Bool.not_eq_true', decide_eq_false_iff_not]
            constructor
            · intro z z2
              exact z (by rw [z2])
            · intro z z2
              exact z (nsD_inj (by injection z2))
          rw [eb]
          exact hR
      · refine ⟨_, rfl, ?_⟩
        obtain ⟨fl, efl⟩ : ∃ fl, fl = ((List.range (nsD L).length).filter fun j => !decide ((List.range N).map (fun x => tA wd (a x (tA L j))) = wd)) := ⟨_, rfl⟩
        rw [← efl]
        have hfl : fl.map (fun j => nD (tA L j)) = nsD (fl.map (tA L)) := by unfold nsD; rw [List.map_map]; rfl
        rw [hfl]
        refine ⟨_, rfl, ⟨_, .inl rfl⟩, Nat.zero_le _, _, rfl, _, .inl rfl, dEqD_pl (pl_ls1 _) (pl_ls1 []) (dep_ls1 _) (dep_ls1 []) fun b hb => ⟨rfl, b, rfl, ?_⟩⟩
        have eb : b = kp wd := by
          rw [Bool.eq_iff_iff, hb, ekp]
          show _ ↔ (L.all fun g => decide ((List.range N).map (fun x => tA wd (a x g)) = wd)) = true
          rw [← all_tA L fun g => decide ((List.range N).map (fun x => tA wd (a x g)) = wd)]
          constructor
          · intro z
            have z : nsD (fl.map (tA L)) = [] := by injection z
            have z2 : fl = [] := by
              unfold nsD at z
              rw [List.map_map, List.map_eq_nil_iff] at z
              exact z
            rw [efl, nsD_len] at z2
            refine List.all_eq_true.mpr fun j hj => ?_
            have := List.filter_eq_nil_iff.mp z2 j hj
            simpa using this
          · intro z
            have z2 : fl = [] := by
              rw [efl, nsD_len]
              refine List.filter_eq_nil_iff.mpr fun j hj => ?_
              have := List.all_eq_true.mp z j hj
              simpa using this
            rw [z2]
            rfl
        rw [eb]
        have e2 : nD (((wds c N).take (i + 1)).filter kp).length = Dt.int (((((wds c N).take i).filter kp).length : Nat) + if kp wd = true then 1 else 0) := by
          rw [take_snoc' hw, List.filter_append, List.length_append, List.filter_cons, List.filter_nil]
          unfold nD
          cases kp wd <;> rfl
        refine ⟨_, _, rfl, rfl, rfl, .fz (.tup (nsD wd)), .fz (.lst (nsD (fl.map (tA L)))), nofun, ?_⟩
        rw [e2]
        rfl
    · obtain ⟨rfl, s4, s7, _, rfl⟩ := hP
      refine ⟨_, rfl, ?_⟩
      have e : nD (((wds c N).take (tnD (wds c N)).length).filter kp).length = Dt.int ((c : Int) ^ (pcsP L N a).length) := by
        rw [tnD_len, List.take_of_length_le (Nat.le_refl _), hfin]
        show Dt.int ((c ^ (pcsP L N a).length : Nat) : Int) = _
        rw [Int.natCast_pow]
      rw [e]
      exact q
end
end K50
namespace VL
open PySem PySem.Spec PyProof.Rows L2 HM
theorem lam_penL {K : PySem.W.Frag} {am : Am} {p P : Addr} {q : Str} (h : PenL K am p) : PenL K (lamAm am P q) p where
  sp := .inl h.sp
  rd := fun {n H} h1 => h.rd h1.1
  wr := fun {n H a t l} h1 e t' l' h2 h3 => ⟨h.wr h1.1 e t' l' h2 h3, tabF_same h1.2 (by
    obtain ⟨ps, e1, _⟩ := h1.2
    rw [upd_ne fun z => by rw [z, e] at e1; cases e1]) fun b oc x e2 => by rw [upd_ne fun z => by rw [z, e] at e2; cases e2]⟩
theorem pss_penLTL {X : Cx} {b : List Stmt} {K : PySem.W.Frag} {Ps : List Addr} {P : Addr} {qn : Str} {ts : Addr → VTS} (h : ∀ (am : Am) (p : Addr), PenL K am p → (∀ P ∈ Ps, TabIn am P) → LamIn am P qn → ∀ F0 H0, PSs X b (sOf ⟨am, F0, H0⟩ (ts p))) :
    PSs X b (fun D σ H => ∃ am p, PenL K am p ∧ (∀ P ∈ Ps, TabIn am P) ∧ LamIn am P qn ∧ ∃ F0 H0, sOf ⟨am, F0, H0⟩ (ts p) D σ H) :=
  ⟨fun pins s σ H D I ⟨am, p, PI, TI, LI, F0, H0, q⟩ => (h am p PI TI LI F0 H0).run pins s σ H D I q⟩
theorem penL_startTL {K : PySem.W.Frag} {H : Hp} {a p P : Addr} {qn : Str} {ns : List Int} {D : Ends} {ts : Addr → VTS} {σ : L2.St} {rest : List (Option V)} {Ps : List Addr} (eσ : σ = some (.ref a) :: some (.ref p) :: rest) (hS : Scr K H a ns) (hl : ns.length ≤ 63) (hT : ∀ P ∈ Ps, GxR.TabG H P) (hP0 : H P = some (.tbl #[])) (nP : P ∉ Ps) (np : H p = none) (hD : ∀ H', D.rt (.bl true) H')
    (q : ts p { nx := fun _ _ => False, rt := fun d _ => d = .bl true } (.no :: .fz (.obj p) :: rest.map fun _ => .no) 0) :
    ∃ am p', PenL K am p' ∧ (∀ P ∈ Ps, TabIn am P) ∧ LamIn am P qn ∧ ∃ F0 H0, sOf ⟨am, F0, H0⟩ (ts p') D σ (upd H p (.lst (pl3 a 0 0))) := by
  subst eσ
  have npp : P ≠ p := ne_of_none hP0 np
  refine ⟨lamAm (tabAm (penLAm K p a ns (∃ ob, H a = some (.frz ob (.lst (ns.map V.int))))) Ps) P qn, p, lam_penL (tab_penL (penL_in hl)), fun P' hP' => lam_tab (tab_in penL_notab hP') fun z => nP (z ▸ hP'), lam_in (fun z => ?_), fun _ => none, upd H p (.lst (pl3 a 0 0)), fun _ => none, _, 0, _, ?_, q, ⟨fun _ _ _ _ _ _ _ z => z.elim, fun F' H' σ' env' n' v d _ _ rv e => ?_, fun _ _ _ _ _ _ _ z => z.elim, fun _ _ _ _ _ _ _ z => z.elim⟩⟩
  · rcases z with (z | ⟨⟨ob, hq⟩, z⟩) | z
    · exact npp z
    · rw [z, hq] at hP0
      cases hP0
    · exact nP z
  · refine ⟨fun _ _ e => (by cases e), fun _ _ => rfl, ⟨⟨⟨⟨0, 0, upd_same, by decide, by decide⟩, fun ⟨ob, h⟩ => ⟨ob, by rw [upd_ne (ne_of_none h np)]; exact h⟩, fun n H' => scr_out hS n H'⟩, fun P hP => ?_⟩, #[], by rw [upd_ne npp]; exact hP0, trivial, fun pos cv z => ?_⟩, fun _ _ e => e, fun _ _ _ _ e => e, fun _ _ e _ => e, by simp, fun i s e => ?_, fun i j b k k' _ e1 _ _ => ?_⟩
    · obtain ⟨ps, e1, e2⟩ := hT P hP
      exact ⟨ps, by rw [upd_ne (ne_of_none e1 np)]; exact e1, e2⟩
    · have z' : codeAmong pos [] = some cv := z
      simp [codeAmong] at z'
    · match i, e with
      | 0, e => cases e; trivial
      | 1, e => cases e; exact ⟨_, rfl, .obj p⟩
      | i + 2, e =>
        have e' : (rest.map fun _ => Sl.no)[i]? = some s := e
        rw [List.getElem?_map] at e'
        obtain ⟨_, _, rfl⟩ := Option.map_eq_some_iff.mp e'
        trivial
    · match i, e1 with
      | 0, e => cases e
      | 1, e => cases e
      | i + 2, e =>
        have e' : (rest.map fun _ => Sl.no)[i]? = some (.ow k) := e
        rw [List.getElem?_map] at e'
        obtain ⟨_, _, z⟩ := Option.map_eq_some_iff.mp e'
        cases z
  · have e' : d = .bl true := e
    rw [e'] at rv
    rw [rv.bl_inv]
    exact hD _
end VL
namespace K50
open PySem PySem.Spec PyProof.Rows L2 HM VL
abbrev s_law : Stmt := topS 46
theorem sc_law : FnScope ["_law_script", "_law_pen_here", "_law_house_here", "_law_kinds", "_law_rows", "_law_great", "_law_colours", "_law_part_here"] ["_law_script"] (defScope s_law) := ⟨rfl, rfl, rfl, by decide +kernel, rfl, by decide +kernel, by decide +kernel⟩
section
variable {P : Program} {w : World} {K : PySem.W.Frag} {mg : Str → Option Value} {base : Heap} {k : Nat}
theorem ok_law {f f_l_pen f_l_house f_kinds_of f_l_set f_l_draw f_l_right f_colour_marks f_l_kept : Addr} {fd fd_l_pen fd_l_house fd_kinds_of fd_l_set fd_l_draw fd_l_right fd_colour_marks fd_l_kept : FuncData} {Ps : List Addr} {Pl : Addr} {qn : Str} (F : Fun K "law" "law" s_law f fd)
    (GP : PFn anyA P w K mg base CX0 (k + 1) f_l_pen fd_l_pen ["_law_script"] spPenL) (gP : mg "_law_pen" = some (.ref f_l_pen)) (kP : PySem.W.keepIn K (.ref f_l_pen) = true) (bP : Binds K fd_l_pen ["_law_script"] [])
    (G_l_house : ∀ {am p}, PenL K am p → VFn anyA P w K mg base CX0 (k + 1) f_l_house fd_l_house ["_law_pen_here", "_law_most"] am (spHouseC p)) (g_l_house : mg "_law_house" = some (.ref f_l_house)) (k_l_house : PySem.W.keepIn K (.ref f_l_house) = true) (b_l_house : Binds K fd_l_house ["_law_pen_here", "_law_most"] [])
    (G_kinds_of : ∀ {am}, LamIn am Pl qn → VFn anyA P w K mg base CX0 (k + 1) f_kinds_of fd_kinds_of ["house"] am spKinds) (g_kinds_of : mg "kinds_of" = some (.ref f_kinds_of)) (k_kinds_of : PySem.W.keepIn K (.ref f_kinds_of) = true) (b_kinds_of : Binds K fd_kinds_of ["house"] [])
    (G_l_set : ∀ {am p}, PenL K am p → VFn anyA P w K mg base CX0 (k + 1) f_l_set fd_l_set ["_law_pen_here", "_law_house_here", "_law_most"] am (spSetC p)) (g_l_set : mg "_law_set" = some (.ref f_l_set)) (k_l_set : PySem.W.keepIn K (.ref f_l_set) = true) (b_l_set : Binds K fd_l_set ["_law_pen_here", "_law_house_here", "_law_most"] [])
    (G_l_draw : ∀ {am p}, PenL K am p → VFn anyA P w K mg base CX0 (k + 1) f_l_draw fd_l_draw ["_law_pen_here", "_law_many"] am (spTakeG p)) (g_l_draw : mg "_law_draw" = some (.ref f_l_draw)) (k_l_draw : PySem.W.keepIn K (.ref f_l_draw) = true) (b_l_draw : Binds K fd_l_draw ["_law_pen_here", "_law_many"] [])
    (G_l_right : ∀ {am}, VFn noRepr P w K mg base CX0 (k + 1) f_l_right fd_l_right ["_law_kinds", "_law_rows", "_law_colours"] am spRightC) (g_l_right : mg "_law_right" = some (.ref f_l_right)) (k_l_right : PySem.W.keepIn K (.ref f_l_right) = true) (b_l_right : Binds K fd_l_right ["_law_kinds", "_law_rows", "_law_colours"] [])
    (GN_colour_marks : ∀ {am}, VFnN anyA P w K mg base CX0 (k + 1) f_colour_marks fd_colour_marks ["kinds", "rows", "colours"] am spColMN) (g_colour_marks : mg "colour_marks" = some (.ref f_colour_marks)) (k_colour_marks : PySem.W.keepIn K (.ref f_colour_marks) = true) (b_colour_marks : Binds K fd_colour_marks ["kinds", "rows", "colours"] [])
    (G_l_kept : ∀ {am}, VFn anyA P w K mg base CX0 (k + 1) f_l_kept fd_l_kept ["_law_rows", "_law_part_here", "_law_colours"] am spKept) (g_l_kept : mg "_law_kept" = some (.ref f_l_kept)) (k_l_kept : PySem.W.keepIn K (.ref f_l_kept) = true) (b_l_kept : Binds K fd_l_kept ["_law_rows", "_law_part_here", "_law_colours"] [])
    (mz : ∀ x ∈ bn, mg x = none) : PFn noRepr P w K mg base CX0 (k + 2) f fd ["_law_script"] (spLawTL K Ps Pl) := by
  refine pfn_of F sc_law (fun vs H Q E h => ?_) (fun cdv A outer s H vs Q E hcd hgd hr h => ?_)
  · obtain ⟨a, ns, rfl, _⟩ := h
    rfl
  · obtain ⟨a, ns, rfl, hS, hlen, hT, hP0, nP, q⟩ := h
    refine ⟨_, pss_cons (ps_set (i := 1) sc_law.nd rfl (.inl rfl) (pe_callP GP trivial hr (by rfl) gP kP bP pass0 (pa_cons (pv 0) pa_nil))) (pss_penLTL (K := K) (Ps := Ps) (P := Pl) (qn := qn) fun am p PI TI LI F0 H0 =>
      (vss_cons (vs_set (i := 2) sc_law.nd rfl (.inl rfl) (ve_call (G_l_house PI) trivial (hr.mono (by omega)) (by rfl) g_l_house k_l_house b_l_house pass0 (va_cons (ve_var (pv 1)) (va_cons ve_int va_nil))))
        (vss_cons (vs_set (i := 3) sc_law.nd rfl (.inl rfl) (ve_call (G_kinds_of LI) trivial (hr.mono (by omega)) (by rfl) g_kinds_of k_kinds_of b_kinds_of pass0 (va_cons (ve_var (pv 2)) va_nil)))
        (vss_cons (vs_set (i := 4) sc_law.nd rfl (.inr rfl) (ve_call (G_l_set PI) trivial (hr.mono (by omega)) (by rfl) g_l_set k_l_set b_l_set pass0 (va_cons (ve_var (pv 1)) (va_cons (ve_var (pv 2)) (va_cons ve_int va_nil)))))
        (vss_cons (vs_set (i := 5) sc_law.nd rfl (.inl rfl) (ve_op op_add lft_I0 (ve_op op_mul lft_I (ve_call (G_l_draw PI) trivial (hr.mono (by omega)) (by rfl) g_l_draw k_l_draw b_l_draw pass0 (va_cons (ve_var (pv 1)) (va_cons (ve_op op_pow lft_I ve_int ve_int) va_nil))) (ve_op op_pow lft_I ve_int ve_int)) (ve_call (G_l_draw PI) trivial (hr.mono (by omega)) (by rfl) g_l_draw k_l_draw b_l_draw pass0 (va_cons (ve_var (pv 1)) (va_cons (ve_op op_pow lft_I ve_int ve_int) va_nil)))))
        (vss_cons (vs_for PassesOwn.never rfl (vi_list (ve_new (vn_lst (va_cons (ve_call (G_l_draw PI) trivial (hr.mono (by omega)) (by rfl) g_l_draw k_l_draw b_l_draw pass0 (va_cons (ve_var (pv 1)) (va_cons ve_int va_nil))) (va_cons (ve_op op_add lft_I0 ve_int (ve_call (G_l_draw PI) trivial (hr.mono (by omega)) (by rfl) g_l_draw k_l_draw b_l_draw pass0 (va_cons (ve_var (pv 1)) (va_cons ve_int va_nil)))) (va_cons (ve_var (pv 5)) va_nil)))))) (vg_name (pg_name (i := 6) sc_law.nd rfl (.inr rfl)))
          (vss_one (vs_if (vt_not (vt_val (ve_call G_l_right hgd (hr.mono (by omega)) (by rfl) g_l_right k_l_right b_l_right pass0 (va_cons (ve_var (pv 3)) (va_cons (ve_var (pv 4)) (va_cons (ve_var (pv 6)) va_nil))))))
            (vss_one (vs_ret ve_bl))
            vss_nil)))
        (vss_cons (vs_if (vt_cmp op_gt lft_B0 (ve_cbR call_len_seq lft_len (by rfl) (mz "len" (by decide)) PySem.boot_len (vb_rd (pv 2) vb_nil)) ve_int (nomark _))
          (vss_one (vs_ret ve_bl))
          vss_nil)
        (vss_cons (vs_set (i := 4) sc_law.nd rfl (.inr rfl) (ve_call (G_l_set PI) trivial (hr.mono (by omega)) (by rfl) g_l_set k_l_set b_l_set pass0 (va_cons (ve_var (pv 1)) (va_cons (ve_var (pv 2)) (va_cons ve_int va_nil)))))
        (vss_cons (vs_set (i := 6) sc_law.nd rfl (.inr rfl) (ve_call (G_l_draw PI) trivial (hr.mono (by omega)) (by rfl) g_l_draw k_l_draw b_l_draw pass0 (va_cons (ve_var (pv 1)) (va_cons ve_int va_nil))))
        (vss_cons (vs_if (vt_not (vt_val (ve_call G_l_right hgd (hr.mono (by omega)) (by rfl) g_l_right k_l_right b_l_right pass0 (va_cons (ve_var (pv 3)) (va_cons (ve_var (pv 4)) (va_cons (ve_var (pv 6)) va_nil))))))
          (vss_one (vs_ret ve_bl))
          vss_nil)
        (vss_one (vs_ret (ve_cmpR (op_eqD hr.units) lft_eqD (ve_new (vn_callN GN_colour_marks trivial (hr.mono (by omega)) (by rfl) g_colour_marks k_colour_marks b_colour_marks pass0 (va_cons (ve_var (pv 3)) (va_cons (ve_var (pv 4)) (va_cons (ve_var (pv 6)) va_nil))))) (vr_of (ve_new (vn_lc (own := [("_law_part_here", 7)]) rfl sc_law.nd (vi_list (ve_var (pv 3))) (blkOk_by (own := [("_law_part_here", 7)]) (N := ["_law_script", "_law_pen_here", "_law_house_here", "_law_kinds", "_law_rows", "_law_great", "_law_colours", "_law_part_here"]) (sc := defScope s_law) (by decide +kernel)) (tg_name (by simp)) (fun _ _ _ _ _ => (pg_name (i := 7) sc_law.nd rfl (.inl rfl))) (fun _ _ _ _ _ _ _ => vts_nil) (fun _ _ _ _ _ _ _ => (ve_call G_l_kept trivial (hr.mono (by omega)) (by rfl) g_l_kept k_l_kept b_l_kept pass0 (va_cons (ve_var (pv 4)) (va_cons (ve_var (pv 7)) (va_cons (ve_var (pv 6)) va_nil)))))))) (nomark _)))))))))))))), ?_⟩
    refine ⟨_, rfl, a, rfl, fun p np => penL_startTL rfl hS hlen hT hP0 nP np q ?_⟩
    refine ⟨_, rfl, 60, rfl, by decide, by decide, fun n m hH hn => ?_⟩
    refine ⟨_, rfl, n, m, rfl, hH, hn, fun ks hk => ?_⟩
    have hks := few_subs2 hH hn hk.nd hk.sub
    refine ⟨_, rfl, _, rfl, n, m, 12, rfl, hH, hn, by decide, fun N a hA hN => ?_⟩
    refine ⟨_, rfl, _, _, rfl, rfl, ⟨by decide, by decide, by decide⟩, 1000000, rfl, by decide, by decide, fun r1 h1 => ?_⟩
    refine ⟨_, _, rfl, rfl, ⟨by decide, by decide, by decide⟩, _, _, rfl, rfl, .inl ⟨by omega, by omega⟩, ?_⟩
    refine ⟨_, rfl, _, _, rfl, rfl, ⟨by decide, by decide, by decide⟩, 1000000, rfl, by decide, by decide, fun r2 h2 => ?_⟩
    refine ⟨_, _, rfl, rfl, ?_⟩
    refine ⟨_, rfl, 3, rfl, by decide, by decide, fun c1 hc1 => ⟨_, rfl, 11, rfl, by decide, by decide, fun c2 hc2 => ⟨_, _, rfl, rfl, _, rfl, (by decide : 3 ≤ 5000), _, rfl, _, rfl, ?_⟩⟩⟩
    refine ⟨fun i env t' => ∃ s6, env = [.no, .fz (.obj p), .fz (houD n m), .fz (.lst (tnD ks)), .fz (setD n N a), .fz (.int _), s6, .no], ⟨.no, rfl⟩, fun i x env t' hx hP => ?_, fun env t' hP => ?_⟩
    · obtain ⟨s6, rfl⟩ := hP
      have hc : ∃ c : Int, x = .int c ∧ c.natAbs ≤ 10 ^ 30 := by
        rcases List.mem_cons.mp (List.mem_of_getElem? hx) with rfl | hx
        · exact ⟨_, rfl, by show (c1 : Int).natAbs ≤ _; omega⟩
        · rcases List.mem_cons.mp hx with rfl | hx
          · exact ⟨_, rfl, by show ((2 : Int) + (c2 : Int)).natAbs ≤ _; omega⟩
          · rw [List.mem_singleton.mp hx]
            exact ⟨_, rfl, by show ((r1 : Int) * (10 : Int) ^ (24 : Int).toNat + (r2 : Int)).natAbs ≤ _; have : (10 : Int) ^ (24 : Int).toNat = 1000000000000000000000000 := rfl; rw [this]; omega⟩
      obtain ⟨c, rfl, hc⟩ := hc
      refine ⟨_, rfl, _, rfl, _, rfl, n, m, ks, N, a, c, rfl, hH, hn, hks, hk.sub, hA, hN, hc, true, rfl, iteB (fun e => by cases e) (fun _ => ⟨_, rfl⟩)⟩
    · obtain ⟨s6, rfl⟩ := hP
      refine ⟨⟨_, .inl rfl⟩, _, .inl rfl, _, .inl rfl, rfl, _, _, rfl, rfl, _, rfl, iteB (fun e => rfl) (fun e => ?_)⟩
      refine ⟨_, rfl, _, rfl, n, m, 4, rfl, hH, hn, by decide, fun N2 b hB hN2 => ?_⟩
      refine ⟨_, rfl, 4, rfl, by decide, by decide, fun c3 hc3 => ?_⟩
      have hpw : ∀ i, i ≤ N2 → c3 ^ i ≤ 1000 := fun i hi => Nat.le_trans (Nat.pow_le_pow_left (show c3 ≤ 3 by omega) i) (Nat.le_trans (Nat.pow_le_pow_right (by decide) (show i ≤ 4 by omega)) (by decide))
      refine ⟨_, rfl, _, rfl, _, rfl, n, m, ks, N2, b, (c3 : Int), rfl, hH, hn, hks, hk.sub, hB, by omega, by omega, true, rfl, iteB (fun e => by cases e) (fun _ => ?_)⟩
      refine ⟨_, rfl, _, rfl, _, rfl, n, m, ks, N2, b, (c3 : Int), rfl, hH, hn, by omega, hk.sub, hB, by omega, by omega, _, rfl, ?_⟩
      refine ⟨_, rfl, _, rfl, lc_map (i := 7) (fun j => .int ((c3 : Int) ^ (pcsP (tL ks j) N2 b).length)) (.head _) (noOw1 (s := .no) rfl no_ow) (by rw [tnD_len]; omega) (fun j d hd R hR => ?_) ?_⟩
      · unfold tnD at hd
        rw [List.getElem?_map] at hd
        obtain ⟨L, hL, rfl⟩ := Option.map_eq_some_iff.mp hd
        have e : tL ks j = L := by
          unfold tL
          rw [List.getD_eq_getElem?_getD, hL]
          rfl
        rw [e] at hR
        exact ⟨_, rfl, _, rfl, _, rfl, n, m, N2, b, L, c3, rfl, hH, hn, hB, by omega, hk.sub L (List.mem_of_getElem? hL), by omega, hpw, hR⟩
      · rw [tnD_len, show (List.range ks.length).map (fun j => Dt.int ((c3 : Int) ^ (pcsP (tL ks j) N2 b).length)) = cmsD ks N2 b c3 from map_tL (fun L => Dt.int ((c3 : Int) ^ (pcsP L N2 b).length)) ks]
        have hpl : pl (.lst (cmsD ks N2 b c3)) = true := pls_map (fun _ => rfl) ks
        have hdp : dep (.lst (cmsD ks N2 b c3)) ≤ 64 := Nat.le_trans (Nat.succ_le_succ (deps_map (f := fun L => Dt.int ((c3 : Int) ^ (pcsP L N2 b).length)) (k := 0) (fun _ => Nat.le_refl 0) ks)) (by decide)
        exact ⟨_, rfl, dEqD_pl hpl hpl hdp hdp fun b hb => ⟨rfl, by rw [hb.mpr rfl]⟩⟩
end
end K50
namespace K50
open PySem PySem.Spec PyProof.Rows L2 HM VL
theorem all_mk {l : PySem.W.OpenLaw} {w : World} {K : PySem.W.Frag} {h : Heap} {mg : Str → Option Value} {fa f4 f5 f6 f8 f9 f10 f12 f14 f15 f16 f17 f18 f19 f21 f23 f24 f26 f27 f28 f29 f30 f31 f32 f33 f34 f35 f36 f37 f38 f39 f40 f41 f42 f43 f44 f45 f46 c18 Pt18 : Addr}
    {oc4 kV4 dc4 pm4 ct4 oc5 kV5 dc5 pm5 ct5 oc6 kV6 dc6 pm6 ct6 oc8 kV8 dc8 pm8 ct8 oc9 kV9 dc9 pm9 ct9 oc10 kV10 dc10 pm10 ct10 oc12 kV12 dc12 pm12 ct12 oc14 kV14 dc14 pm14 ct14 oc15 kV15 dc15 pm15 ct15 oc16 kV16 dc16 pm16 ct16 oc17 kV17 dc17 pm17 ct17 oc18 kV18 dc18 pm18 ct18 oc19 kV19 dc19 pm19 ct19 oc21 kV21 dc21 pm21 ct21 oc23 kV23 dc23 pm23 ct23 oc24 kV24 dc24 pm24 ct24 oc26 kV26 dc26 pm26 ct26 oc27 kV27 dc27 pm27 ct27 oc28 kV28 dc28 pm28 ct28 oc29 kV29 dc29 pm29 ct29 oc30 kV30 dc30 pm30 ct30 oc31 kV31 dc31 pm31 ct31 oc32 kV32 dc32 pm32 ct32 oc33 kV33 dc33 pm33 ct33 oc34 kV34 dc34 pm34 ct34 oc35 kV35 dc35 pm35 ct35 oc36 kV36 dc36 pm36 ct36 oc37 kV37 dc37 pm37 ct37 oc38 kV38 dc38 pm38 ct38 oc39 kV39 dc39 pm39 ct39 oc40 kV40 dc40 pm40 ct40 oc41 kV41 dc41 pm41 ct41 oc42 kV42 dc42 pm42 ct42 oc43 kV43 dc43 pm43 ct43 oc44 kV44 dc44 pm44 ct44 oc45 kV45 dc45 pm45 ct45 oc46 kV46 dc46 pm46 ct46 cd4 cd5 cd6 cd8 cd9 cd10 cd12 cd14 cd15 cd16 cd17 cd19 cd21 cd23 cd24 cd26 cd27 cd28 cd29 cd30 cd31 cd32 cd33 cd34 cd35 cd36 cd37 cd38 cd39 cd40 cd41 cd42 cd43 cd44 cd45 cd46 e18 : Value}
    {od4 an4 od5 an5 od6 an6 od8 an8 od9 an9 od10 an10 od12 an12 od14 an14 od15 an15 od16 an16 od17 an17 od18 an18 od19 an19 od21 an21 od23 an23 od24 an24 od26 an26 od27 an27 od28 an28 od29 an29 od30 an30 od31 an31 od32 an32 od33 an33 od34 an34 od35 an35 od36 an36 od37 an37 od38 an38 od39 an39 od40 an40 od41 an41 od42 an42 od43 an43 od44 an44 od45 an45 od46 an46 dd18 : Option Addr} {sl4 sl5 sl6 sl8 sl9 sl10 sl12 sl14 sl15 sl16 sl17 sl18 sl19 sl21 sl23 sl24 sl26 sl27 sl28 sl29 sl30 sl31 sl32 sl33 sl34 sl35 sl36 sl37 sl38 sl39 sl40 sl41 sl42 sl43 sl44 sl45 sl46 sc18 : Array (Option Value)} {vs18 : Array Value}
    (X : K.In h) (G : h.Ns mainGlobals mg) (hfa : mg "law" = some (.ref fa)) (tabs : ∀ g ∈ (["in_order"] : List Str), ∃ c Pt, TabOf mg h g c Pt)
    (D4 : DefAt K "is_whole" s_is_whole f4 oc4 od4 kV4 dc4 pm4 an4 cd4 ct4 sl4)
    (D5 : DefAt K "is_number" s_is_number f5 oc5 od5 kV5 dc5 pm5 an5 cd5 ct5 sl5)
    (D6 : DefAt K "power" s_power f6 oc6 od6 kV6 dc6 pm6 an6 cd6 ct6 sl6)
    (D8 : DefAt K "check_number" s_check_number f8 oc8 od8 kV8 dc8 pm8 an8 cd8 ct8 sl8)
    (D9 : DefAt K "part_of" s_part_of f9 oc9 od9 kV9 dc9 pm9 an9 cd9 ct9 sl9)
    (D10 : DefAt K "makers_of" s_makers_of f10 oc10 od10 kV10 dc10 pm10 an10 cd10 ct10 sl10)
    (D12 : DefAt K "shares" s_shares f12 oc12 od12 kV12 dc12 pm12 an12 cd12 ct12 sl12)
    (D14 : DefAt K "leaders_of" s_leaders_of f14 oc14 od14 kV14 dc14 pm14 an14 cd14 ct14 sl14)
    (D15 : DefAt K "all_led" s_all_led f15 oc15 od15 kV15 dc15 pm15 an15 cd15 ct15 sl15)
    (D16 : DefAt K "grown_by" s_grown_by f16 oc16 od16 kV16 dc16 pm16 an16 cd16 ct16 sl16)
    (D17 : DefAt K "parts_by_kind" s_parts_by_kind f17 oc17 od17 kV17 dc17 pm17 an17 cd17 ct17 sl17)
    (D18 : DefAt K "in_order" s_in_order f18 oc18 od18 kV18 dc18 pm18 an18 (.ref c18) ct18 sl18)
    (D19 : DefAt K "kinds_of" s_kinds_of f19 oc19 od19 kV19 dc19 pm19 an19 cd19 ct19 sl19)
    (D21 : DefAt K "pieces" s_pieces f21 oc21 od21 kV21 dc21 pm21 an21 cd21 ct21 sl21)
    (D23 : DefAt K "pieces_by" s_pieces_by f23 oc23 od23 kV23 dc23 pm23 an23 cd23 ct23 sl23)
    (D24 : DefAt K "colour_marks" s_colour_marks f24 oc24 od24 kV24 dc24 pm24 an24 cd24 ct24 sl24)
    (D26 : DefAt K "_law_pen" s_l_pen f26 oc26 od26 kV26 dc26 pm26 an26 cd26 ct26 sl26)
    (D27 : DefAt K "_law_draw" s_l_draw f27 oc27 od27 kV27 dc27 pm27 an27 cd27 ct27 sl27)
    (D28 : DefAt K "_law_order" s_l_order f28 oc28 od28 kV28 dc28 pm28 an28 cd28 ct28 sl28)
    (D29 : DefAt K "_law_two" s_l_two f29 oc29 od29 kV29 dc29 pm29 an29 cd29 ct29 sl29)
    (D30 : DefAt K "_law_all" s_l_all f30 oc30 od30 kV30 dc30 pm30 an30 cd30 ct30 sl30)
    (D31 : DefAt K "_law_known" s_l_known f31 oc31 od31 kV31 dc31 pm31 an31 cd31 ct31 sl31)
    (D32 : DefAt K "_law_rung" s_l_rung f32 oc32 od32 kV32 dc32 pm32 an32 cd32 ct32 sl32)
    (D33 : DefAt K "_law_group" s_l_group f33 oc33 od33 kV33 dc33 pm33 an33 cd33 ct33 sl33)
    (D34 : DefAt K "_law_table" s_l_table f34 oc34 od34 kV34 dc34 pm34 an34 cd34 ct34 sl34)
    (D35 : DefAt K "_law_eight" s_l_eight f35 oc35 od35 kV35 dc35 pm35 an35 cd35 ct35 sl35)
    (D36 : DefAt K "_law_house" s_l_house f36 oc36 od36 kV36 dc36 pm36 an36 cd36 ct36 sl36)
    (D37 : DefAt K "_law_part" s_l_part f37 oc37 od37 kV37 dc37 pm37 an37 cd37 ct37 sl37)
    (D38 : DefAt K "_law_some_part" s_l_some_part f38 oc38 od38 kV38 dc38 pm38 an38 cd38 ct38 sl38)
    (D39 : DefAt K "_law_moved" s_l_moved f39 oc39 od39 kV39 dc39 pm39 an39 cd39 ct39 sl39)
    (D40 : DefAt K "_law_set" s_l_set f40 oc40 od40 kV40 dc40 pm40 an40 cd40 ct40 sl40)
    (D41 : DefAt K "_law_pieces" s_l_pieces f41 oc41 od41 kV41 dc41 pm41 an41 cd41 ct41 sl41)
    (D42 : DefAt K "_law_often" s_l_often f42 oc42 od42 kV42 dc42 pm42 an42 cd42 ct42 sl42)
    (D43 : DefAt K "_law_colourings" s_l_colourings f43 oc43 od43 kV43 dc43 pm43 an43 cd43 ct43 sl43)
    (D44 : DefAt K "_law_kept" s_l_kept f44 oc44 od44 kV44 dc44 pm44 an44 cd44 ct44 sl44)
    (D45 : DefAt K "_law_right" s_l_right f45 oc45 od45 kV45 dc45 pm45 an45 cd45 ct45 sl45)
    (D46 : DefAt K "law" s_law f46 oc46 od46 kV46 dc46 pm46 an46 cd46 ct46 sl46)
    (T18 : TbAt K c18 Pt18 e18 dd18 vs18 sc18)
    (mz : ∀ x ∈ bn, PySem.W.nsIn K mainGlobals x = some none) :
    ∃ (fd : FuncData) (cs : List (Addr × Addr)) (sp : Sp), (∀ p ∈ cs, h.get? p.2 = some tabObj) ∧ (∀ p ∈ cs, K.lookup p.2 = none) ∧ (∀ p ∈ cs, PySem.W.CodeHd h p.1 p.2) ∧ (∀ (s : Shared) (u : Value), BindsTo s fd ⟨[u], []⟩ [("_law_script", u)]) ∧
      (∀ (H : Hp) (a : Addr) (ns : List Int), ns.length ≤ 63 → (∀ z ∈ ns, Builtin.Int.intBits z ≤ 1048576) → (∀ p ∈ cs, H p.2 = some (.tbl #[])) → Scr K H a ns → sp [.ref a] H (fun v _ => v = .bl true) fun _ _ _ => False) ∧
      ∀ base : Heap, K.In base → base.Ns mainGlobals mg → (∀ p ∈ cs, GxR.TabB base mg p.1 p.2) → PFn noRepr l.prog w K mg base CX0 9 fa fd ["_law_script"] sp := by
  have e := hfa.symm.trans (PySem.W.mg_of X G D46.a)
  cases e
  have tb18 := tab_got X G tabs (by decide) D18 T18
  have mn : ∀ x ∈ bn, mg x = none := fun x hx => PySem.W.mg_none_of X G (mz x hx)
  have g := fun {x : Str} {u : Value} (z : PySem.W.nsIn K mainGlobals x = some (some u)) => PySem.W.mg_of X G z
  have b4 := D4.fn.binds (ps := ["thing"]) fun _ _ _ _ _ _ us hl => match us, hl with | [_], _ => rfl
  have b5 := D5.fn.binds (ps := ["thing", "many"]) fun _ _ _ _ _ _ us hl => match us, hl with | [_, _], _ => rfl
  have b6 := D6.fn.binds (ps := ["base", "times"]) fun _ _ _ _ _ _ us hl => match us, hl with | [_, _], _ => rfl
  have b8 := D8.fn.binds (ps := ["house", "thing"]) fun _ _ _ _ _ _ us hl => match us, hl with | [_, _], _ => rfl
  have b9 := D9.fn.binds (ps := ["house", "numbers"]) fun _ _ _ _ _ _ us hl => match us, hl with | [_, _], _ => rfl
  have b10 := D10.fn.binds (ps := ["house"]) fun _ _ _ _ _ _ us hl => match us, hl with | [_], _ => rfl
  have b12 := D12.fn.binds (ps := ["house", "part"]) fun _ _ _ _ _ _ us hl => match us, hl with | [_, _], _ => rfl
  have b14 := D14.fn.binds (ps := ["house"]) fun _ _ _ _ _ _ us hl => match us, hl with | [_], _ => rfl
  have b15 := D15.fn.binds (ps := ["leaders", "part"]) fun _ _ _ _ _ _ us hl => match us, hl with | [_, _], _ => rfl
  have b16 := D16.fn.binds (ps := ["house", "part", "makers", "number"]) fun _ _ _ _ _ _ us hl => match us, hl with | [_, _, _, _], _ => rfl
  have b17 := D17.fn.binds (ps := ["house"]) fun _ _ _ _ _ _ us hl => match us, hl with | [_], _ => rfl
  have b18 := D18.fn.binds (ps := ["parts"]) fun _ _ _ _ _ _ us hl => match us, hl with | [_], _ => rfl
  have b19 := D19.fn.binds (ps := ["house"]) fun _ _ _ _ _ _ us hl => match us, hl with | [_], _ => rfl
  have b21 := D21.fn.binds (ps := ["rows"]) fun _ _ _ _ _ _ us hl => match us, hl with | [_], _ => rfl
  have b23 := D23.fn.binds (ps := ["rows", "part"]) fun _ _ _ _ _ _ us hl => match us, hl with | [_, _], _ => rfl
  have b24 := D24.fn.binds (ps := ["kinds", "rows", "colours"]) fun _ _ _ _ _ _ us hl => match us, hl with | [_, _, _], _ => rfl
  have b26 := D26.fn.binds (ps := ["_law_script"]) fun _ _ _ _ _ _ us hl => match us, hl with | [_], _ => rfl
  have b27 := D27.fn.binds (ps := ["_law_pen_here", "_law_many"]) fun _ _ _ _ _ _ us hl => match us, hl with | [_, _], _ => rfl
  have b28 := D28.fn.binds (ps := ["_law_pen_here", "_law_many"]) fun _ _ _ _ _ _ us hl => match us, hl with | [_, _], _ => rfl
  have b29 := D29.fn.binds (ps := ["_law_one", "_law_other"]) fun _ _ _ _ _ _ us hl => match us, hl with | [_, _], _ => rfl
  have b30 := D30.fn.binds (ps := ["_law_turns", "_law_most"]) fun _ _ _ _ _ _ us hl => match us, hl with | [_, _], _ => rfl
  have b31 := D31.fn.binds (ps := []) fun _ _ _ _ _ _ us hl => match us, hl with | [], _ => rfl
  have b32 := D32.fn.binds (ps := ["_law_many", "_law_told"]) fun _ _ _ _ _ _ us hl => match us, hl with | [_, _], _ => rfl
  have b33 := D33.fn.binds (ps := ["_law_pen_here", "_law_most"]) fun _ _ _ _ _ _ us hl => match us, hl with | [_, _], _ => rfl
  have b34 := D34.fn.binds (ps := ["_law_group_here"]) fun _ _ _ _ _ _ us hl => match us, hl with | [_], _ => rfl
  have b35 := D35.fn.binds (ps := []) fun _ _ _ _ _ _ us hl => match us, hl with | [], _ => rfl
  have b36 := D36.fn.binds (ps := ["_law_pen_here", "_law_most"]) fun _ _ _ _ _ _ us hl => match us, hl with | [_, _], _ => rfl
  have b37 := D37.fn.binds (ps := ["_law_house_here", "_law_numbers"]) fun _ _ _ _ _ _ us hl => match us, hl with | [_, _], _ => rfl
  have b38 := D38.fn.binds (ps := ["_law_pen_here", "_law_house_here"]) fun _ _ _ _ _ _ us hl => match us, hl with | [_, _], _ => rfl
  have b39 := D39.fn.binds (ps := ["_law_house_here", "_law_part_here"]) fun _ _ _ _ _ _ us hl => match us, hl with | [_, _], _ => rfl
  have b40 := D40.fn.binds (ps := ["_law_pen_here", "_law_house_here", "_law_most"]) fun _ _ _ _ _ _ us hl => match us, hl with | [_, _, _], _ => rfl
  have b41 := D41.fn.binds (ps := ["_law_rows", "_law_part_here"]) fun _ _ _ _ _ _ us hl => match us, hl with | [_, _], _ => rfl
  have b42 := D42.fn.binds (ps := ["_law_number", "_law_many"]) fun _ _ _ _ _ _ us hl => match us, hl with | [_, _], _ => rfl
  have b43 := D43.fn.binds (ps := ["_law_many", "_law_colours"]) fun _ _ _ _ _ _ us hl => match us, hl with | [_, _], _ => rfl
  have b44 := D44.fn.binds (ps := ["_law_rows", "_law_part_here", "_law_colours"]) fun _ _ _ _ _ _ us hl => match us, hl with | [_, _, _], _ => rfl
  have b45 := D45.fn.binds (ps := ["_law_kinds", "_law_rows", "_law_colours"]) fun _ _ _ _ _ _ us hl => match us, hl with | [_, _, _], _ => rfl
  refine ⟨PySem.W.fnOf "law" "law" (defArgs s_law) (defBody s_law) (defScope s_law) .none kV46 dc46 pm46 an46 cd46 ct46, [(c18, Pt18)], (spLawTL K [] Pt18), fun p hp => ?_, fun p hp => ?_, fun p hp => ?_, fun s u => .of_eq rfl, fun H a ns hl _ hH hS => ?_, fun base _ _ hB => ?_⟩
  · simp only [List.mem_cons, List.not_mem_nil, or_false] at hp
    rcases hp with rfl
    · exact tb18.1
  · simp only [List.mem_cons, List.not_mem_nil, or_false] at hp
    rcases hp with rfl
    · exact T18.n
  · simp only [List.mem_cons, List.not_mem_nil, or_false] at hp
    rcases hp with rfl
    · exact tb18.2
  · exact ⟨a, ns, rfl, hS, hl, fun P hP => (by cases hP), hH (c18, Pt18) (by simp), (fun z => by cases z), fun _ => rfl⟩
  · have TB18 := hB (c18, Pt18) (by simp)
    exact ok_law (k := 7)  (Pl := Pt18) (qn := "in_order.<locals>.<lambda>") D46.fn (ok_pen (k := 7) D26.fn) (g D26.a) D26.k b26 (fun PI => (ok_houseC (k := 3) D36.fn (ok_draw (k := 6) PI D27.fn mn) (g D27.a) D27.k b27 (ok_eightC (k := 5) D35.fn mn) (g D35.a) D35.k b35 (ok_tableC (k := 5) D34.fn (ok_two (k := 5) D29.fn mn) (g D29.a) D29.k b29 mn) (g D34.a) D34.k b34 (ok_groupC (k := 3) D33.fn (ok_draw (k := 5) PI D27.fn mn) (g D27.a) D27.k b27 (ok_order (k := 3) D28.fn (ok_draw (k := 4) PI D27.fn mn) (g D27.a) D27.k b27 mn) (g D28.a) D28.k b28 (ok_all (k := 4) D30.fn (ok_two (k := 4) D29.fn mn) (g D29.a) D29.k b29 mn) (g D30.a) D30.k b30 (ok_knownC (k := 5) D31.fn mn) (g D31.a) D31.k b31 (ok_rung (k := 5) D32.fn mn) (g D32.a) D32.k b32 mn) (g D33.a) D33.k b33 mn)) (g D36.a) D36.k b36 (fun LI => (ok_kinds_of (k := 0) D19.fn (ok_in_order (k := 0) D18.fn rfl TB18 LI mn) (g D18.a) D18.k b18 (ok_bykind (k := 0) D17.fn (ok_leaders (k := 0) D14.fn (ok_makers (k := 0) D10.fn (ok_part (k := 0) D9.fn (ok_check (k := 0) D8.fn (ok_number (k := 0) D5.fn (ok_whole (k := 0) D4.fn mn) (g D4.a) D4.k b4 mn) (g D5.a) D5.k b5 mn) (g D8.a) D8.k b8 mn) (g D9.a) D9.k b9 mn) (g D10.a) D10.k b10 mn) (g D14.a) D14.k b14 (ok_all_led (k := 0) D15.fn mn) (g D15.a) D15.k b15 (ok_grown (k := 0) D16.fn mn) (g D16.a) D16.k b16 (ok_shares (k := 0) D12.fn mn) (g D12.a) D12.k b12 mn) (g D17.a) D17.k b17 mn)) (g D19.a) D19.k b19 (fun PI => (ok_setC (k := 2) D40.fn (ok_draw (k := 6) PI D27.fn mn) (g D27.a) D27.k b27 (ok_somepart (k := 2) D38.fn (ok_draw (k := 5) PI D27.fn mn) (g D27.a) D27.k b27 (ok_partB (k := 5) D37.fn mn) (g D37.a) D37.k b37 mn) (g D38.a) D38.k b38 (ok_moved (k := 6) D39.fn mn) (g D39.a) D39.k b39 (ok_order (k := 4) D28.fn (ok_draw (k := 5) PI D27.fn mn) (g D27.a) D27.k b27 mn) (g D28.a) D28.k b28 mn)) (g D40.a) D40.k b40 (fun PI => (ok_drawG (k := 7) PI D27.fn mn)) (g D27.a) D27.k b27 (ok_rightC (k := 4) D45.fn (ok_often (k := 6) D42.fn mn) (g D42.a) D42.k b42 (ok_lpieces (k := 6) D41.fn mn) (g D41.a) D41.k b41 (ok_colm (k := 4) D24.fn (ok_power (k := 5) D6.fn mn) (g D6.a) D6.k b6 (ok_piecesby (k := 4) D23.fn (ok_pieces (k := 4) D21.fn mn) (g D21.a) D21.k b21 mn) (g D23.a) D23.k b23 mn) (g D24.a) D24.k b24 mn) (g D45.a) D45.k b45 (ok_colm (k := 5) D24.fn (ok_power (k := 6) D6.fn mn) (g D6.a) D6.k b6 (ok_piecesby (k := 5) D23.fn (ok_pieces (k := 5) D21.fn mn) (g D21.a) D21.k b21 mn) (g D23.a) D23.k b23 mn) (g D24.a) D24.k b24 (ok_kept (k := 6) D44.fn (ok_colourings (k := 6) D43.fn mn) (g D43.a) D43.k b43 mn) (g D44.a) D44.k b44 mn
end K50
open PySem PySem.W PyProof.Rows
set_option maxHeartbeats 0 in
theorem PySem.Challenge.cw_heldmarks_k50_colours_marked_holds : PySem.Challenge.rw_heldmarks_k50_colours_marked.Holds := by
  w_on; o_law; k_head; (case hw => w_witness2)
  k_fill
  refine HM.walk_G (l := PySem.Challenge.rw_heldmarks_k50_colours_marked) (n := 63) (k := 9) (x := "_law_script") ["in_order"] rfl (by decide) rfl ⟨rfl, by decide, by decide⟩ (by decide +kernel) (fun w h Y => PySem.W.km_in_of Y) ?F
  case F =>
    intro w mg fa h Y KX G hmg tabs
    refine' K50.all_mk KX G hmg tabs ⟨?a4, ?l4, ?c4, ?k4⟩ ⟨?a5, ?l5, ?c5, ?k5⟩ ⟨?a6, ?l6, ?c6, ?k6⟩ ⟨?a8, ?l8, ?c8, ?k8⟩ ⟨?a9, ?l9, ?c9, ?k9⟩ ⟨?a10, ?l10, ?c10, ?k10⟩ ⟨?a12, ?l12, ?c12, ?k12⟩ ⟨?a14, ?l14, ?c14, ?k14⟩ ⟨?a15, ?l15, ?c15, ?k15⟩ ⟨?a16, ?l16, ?c16, ?k16⟩ ⟨?a17, ?l17, ?c17, ?k17⟩ ⟨?a18, ?l18, ?c18, ?k18⟩ ⟨?a19, ?l19, ?c19, ?k19⟩ ⟨?a21, ?l21, ?c21, ?k21⟩ ⟨?a23, ?l23, ?c23, ?k23⟩ ⟨?a24, ?l24, ?c24, ?k24⟩ ⟨?a26, ?l26, ?c26, ?k26⟩ ⟨?a27, ?l27, ?c27, ?k27⟩ ⟨?a28, ?l28, ?c28, ?k28⟩ ⟨?a29, ?l29, ?c29, ?k29⟩ ⟨?a30, ?l30, ?c30, ?k30⟩ ⟨?a31, ?l31, ?c31, ?k31⟩ ⟨?a32, ?l32, ?c32, ?k32⟩ ⟨?a33, ?l33, ?c33, ?k33⟩ ⟨?a34, ?l34, ?c34, ?k34⟩ ⟨?a35, ?l35, ?c35, ?k35⟩ ⟨?a36, ?l36, ?c36, ?k36⟩ ⟨?a37, ?l37, ?c37, ?k37⟩ ⟨?a38, ?l38, ?c38, ?k38⟩ ⟨?a39, ?l39, ?c39, ?k39⟩ ⟨?a40, ?l40, ?c40, ?k40⟩ ⟨?a41, ?l41, ?c41, ?k41⟩ ⟨?a42, ?l42, ?c42, ?k42⟩ ⟨?a43, ?l43, ?c43, ?k43⟩ ⟨?a44, ?l44, ?c44, ?k44⟩ ⟨?a45, ?l45, ?c45, ?k45⟩ ⟨?a46, ?l46, ?c46, ?k46⟩ ⟨?tl18, ?tp18, ?tn18⟩ ?mz
    (case a4 => k_is); (case l4 => k_is); (case c4 => k_is); (case k4 => k_is)
    (case a5 => k_is); (case l5 => k_is); (case c5 => k_is); (case k5 => k_is)
    (case a6 => k_is); (case l6 => k_is); (case c6 => k_is); (case k6 => k_is)
    (case a8 => k_is); (case l8 => k_is); (case c8 => k_is); (case k8 => k_is)
    (case a9 => k_is); (case l9 => k_is); (case c9 => k_is); (case k9 => k_is)
    (case a10 => k_is); (case l10 => k_is); (case c10 => k_is); (case k10 => k_is)
    (case a12 => k_is); (case l12 => k_is); (case c12 => k_is); (case k12 => k_is)
    (case a14 => k_is); (case l14 => k_is); (case c14 => k_is); (case k14 => k_is)
    (case a15 => k_is); (case l15 => k_is); (case c15 => k_is); (case k15 => k_is)
    (case a16 => k_is); (case l16 => k_is); (case c16 => k_is); (case k16 => k_is)
    (case a17 => k_is); (case l17 => k_is); (case c17 => k_is); (case k17 => k_is)
    (case a18 => k_is); (case l18 => k_is); (case c18 => k_is); (case k18 => k_is)
    (case a19 => k_is); (case l19 => k_is); (case c19 => k_is); (case k19 => k_is)
    (case a21 => k_is); (case l21 => k_is); (case c21 => k_is); (case k21 => k_is)
    (case a23 => k_is); (case l23 => k_is); (case c23 => k_is); (case k23 => k_is)
    (case a24 => k_is); (case l24 => k_is); (case c24 => k_is); (case k24 => k_is)
    (case a26 => k_is); (case l26 => k_is); (case c26 => k_is); (case k26 => k_is)
    (case a27 => k_is); (case l27 => k_is); (case c27 => k_is); (case k27 => k_is)
    (case a28 => k_is); (case l28 => k_is); (case c28 => k_is); (case k28 => k_is)
    (case a29 => k_is); (case l29 => k_is); (case c29 => k_is); (case k29 => k_is)
    (case a30 => k_is); (case l30 => k_is); (case c30 => k_is); (case k30 => k_is)
    (case a31 => k_is); (case l31 => k_is); (case c31 => k_is); (case k31 => k_is)
    (case a32 => k_is); (case l32 => k_is); (case c32 => k_is); (case k32 => k_is)
    (case a33 => k_is); (case l33 => k_is); (case c33 => k_is); (case k33 => k_is)
    (case a34 => k_is); (case l34 => k_is); (case c34 => k_is); (case k34 => k_is)
    (case a35 => k_is); (case l35 => k_is); (case c35 => k_is); (case k35 => k_is)
    (case a36 => k_is); (case l36 => k_is); (case c36 => k_is); (case k36 => k_is)
    (case a37 => k_is); (case l37 => k_is); (case c37 => k_is); (case k37 => k_is)
    (case a38 => k_is); (case l38 => k_is); (case c38 => k_is); (case k38 => k_is)
    (case a39 => k_is); (case l39 => k_is); (case c39 => k_is); (case k39 => k_is)
    (case a40 => k_is); (case l40 => k_is); (case c40 => k_is); (case k40 => k_is)
    (case a41 => k_is); (case l41 => k_is); (case c41 => k_is); (case k41 => k_is)
    (case a42 => k_is); (case l42 => k_is); (case c42 => k_is); (case k42 => k_is)
    (case a43 => k_is); (case l43 => k_is); (case c43 => k_is); (case k43 => k_is)
    (case a44 => k_is); (case l44 => k_is); (case c44 => k_is); (case k44 => k_is)
    (case a45 => k_is); (case l45 => k_is); (case c45 => k_is); (case k45 => k_is)
    (case a46 => k_is); (case l46 => k_is); (case c46 => k_is); (case k46 => k_is)
    (case tl18 => k_is); (case tp18 => rfl); (case tn18 => first | rfl | decide | with_unfolding_all rfl)
    (case mz =>
      intro x hx
      repeat (rcases List.mem_cons.mp hx with rfl | hx; · k_is)
      cases hx)
