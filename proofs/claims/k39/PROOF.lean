import PyProof.Rows.All
import Wide.All
import OpenK.AllK
import Wide.FinOn
import HandS.ForMost
import HandS.IsInst
import HandS.Wide
import HandS.Conv
import HandS.AnyAll
import HandS.EndTab
import HandS.Flow
import HandS.SetFor
import HandS.Zip
import PyProof.TupleOfGen
import HandS.TupAny
import HandS.Style
import HandS.ExcInit
import HandS.ExcIs
import HandS.ExcField
import HandS.ExcOwn
import HandS.ExcValue
import HandS.FStr
import KE.KExcSuper
import KE.KSuper
import KE.KExcIs
import KE.KDictZip
import KE.GoesEnum
import KE.GoesMore
import HandS.Walk
import HandS.More
import HandS.FStrTup
import PyProof.Rows.ReprOcc
import HandS.TupSets
import HandS.SetIn
import KE.GoesSet
import HandS.Strs
import HandS.TupLen
import KE.KDictWalk
import HandS.GenList
import HandS.SortInts
import PyProof.SumAny
import HandS.DictComp
import HandS.Iter
import HandS.Star
import KE.SortKeyHeap
import HandS.Lambda
import HandS.Deep
import KE.DataMinMax
import PyProof.Rows.BitMore
import KE.KDictCopyH
import KE.KDictList
import HandS.SetKeys
import KE.DataCmp
import PyProof.DictMoreH
import KE.KDictPairs
import HandS.SetBool
import HandS.RevRange
import HandS.TryOnly
import HandS.CallLocal
import PySem.Challenge.RW_heldmarks_k39_marks_that_no_set_has
set_option Elab.async false
set_option linter.all false
set_option maxRecDepth 100000
set_option maxHeartbeats 8000000
namespace HM
open PySem PySem.Spec PyProof.Rows L2
abbrev Grows (h h' : Heap) : Prop := ∀ b o, h.get? b = some o → h'.get? b = some o
theorem mod_up {K : PySem.W.Frag} {mg : Str → Option Value} {h h' : Heap} (m : L2.Mod K mg h) (k : Grows h h') : L2.Mod K mg h' :=
  ⟨m.kin.keeps k, m.glob.keeps k, let ⟨mb, h1, h2⟩ := m.blt; ⟨mb, h1.keeps k, h2⟩, m.nolimit.keeps k⟩
inductive RTy (h : Heap) : Value → String → Prop
  | non : RTy h .none "NoneType"
  | bl (b : Bool) : RTy h (.bool b) "bool"
  | int (i : Int) (t : Tok) : RTy h (.int i t) "int"
  | str (x : Str) (t : Tok) : RTy h (.str x t) "str"
  | lst {a : Addr} {o : Obj} (e : h.get? a = some o) (c : o.cls = .type "list") : RTy h (.ref a) "list"
  | tup {a : Addr} {o : Obj} (e : h.get? a = some o) (c : o.cls = .type "tuple") : RTy h (.ref a) "tuple"
  | dct {a : Addr} {o : Obj} (e : h.get? a = some o) (c : o.cls = .type "dict") : RTy h (.ref a) "dict"
theorem RTy.up {h h' : Heap} {u : Value} {T : String} (r : RTy h u T) (k : Grows h h') : RTy h' u T := by
  cases r with
  | non => exact .non
  | bl b => exact .bl b
  | int i t => exact .int i t
  | str x t => exact .str x t
  | lst e c => exact .lst (k _ _ e) c
  | tup e c => exact .tup (k _ _ e) c
  | dct e c => exact .dct (k _ _ e) c
end HM
namespace HM
open PySem PySem.Spec PyProof.Rows L2
end HM
namespace HM
open PySem PySem.Spec PyProof.Rows L2
end HM
namespace HM
open PySem PySem.Spec PyProof.Rows L2
inductive VTy (K : PySem.W.Frag) (H : Hp) : V → String → Prop
  | non : VTy K H .non "NoneType"
  | bl (b : Bool) : VTy K H (.bl b) "bool"
  | int (i : Int) : VTy K H (.int i) "int"
  | str (x : Str) : VTy K H (.str x) "str"
  | lst {a : Addr} {xs : List V} (e : SqL K H a xs) : VTy K H (.ref a) "list"
  | tup {a : Addr} {xs : List V} (e : SqT K H a xs) : VTy K H (.ref a) "tuple"
  | dct {a : Addr} {kvs : List (Key × V)} (e : H a = some (.dK kvs)) : VTy K H (.ref a) "dict"
end HM
namespace HM
open PySem PySem.Spec PyProof.Rows L2
def noRepr (A : Around) : Prop := A.guards = some []
def anyA (_ : Around) : Prop := True
structure PFn (gd : Around → Prop) (P : Program) (w : World) (K : PySem.W.Frag) (mg : Str → Option Value) (base : Heap) (CX : CXT) (k : Nat) (f : Addr) (fd : FuncData) (ps : List Str) (sp : Sp) : Prop where
  len : ∀ vs H Q E, sp vs H Q E → vs.length = ps.length
  go : ∀ (A : Around) (out : List Env) (s : Shared) (H : Hp) (args : Args) (us : List Value) (vs : List V) (Q : VK) (E : XK), gd A → Room k A → Env0 P w K mg base A out s H → BindsTo s fd args (ps.zip us) → Vals vs us → sp vs H Q E →
    codeAny (model P w) A (.call (.ref f) args) (CR CX out P w H s Q E) s
section
variable {P : Program} {w : World} {K : PySem.W.Frag} {mg : Str → Option Value} {base : Heap}
theorem PFn.ok {CX : CXT} {k : Nat} {f : Addr} {fd : FuncData} {ps : List Str} {sp : Sp} (G : PFn anyA P w K mg base CX k f fd ps sp) : FnOk P w K mg base CX k f fd ps sp := ⟨G.len, fun A out s H args us vs Q E => G.go A out s H args us vs Q E trivial⟩
/-- by the body; fd.code is the running code object -/
theorem pfn_of {gd : Around → Prop} {x qual : Str} {st : Stmt} {f : Addr} {fd : FuncData} {N ps : List Str} {k : Nat} {sp : Sp} (F : Fun K x qual st f fd) (S : FnScope N ps (defScope st)) (len : ∀ vs H Q E, sp vs H Q E → vs.length = ps.length)
    (body : ∀ (cdv : Value) (A : Around) (out : List Env) (s : Shared) (H : Hp) (vs : List V) (Q : VK) (E : XK), fd.code = cdv → gd A → Room k (A.deeper (envOfC qual (defScope st) s.heap.objs.size f cdv)) → sp vs H Q E →
      ∃ t, PSs (cxOf CX0 P w K mg base N qual (defScope st) f cdv A out s H E).nox (defBody st) t ∧ t { nx := fun _ H' => Q .non H', rt := Q } (start N vs) H) : PFn gd P w K mg base CX0 (k + 1) f fd ps sp := by
  obtain ⟨oc, od, kV, doc, pm, an, cdv, ct, osl, rfl, lk, hcd⟩ := F.ex
  refine ⟨len, fun A out s H args us vs Q E hgd hr e0 hb r hsp => ?_⟩
  have M := mod_up e0.mod (fun b o e => (e0.bs b o e).1 : Grows base s.heap)
  have kinds : ∀ y ∈ ps.zip us, (defScope st).names.lookup y.1 = some .local ∨ ((defScope st).names.lookup y.1 = some .cell ∧ ((cellsFrom (s.heap.objs.size + 1) (defScope st).names []).lookup y.1).isSome = true) := by
    intro y hy
    rcases S.par y.1 (List.of_mem_zip (show (y.1, y.2) ∈ ps.zip us from hy)).1 with q | q
    · exact .inl q
    · exact .inr ⟨q, PySem.W.cellsFrom_some _ _ _ (.inl q)⟩
  refine codeAny_call_function hr.depth (M.kin _ _ lk) rfl S.co S.gen rfl (PySem.W.codeRec_of M.kin hcd) (hb _ _ _ _ ?_)
  refine wpAny_newFunctionEnv_cells S.kind kinds fun env he s1 x => ?_
  subst he
  obtain ⟨t, ht, hq⟩ := body cdv A out s H vs Q E rfl hgd (hr.deeper _) hsp
  refine ⟨M.nolimit.keeps x.toInCall.keep, codeAny_func (wpAny_mono (ht.nox.run [] s1 (start N vs) H _ (inv_start S hr.hd e0 (len _ _ _ _ hsp) r x) hq) (fun fl s' hs => ?_) fun e s' hs => hs)⟩
  cases fl with
  | ret u =>
    obtain ⟨v, σ', H', J, rv, q⟩ := hs
    exact ⟨v, H', J.os, J.bare, J.base, J.hok, rv, q⟩
  | next =>
    obtain ⟨σ', H', J, q⟩ := hs
    exact ⟨.non, H', J.os, J.bare, J.base, J.hok, rfl, q⟩
  | brk =>
    obtain ⟨_, _, _, q⟩ := hs
    exact q.elim
  | cont =>
    obtain ⟨_, _, _, q⟩ := hs
    exact q.elim
end
/-- f(e, ..) by such a promise -/
theorem pe_callP {X : Cx} {gd : Around → Prop} {CX : CXT} {k : Nat} {f : Addr} {fd : FuncData} {ps : List Str} {sp : Sp} {E : XK} {x : Str} {p pos : Pos} {e : Expr} {es : List Expr} {t : TA} (G : PFn gd X.prog X.w X.K X.mg X.base CX k f fd ps sp) (hgd : gd X.A) (hr : Room k X.A) (hg : Gl X x) (hm : X.mg x = some (.ref f))
    (hk : PySem.W.keepIn X.K (.ref f) = true) (hb : Binds X.K fd ps []) (hx : Passes CX X E) (ha : PA X (e :: es) t) (hdb : (x == ("__debug__" : Str)) = false := by decide)
    (he : starEach (e :: es) X.env = (false, eval e X.env) :: starEach es X.env := by rfl) (hpl : (backTo pos (starEach es X.env)).any (·.1) = false := by rfl) : PE X (.Call (.Name x p) (e :: es) [] pos) (tCall sp [] E t) := by
  refine ⟨fun pins s σ H Q I h => ?_⟩
  refine wpAny_Call_Name_kw (ld_glob I hg hm ?_ hdb)
  refine PySem.W.callWith_K (h₀ := X.base) I.ok.mod.kin hk (thn (ha.run pos pins s σ H _ I h) fun us s1 hus => ?_) he hpl
  obtain ⟨vs, H1, I1, r, q⟩ := hus
  refine ⟨I1.kIn, ?_⟩
  rw [List.append_nil] at q
  have hl : us.length = ps.length := by rw [← r.length]; exact G.len _ _ _ _ q
  have hbs := hb s1 us I1.kIn (by rw [List.append_nil]; exact hl)
  rw [List.append_nil] at hbs
  refine wpAny_call (codeAny_mono (G.go X.A X.stack s1 H1 ⟨us, []⟩ us vs Q E hgd hr I1.env0 hbs r q) fun r s' hq => ?_)
  match r, hq with
  | .error e, hq => exact hx pins σ H1 s1 e s' I1 hq
  | .ok (.ret u), hq => exact I1.after hq
  | .ok .next, hq => exact hq.elim
  | .ok .brk, hq => exact hq.elim
  | .ok .cont, hq => exact hq.elim
theorem reads_ints {P : Program} {w : World} {h : Heap} : ∀ (ps : List (Int × Int)) (vs : List (Key × Value)) (es : List DictEntry), KV (ps.map fun p => ((Sum.inl p.1 : Key), V.int p.2)) vs → Pairs (mixKind P w) es vs →
    ReadsAll h (es.map (·.key)) (ps.map fun p => .int p.1) [] ∧ ReadsAll h (es.map (·.val)) (ps.map fun p => .int p.2) []
  | [], _, _, .nil, .nil => ⟨.nil, .nil⟩
  | p :: ps, _, _, .cons a r, .cons k v t => by
    obtain ⟨h1, h2⟩ := reads_ints ps _ _ r t
    obtain ⟨e1, e2⟩ := a
    obtain ⟨t2, e3⟩ := (show ∃ t, _ = Value.int p.2 t from e2)
    rw [← e1] at k
    obtain ⟨t1, e4⟩ := Value.isInt_shape (show Value.isInt p.1 _ = true from k)
    rw [List.map_cons, List.map_cons, List.map_cons, List.map_cons, e4, v, e3]
    exact ⟨.cons (as := []) (bs := []) (.int _ _) h1, .cons (as := []) (bs := []) (.int _ _) h2⟩
/-- what repr may be asked of -/
inductive RP (K : PySem.W.Frag) (H : Hp) : V → PyData → Prop
  | flat {x : V} {d : PyData} (h : Dp K H x d) (n : d.hasDict = false) : RP K H x d
  | dict {a : Addr} (ps : List (Int × Int)) (h : H a = some (.dK (ps.map fun p => ((Sum.inl p.1 : Key), V.int p.2)))) : RP K H (.ref a) (.dict (ps.map fun p => (.int p.1, .int p.2)))
section
variable {X : Cx} {pins : List (Addr × Obj)} {σ : L2.St} {H : Hp} {s : Shared}
theorem RP.reads {x : V} {u : Value} {d : PyData} (h : RP X.K H x d) (I : Inv X pins σ H s) (r : RelV x u) : ∃ as, Reads s.heap u d as ∧ (d.hasDict = true → sysModules ∉ as) := by
  cases h with
  | flat h n =>
    obtain ⟨as, q⟩ := Dp.reads I d x u h r
    exact ⟨as, q, PyData.noDict_hsm n⟩
  | @dict a ps h =>
    cases (show u = Value.ref a from r)
    obtain ⟨_, hne, vs, hkv, o, es, ep, h1, h2, h3, _, hp, _⟩ := (show ObjOk X.prog X.w H s.heap a (.dK _) from I.hok a _ h)
    obtain ⟨q1, q2⟩ := reads_ints (h := s.heap) ps vs es.toList hkv hp
    refine ⟨_, Reads.dict h1 h2.1 h3 (kvs := ps.map fun p => (.int p.1, .int p.2)) (by rw [List.map_map]; exact q1) (by rw [List.map_map]; exact q2), fun _ hm => ?_⟩
    have z : sysModules = a := by simpa using hm
    rw [z] at hne
    simp at hne
def rRepr (K : PySem.W.Frag) : List V → Hp → VK → Prop := fun xs H Q => ∃ (x : V) (d : PyData), xs = [x] ∧ RP K H x d ∧ d.showable = true ∧ d.depth ≤ 40 ∧ d.shown.length ≤ sizeLine ∧ Q (.str d.shown) H
theorem call_reprD {k : Nat} (hg : X.A.guards = some []) (hr : Room k X.A) : CallR X (.builtin "repr") (rRepr X.K) := by
  intro pins s σ H xs us Q I r h
  obtain ⟨x, d, rfl, hp, hs, hd, hz, q⟩ := h
  cases r with
  | cons r1 r2 =>
    cases r2
    rename_i u
    obtain ⟨as, hrd, hsm⟩ := hp.reads I r1
    have hu := hr.units
    cases hrd with
    | none => exact PySem.P.repr_of_none ⟨.str _, H, I.tok _, ⟨_, rfl⟩, q⟩
    | bool b => exact PySem.P.repr_of_bool ⟨.str _, H, I.tok _, ⟨_, rfl⟩, q⟩
    | int i t => exact PySem.P.repr_of_int (by simpa [PyData.showable] using hs) ⟨.str _, H, I.tok _, ⟨_, rfl⟩, q⟩
    | str y t => exact PySem.P.repr_of_str ⟨.str _, H, I.tok _, ⟨_, rfl⟩, q⟩ hz
    | list h1 h2 h3 h4 => exact repr_of_reads' (Reads.list h1 h2 h3 h4) hs hsm hg (by omega) (fun _ _ e => e) (fun h' u tk hk => ⟨.str _, H, I.kept hk, ⟨_, rfl⟩, q⟩) hz
    | tuple h1 h2 h3 h4 => exact repr_of_reads' (Reads.tuple h1 h2 h3 h4) hs hsm hg (by omega) (fun _ _ e => e) (fun h' u tk hk => ⟨.str _, H, I.kept hk, ⟨_, rfl⟩, q⟩) hz
    | dict h1 h2 h3 h4 h5 => exact repr_of_reads' (Reads.dict h1 h2 h3 h4 h5) hs hsm hg (by omega) (fun _ _ e => e) (fun h' u tk hk => ⟨.str _, H, I.kept hk, ⟨_, rfl⟩, q⟩) hz
end
end HM
namespace HM
open PySem PySem.Spec PyProof.Rows L2
abbrev tabObj : Obj := { cls := .none, data := .fields #[] }
abbrev scrObj (vs : List Value) : Obj := { cls := .type "list", data := .seq vs.toArray }
/-- the tables ts; the script, where it is none of the written part -/
def H0 (K : PySem.W.Frag) (ts : List Addr) (a : Addr) (vs : List Value) (ns : List Int) : Hp := fun b =>
  if b ∈ ts then some (.tbl #[]) else if b = a ∧ K.lookup a = none then some (.frz (scrObj vs) (.lst (ns.map V.int))) else none
theorem H0_tab {K : PySem.W.Frag} {ts : List Addr} {a b : Addr} {vs : List Value} {ns : List Int} (h : b ∈ ts) : H0 K ts a vs ns b = some (.tbl #[]) := if_pos h
theorem H0_scr {K : PySem.W.Frag} {ts : List Addr} {a : Addr} {vs : List Value} {ns : List Int} (h : a ∉ ts) (k : K.lookup a = none) : H0 K ts a vs ns a = some (.frz (scrObj vs) (.lst (ns.map V.int))) := (if_neg h).trans (if_pos ⟨rfl, k⟩)
theorem H0_cases {K : PySem.W.Frag} {ts : List Addr} {a b : Addr} {vs : List Value} {ns : List Int} {u : HO} (h : H0 K ts a vs ns b = some u) : (b ∈ ts ∧ u = .tbl #[]) ∨ (b = a ∧ K.lookup a = none ∧ u = .frz (scrObj vs) (.lst (ns.map V.int))) := by
  unfold H0 at h
  by_cases h1 : b ∈ ts
  · rw [if_pos h1] at h
    exact .inl ⟨h1, (Option.some.inj h).symm⟩
  · rw [if_neg h1] at h
    by_cases h2 : b = a ∧ K.lookup a = none
    · rw [if_pos h2] at h
      exact .inr ⟨h2.1, h2.2, (Option.some.inj h).symm⟩
    · rw [if_neg h2] at h
      cases h
theorem H0_none {K : PySem.W.Frag} {ts : List Addr} {a b : Addr} {vs : List Value} {ns : List Int} (h1 : b ∉ ts) (h2 : b = a → K.lookup a ≠ none) : H0 K ts a vs ns b = none := by
  unfold H0
  rw [if_neg h1, if_neg fun z => h2 z.1 z.2]
/-- the script: locked, or of the written part -/
def Scr (K : PySem.W.Frag) (H : Hp) (a : Addr) (ns : List Int) : Prop := (∃ ob, H a = some (.frz ob (.lst (ns.map V.int)))) ∨
  ∃ (o : Obj) (its : Array Value) (n : Nat), K.lookup a = some o ∧ o.cls = .type "list" ∧ o.dict = none ∧ o.data = .seq its n ∧ its.size ≤ sizeLine ∧ Vals (ns.map V.int) its.toList
theorem Scr.sq {K : PySem.W.Frag} {H : Hp} {a : Addr} {ns : List Int} (h : Scr K H a ns) : SqL K H a (ns.map V.int) := by
  rcases h with h | h
  · exact .inl (.inr h)
  · exact .inr h
/-- it stays while nothing locked is lost -/
theorem Scr.up {K : PySem.W.Frag} {H H' : Hp} {a : Addr} {ns : List Int} (h : Scr K H a ns) (k : ∀ b ob u, H b = some (.frz ob u) → H' b = some (.frz ob u)) : Scr K H' a ns := by
  rcases h with ⟨ob, h⟩ | h
  · exact .inl ⟨ob, k _ _ _ h⟩
  · exact .inr h
theorem end_go {P : Program} {w : World} {K : PySem.W.Frag} {mg mb : Str → Option Value} {k : Nat} {fa a : Addr} {cs : List (Addr × Addr)} {fd : FuncData} {x : Str} {sp : Sp} {s₁ : Shared} {vs : List Value} {ns : List Int}
    (KX : K.In s₁.heap) (hns : s₁.heap.Ns mainGlobals mg) (hb : s₁.heap.Ns builtinsNs mb) (hbb : ∀ y : Str, y ≠ "__name__" → mb y = bootBuiltins y) (hlim : s₁.heap.NoLimit) (hg : s₁.gens = #[])
    (hT : ∀ p ∈ cs, s₁.heap.get? p.2 = some tabObj) (nT : ∀ p ∈ cs, K.lookup p.2 = none) (hC : ∀ p ∈ cs, PySem.W.CodeHd s₁.heap p.1 p.2)
    (hbm : ∃ (bm : Addr) (ob : Obj), mg "__builtins__" = some (.ref bm) ∧ bm ≠ builtinsNs ∧ s₁.heap.get? bm = some ob ∧ ob.cls = .type "module" ∧ ob.dict = some builtinsNs ∧ ob.data = .plain)
    (ha : s₁.heap.get? a = some (scrObj vs)) (hi : IntsAre vs ns) (hl : ns.length ≤ sizeLine) (hr : Room k callerA)
    (F : ∀ base : Heap, K.In base → base.Ns mainGlobals mg → (∀ p ∈ cs, GxR.TabB base mg p.1 p.2) → PFn noRepr P w K mg base CX0 k fa fd [x] sp) (hbind : ∀ (s : Shared) (u : Value), BindsTo s fd ⟨[u], []⟩ [(x, u)])
    (hsp : ∀ H : Hp, (∀ p ∈ cs, H p.2 = some (.tbl #[])) → Scr K H a ns → sp [.ref a] H (fun v _ => v = .bl true) fun _ _ _ => False) :
    codeAny (model P w) callerA (.call (.ref fa) ⟨[.ref a], []⟩) (fun r s' => r = .ok (.ret (.bool true)) ∧ OldK s₁.heap s'.heap ∧ s'.os = s₁.os ∧ AllBare s'.gens) s₁ := by
  have isT : ∀ b ∈ cs.map (·.2), s₁.heap.get? b = some tabObj := fun b hb => by
    obtain ⟨p, hp, e⟩ := List.mem_map.mp hb
    exact e ▸ hT p hp
  have kT : ∀ b ∈ cs.map (·.2), K.lookup b = none := fun b hb => by
    obtain ⟨p, hp, e⟩ := List.mem_map.mp hb
    exact e ▸ nT p hp
  have inT : ∀ p ∈ cs, p.2 ∈ cs.map (·.2) := fun p hp => List.mem_map.mpr ⟨p, hp, rfl⟩
  have aT : a ∉ cs.map (·.2) := fun z => by
    have q := (isT a z).symm.trans ha
    cases q
  obtain ⟨H, eH⟩ : ∃ H : Hp, H = H0 K (cs.map (·.2)) a vs ns := ⟨_, rfl⟩
  -- what is neither a table nor the script is not tracked
  have free : ∀ (b : Addr) (o : Obj), s₁.heap.get? b = some o → o ≠ tabObj → o ≠ scrObj vs → H b = none := fun b o e n1 n2 => by
    rw [eH]
    refine H0_none (fun z => n1 ?_) fun z => absurd ?_ n2
    · exact Option.some.inj (e.symm.trans (isT b z))
    · rw [z] at e
      exact Option.some.inj (e.symm.trans ha)
  have freeK : ∀ (b : Addr) (o : Obj), K.lookup b = some o → H b = none := fun b o e => by
    rw [eH]
    refine H0_none (fun z => ?_) fun z h => ?_
    · rw [kT b z] at e
      cases e
    · rw [z, h] at e
      cases e
  have hok : HOk P w H s₁.heap := fun b u e => by
    rw [eH] at e
    rcases H0_cases e with ⟨h1, rfl⟩ | ⟨rfl, h2, rfl⟩
    · exact isT b h1
    · exact ⟨ha, by rw [List.length_map]; exact hl, vs, _, vals_ints hi, ha⟩
  have hS : Scr K H a ns := by
    cases hk : K.lookup a with
    | none =>
      rw [eH]
      exact .inl ⟨_, H0_scr aT hk⟩
    | some o =>
      have e := (KX a o hk).symm.trans ha
      cases e
      exact .inr ⟨_, vs.toArray, _, hk, rfl, rfl, rfl, by rw [List.size_toArray, hi.length]; exact hl, by simpa using vals_ints hi⟩
  have nsB : ∀ {b : Addr} {m : Str → Option Value}, s₁.heap.Ns b m → (hidT s₁.heap H).Ns b m := fun {b m} h => by
    obtain ⟨o, es, ep, e, d, r⟩ := h
    refine ⟨o, es, ep, hidT_get e (free b o e (fun z => ?_) fun z => ?_), d, r⟩
    · rw [z] at d
      cases d
    · rw [z] at d
      cases d
  have kB : K.In (hidT s₁.heap H) := fun b o e => hidT_get (KX b o e) (freeK b o e)
  have modB : L2.Mod K mg (hidT s₁.heap H) := ⟨kB, nsB hns, ⟨mb, nsB hb, hbb⟩, let ⟨mc, h1, h2⟩ := hlim; ⟨mc, nsB h1, h2⟩⟩
  have tabB : ∀ p ∈ cs, GxR.TabB (hidT s₁.heap H) mg p.1 p.2 := fun p hp => by
    refine ⟨?_, ?_, fun z => ?_⟩
    · obtain ⟨o, us, file, tf, flags, tg, inF, text, tt, e1, c1, d1, r3, r⟩ := hC p hp
      refine ⟨o, us, file, tf, flags, tg, inF, text, tt, hidT_get e1 (free _ o e1 (fun z => ?_) fun z => ?_), c1, d1, r3, r⟩
      · rw [z] at c1
        cases c1
      · rw [z] at c1
        injection (show Value.type "list" = Value.type "code" from c1) with c2
        exact absurd c2 (by decide)
    · obtain ⟨bm, ob, b1, b2, b3, b4, b5, b6⟩ := hbm
      refine ⟨bm, ob, b1, b2, fun q => ?_, fun q => ?_, hidT_get b3 (free bm ob b3 (fun z => ?_) fun z => ?_), b4, b5, b6⟩
      · obtain ⟨o, es, ep, e, d, _⟩ := hns
        rw [q, e] at b3
        cases b3
        rw [d] at b6
        cases b6
      · rw [q, hT p hp] at b3
        cases b3
        cases b6
      · rw [z] at b6
        cases b6
      · rw [z] at b6
        cases b6
    · obtain ⟨o, es, ep, e, d, _⟩ := hns
      rw [z, hT p hp] at e
      cases e
      cases d
  have e0 : Env0 P w K mg (hidT s₁.heap H) callerA [] s₁ H := ⟨rfl, modB, fun b o e => of_hidT e, Nat.le_of_eq (hidT_size _ _), trivial, fun b hb => absurd (show b ∈ ([] : List Addr) from hb) (by simp), hok, .of_eq hg⟩
  have tH : ∀ p ∈ cs, H p.2 = some (.tbl #[]) := fun p hp => by
    rw [eH]
    exact H0_tab (inT p hp)
  refine codeAny_mono ((F _ kB (nsB hns) tabB).go callerA [] s₁ H ⟨[.ref a], []⟩ [.ref a] [.ref a] _ _ rfl hr e0 (hbind s₁ (.ref a)) (.cons rfl .nil) (hsp H tH hS)) fun r s' h => ?_
  match r, h with
  | .error e, h => exact False.elim h
  | .ok .next, h => exact False.elim h
  | .ok .brk, h => exact False.elim h
  | .ok .cont, h => exact False.elim h
  | .ok (.ret u), h =>
    obtain ⟨v, H', os, bare, un, hok', r', q⟩ := h
    obtain rfl : v = .bl true := q
    obtain rfl : u = Value.bool true := r'
    have same : ∀ b o, b ∉ cs.map (·.2) → s₁.heap.get? b = some o → s'.heap.get? b = some o := fun b o nb e => by
      cases q : H b with
      | none => exact un.keep b o e q (fun z => absurd (show b ∈ ([] : List Addr) from z) (by simp)) (by simp)
      | some u =>
        have q2 := q
        rw [eH] at q2
        rcases H0_cases q2 with ⟨h1, _⟩ | ⟨_, _, rfl⟩
        · exact absurd h1 nb
        · have e1 := (hok b _ q).1
          have e2 := (hok' b _ (un.frzs b _ _ q)).1
          exact e2.trans (e1.symm.trans e)
    have grew : ∀ p ∈ cs, ∃ more : Array Value, s'.heap.get? p.2 = some { cls := .none, data := .fields more } := fun p hp => by
      obtain ⟨more, z⟩ := un.tbls p.2 #[] (tH p hp)
      exact ⟨_, hok' p.2 _ z⟩
    refine ⟨rfl, ⟨fun b o e => ?_, fun b o e => ?_⟩, os, bare⟩
    · by_cases hb : b ∈ cs.map (·.2)
      · obtain ⟨p, hp, rfl⟩ := List.mem_map.mp hb
        obtain ⟨more, hm⟩ := grew p hp
        obtain rfl : o = tabObj := Option.some.inj (e.symm.trans (hT p hp))
        exact .inr (.inl ⟨((hC p hp).tab (hT p hp)).isCodeTable, rfl, #[], more, rfl, by rw [Array.empty_append]; exact hm⟩)
      · exact .inl (same b o hb e)
    · by_cases hb : b ∈ cs.map (·.2)
      · obtain ⟨p, hp, rfl⟩ := List.mem_map.mp hb
        obtain ⟨more, hm⟩ := grew p hp
        exact ⟨_, hm⟩
      · exact ⟨o, same b o hb e⟩
/-- the table of the def called n: its code object's, empty as yet -/
def TabOf (mg : Str → Option Value) (h : Heap) (n : Str) (c Pt : Addr) : Prop := ∃ (f : Addr) (o : Obj) (fd : FuncData), mg n = some (.ref f) ∧ h.get? f = some o ∧ o.data = .func fd ∧ fd.code = .ref c ∧ PySem.W.CodeHd h c Pt ∧ h.get? Pt = some tabObj
theorem walk_G {l : PySem.W.OpenLaw} {n k : Nat} {q : Program} {loose : List Str} {XP : (Str → Option Value) → Heap → Prop} {YP : World → Heap → Prop} {d : DefRec} {K : Params → PySem.W.Frag} {x : Str} (gs : List Str)
    (hn : l.most = some n) (hn2 : n ≤ sizeLine) (hdf : d.params.defaults = []) (hr : Room k callerA) (hrec : ∀ g ∈ gs, ((recsOf q).any fun e => e.name == g) = true) (hY : ∀ (w : World) (h : Heap), YP w h → (K w.params).In h)
    (F : ∀ (w : World) (mg : Str → Option Value) (fa : Addr) (h : Heap), YP w h → (K w.params).In h → h.Ns mainGlobals mg → mg d.name = some (.ref fa) → (∀ g ∈ gs, ∃ c Pt, TabOf mg h g c Pt) →
      ∃ (fd : FuncData) (cs : List (Addr × Addr)) (sp : Sp), (∀ p ∈ cs, h.get? p.2 = some tabObj) ∧ (∀ p ∈ cs, (K w.params).lookup p.2 = none) ∧ (∀ p ∈ cs, PySem.W.CodeHd h p.1 p.2) ∧ (∀ (s : Shared) (u : Value), BindsTo s fd ⟨[u], []⟩ [(x, u)]) ∧
        (∀ (H : Hp) (a : Addr) (ns : List Int), ns.length ≤ n → (∀ z ∈ ns, Builtin.Int.intBits z ≤ 1048576) → (∀ p ∈ cs, H p.2 = some (.tbl #[])) → Scr (K w.params) H a ns → sp [.ref a] H (fun v _ => v = .bl true) fun _ _ _ => False) ∧
        ∀ base : Heap, (K w.params).In base → base.Ns mainGlobals mg → (∀ p ∈ cs, GxR.TabB base mg p.1 p.2) → PFn noRepr l.prog w (K w.params) mg base CX0 k fa fd [x] sp) :
    PySem.W.WalkO q loose XP YP l.row.toRowW d [] (fun f vs => PySem.call f vs) := by
  refine Att.attach_callB hn hdf fun w s₀ s₁ mg mb fa o pm cd doc a vs ns G Y ho hd hcd hmg hobj hints hlen hbits hg => ?_
  have KX := hY w _ Y
  have tabs : ∀ g ∈ gs, ∃ c Pt, TabOf mg s₁.heap g c Pt := fun g hgm => by
    obtain ⟨dL, hm, hn1⟩ := List.any_eq_true.mp (hrec g hgm)
    obtain ⟨f, o', fd', c, Pt, h1, h2, h3, h4, h5, h6⟩ := G.T.tab dL hm
    rw [beq_iff_eq.mp hn1] at h1
    exact ⟨c, Pt, f, o', fd', h1, h2, h3, h4, PySem.W.CodeHd.of h5 h6, h6.2⟩
  obtain ⟨fd, cs, sp, hT, nT, hC, hb, hsp, hF⟩ := F w mg fa _ Y KX G.T.g hmg tabs
  exact end_go KX G.T.g G.T.b G.T.builtins G.T.nolimit hg hT nT hC G.T.bmain hobj hints (Nat.le_trans hlen hn2) hr hF hb fun H hH hS => hsp H a ns hlen hbits hH hS
end HM
namespace HM
open PySem PySem.Spec PyProof.Rows L2
def TF (H : Hp) (a : Addr) (xs : List V) : Prop := ∃ o : Obj, o.dict = none ∧ H a = some (.frz o (.tup xs))
theorem TF.sq {K : PySem.W.Frag} {H : Hp} {a : Addr} {xs : List V} (h : TF H a xs) : SqT K H a xs := let ⟨o, _, e⟩ := h; .inl (.inr ⟨o, e⟩)
end HM
namespace HM
open PySem PySem.Spec PyProof.Rows L2
/-- what the written part says of an own refusal with one field -/
structure NoT (P : Program) (st : Stmt) (qual : Str) (K : PySem.W.Frag) (C fI : Addr) : Prop where
  T : OexC K C
  iC : PySem.W.findIn K (.ref C) "__init__" = some (some (.ref fI))
  tI : PySem.W.typeIn K (.ref fI) = some (.type "function")
  fn : ∃ (oc : Value) (od : Option Addr) (kV doc pm : Value) (an : Option Addr) (cda : Addr) (ct : Value) (cc : Addr) (osl : Array (Option Value)) (ccl : Value) (cdd : Option Addr) (vs : Array Value) (ccs : Array (Option Value)) (file : Str) (tf : Tok) (cl : Value) (cld : Option Addr) (csl : Array (Option Value)),
    K.lookup fI = some ⟨oc, od, .func (PySem.W.ksFn "__init__" qual (defArgs st) (defBody st) (defScope st) .none kV doc pm an (.ref cda) ct cc), osl⟩ ∧ PySem.W.codeIn K (.ref cda) qual = true ∧ K.lookup cda = some ⟨ccl, cdd, .fields vs, ccs⟩ ∧ vs[2]? = some (.str file tf) ∧ ((P.main.file : Str) == file) = true ∧
      K.lookup cc = some ⟨cl, cld, .cell (some (.ref C)), csl⟩
  veC : PySem.W.subIn K (.ref C) (.type "ValueError") = some true
  su : PySem.W.nsIn K mainGlobals "super" = some none
  tp : PySem.W.nsIn K cStatics "thirdparty.any" = some none
  si : PySem.W.ks_superIn K C C "__init__" = some (some (.builtin "ValueError.__init__"))
  mr : PySem.W.mroIn K C (.ref C) = some true
  no : PySem.W.findIn K (.ref C) "at" = some none
  tn : (P.main.scope.names.lookup ("super" : Str)).isSome = false
/-- how such an __init__ reads -/
structure InitS (st : Stmt) : Prop where
  bd : ∃ (pre : Str) (j : Nat) (p1 p2 p3 p4 p5 p6 p7 p8 p9 p10 p11 p12 p13 : Pos), pre.length ≤ 100 ∧ defBody st = [.Expr (.Call (.Attribute (.Call (.Name "super" p1) [] [] p2) "__init__" p3) [.JoinedStr [.Constant (.str pre) j p4, .FormattedValue (.Name "at" p5) (-1) none p6] p7] [] p8) p9,
    .Assign [.Attribute (.Name "self" p10) "at" p11] (.Name "at" p12) p13] ∧
    ∀ env : Env, ∃ pl : Sem Bool, eval (.Call (.Attribute (.Call (.Name "super" p1) [] [] p2) "__init__" p3) [.JoinedStr [.Constant (.str pre) j p4, .FormattedValue (.Name "at" p5) (-1) none p6] p7] [] p8) env = (do
      let ov ← attributeBase (.Call (.Name "super" p1) [] [] p2) "__init__" env (eval (.Call (.Name "super" p1) [] [] p2) env)
      standAt p3.atName
      let (f, first) ← holding [ov] (getMethod ov "__init__" pl)
      callWith p8 f first (backTo p8 (starEach [.JoinedStr [.Constant (.str pre) j p4, .FormattedValue (.Name "at" p5) (-1) none p6] p7] env)) [])
  hp : ∃ ar : Arg, ar.arg = "self" ∧ ((defArgs st).posonlyargs ++ (defArgs st).args).head? = some ar
  bi : ∀ (q : Str) (bd : List Stmt) (kV doc pm : Value) (an : Option Addr) (cdv ct : Value) (cc : Addr) (u v : Value), bindArgs (PySem.W.ksFn "__init__" q (defArgs st) bd (defScope st) .none kV doc pm an cdv ct cc) ⟨[u, v], []⟩ = pure [((("self" : Str), u) : Str × Value), ("at", v)]
  k : (defScope st).kind = .function
  co : (defScope st).isCoroutine = false
  ge : (defScope st).isGenerator = false
  ce : ∀ x ∈ (defScope st).names, x.2 ≠ .cell
  ks : (defScope st).names.lookup ("super" : Str) = some .globalImplicit
  kc : (defScope st).names.lookup ("__class__" : Str) = some .free
  kf : (defScope st).names.lookup ("self" : Str) = some .local
  ka : (defScope st).names.lookup ("at" : Str) = some .local
theorem raw_init {P : Program} {w : World} {st : Stmt} {qual : Str} {K : PySem.W.Frag} {mg : Str → Option Value} {C fI e t0 : Addr} {A : Around} {R : Result → Shared → Prop} {h : Heap} {g : Array GenState} {d : Drawn} {t : Nat} {os : OsState} {n : Int} {tk : Tok}
    (N : NoT P st qual K C fI) (S : InitS st) (M : L2.Mod K mg h) (hroom : A.depth < recursionLimit) (he : h.get? e = some (HandSPX.excO C t0)) (hK : K.lookup e = none) (hn : n.natAbs.log2 < 1920) (hz : (toString n : Str).length ≤ 1000)
    (hq : ∀ h' tk' dx t1, (∀ b o, b ≠ e → h.get? b = some o → h'.get? b = some o) → h.get? dx = none → dx ≠ e → h'.get? e = some ({ cls := .ref C, dict := some dx, data := .fields #[.ref t1, .none, .none, .none, .bool false, .none] } : Obj) →
      h'.Ns1 dx (fun y => if y = "at" then some (.int n tk) else none) → R (.ok (.ret .none)) ⟨h', g, d, tk', os⟩) :
    codeAny (model P w) A (.call (.ref fI) ⟨[.ref e, .int n tk], []⟩) R ⟨h, g, d, t, os⟩ := by
  obtain ⟨oc, od, kV, doc, pm, an, cda, ct, cc, osl, ccl, cdd, vs, ccs, file, tf, cl, cld, csl, lI, hcd, lC, hvs, hfl, lc⟩ := N.fn
  obtain ⟨pre, j, p1, p2, p3, p4, p5, p6, p7, p8, p9, p10, p11, p12, p13, hpl, hbd, hev⟩ := S.bd
  obtain ⟨ar, har, hp⟩ := S.hp
  obtain ⟨cnm, cq, cN, cbs, cbm, csn, csub, cab, ccol, cdc, k0, k1, k2, k3, k5, lCC, hbm⟩ := N.T.cls
  have hcl : PySem.W.clsIn K C = some { name := cnm, bases := cbs, mro := .ref C :: cbm, ns := cN, qualname := cq, hasDict := true, slotNames := csn, subclasses := csub, abstract := cab, collection := ccol, hasDel := false } := by unfold PySem.W.clsIn; rw [lCC] <;> rfl
  refine ks_codeAny_call_defAt (binds := [("self", .ref e), ("at", .int n tk)]) hroom (M.kin _ _ lI) rfl M.nolimit (PySem.W.codeRec_of M.kin hcd) rfl (.of_eq (S.bi _ _ _ _ _ _ _ _ _ _ _)) S.ce (fun x hx => ?_) (fun h0 hns k0 => ?_) S.co S.ge S.k
  · rcases List.mem_cons.mp hx with z | hx
    · rw [z]; exact S.kf
    · rw [List.mem_singleton.mp hx]; exact S.ka
  have henv : callEnv (PySem.W.ksFn "__init__" qual (defArgs st) (defBody st) (defScope st) .none kV doc pm an (.ref cda) ct cc) h.objs.size fI = PySem.W.ksEnv qual (defScope st) h.objs.size fI (.ref cda) cc := rfl
  rw [henv, hbd]
  obtain ⟨env, eenv⟩ : ∃ env, env = PySem.W.ksEnv qual (defScope st) h.objs.size fI (.ref cda) cc := ⟨_, rfl⟩
  have g1 : env.scope = defScope st := by rw [eenv]
  have g2 : env.globals = mainGlobals := by rw [eenv]
  have g3 : env.builtins = builtinsNs := by rw [eenv]
  have g4 : env.locals = h.objs.size := by rw [eenv]
  have g5 : env.func = some fI := by rw [eenv]
  have g6 : env.code = .ref cda := by rw [eenv]
  have g7 : env.cells.lookup ("__class__" : Str) = some cc := by rw [eenv]; rfl
  have gk : env.scope.kind = .function := by rw [g1]; exact S.k
  have gL : ∀ {x : Str} {k : NameKind}, (defScope st).names.lookup x = some k → env.kindOf x = some k := fun {x k} q => by show env.scope.names.lookup x = _; rw [g1]; exact q
  rw [← eenv]
  have M0 := mod_up M k0
  have he0 := k0 _ _ he
  have neL : h.objs.size ≠ e := Nat.ne_of_gt (Heap.lt_size he)
  obtain ⟨mb, hmb, hbb⟩ := M0.blt
  obtain ⟨pl, hpv⟩ := hev env
  have hi : interactive env = false := by unfold interactive; rw [gk]; rfl
  refine ks_wpAt_execs_cons (ks_wpAt_Expr_any (ks_wpAt_MethodCall (ks_wpAt_super_base (f := fI) (gL S.ks) (gL S.kc) (by decide) g5 (M0.kin _ _ lI) rfl hp g6 (M0.kin _ _ lC) rfl hvs hfl N.tn ?_) hpv) hi)
  refine PySem.W.ks_loadName_global gk (gL S.ks) (Calls.loadGlobal_builtin (by rw [g2]; exact M0.glob) (PySem.W.mg_none_of M0.kin M0.glob N.su) (by rw [g3]; exact hmb) ((hbb "super" (by decide)).trans (by decide +kernel)) ⟨rfl, ?_⟩)
  refine wpAny_loadName_free gk (gL S.kc) g7 ⟨_, M0.kin _ _ lc, rfl⟩ ?_
  rw [har]
  refine wpAny_loadName_local gk (gL S.kf) (by rw [g4]; exact hns) rfl ?_
  refine ks_wpAny_isType_cls (M0.kin _ _ lCC) rfl ⟨rfl, ?_⟩
  refine ks_wpAny_call_super (M0.kin _ _ lCC) rfl he0 rfl (fun c z => by cases z) (PySem.W.looks_mroIn M0.kin N.mr) fun h1 e1 k1 => ?_
  have M1 := mod_up M0 k1
  have he1 := k1 _ _ he0
  have I1 : PySem.W.InstAt h1 e (HandSPX.excO C t0) C none := ⟨he1, rfl, rfl, trivial⟩
  have hsi := N.si
  unfold PySem.W.ks_superIn at hsi
  rw [hcl] at hsi
  refine PySem.W.kxs_getMethod PySem.W.kxs_ValueError e1 (PySem.W.looks_opaque M1.kin N.tp) (l₀ := .ref C :: cbm) (fun A Q E s k q => wpAny_bind ((PySem.W.looks_clsIn M1.kin hcl) A _ E s k (wpAny_pure q))) rfl M1.kin hsi (I1.type.andThen (PySem.W.looks_subIn M1.kin N.veC)) (PySem.W.ks_ne M1.kin I1 hcl) (by decide) ?_
  -- the text, then the call of the built-in __init__
  refine PySem.W.kxs_callWith (i := "ValueError.__init__") (x := e) rfl (Calls.evalArgs_plain ?_)
  refine Calls.spliced_cons (wpAny_JoinedStr (pos := p7) ?_)
  have k2 : Grows h1 (h1.push (PySem.W.kxs_mw "ValueError.__init__" e)) := fun b o e => Heap.get?_push_of_some _ e
  have hns2 := (hns.keeps k1).keeps k2
  have M2 := mod_up M1 k2
  have he2 := k2 _ _ he1
  have z0 : (Str.empty ++ pre).length ≤ 100 := by rw [strLen_append]; show 0 + pre.length ≤ 100; omega
  have z1 : (Str.empty ++ pre ++ Str.ofString (toString n)).length ≤ sizeLine := by rw [strLen_append, sizeLine_eq]; omega
  refine wpAny_Constant_str ⟨pre, _, rfl, Nat.le_trans z0 (by rw [sizeLine_eq]; decide), ?_⟩
  refine wpAny_FormattedValue_plain (wpAny_Name (wpAny_loadName_local gk (gL S.ka) (by rw [g4]; exact hns2) rfl ?_) (by decide))
  refine wpAny_formatField_int hn ⟨_, _, rfl, z1, z1, ?_⟩
  have hu : (h1.push (PySem.W.kxs_mw "ValueError.__init__" e)).get? h1.objs.size = some (PySem.W.kxs_mw "ValueError.__init__" e) := Heap.get?_push_size _ rfl
  refine Calls.spliced_nil ⟨hu, ?_⟩
  refine wpAny_call (codeAny_of_tree ?_)
  show wpAny _ (A.deeper env).in1 (callAny (.ref h1.objs.size) ⟨[_], []⟩) _ _ _
  simp only [callAny]
  refine wpAny_bind (wpAny_load hu ?_)
  simp only [PySem.W.kxs_mw, show (Value.type "method-wrapper" == Value.type "method" || Value.type "method-wrapper" == Value.type "builtin_function_or_method" || Value.type "method-wrapper" == Value.type "method-wrapper") = true by decide, if_true]
  refine PySem.W.KFB.if_so (by decide) ?_
  refine wpAny_bind (PySem.W.check_bound_init F.excBase_ValueError.toExcCallFacts (M2.kin _ _ lCC) he2 rfl ?_)
  refine wpAny_bind (wpAny_pure (wpAny_pure ?_))
  refine ⟨plainId_quiet F.excBase_ValueError.init.plain _, codeAny_builtin F.excBase_ValueError.initEntry ?_⟩
  refine PySem.W.exc_init_tree (cls := .ref C) (t0 := t0) (dv := none) (c2 := .none) (c3 := .none) (b4 := .bool false) he2 (by show 1 ≤ sizeLine; rw [sizeLine_eq]; decide) fun h3 k3 he3 _ => ?_
  -- self.at = at
  have up : ∀ b o, b ≠ e → h0.get? b = some o → h3.get? b = some o := fun b o hb z => k3 b o hb (k2 _ _ (k1 _ _ z))
  have hns3 : h3.Ns h.objs.size (fun x => [(("self" : Str), Value.ref e), ("at", .int n tk)].reverse.lookup x) := by
    obtain ⟨oL, es, ep, hL, r⟩ := hns
    exact ⟨oL, es, ep, up _ _ neL hL, r⟩
  have K3 : K.In h3 := fun b o z => by
    refine up b o (fun q => ?_) (M0.kin b o z)
    rw [q, hK] at z
    cases z
  refine wpAt_of_wpAny (wpAny_execs_cons (plainObj_wpAny_Assign_Attribute ?_))
  refine wpAny_Name (wpAny_loadName_local gk (gL S.ka) (by rw [g4]; exact hns3) rfl ?_) (by decide)
  refine wpAny_Name (wpAny_loadName_local gk (gL S.kf) (by rw [g4]; exact hns3) rfl ?_) (by decide)
  refine PySem.W.set_plain K3 (ox := { cls := .ref C, dict := none, data := .fields #[.ref _, .none, .none, .none, .bool false, .none] }) (od := none) ⟨he3, rfl, rfl, trivial⟩ N.T.sa ?_
  refine HandSPX.exc_osa K3 he3 hcl (show HandSPX.refsVE (.ref C :: cbm) = true from hbm) rfl N.no (fun h4 tk4 dx k4 dn dne hx hn4 => ?_)
  refine wpAny_execs_nil ?_
  refine hq h4 tk4 dx _ (fun b o hb z => k4 b o hb (up b o hb (k0 _ _ z))) ?_ dne hx hn4
  cases z : h.get? dx with
  | none => rfl
  | some o => exact absurd (Heap.lt_size (up dx o dne (k0 _ _ z))) (Nat.not_lt.mpr dn)
end HM
namespace HM
open PySem PySem.Spec PyProof.Rows L2
/-- what C(n) leaves at a: the refusal, its dict at dx -/
abbrev excD (C dx t1 : Addr) : Obj := { cls := .ref C, dict := some dx, data := .fields #[.ref t1, .none, .none, .none, .bool false, .none] }
section
variable {X : Cx} {pins : List (Addr × Obj)} {σ : L2.St} {H : Hp} {s : Shared} {st : Stmt} {qual : Str} {C fI : Addr} {n : Int} {tk : Tok}
theorem call_mk {k : Nat} {E : Value → Shared → Prop} {Q : Value → Shared → Prop} (N : NoT X.prog st qual X.K C fI) (S : InitS st) (hr : Room (k + 2) X.A) (I : Inv X pins σ H s) (hn : n.natAbs.log2 < 1920) (hz : (toString n : Str).length ≤ 1000)
    (h : ∀ h' tk' a dx t1, Grows s.heap h' → s.heap.get? a = none → s.heap.get? dx = none → dx ≠ a → h'.get? a = some (excD C dx t1) → h'.Ns1 dx (fun y => if y = "at" then some (.int n tk) else none) → Q (.ref a) { s with heap := h', toks := tk' }) :
    wpAny (model X.prog X.w) X.A (call (.ref C) [.int n tk]) Q E s := by
  obtain ⟨nm, q, Na, bs, bm, sn, sub, ab, col, dd, k0, k1, k2, k3, k5, hC, hbm⟩ := N.T.cls
  obtain ⟨hp, g, dr, t, os⟩ := s
  have kk : Grows hp ((hp.push (PySem.W.kdv_tup [.int n tk])).push (HandSPX.excO C hp.objs.size)) := fun b o e => Heap.get?_push_of_some _ (Heap.get?_push_of_some _ e)
  have hget : ((hp.push (PySem.W.kdv_tup [.int n tk])).push (HandSPX.excO C hp.objs.size)).get? (hp.objs.size + 1) = some (HandSPX.excO C hp.objs.size) := by heap_get
  have ha : hp.get? (hp.objs.size + 1) = none := by
    cases e : hp.get? (hp.objs.size + 1) with
    | none => rfl
    | some o => exact absurd (Heap.lt_size e) (Nat.not_lt.mpr (Nat.le_succ _))
  have M := mod_up (mod_up I.mod I.bk) kk
  refine wpAny_call (HandSPX.call_own F.excBase_ValueError (fun Y => HandSPX.refsVE_contains Y bm hbm) (I.kIn _ _ hC) (PySem.W.looks_findIn I.kIn N.iC) (fun self => PySem.W.bind_fn I.kIn self N.tI) (by show 1 ≤ sizeLine; rw [sizeLine_eq]; decide) ?_)
  refine raw_init N S M (hr.make C [.int n tk] []).depth hget ?_ hn hz fun h' tk' dx t1 kh dn dne hx hns => ⟨rfl, ?_⟩
  · cases e : X.K.lookup (hp.objs.size + 1) with
    | none => rfl
    | some o =>
      have z := I.kIn _ _ e
      rw [ha] at z
      cases z
  · refine h h' tk' (hp.objs.size + 1) dx t1 (fun b o e => kh b o (fun z => ?_) (kk b o e)) ha ?_ dne hx hns
    · rw [z] at e
      have e2 : hp.get? (hp.objs.size + 1) = some o := e
      rw [ha] at e2
      cases e2
    · cases e : hp.get? dx with
      | none => rfl
      | some o =>
        have z := kk _ _ e
        rw [dn] at z
        cases z
/-- a refusal that is kept as a value: its class, its dict -/
def ExV (C d a : Addr) : HO := .ext fun h => ∃ (oe : Obj) (vs : Array Value), h.get? a = some oe ∧ Zc (.ref C) (some d) oe ∧ oe.data = .fields vs
theorem exV_ok {P : Program} {w : World} {H : Hp} {h : Heap} {C d a : Addr} {oe : Obj} {vs : Array Value} (e : h.get? a = some oe) (z : Zc (.ref C) (some d) oe) (hd : oe.data = .fields vs) : ObjOk P w H h a (ExV C d a) :=
  ⟨⟨oe, vs, e, z, hd⟩, ⟨oe, e⟩, fun _ _ ⟨o, v, q, r⟩ k => ⟨o, v, k o q, r⟩⟩
theorem exV_at {P : Program} {w : World} {H : Hp} {h : Heap} {C d a : Addr} (hok : HOk P w H h) (e : H a = some (ExV C d a)) : ∃ (oe : Obj) (vs : Array Value), h.get? a = some oe ∧ Zc (.ref C) (some d) oe ∧ oe.data = .fields vs := by
  have x : ObjOk P w H h a (.ext fun h => ∃ (oe : Obj) (vs : Array Value), h.get? a = some oe ∧ Zc (.ref C) (some d) oe ∧ oe.data = .fields vs) := hok a _ e
  exact x.1
theorem xd_ok {P : Program} {w : World} {H : Hp} {h : Heap} {dx : Addr} (hns : h.Ns1 dx (fun y => if y = "at" then some (.int n tk) else none)) : ObjOk P w H h dx (.xd [("at", .int n)]) :=
  ⟨_, hns, fun f => relO_put (f := "at") (y := .int n) (u := .int n tk) (fs := []) (mA := fun _ => none) ⟨tk, rfl⟩ (fun _ => True.intro) f⟩
/-- raise C(n) -/
def tMkN (C : Addr) (te : TE) : L2.St → Hp → XK → Prop := fun σ H Q => te σ H fun v H1 => ∃ n : Int, v = .int n ∧ n.natAbs.log2 < 1920 ∧ (toString n : Str).length ≤ 1000 ∧ ∀ d, H1 d = none → Q (.ref C) (some d) (upd H1 d (.xd [("at", .int n)]))
theorem pmk_n {k : Nat} {x : Str} {e : Expr} {te : TE} {p pos : Pos} (N : NoT X.prog st qual X.K C fI) (S : InitS st) (hr : Room (k + 2) X.A) (hg : Gl X x) (hm : X.mg x = some (.ref C)) (he : PE X e te)
    (hdb : (x == ("__debug__" : Str)) = false := by decide) (hs : starEach [e] X.env = (false, eval e X.env) :: starEach [] X.env := by rfl) : PMk X (.Call (.Name x p) [e] [] pos) (tMkN C te) := by
  intro pins s σ H Q I h
  refine wpAny_Call_Name_kw (ld_glob I hg hm ?_ hdb)
  refine PySem.W.callWith_K (h₀ := X.base) I.ok.mod.kin N.T.kC ?_ hs (by rfl)
  rw [hs]
  show wpAny _ _ (spliced ((false, eval e X.env) :: backTo pos (starEach [] X.env))) _ _ s
  refine Calls.spliced_cons (thn (he.run pins s σ H _ I h) fun u s1 hx => ?_)
  obtain ⟨v, H1, I1, r1, n, rfl, hn, hz, q1⟩ := hx
  obtain ⟨tk, rfl⟩ := r1
  refine Calls.spliced_nil ⟨I1.kIn, ?_⟩
  refine call_mk N S hr I1 hn hz fun h' tk' a dx t1 kh ha hdx hne hx hns => ?_
  obtain ⟨G, g1, g2⟩ := restrict h' fun b => decide (b ≠ a)
  have gk : ∀ b, b ≠ a → G.get? b = h'.get? b := fun b hb => g1 b (decide_eq_true hb)
  have ga : G.get? a = none := g2 a (decide_eq_false fun z => z rfl)
  have hH : H1 dx = none := I1.hok.gone hdx
  have kG : Grows s1.heap G := fun b o e => by
    rw [gk b fun z => ?_]
    · exact kh b o e
    · rw [z, ha] at e
      cases e
  have hnsG : G.Ns1 dx (fun y => if y = "at" then some (.int n tk) else none) := hns.at fun o z => (gk dx hne).trans z
  have J : Inv X pins σ (upd H1 dx (.xd [("at", .int n)])) { s1 with heap := G, toks := tk' } := I1.laidN kG hdx hH (xd_ok hnsG)
  refine ⟨a, _, _, { s1 with heap := G, toks := tk' }, _, .ref C, some dx, rfl, J, fun b o e => ?_, ga, hx, ⟨rfl, rfl⟩, rfl, rfl, ?_, rfl, I1.bare, raises_own N.T.exC N.T.tyC, q1 dx hH⟩
  · have hb : b ≠ a := fun z => by
      have e2 : G.get? b = some o := e
      rw [z, ga] at e2
      cases e2
    exact (gk b hb).symm.trans e
  · rw [upd_ne (Ne.symm hne)]
    exact I1.hok.gone ha
/-- C(n) as a value -/
def tMkV (C : Addr) (te : TE) : TE := fun σ H Q => te σ H fun v H1 => ∃ n : Int, v = .int n ∧ n.natAbs.log2 < 1920 ∧ (toString n : Str).length ≤ 1000 ∧ ∀ d a, H1 d = none → H1 a = none → a ≠ d → Q (.ref a) (upd (upd H1 d (.xd [("at", .int n)])) a (ExV C d a))
theorem pe_mkV {k : Nat} {x : Str} {e : Expr} {te : TE} {p pos : Pos} (N : NoT X.prog st qual X.K C fI) (S : InitS st) (hr : Room (k + 2) X.A) (hg : Gl X x) (hm : X.mg x = some (.ref C)) (he : PE X e te)
    (hdb : (x == ("__debug__" : Str)) = false := by decide) (hs : starEach [e] X.env = (false, eval e X.env) :: starEach [] X.env := by rfl) : PE X (.Call (.Name x p) [e] [] pos) (tMkV C te) := by
  refine ⟨fun pins s σ H Q I h => ?_⟩
  refine wpAny_Call_Name_kw (ld_glob I hg hm ?_ hdb)
  refine PySem.W.callWith_K (h₀ := X.base) I.ok.mod.kin N.T.kC ?_ hs (by rfl)
  rw [hs]
  show wpAny _ _ (spliced ((false, eval e X.env) :: backTo pos (starEach [] X.env))) _ _ s
  refine Calls.spliced_cons (thn (he.run pins s σ H _ I h) fun u s1 hx => ?_)
  obtain ⟨v, H1, I1, r1, n, rfl, hn, hz, q1⟩ := hx
  obtain ⟨tk, rfl⟩ := r1
  refine Calls.spliced_nil ⟨I1.kIn, ?_⟩
  refine call_mk N S hr I1 hn hz fun h' tk' a dx t1 kh ha hdx hne hx hns => ?_
  have hH : H1 dx = none := I1.hok.gone hdx
  have hA : H1 a = none := I1.hok.gone ha
  obtain ⟨G, g1, g2⟩ := restrict h' fun b => decide (b ≠ a)
  have gk : ∀ b, b ≠ a → G.get? b = h'.get? b := fun b hb => g1 b (decide_eq_true hb)
  have ga : G.get? a = none := g2 a (decide_eq_false fun z => z rfl)
  have kG : Grows s1.heap G := fun b o e => by
    rw [gk b fun z => ?_]
    · exact kh b o e
    · rw [z, ha] at e
      cases e
  have J : Inv X pins σ (upd H1 dx (.xd [("at", .int n)])) { s1 with heap := G, toks := tk' } := I1.laidN kG hdx hH (xd_ok (hns.at fun o z => (gk dx hne).trans z))
  have hA2 : upd H1 dx (.xd [("at", .int n)]) a = none := by rw [upd_ne (Ne.symm hne)]; exact hA
  have J2 : Inv X pins σ (upd (upd H1 dx (.xd [("at", .int n)])) a (ExV C dx a)) { s1 with heap := h', toks := tk' } := J.laidN (h' := h') (t' := tk') (fun b o e => by
    have hb : b ≠ a := fun z => by
      have e2 : G.get? b = some o := e
      rw [z, ga] at e2
      cases e2
    exact (gk b hb).symm.trans e) ga hA2 (exV_ok hx ⟨rfl, rfl⟩ rfl)
  exact ⟨.ref a, _, J2, rfl, q1 dx a hH hA (Ne.symm hne)⟩
/-- e.at of a refusal that is kept -/
def tXfV (C : Addr) (f : Str) (te : TE) : TE := fun σ H Q => te σ H fun x H1 => ∃ (a d : Addr) (fs : List (Str × V)) (v : V), x = .ref a ∧ H1 a = some (ExV C d a) ∧ H1 d = some (.xd fs) ∧ fs.lookup f = some v ∧ Q v H1
theorem pe_xfV {e : Expr} {te : TE} {pos : Pos} {f : Str} (T : XfC X.K C) (hno : PySem.W.findIn X.K (.ref C) f = some none) (he : PE X e te) (hb : attributeBase e f X.env (eval e X.env) = eval e X.env := by rfl) : PE X (.Attribute e f pos) (tXfV C f te) := by
  refine ⟨fun pins s σ H Q I h => ?_⟩
  refine attr_of hb (thn (he.run pins s σ H _ I h) fun u s1 hh => ?_)
  obtain ⟨x, H1, I1, rx, a, dd, fs, v, rfl, ea, ed, l, q⟩ := hh
  obtain rfl : u = Value.ref a := rx
  obtain ⟨oe, vs, ha, hz, hd⟩ := exV_at I1.hok ea
  have hx : ObjOk X.prog X.w H1 s1.heap dd (.xd fs) := I1.hok dd _ ed
  obtain ⟨mA, hns, hr⟩ := hx
  obtain ⟨od, ho, hl⟩ := lookIn_ns hns
  obtain ⟨u, hu, ru⟩ := RelO.some_of (v := v) (o := mA f) (by rw [← l]; exact hr f)
  have J : PySem.W.InstAt s1.heap a oe C (some od) := ⟨ha, hz.1, by unfold PySem.W.notCls; rw [hd] <;> rfl, by rw [hz.2]; exact ho⟩
  exact HandSPX.exc_get I1.kIn J T.ga T.gg T.exC (PySem.W.findObj_own T.hdC hno rfl (by rw [hl, hu])) (handed_of ru) ⟨v, H1, I1.tok _, ru, q⟩
theorem instV {a d : Addr} {fs : List (Str × V)} (I : Inv X pins σ H s) (ea : H a = some (ExV C d a)) (ed : H d = some (.xd fs)) : ∃ oe od, PySem.W.InstAt s.heap a oe C (some od) := by
  obtain ⟨oe, vs, ha, hz, hd⟩ := exV_at I.hok ea
  have hx : ObjOk X.prog X.w H s.heap d (.xd fs) := I.hok d _ ed
  obtain ⟨mA, hns, hr⟩ := hx
  obtain ⟨od, ho, hl⟩ := lookIn_ns hns
  exact ⟨oe, od, ha, hz.1, by unfold PySem.W.notCls; rw [hd] <;> rfl, by rw [hz.2]; exact ho⟩
/-- isinstance(e, c) and isinstance(e, (c, ..)) -/
def rIsV (K : PySem.W.Frag) (C : Addr) : List V → Hp → VK → Prop := fun xs H Q => ∃ (a d : Addr) (fs : List (Str × V)) (c : V) (u : Value) (b : Bool), xs = [.ref a, c] ∧ ClsV c u ∧ H a = some (ExV C d a) ∧ H d = some (.xd fs) ∧ PySem.W.kitOne K (.ref C) u = some b ∧ Q (.bl b) H
theorem call_isV (T : ExcC X.K C) : CallR X (.builtin "isinstance") (rIsV X.K C) := by
  intro pins s σ H xs us Q I r h
  obtain ⟨a, d, fs, c, u, b, rfl, k, ea, ed, e, q⟩ := h
  obtain ⟨u1, u2, rfl, r1, r2⟩ := vals2 r
  have e2 := k.eq r2
  subst e2
  obtain rfl : u1 = Value.ref a := r1
  obtain ⟨oe, od, J⟩ := instV I ea ed
  have hcl : (PySem.W.clsIn X.K C).isSome = true := by obtain ⟨cd, hc, _⟩ := PySem.W.any_some T.hd; rw [hc]; rfl
  exact PySem.W.kia_one (PySem.W.kitx_exc hcl T.hg T.hk T.hs T.ha T.hn T.ht T.hm) I.kIn J e (fun z => nomatch z) fun tk => ⟨.bl b, H, I.tok tk, rfl, q⟩
def rIsVT (K : PySem.W.Frag) (C : Addr) : List V → Hp → VK → Prop := fun xs H Q => ∃ (a d : Addr) (fs : List (Str × V)) (tp : Addr) (cs : List V) (us : List Value) (b : Bool), xs = [.ref a, .ref tp] ∧ H tp = some (.tup cs) ∧ Paired ClsV cs us ∧ H a = some (ExV C d a) ∧ H d = some (.xd fs) ∧ PySem.W.kitAny K (.ref C) us = some b ∧ Q (.bl b) H
theorem call_isVT (T : ExcC X.K C) : CallR X (.builtin "isinstance") (rIsVT X.K C) := by
  intro pins s σ H xs us Q I r h
  obtain ⟨a, d, fs, tp, cs, ws, b, rfl, hT, k, ea, ed, e, q⟩ := h
  obtain ⟨u1, u2, rfl, r1, r2⟩ := vals2 r
  cases (show u2 = Value.ref tp from r2)
  obtain rfl : u1 = Value.ref a := r1
  obtain ⟨oe, od, J⟩ := instV I ea ed
  obtain ⟨_, its, rv, o, h1, h2, n, h3⟩ := (show ObjOk X.prog X.w H s.heap tp (.tup cs) from I.hok tp _ hT)
  have e3 := ClsV.all k rv
  subst e3
  obtain ⟨oc, od', dt, sl⟩ := o
  simp only at h2 h3
  subst h2 h3
  have hcl : (PySem.W.clsIn X.K C).isSome = true := by obtain ⟨cd, hc, _⟩ := PySem.W.any_some T.hd; rw [hc]; rfl
  exact PySem.W.kia_tup (PySem.W.kitx_exc hcl T.hg T.hk T.hs T.ha T.hn T.ht T.hm) I.kIn J h1 e (fun z => nomatch z) fun tk => ⟨.bl b, H, I.tok tk, rfl, q⟩
end
end HM
namespace HM
open PySem PySem.Spec PyProof.Rows L2
section
variable {X : Cx} {pins : List (Addr × Obj)} {σ : L2.St} {H : Hp} {s : Shared}
/-- a record that nobody tracks and that was not there at the entry may be tracked -/
theorem track {a C d : Addr} {oe : Obj} {vs : Array Value} (I : Inv X pins σ H s) (ha : s.heap.get? a = some oe) (hz : Zc (.ref C) (some d) oe) (hd : oe.data = .fields vs) (na : H a = none) (n0 : X.s_0.heap.get? a = none) (np : ∀ p ∈ X.pn ++ pins, p.1 ≠ a) (nL : a ≠ X.env.locals) :
    Inv X pins σ (upd H a (ExV C d a)) s := by
  have ne0 : ∀ {b : Addr} {o : Obj}, X.s_0.heap.get? b = some o → b ≠ a := fun {b o} e z => by
    rw [z, n0] at e
    cases e
  refine ⟨I.ok, I.os, I.bare, ⟨I.base.keep, I.base.slot, fun b o e n hx => ?_, I.base.there, fun b xs e => ?_, fun b o u e => ?_, fun b ps e => ?_⟩, I.loc, I.cell, ?_, fun x c e => ?_, fun p hp => ?_, fun b u e => ?_, I.len⟩
  · rw [upd_ne (ne0 e)]
    exact I.base.free b o e n hx
  · have q := I.base.tups b xs e
    rw [upd_ne (ne_of_none q na)]
    exact q
  · have q := I.base.frzs b o u e
    rw [upd_ne (ne_of_none q na)]
    exact q
  · obtain ⟨more, q⟩ := I.base.tbls b ps e
    exact ⟨more, by rw [upd_ne (ne_of_none q na)]; exact q⟩
  · rw [upd_ne nL.symm]
    exact I.free
  · rw [upd_ne fun z => ?_]
    · exact I.freeC x c e
    · obtain ⟨v, o, ho, hv⟩ := I.cell x c e
      rw [z, ha] at ho
      cases ho
      rw [hd] at hv
      cases hv
  · obtain ⟨h1, h2, h3⟩ := I.pin p hp
    exact ⟨h1, by rw [upd_ne (np p hp)]; exact h2, h3⟩
  · by_cases hb : b = a
    · subst hb
      rw [upd_same] at e
      cases e
      exact exV_ok ha hz hd
    · rw [upd_ne hb] at e
      exact (I.hok b u e).stay (fun c v _ q => q) (fun c q => by rw [upd_ne (ne_of_none q na)]; exact q) fun c xs q => by rw [upd_ne (ne_of_none q na)]; exact q
end
/-- what 'except x as n' wishes: the refusal is kept behind its suite -/
def wKeep (K : PySem.W.Frag) (c : Value) (i : Nat) (ts : Addr → TS) (Wout : WX) (D : Ends) : WX := fun cls d σ H =>
  ∃ b, PySem.W.exmOne K cls c = some b ∧ (b = true → ∃ C dd : Addr, cls = .ref C ∧ d = some dd ∧ ∀ a, H a = none →
    ts a { nx := fun σ' H' => D.nx (σ'.set i none) (upd H' a (ExV C dd a)), rt := fun _ _ => False, bk := fun _ _ => False, ct := fun _ _ => False } (σ.set i (some (.ref a))) H) ∧ (b = false → Wout cls d σ H)
section
variable {X : Cx} {x n : Str} {c : Value} {i : Nat} {body suite : List Stmt} {b₀ : Stmt} {np pos pos' : Pos} {tb : WX → TS} {ts : Addr → TS} {Wout : WX}
theorem ps_tryK (hs : X.stack = X.env :: X.outer) (hf : X.env.frame = some X.env.locals) (hN : X.N.Nodup) (hi : X.N[i]? = some n) (hln : X.env.kindOf n = some .local) (hc : Names X x c) (tk : Takes X Wout) (hex : X.ex = [])
    (hb : ∀ (W : WX) (pn : List (Addr × Obj)) (xe : Value → Shared → Prop), Takes (X.tr pn xe) W → PassesOwn (model X.prog X.w) X.A X.env xe → PSs (X.tr pn xe) body (tb W))
    (hsu : ∀ (a : Addr) (oe : Obj) (pn : List (Addr × Obj)), PSs (X.suite a ((a, oe) :: pn)) (b₀ :: suite) (ts a)) :
    PS X (.Try body [.ExceptHandler (some (.Name x np)) (some n) (b₀ :: suite) pos'] [] [] pos) (fun D σ H => tb (wKeep X.K c i ts Wout D) D σ H) := by
  refine ⟨fun pins s σ H D I h => ?_⟩
  have ok := I.ok
  have hfr : X.A.frames = some (X.env :: X.outer) := ok.frames.trans (congrArg some hs)
  obtain ⟨hd, ehd⟩ : ∃ hd : ExceptHandler, hd = .ExceptHandler (some (.Name x np)) (some n) (b₀ :: suite) pos' := ⟨_, rfl⟩
  have catch_ : ∀ u s', XE (X.tr (X.pn ++ pins) fun _ _ => True) (wKeep X.K c i ts Wout D) u s' → wpAny (model X.prog X.w) X.A (noteFrame u X.env) (fun _ s₂ => wpAny (model X.prog X.w) X.A (setFlight u none) (fun _ s₃ =>
      wpAny (model X.prog X.w) X.A (handleBy u X.env [hd]) (SP X pins D) X.xe s₃) X.xe s₂) X.xe s' := fun u s' xx => by
    obtain ⟨a, B, sI, pins', σ', H', cls, d, rfl, J', nb, up, sky, na, os, ag, b, hb1, hyes, hno⟩ := xx
    have J : Inv X pins σ' H' sI := J'.ofTry ok
    have sky2 : Sky B (X.env :: X.outer) a (Zc cls d) X.env.locals s'.heap := hs ▸ sky
    refine Sky.land Zc.steady hfr hf sky2 fun h3 fl3 up3 => ?_
    have J3 : Inv X pins σ' H' { s' with heap := h3 } := J.landed nb fl3.1 (up.trans up3) os ag
    obtain ⟨oe3, vs3, he3, hz3, hd3⟩ := fl3.there
    have nfr : a ∉ frs (X.env :: X.outer) := fun hm => by
      obtain ⟨_, o', e', hnf⟩ := fl3.2.2.1.mem hm
      cases he3.symm.trans e'
      exact hnf _ hd3
    have hBa : B.get? a = none := fl3.2.1
    have nL : a ≠ X.env.locals := fun z => nfr (List.mem_filterMap.mpr ⟨X.env, List.mem_cons_self, by rw [z]; exact hf⟩)
    have nF : a ∉ X.fs := fun hm => by
      obtain ⟨e, he, q⟩ := List.mem_filterMap.mp hm
      exact nfr (List.mem_filterMap.mpr ⟨e, List.mem_cons_of_mem _ he, q⟩)
    have S3 := J3.suite he3 hd3 na nL nF
    rw [ehd]
    refine wpAny_handleBy_cons (codeAny_handlers_test ?_) (by intro q; cases q)
    have LM := PySem.W.exm_one (M := model X.prog X.w) J3.kIn (show PySem.W.Looks (model X.prog X.w) h3 (typeOf (.ref a)) cls from fun A Q E s k q => wpAny_typeOf_ref (k _ _ he3) (hz3.1 ▸ q)) hb1
    have test : ∀ {Q : Value → Shared → Prop} {E : Value → Shared → Prop}, Q c { s' with heap := h3 } → wpAny (model X.prog X.w) (X.A.mark (some (.ref a))) (eval (.Name x np) X.env) Q E { s' with heap := h3 } := fun {Q E} q => by
      obtain ⟨hg, hdbg, hm | ⟨hm, hv, hnn⟩⟩ := hc
      · exact ld_glob (X := X.suite a ((a, oe3) :: (X.pn ++ pins))) S3 hg hm q hdbg
      · exact ld_blt (X := X.suite a ((a, oe3) :: (X.pn ++ pins))) S3 hg hm hv q hnn hdbg
    refine test (LM.here ?_)
    cases b with
    | true =>
      obtain ⟨C, dd, rfl, rfl, hye2⟩ := hyes rfl
      refine codeAny_handlers_suite_as (HandSPX.lands_againZ fl3 fun h4 fl4 up4 => ?_)
      have J4 : Inv X pins σ' H' { s' with heap := h4 } := J.landed nb fl4.1 ((up.trans up3).trans up4) os ag
      obtain ⟨oe4, vs4, he4, hz4, hd4⟩ := fl4.there
      have S4 := J4.suite he4 hd4 na nL nF
      refine store_ok (X := X.suite a ((a, oe4) :: (X.pn ++ pins))) (v := .ref a) S4 hN hi (.inl hln) rfl (fun s5 S5 => ?_) (.inr hln)
      refine wpAny_mono ((hsu a oe4 (X.pn ++ pins)).run [] s5 _ H' _ S5 (hye2 a na)) (fun f s6 hsp => ?_) (fun _ _ z => z.elim)
      cases f with
      | next =>
        obtain ⟨σ6, H6, S6, q6⟩ := hsp
        obtain ⟨p1, p2, _⟩ := S6.pin (a, oe4) (List.mem_append_left _ List.mem_cons_self)
        have n0 : X.s_0.heap.get? a = none := by
          cases e : X.s_0.heap.get? a with
          | none => rfl
          | some o =>
            obtain ⟨o', e'⟩ := J.base.there a o e (by rw [hex]; exact fun z => nomatch z)
            have z := nb a o' e' (by show a ∉ frs X.stack; rw [hs]; exact nfr)
            rw [hBa] at z
            cases z
        have npin : ∀ p ∈ X.pn ++ pins, p.1 ≠ a := fun p hp z => by
          obtain ⟨e1, e2, e3, e4, _⟩ := J.pin p hp
          rw [z] at e1
          have q := nb a _ e1 (by show a ∉ frs X.stack; rw [hs]; exact nfr)
          rw [hBa] at q
          cases q
        have J6 : Inv X pins σ6 (upd H6 a (ExV C dd a)) s6 := track (S6.unsuite ok) p1 hz4 hd4 p2 n0 npin nL
        exact gone_ok J6 hN hi hln fun s7 J7 => ⟨_, _, J7, q6⟩
      | brk =>
        obtain ⟨σ6, H6, S6, q6⟩ := hsp
        exact q6.elim
      | cont =>
        obtain ⟨σ6, H6, S6, q6⟩ := hsp
        exact q6.elim
      | ret u =>
        obtain ⟨v6, σ6, H6, S6, r6, q6⟩ := hsp
        exact q6.elim
    | false =>
      refine wpAny_handleBy_nil ?_
      obtain ⟨k1, k2, k3, oe, vs, T, oT, ts', he, hz, hd, h1, hr⟩ := id fl3
      unfold PySem.passOn
      refine wpAny_bind (wpAny_field he hd h1 ?_)
      rw [if_neg (show ¬ ((Value.ref T == Value.none) = true) from by simp)]
      have fin : wpAny (model X.prog X.w) X.A (setFlight (.ref a) X.env.frame) (fun _ s4 => wpAny (model X.prog X.w) X.A (throw (.ref a) : Sem Flow) (SP X pins D) X.xe s4) X.xe { s' with heap := h3 } := by
        rw [hf]
        refine HandSPX.setFlight_upZ fl3 fun h4 hh4 up4 => wpAny_throw (tk _ _ ⟨a, B, sI, pins, σ', H', cls, d, rfl, J, nb, (up.trans up3).trans up4, .inr (.inr (hs ▸ hh4)), na, os, ag, hno rfl⟩)
      first
        | exact wpAny_bind (wpAny_pure (wpAny_bind fin))
        | exact wpAny_bind fin
  rw [← ehd]
  refine wpAny_Try_except ?_
  refine wpAny_mono ((hb (wKeep X.K c i ts Wout D) (X.pn ++ pins) _ (fun u s' xx => catch_ u s' ?_) PassesOwn.looking).run [] s σ H D (I.toTry _) h) (fun f s1 hsp => ?_) (fun e s1 he => he)
  · obtain ⟨a, B, sI, pins', σ', H', cls, d, e, J', r⟩ := xx
    exact ⟨a, B, sI, pins', σ', H', cls, d, e, ⟨J'.ok.ofTry.toTry _ _, J'.os, J'.bare, J'.base, J'.loc, J'.cell, J'.free, J'.freeC, J'.pin, J'.hok, J'.len⟩, r⟩
  · cases f with
    | next =>
      obtain ⟨σ', H', J', q⟩ := hsp
      exact wpAny_execs_nil ⟨σ', H', J'.ofTry ok, q⟩
    | brk =>
      obtain ⟨σ', H', J', q⟩ := hsp
      exact ⟨σ', H', J'.ofTry ok, q⟩
    | cont =>
      obtain ⟨σ', H', J', q⟩ := hsp
      exact ⟨σ', H', J'.ofTry ok, q⟩
    | ret u =>
      obtain ⟨v, σ', H', J', r, q⟩ := hsp
      exact ⟨v, σ', H', J'.ofTry ok, r, q⟩
end
end HM
namespace HM
open PySem PySem.Spec PyProof.Rows L2
end HM
namespace HM
open PySem PySem.Spec PyProof.Rows L2
end HM
namespace HM
open PySem PySem.Spec PyProof.Rows L2
section
variable {P : Program} {w : World} {K : PySem.W.Frag} {mg : Str → Option Value} {base : Heap}
/-- a def that may let refusals out, by its body -/
theorem pfnX_of {gd : Around → Prop} {x qual : Str} {st : Stmt} {f : Addr} {fd : FuncData} {N ps : List Str} {k : Nat} {sp : Sp} (F : Fun K x qual st f fd) (S : FnScope N ps (defScope st)) (len : ∀ vs H Q E, sp vs H Q E → vs.length = ps.length)
    (body : ∀ (cdv : Value) (A : Around) (out : List Env) (s : Shared) (H : Hp) (vs : List V) (Q : VK) (E : XK), fd.code = cdv → gd A → Room k (A.deeper (envOfC qual (defScope st) s.heap.objs.size f cdv)) → sp vs H Q E →
      ∃ t, PSs (cxOf (L2.CX P w) P w K mg base N qual (defScope st) f cdv A out s H E) (defBody st) t ∧ t { nx := fun _ H' => Q .non H', rt := Q } (start N vs) H) : PFn gd P w K mg base (L2.CX P w) (k + 1) f fd ps sp := by
  obtain ⟨oc, od, kV, doc, pm, an, cdv, ct, osl, rfl, lk, hcd⟩ := F.ex
  refine ⟨len, fun A out s H args us vs Q E hgd hr e0 hb r hsp => ?_⟩
  have M := mod_up e0.mod (fun b o e => (e0.bs b o e).1 : Grows base s.heap)
  have kinds : ∀ y ∈ ps.zip us, (defScope st).names.lookup y.1 = some .local ∨ ((defScope st).names.lookup y.1 = some .cell ∧ ((cellsFrom (s.heap.objs.size + 1) (defScope st).names []).lookup y.1).isSome = true) := by
    intro y hy
    rcases S.par y.1 (List.of_mem_zip (show (y.1, y.2) ∈ ps.zip us from hy)).1 with q | q
    · exact .inl q
    · exact .inr ⟨q, PySem.W.cellsFrom_some _ _ _ (.inl q)⟩
  refine codeAny_call_function hr.depth (M.kin _ _ lk) rfl S.co S.gen rfl (PySem.W.codeRec_of M.kin hcd) (hb _ _ _ _ ?_)
  refine wpAny_newFunctionEnv_cells S.kind kinds fun env he s1 x => ?_
  subst he
  obtain ⟨t, ht, hq⟩ := body cdv A out s H vs Q E rfl hgd (hr.deeper _) hsp
  refine ⟨M.nolimit.keeps x.toInCall.keep, codeAny_func (wpAny_mono (ht.run [] s1 (start N vs) H _ (inv_start S hr.hd e0 (len _ _ _ _ hsp) r x) hq) (fun fl s' hs => ?_) fun e s' hs => hs)⟩
  cases fl with
  | ret u =>
    obtain ⟨v, σ', H', J, rv, q⟩ := hs
    exact ⟨v, H', J.os, J.bare, J.base, J.hok, rv, q⟩
  | next =>
    obtain ⟨σ', H', J, q⟩ := hs
    exact ⟨.non, H', J.os, J.bare, J.base, J.hok, rfl, q⟩
  | brk =>
    obtain ⟨_, _, _, q⟩ := hs
    exact q.elim
  | cont =>
    obtain ⟨_, _, _, q⟩ := hs
    exact q.elim
end
end HM
namespace HM
open PySem PySem.Spec PyProof.Rows L2
/-- f(e, ..) by such a promise; what is let out is told by the slots too -/
theorem pe_callPS {X : Cx} {gd : Around → Prop} {CX : CXT} {k : Nat} {f : Addr} {fd : FuncData} {ps : List Str} {sp : Sp} {E : L2.St → XK} {x : Str} {p pos : Pos} {e : Expr} {es : List Expr} {t : TA} (G : PFn gd X.prog X.w X.K X.mg X.base CX k f fd ps sp) (hgd : gd X.A) (hr : Room k X.A) (hg : Gl X x) (hm : X.mg x = some (.ref f))
    (hk : PySem.W.keepIn X.K (.ref f) = true) (hb : Binds X.K fd ps []) (hx : ∀ σ, PassesAt CX X σ (E σ)) (ha : PA X (e :: es) t) (hdb : (x == ("__debug__" : Str)) = false := by decide)
    (he : starEach (e :: es) X.env = (false, eval e X.env) :: starEach es X.env := by rfl) (hpl : (backTo pos (starEach es X.env)).any (·.1) = false := by rfl) : PE X (.Call (.Name x p) (e :: es) [] pos) (tCallS sp E t) := by
  refine ⟨fun pins s σ H Q I h => ?_⟩
  refine wpAny_Call_Name_kw (ld_glob I hg hm ?_ hdb)
  refine PySem.W.callWith_K (h₀ := X.base) I.ok.mod.kin hk (thn (ha.run pos pins s σ H _ I h) fun us s1 hus => ?_) he hpl
  obtain ⟨vs, H1, I1, r, q⟩ := hus
  refine ⟨I1.kIn, ?_⟩
  have hl : us.length = ps.length := by rw [← r.length]; exact G.len _ _ _ _ q
  have hbs := hb s1 us I1.kIn (by rw [List.append_nil]; exact hl)
  rw [List.append_nil] at hbs
  refine wpAny_call (codeAny_mono (G.go X.A X.stack s1 H1 ⟨us, []⟩ us vs Q (E σ) hgd hr I1.env0 hbs r q) fun r s' hq => ?_)
  match r, hq with
  | .error e, hq => exact hx σ pins H1 s1 e s' I1 hq
  | .ok (.ret u), hq => exact I1.after hq
  | .ok .next, hq => exact hq.elim
  | .ok .brk, hq => exact hq.elim
  | .ok .cont, hq => exact hq.elim
theorem takesN {X : Cx} : Takes X (fun _ _ _ _ => False) := fun _ _ x => by
  obtain ⟨_, _, _, _, _, _, _, _, _, _, _, _, _, _, _, _, z⟩ := x
  exact z.elim
end HM
namespace HM
open PySem PySem.Spec PyProof.Rows L2
def pk (a : Addr) (t l : Int) : List (Key × V) := [(.inr "script", .ref a), (.inr "at", .int t), (.inr "left", .int l)]
def isPen (K : PySem.W.Frag) (H : Hp) (p : Addr) (t : Int) : Prop := ∃ (a : Addr) (ns : List Int) (l : Int), H p = some (.dK (pk a t l)) ∧ Scr K H a ns ∧ ns.length ≤ 63 ∧ 0 ≤ t ∧ 0 ≤ l
/-- only what stands at p has changed -/
def But (p : Addr) (H H' : Hp) : Prop := ∀ b, b ≠ p → H' b = H b
end HM
namespace HM
open PySem PySem.Spec PyProof.Rows L2
/-- all that was tracked but for p is as it was -/
def Kept (p : Addr) (H H' : Hp) : Prop := ∀ b o, H b = some o → b ≠ p → H' b = some o
theorem Kept.trans {p : Addr} {H H1 H2 : Hp} (a : Kept p H H1) (b : Kept p H1 H2) : Kept p H H2 := fun c o e n => b c o (a c o e n) n
theorem Kept.refl (p : Addr) (H : Hp) : Kept p H H := fun _ _ e _ => e
theorem But.kept {p : Addr} {H H' : Hp} (h : But p H H') : Kept p H H' := fun b o e n => by rw [h b n]; exact e
theorem isPen.up {K : PySem.W.Frag} {H H' : Hp} {p : Addr} {t : Int} (h : isPen K H p t) (k : ∀ b o, H b = some o → b = p ∨ (∃ ob u, o = .frz ob u) → H' b = some o) : isPen K H' p t := by
  obtain ⟨a, ns, l, h1, h2, r⟩ := h
  exact ⟨a, ns, l, k _ _ h1 (.inl rfl), h2.up fun b ob u e => k _ _ e (.inr ⟨ob, u, rfl⟩), r⟩
theorem isPen.lay {K : PySem.W.Frag} {H : Hp} {p q : Addr} {t : Int} {o : HO} (h : isPen K H p t) (n : H q = none) : isPen K (upd H q o) p t :=
  h.up fun b u e _ => by rw [upd_ne (ne_of_none e n)]; exact e
theorem isPen.put {K : PySem.W.Frag} {H : Hp} {p q : Addr} {t : Int} {xs ys : List V} (h : isPen K H p t) (n : H q = some (.lst xs)) : isPen K (upd H q (.lst ys)) p t := by
  obtain ⟨a, ns, l, h1, _⟩ := _root_.id h
  refine h.up fun b u e c => ?_
  rw [upd_ne fun z => ?_]
  · exact e
  · subst z
    rw [n] at e
    cases e
    rcases c with c | ⟨ob, u, c⟩
    · rw [c, h1] at n
      cases n
    · cases c
end HM
namespace HM
open PySem PySem.Spec PyProof.Rows L2
def numD (n : Int) : PyData → Bool
  | .int i => decide (0 ≤ i) && decide (i < n)
  | _ => false
def itD : PyData → Int
  | .int i => i
  | _ => 0
def eachOnce (ds : List PyData) (n : Int) : Bool := decide ((ds.length : Int) = n) && (ds.all (numD n) && decide (ds.map itD).Nodup)
def turnD : PyData → Bool
  | .tuple ds => (decide (1 ≤ ds.length) && decide (ds.length ≤ 7)) && eachOnce ds ds.length
  | _ => false
end HM
namespace HM
open PySem PySem.Spec PyProof.Rows L2
/-- what a thing is, for who asks whether it is a turn -/
def TC (K : PySem.W.Frag) (H : Hp) (x : V) (d : PyData) : Prop := (∃ (a : Addr) (xs : List V) (ds : List PyData), x = .ref a ∧ d = .tuple ds ∧ TF H a xs ∧ DpAll K H xs ds) ∨ (∃ T, VTy K H x T ∧ kitB T "tuple" = some false ∧ turnD d = false)
end HM
namespace HM
open PySem PySem.Spec PyProof.Rows L2
mutual
def cost : PyData → Nat
  | .none => 4
  | .bool _ => 5
  | .int _ => 1921
  | .str x => (reprText x).length
  | .list xs => costs xs + 2
  | .tuple xs => costs xs + 2
  | .dict kvs => costKv kvs + 2
def costs : List PyData → Nat
  | [] => 0
  | x :: xs => cost x + 2 + costs xs
def costKv : List (PyData × PyData) → Nat
  | [] => 0
  | (k, v) :: r => cost k + 2 + cost v + 2 + costKv r
end
theorem textFrom_up : ∀ (ts : List Str) (k : Nat) (acc : Str), (textFrom k acc ts).length ≤ acc.length + piled ts
  | [], k, acc => by
    rw [piled_nil]
    exact Nat.le_refl _
  | t :: r, k, acc => by
    rw [piled_cons]
    unfold textFrom
    refine Nat.le_trans (textFrom_up r _ _) ?_
    split
    · rw [strLen_append, strLen_append, show ((", " : Str)).length = 2 by decide +kernel]
      omega
    · rw [strLen_append, strLen_append, show (("" : Str)).length = 0 by decide +kernel]
      omega
theorem listText_up (ts : List Str) : (listText ts).length ≤ piled ts + 2 := by
  unfold listText
  rw [strLen_append, show (("]" : Str)).length = 1 by decide +kernel]
  have h := textFrom_up ts 0 "["
  rw [show (("[" : Str)).length = 1 by decide +kernel] at h
  omega
def UpN (H H' : Hp) : Prop := ∀ b o, H b = some o → (∀ q, o ≠ .tbl q) → H' b = some o
theorem UpN.refl (H : Hp) : UpN H H := fun _ _ e _ => e
theorem UpN.trans {H H1 H2 : Hp} (a : UpN H H1) (b : UpN H1 H2) : UpN H H2 := fun c o e n => b c o (a c o e n) n
theorem UpN.of_same {H H' : Hp} (h : Same H H') : UpN H H' := fun b o e _ => h b o e
theorem TF.up {H H' : Hp} {a : Addr} {xs : List V} (h : TF H a xs) (k : UpN H H') : TF H' a xs := let ⟨o, h1, h2⟩ := h; ⟨o, h1, k _ _ h2 fun q z => by cases z⟩
theorem sqL_up {K : PySem.W.Frag} {H H' : Hp} {a : Addr} {xs : List V} (h : SqL K H a xs) (k : UpN H H') : SqL K H' a xs := by
  rcases h with (h | ⟨o, h⟩) | h
  · exact .inl (.inl (k _ _ h fun q z => by cases z))
  · exact .inl (.inr ⟨o, k _ _ h fun q z => by cases z⟩)
  · exact .inr h
theorem sqT_up {K : PySem.W.Frag} {H H' : Hp} {a : Addr} {xs : List V} (h : SqT K H a xs) (k : UpN H H') : SqT K H' a xs := by
  rcases h with (h | ⟨o, h⟩) | h
  · exact .inl (.inl (k _ _ h fun q z => by cases z))
  · exact .inl (.inr ⟨o, k _ _ h fun q z => by cases z⟩)
  · exact .inr h
mutual
theorem dp_up {K : PySem.W.Frag} {H H' : Hp} (k : UpN H H') : ∀ {v : V} {d : PyData}, Dp K H v d → Dp K H' v d
  | _, _, .non => .non
  | _, _, .bl b => .bl b
  | _, _, .int i => .int i
  | _, _, .str x => .str x
  | _, _, .lst h t => .lst (sqL_up h k) (dps_up k t)
  | _, _, .tup h t => .tup (sqT_up h k) (dps_up k t)
theorem dps_up {K : PySem.W.Frag} {H H' : Hp} (k : UpN H H') : ∀ {vs : List V} {ds : List PyData}, DpAll K H vs ds → DpAll K H' vs ds
  | _, _, .nil => .nil
  | _, _, .cons h t => .cons (dp_up k h) (dps_up k t)
end
end HM
namespace HM
open PySem PySem.Spec PyProof.Rows L2
/-- data that are small -/
def smI (i : Int) : Bool := decide (i.natAbs ≤ 10 ^ 29)
def smD : PyData → Bool
  | .int i => smI i
  | .bool _ => true
  | .none => true
  | .str x => decide (x = "0")
  | .tuple [.int i] => smI i
  | .list [.int i] => smI i
  | _ => false
/-- a tuple of few small things -/
def NearT (K : PySem.W.Frag) (H : Hp) (x : V) : Prop := ∃ (a : Addr) (ys : List V) (ds : List PyData), x = .ref a ∧ TF H a ys ∧ DpAll K H ys ds ∧ ds.length ≤ 16 ∧ ds.all smD = true
theorem NearT.up {K : PySem.W.Frag} {H H' : Hp} {x : V} (h : NearT K H x) (k : UpN H H') : NearT K H' x := by
  obtain ⟨a, ys, ds, h1, h2, h3, r⟩ := h
  exact ⟨a, ys, ds, h1, h2.up k, dps_up k h3, r⟩
end HM
namespace HM
open PySem PySem.Spec PyProof.Rows L2
def It (k c : Nat) (d : PyData) : Prop := d.showable = true ∧ d.hasDict = false ∧ d.depth ≤ k ∧ cost d ≤ c
def Th (K : PySem.W.Frag) (H : Hp) (x : V) : Prop := ∃ d, RP K H x d ∧ TC K H x d ∧ d.showable = true ∧ d.depth ≤ 40 ∧ d.shown.length ≤ sizeLine ∧ ∀ ds, d = .tuple ds → ds.length ≤ 4000
theorem vty_up {K : PySem.W.Frag} {H H' : Hp} {x : V} {T : String} (t : VTy K H x T) (k : UpN H H') : VTy K H' x T := by
  cases t with
  | non => exact .non
  | bl b => exact .bl b
  | int i => exact .int i
  | str y => exact .str y
  | lst e => exact .lst (sqL_up e k)
  | tup e => exact .tup (sqT_up e k)
  | dct e => exact .dct (k _ _ e fun q z => by cases z)
theorem rp_up {K : PySem.W.Frag} {H H' : Hp} {x : V} {d : PyData} (h : RP K H x d) (k : UpN H H') : RP K H' x d := by
  cases h with
  | flat h n => exact .flat (dp_up k h) n
  | dict ps h => exact .dict ps (k _ _ h fun q z => by cases z)
theorem tc_up {K : PySem.W.Frag} {H H' : Hp} {x : V} {d : PyData} (h : TC K H x d) (k : UpN H H') : TC K H' x d := by
  rcases h with ⟨a, xs, ds, h1, h2, h3, h4⟩ | ⟨T, h1, h2⟩
  · exact .inl ⟨a, xs, ds, h1, h2, h3.up k, dps_up k h4⟩
  · exact .inr ⟨T, vty_up h1 k, h2⟩
theorem Th.up {K : PySem.W.Frag} {H H' : Hp} {x : V} (h : Th K H x) (k : UpN H H') : Th K H' x := by
  obtain ⟨d, h1, h2, r⟩ := h
  exact ⟨d, rp_up h1 k, tc_up h2 k, r⟩
end HM
namespace HM
open PySem PySem.Spec PyProof.Rows L2
end HM
namespace HM
open PySem PySem.Spec PyProof.Rows L2
theorem same_lay {H : Hp} {q : Addr} {o : HO} (n : H q = none) : Same H (upd H q o) := fun b u e => by rw [upd_ne (ne_of_none e n)]; exact e
theorem UpN.lay {H J : Hp} {q : Addr} {o : HO} (u : UpN H J) (n : J q = none) : UpN H (upd J q o) := u.trans (.of_same (same_lay n))
theorem UpN.set {H J : Hp} {q : Addr} {o : HO} (u : UpN H J) (n : H q = none) : UpN H (upd J q o) := fun b p e z => by rw [upd_ne (ne_of_none e n)]; exact u b p e z
theorem isPen.kept {K : PySem.W.Frag} {H H' : Hp} {p : Addr} {t : Int} {b : Addr} {o : HO} (hp : isPen K H p t) (k : Kept p H H') (e : H b = some o) (hd : ∀ kv, o ≠ .dK kv) : H' b = some o := by
  refine k _ _ e fun z => ?_
  obtain ⟨_, _, _, e2, _⟩ := hp
  rw [z, e2] at e
  exact hd _ (Option.some.inj e).symm
/-- all that was tracked is as it was, but for the pen and the tables -/
def UpP (p : Addr) (H H' : Hp) : Prop := ∀ b o, H b = some o → b ≠ p → (∀ q, o ≠ .tbl q) → H' b = some o
theorem UpP.refl (p : Addr) (H : Hp) : UpP p H H := fun _ _ e _ _ => e
theorem UpP.trans {p : Addr} {H H1 H2 : Hp} (a : UpP p H H1) (b : UpP p H1 H2) : UpP p H H2 := fun c o e n z => b c o (a c o e n z) n z
theorem UpP.set {p : Addr} {H J : Hp} {q : Addr} {o : HO} (u : UpP p H J) (n : H q = none) : UpP p H (upd J q o) := fun b r e h z => by rw [upd_ne (ne_of_none e n)]; exact u b r e h z
end HM
namespace HM
open PySem PySem.Spec PyProof.Rows L2
end HM
namespace HM
open PySem PySem.Spec PyProof.Rows L2
/-- a def of the text as the top has left it -/
structure DefAt (K : PySem.W.Frag) (x : Str) (st : Stmt) (f : Addr) (oc : Value) (od : Option Addr) (kV doc pm : Value) (an : Option Addr) (cdv ct : Value) (sl : Array (Option Value)) : Prop where
  a : PySem.W.nsIn K mainGlobals x = some (some (.ref f))
  l : K.lookup f = some ⟨oc, od, .func (PySem.W.fnOf x x (defArgs st) (defBody st) (defScope st) .none kV doc pm an cdv ct), sl⟩
  c : PySem.W.codeIn K cdv x = true
  k : PySem.W.keepIn K (.ref f) = true
theorem DefAt.fn {K : PySem.W.Frag} {x : Str} {st : Stmt} {f : Addr} {oc : Value} {od : Option Addr} {kV doc pm : Value} {an : Option Addr} {cdv ct : Value} {sl : Array (Option Value)} (D : DefAt K x st f oc od kV doc pm an cdv ct sl) : Fun K x x st f (PySem.W.fnOf x x (defArgs st) (defBody st) (defScope st) .none kV doc pm an cdv ct) := fun_mk D.l D.c D.k
/-- what is asked of a class of refusals whose objects are kept and asked -/
structure ExAt (K : PySem.W.Frag) (C Mk : Addr) : Prop where
  te : PySem.W.exmOne K (.ref C) (.ref Mk) = some true
  kC : PySem.W.kitOne K (.ref C) (.ref C) = some true
  kV : PySem.W.kitOne K (.ref C) (.type "ValueError") = some true
  xg : PySem.W.findIn K (.ref C) "__getattribute__" = some (some (.builtin "BaseException.__getattribute__"))
  xk : PySem.W.findIn K (.ref C) "__getattr__" = some none
  xs : PySem.W.subIn K (.ref C) (.type "BaseException") = some true
  xd : PySem.W.hasDictIn K C = true
  xa : PySem.W.findIn K (.ref C) "__class__" = some (some (.builtin "object.__class__"))
  xn : PySem.W.specialIn K (.builtin "object.__class__") "__get__" = some (some (.builtin "getset_descriptor.__get__"))
  xt : PySem.W.takesIn K (.builtin "object.__class__") = some true
  xm : PySem.W.mroIn K C (.type "object") = some true
theorem ExAt.X {K : PySem.W.Frag} {C Mk : Addr} (R : ExAt K C Mk) : ExcC K C := ⟨R.xg, R.xk, R.xs, R.xd, R.xa, R.xn, R.xt, R.xm⟩
theorem ExAt.F {K : PySem.W.Frag} {C Mk : Addr} (R : ExAt K C Mk) : XfC K C := ⟨R.xg, R.xk, R.xs, R.xd⟩
/-- a refusal with one field and its __init__, by the written part -/
structure InitAt (K : PySem.W.Frag) (st : Stmt) (qual : Str) (C fI cda cc : Addr) (nm q : Str) (N : Addr) (bs bm : List Value) (sn : List Str) (sub : List Value) (ab : Bool) (col : Option Bool) (dd : Option Addr) (k0 k1 k2 k3 k5 : Option Value) (oc : Value) (od : Option Addr) (kV doc pm : Value) (an : Option Addr) (ct : Value) (osl : Array (Option Value)) (ccl : Value) (cdd : Option Addr) (vs : Array Value) (ccs : Array (Option Value)) (tf : Tok) (cl : Value) (cld : Option Addr) (csl : Array (Option Value)) : Prop where
  c : K.lookup C = some (excClassObj nm q C N bs bm true sn sub ab col dd k0 k1 k2 k3 k5 "ValueError.__new__")
  bm : HandSPX.refsVE bm = true
  sa : PySem.W.findIn K (.ref C) "__setattr__" = some (some (.builtin "object.__setattr__"))
  veC : PySem.W.subIn K (.ref C) (.type "ValueError") = some true
  tyC : PySem.W.typeIn K (.ref C) = some (.type "type")
  kC : PySem.W.keepIn K (.ref C) = true
  iC : PySem.W.findIn K (.ref C) "__init__" = some (some (.ref fI))
  tI : PySem.W.typeIn K (.ref fI) = some (.type "function")
  lI : K.lookup fI = some ⟨oc, od, .func (PySem.W.ksFn "__init__" qual (defArgs st) (defBody st) (defScope st) .none kV doc pm an (.ref cda) ct cc), osl⟩
  hcd : PySem.W.codeIn K (.ref cda) qual = true
  hco : K.lookup cda = some ⟨ccl, cdd, .fields vs, ccs⟩
  hvs : vs[2]? = some (.str "/claim/cut.py" tf)
  hcc : K.lookup cc = some ⟨cl, cld, .cell (some (.ref C)), csl⟩
  su : PySem.W.nsIn K mainGlobals "super" = some none
  tp : PySem.W.nsIn K cStatics "thirdparty.any" = some none
  si : PySem.W.ks_superIn K C C "__init__" = some (some (.builtin "ValueError.__init__"))
  mr : PySem.W.mroIn K C (.ref C) = some true
  no : PySem.W.findIn K (.ref C) "at" = some none
theorem InitAt.noT {P : Program} {K : PySem.W.Frag} {st : Stmt} {qual : Str} {C Mk fI cda cc : Addr} {nm q : Str} {N : Addr} {bs bm : List Value} {sn : List Str} {sub : List Value} {ab : Bool} {col : Option Bool} {dd : Option Addr} {k0 k1 k2 k3 k5 : Option Value} {oc : Value} {od : Option Addr} {kV doc pm : Value} {an : Option Addr} {ct : Value} {osl : Array (Option Value)} {ccl : Value} {cdd : Option Addr} {vs : Array Value} {ccs : Array (Option Value)} {tf : Tok} {cl : Value} {cld : Option Addr} {csl : Array (Option Value)}
    (I : InitAt K st qual C fI cda cc nm q N bs bm sn sub ab col dd k0 k1 k2 k3 k5 oc od kV doc pm an ct osl ccl cdd vs ccs tf cl cld csl) (R : ExAt K C Mk) (hf : ((P.main.file : Str) == "/claim/cut.py") = true) (hsn : (P.main.scope.names.lookup ("super" : Str)).isSome = false) : NoT P st qual K C fI where
  T := ⟨⟨_, _, _, _, _, _, _, _, _, _, _, _, _, _, _, I.c, I.bm⟩, I.sa, R.xs, I.tyC, I.kC⟩
  iC := I.iC
  tI := I.tI
  fn := ⟨_, _, _, _, _, _, _, _, _, _, _, _, _, _, _, _, _, _, _, I.lI, I.hcd, I.hco, I.hvs, hf, I.hcc⟩
  veC := I.veC
  su := I.su
  tp := I.tp
  si := I.si
  mr := I.mr
  no := I.no
  tn := hsn
end HM
namespace HM
open PySem PySem.Spec PyProof.Rows L2
/-- all that was tracked is as it was, but for the one table at P -/
def UpK (P : Addr) (H H' : Hp) : Prop := ∀ b o, H b = some o → b ≠ P → H' b = some o
theorem UpK.refl (P : Addr) (H : Hp) : UpK P H H := fun _ _ e _ => e
theorem UpK.of_same {P : Addr} {H H' : Hp} (s : Same H H') : UpK P H H' := fun b o e _ => s b o e
theorem UpK.trans {P : Addr} {H H1 H2 : Hp} (a : UpK P H H1) (b : UpK P H1 H2) : UpK P H H2 := fun c o e n => b c o (a c o e n) n
theorem UpK.lay {P : Addr} {H J : Hp} {q : Addr} {o : HO} (u : UpK P H J) (n : J q = none) : UpK P H (upd J q o) := u.trans (.of_same (same_lay n))
theorem UpK.set {P : Addr} {H J : Hp} {q : Addr} {o : HO} (u : UpK P H J) (n : H q = none) : UpK P H (upd J q o) := fun b p e z => by rw [upd_ne (ne_of_none e n)]; exact u b p e z
theorem UpK.n {P : Addr} {H H' : Hp} (u : UpK P H H') (t : GxR.TabG H P) : UpN H H' := fun b o e z => u b o e fun q => by
  obtain ⟨ps, e2, _⟩ := t
  rw [q, e2] at e
  exact z ps (Option.some.inj e).symm
/-- another table -/
theorem UpK.tab {P Q : Addr} {H H' : Hp} (u : UpK P H H') (tP : GxR.TabG H' P) (tQ : GxR.TabG H Q) : GxR.TabG H' Q := by
  by_cases e : Q = P
  · rw [e]
    exact tP
  · obtain ⟨ps, e2, r⟩ := tQ
    exact ⟨ps, u _ _ e2 e, r⟩
end HM
namespace HM
open PySem PySem.Spec PyProof.Rows L2
section
variable {P : Program} {w : World} {A : Around} {E : Value → Shared → Prop} {s : Shared} {a : Addr} {L : List (Addr × List Int)} {es : Array (Int × Value)} {ep : Nat} {t : SetTable}
abbrev wk (m : Nat) (h : Int) (c : Nat) : SetTable.Probe := nth m (runAt m (SetTable.bits h % (m + 1)) (SetTable.bits h)) c
end
end HM
namespace HM
open PySem PySem.Spec PyProof.Rows L2
end HM
namespace TG
open PySem PySem.Spec PyProof.Rows L2
/-- the round, not yet cut -/
def su : Nat → Nat
  | 0 => 0
  | n + 1 => su n * 5 + 1
theorem su_add (a d : Nat) : su (a + d) = su a * 5 ^ d + su d := by
  induction d with
  | zero => simp [su]
  | succ d ih =>
    show su (a + d) * 5 + 1 = su a * 5 ^ (d + 1) + (su d * 5 + 1)
    rw [ih, Nat.pow_succ, Nat.add_mul, ← Nat.mul_assoc, Nat.add_assoc]
theorem su_odd (n : Nat) : su n % 2 = n % 2 := by
  induction n with
  | zero => rfl
  | succ n ih =>
    show (su n * 5 + 1) % 2 = (n + 1) % 2
    omega
theorem five_odd (n : Nat) : 5 ^ n % 4 = 1 := by
  induction n with
  | zero => rfl
  | succ n ih =>
    rw [Nat.pow_succ]
    omega
theorem su_two (e : Nat) : ∃ o, o % 2 = 1 ∧ su (e + e) = 2 * (o * su e) := by
  have h := five_odd e
  refine ⟨(5 ^ e + 1) / 2, by omega, ?_⟩
  rw [su_add]
  obtain ⟨q, hq⟩ : ∃ q, 5 ^ e = 4 * q + 1 := ⟨5 ^ e / 4, by omega⟩
  have e1 : (5 ^ e + 1) / 2 = 2 * q + 1 := by omega
  rw [e1, hq, Nat.mul_add, Nat.mul_one, Nat.add_mul, Nat.one_mul, Nat.mul_add, Nat.mul_comm (su e) (4 * q), show 2 * (2 * q * su e) = 4 * q * su e by rw [← Nat.mul_assoc, ← Nat.mul_assoc]]
  omega
theorem odd_dvd : ∀ (k : Nat) {o x : Nat}, o % 2 = 1 → 2 ^ k ∣ o * x → 2 ^ k ∣ x
  | 0, _, _, _, _ => by rw [Nat.pow_zero]; exact Nat.one_dvd _
  | k + 1, o, x, ho, h => by
    have he : x % 2 = 0 := by
      have h2 : 2 ∣ o * x := Nat.dvd_trans ⟨2 ^ k, by rw [Nat.pow_succ, Nat.mul_comm]⟩ h
      have h3 := Nat.mod_eq_zero_of_dvd h2
      rw [Nat.mul_mod, ho, Nat.one_mul, Nat.mod_mod] at h3
      exact h3
    obtain ⟨y, rfl⟩ : ∃ y, x = 2 * y := ⟨x / 2, by omega⟩
    rw [Nat.pow_succ, Nat.mul_comm (2 ^ k) 2] at h ⊢
    have h4 : 2 * 2 ^ k ∣ 2 * (o * y) := by
      rw [show 2 * (o * y) = o * (2 * y) by rw [← Nat.mul_assoc, ← Nat.mul_assoc, Nat.mul_comm 2 o]]
      exact h
    exact Nat.mul_dvd_mul_left 2 (odd_dvd k ho (Nat.dvd_of_mul_dvd_mul_left (by decide) h4))
theorem su_dvd : ∀ (k d : Nat), 2 ^ k ∣ su d → 2 ^ k ∣ d
  | 0, d, _ => by rw [Nat.pow_zero]; exact Nat.one_dvd _
  | k + 1, d, h => by
    have h2 : su d % 2 = 0 := Nat.mod_eq_zero_of_dvd (Nat.dvd_trans ⟨2 ^ k, by rw [Nat.pow_succ, Nat.mul_comm]⟩ h)
    rw [su_odd] at h2
    obtain ⟨e, rfl⟩ : ∃ e, d = e + e := ⟨d / 2, by omega⟩
    obtain ⟨o, ho, es⟩ := su_two e
    rw [es, Nat.pow_succ, Nat.mul_comm (2 ^ k) 2] at h
    have h3 := su_dvd k e (odd_dvd k ho (Nat.dvd_of_mul_dvd_mul_left (by decide) h))
    rw [← Nat.two_mul, Nat.pow_succ, Nat.mul_comm (2 ^ k) 2]
    exact Nat.mul_dvd_mul_left 2 h3
/-- the masks that come -/
def MG (m : Nat) : Prop := m = 7 ∨ m = 31 ∨ m = 127 ∨ m = 511 ∨ m = 2047 ∨ m = 8191
theorem MG.pow {m : Nat} (h : MG m) : ∃ k, 3 ≤ k ∧ k ≤ 13 ∧ m + 1 = 2 ^ k := by
  rcases h with rfl | rfl | rfl | rfl | rfl | rfl
  · exact ⟨3, by decide, by decide, by decide⟩
  · exact ⟨5, by decide, by decide, by decide⟩
  · exact ⟨7, by decide, by decide, by decide⟩
  · exact ⟨9, by decide, by decide, by decide⟩
  · exact ⟨11, by decide, by decide, by decide⟩
  · exact ⟨13, by decide, by decide, by decide⟩
theorem MG.le {m : Nat} (h : MG m) : m ≤ 8191 := by
  obtain ⟨k, _, h2, e⟩ := h.pow
  have : 2 ^ k ≤ 2 ^ 13 := Nat.pow_le_pow_right (by decide) h2
  have e2 : (2 : Nat) ^ 13 = 8192 := by decide
  omega
theorem lcgN_su (m : Nat) : ∀ n, lcgN m n = su n % (m + 1)
  | 0 => (Nat.zero_mod _).symm
  | n + 1 => by
    show (lcgN m n * 5 + 1) % (m + 1) = (su n * 5 + 1) % (m + 1)
    rw [lcgN_su m n, Nat.add_mod, Nat.mul_mod, Nat.mod_mod, ← Nat.mul_mod, ← Nat.add_mod]
theorem lcg_far {m : Nat} (h : MG m) {a d d2 : Nat} (h1 : d ≤ d2) (h2 : d2 ≤ m) (e : lcgN m (a + d) = lcgN m (a + d2)) : d = d2 := by
  obtain ⟨k, _, _, ek⟩ := h.pow
  rw [lcgN_su, lcgN_su, ek] at e
  obtain ⟨x, rfl⟩ : ∃ x, d2 = d + x := ⟨d2 - d, by omega⟩
  have e1 : su (a + (d + x)) = su (x + (a + d)) := by rw [Nat.add_comm x, Nat.add_assoc]
  rw [e1, su_add x (a + d)] at e
  have dv : 2 ^ k ∣ su x * 5 ^ (a + d) := by
    have z := Nat.sub_mod_eq_zero_of_mod_eq e.symm
    rw [Nat.add_sub_cancel] at z
    exact Nat.dvd_of_mod_eq_zero z
  have h5 : 5 ^ (a + d) % 2 = 1 := by
    have := five_odd (a + d)
    omega
  rw [Nat.mul_comm] at dv
  have := su_dvd k x (odd_dvd k h5 dv)
  rcases Nat.eq_zero_or_pos x with z | z
  · omega
  · have := Nat.le_of_dvd z this
    omega
/-- from anywhere each slot begins a run -/
theorem meets {m : Nat} (h : MG m) {i j : Nat} (hi : i ≤ m) (hj : j ≤ m) : ∃ k, k ≤ m ∧ lcgI m i k = j := by
  have onto : ∀ a j, j ≤ m → ∃ k, k ≤ m ∧ lcgN m (a + k) = j := fun a j hj => by
    have nd : ((List.range (m + 1)).map fun k => lcgN m (a + k)).Nodup := List.pairwise_map.mpr (List.Pairwise.imp_of_mem (fun {x y} hx hy hxy e => by
      have := lcg_far h (Nat.le_of_lt hxy) (Nat.le_of_lt_succ (List.mem_range.mp hy)) e
      omega) (List.pairwise_lt_range (n := m + 1)))
    have lt : ∀ b, lcgN m b ≤ m := fun b => by
      rw [lcgN_su]
      exact Nat.le_of_lt_succ (Nat.mod_lt _ (Nat.succ_pos m))
    refine Classical.byContradiction fun no => ?_
    have h1 := nat_nodup_len (j :: (List.range (m + 1)).map fun k => lcgN m (a + k)) (List.range (m + 1)) (List.nodup_cons.mpr ⟨fun hm => no ?_, nd⟩) fun x hx => ?_
    · rw [List.length_cons, List.length_map] at h1
      omega
    · obtain ⟨k, hk, e⟩ := List.mem_map.mp hm
      exact ⟨k, Nat.le_of_lt_succ (List.mem_range.mp hk), e⟩
    · rcases List.mem_cons.mp hx with rfl | hx
      · exact List.mem_range.mpr (Nat.lt_succ_of_le hj)
      · obtain ⟨k, _, rfl⟩ := List.mem_map.mp hx
        exact List.mem_range.mpr (Nat.lt_succ_of_le (lt _))
  obtain ⟨a, _, ea⟩ := onto 0 i hi
  rw [Nat.zero_add] at ea
  obtain ⟨k, hk, e⟩ := onto a j hj
  exact ⟨k, hk, by rw [← ea, lcgN_add]; exact e⟩
/-- the n-th run begins at slot j, for some n -/
theorem run_at {m : Nat} (hm : MG m) (h : Int) {j : Nat} (hj : j ≤ m) : ∃ n, n ≤ m + 12 ∧ runI m (SetTable.bits h) n = j := by
  obtain ⟨k, hk, e⟩ := meets hm (runI_le m (SetTable.bits h) 12) hj
  exact ⟨12 + k, by omega, (runI_tail (bits_lt h) k).trans e⟩
theorem way_in (m : Nat) (h : Int) (k : Nat) : way m h k ≤ m := by
  have r := runEnd_bd (m := m) (i := SetTable.bits h % (m + 1)) (Nat.le_of_lt_succ (Nat.mod_lt _ (Nat.succ_pos m)))
  have := nth_in (m := m) k (runAt m (SetTable.bits h % (m + 1)) (SetTable.bits h)) (show SetTable.bits h % (m + 1) + (SetTable.runEnd m (SetTable.bits h % (m + 1)) - SetTable.bits h % (m + 1)) ≤ m by omega)
  show (nth m _ k).j ≤ m
  omega
end TG
namespace TG
open PySem PySem.Spec PyProof.Rows L2
structure TabG (t : SetTable) (hs : List Int) : Prop where
  ris : Ris t.place.toList
  dm : t.dummies = #[]
  sz : t.place.size = hs.length
  mok : MG t.mask
  bd : ∀ x ∈ t.place.toList, x ≤ t.mask
  reach : ∀ (i : Nat) (h : Int) (j : Nat), hs[i]? = some h → t.place.toList[i]? = some j → ∃ k, way t.mask h k = j ∧ ∀ q, q < k → way t.mask h q ∈ t.place.toList
section
variable {t : SetTable} {hs : List Int} {h : Int}
theorem TabG.len (T : TabG t hs) : t.place.toList.length = hs.length := by rw [Array.length_toList]; exact T.sz
end
/-- who sits where: the numbers of the hashes laid so far -/
structure Lay (m : Nat) (done : List Int) (owner : Array (Option Nat)) : Prop where
  sz : owner.size = m + 1
  why : ∀ j k, j ≤ m → oAt owner j = some k → ∃ h K, done[k]? = some h ∧ way m h K = j ∧ ∀ q, q < K → oAt owner (way m h q) ≠ none
  all : ∀ k, k < done.length → ∃ j, j ≤ m ∧ oAt owner j = some k
  one : ∀ j j' k, j ≤ m → j' ≤ m → oAt owner j = some k → oAt owner j' = some k → j = j'
section
variable {m : Nat} {done : List Int} {owner : Array (Option Nat)}
theorem Lay.start (m : Nat) : Lay m [] (Array.replicate (m + 1) none) :=
  ⟨by simp, fun j k hj e => by rw [oAt_init hj] at e; (cases e), fun k hk => absurd hk (Nat.not_lt_zero k), fun j _ k hj _ e _ => by rw [oAt_init hj] at e; (cases e)⟩
theorem Lay.room (W : Lay m done owner) (hl : done.length ≤ m) : ∃ j, j ≤ m ∧ oAt owner j = none := by
  refine Classical.byContradiction fun no => ?_
  have occ : ∀ j, j ≤ m → ∃ k, oAt owner j = some k := fun j hj => by
    cases e : oAt owner j with
    | none => exact absurd ⟨j, hj, e⟩ no
    | some k => exact ⟨k, rfl⟩
  have h1 := nat_nodup_len ((List.range (m + 1)).map fun j => (oAt owner j).getD 0) (List.range done.length) (List.pairwise_map.mpr (List.Pairwise.imp_of_mem (fun {x y} hx hy hxy e => ?_) (List.pairwise_lt_range (n := m + 1)))) fun k hk => ?_
  · rw [List.length_map, List.length_range, List.length_range] at h1
    omega
  · have hx' := Nat.le_of_lt_succ (List.mem_range.mp hx)
    have hy' := Nat.le_of_lt_succ (List.mem_range.mp hy)
    obtain ⟨a, ea⟩ := occ x hx'
    obtain ⟨b, eb⟩ := occ y hy'
    rw [ea, eb] at e
    have e' : a = b := e
    subst e'
    have := W.one x y a hx' hy' ea eb
    omega
  · obtain ⟨j, hj, rfl⟩ := List.mem_map.mp hk
    have hj' := Nat.le_of_lt_succ (List.mem_range.mp hj)
    obtain ⟨a, ea⟩ := occ j hj'
    obtain ⟨h, K, q1, _⟩ := W.why j a hj' ea
    rw [ea]
    exact List.mem_range.mpr (List.getElem?_eq_some_iff.mp q1).1
/-- the search for a free slot ends at the first one of the way -/
theorem free_at (hm : MG m) (h : Int) {j : Nat} (hj : j ≤ m) (hf : oAt owner j = none) :
    ∃ K, SetTable.layClean.free m owner (SetTable.turns m) (SetTable.bits h % (m + 1)) (SetTable.bits h) = some (way m h K) ∧ oAt owner (way m h K) = none ∧ ∀ q, q < K → oAt owner (way m h q) ≠ none := by
  obtain ⟨n, hn, e⟩ := run_at hm h hj
  have ew : way m h (off m (SetTable.bits h % (m + 1)) (SetTable.bits h) n) = j := by
    show (nth m _ _).j = j
    rw [nth_off, itL_run]
    exact e
  obtain ⟨K, k1, k2, k3⟩ := st_least (p := fun k => oAt owner (way m h k) = none) (off m (SetTable.bits h % (m + 1)) (SetTable.bits h) n) (by rw [ew]; exact hf)
  refine ⟨K, free_spec m owner (SetTable.turns m) n _ _ K (by unfold SetTable.turns; omega) k1 (fun q hq => ?_) (by rw [show oAt owner (nth m _ K).j = none from k2]; rfl), k2, k3⟩
  cases z : oAt owner (nth m (runAt m (SetTable.bits h % (m + 1)) (SetTable.bits h)) q).j with
  | none => exact absurd z (k3 q hq)
  | some _ => rfl
theorem Lay.next (hm : MG m) (W : Lay m done owner) (hl : done.length ≤ m) (h : Int) :
    ∃ j, SetTable.layClean.free m owner (SetTable.turns m) (SetTable.bits h % (m + 1)) (SetTable.bits h) = some j ∧ Lay m (done ++ [h]) (owner.setIfInBounds j (some done.length)) := by
  obtain ⟨j0, hj0, e0⟩ := W.room hl
  obtain ⟨K, e1, e2, e3⟩ := free_at hm h hj0 e0
  obtain ⟨j, ej⟩ : ∃ j, way m h K = j := ⟨_, rfl⟩
  rw [ej] at e1 e2
  have hjm : j ≤ m := ej ▸ way_in m h K
  have self : oAt (owner.setIfInBounds j (some done.length)) j = some done.length := oAt_set_self _ (by rw [W.sz]; omega)
  have kept : ∀ {i : Nat}, oAt owner i ≠ none → oAt (owner.setIfInBounds j (some done.length)) i = oAt owner i := fun {i} hi => oAt_set_ne _ fun z => hi (by rw [z]; exact e2)
  have kept' : ∀ {i : Nat}, oAt owner i ≠ none → oAt (owner.setIfInBounds j (some done.length)) i ≠ none := fun {i} hi => by rw [kept hi]; exact hi
  have short : ∀ {i k : Nat}, i ≤ m → oAt owner i = some k → k < done.length := fun {i k} hi e => by
    obtain ⟨_, _, q, _⟩ := W.why i k hi e
    exact (List.getElem?_eq_some_iff.mp q).1
  have split : ∀ {i k : Nat}, oAt (owner.setIfInBounds j (some done.length)) i = some k → (i = j ∧ k = done.length) ∨ (i ≠ j ∧ oAt owner i = some k) := fun {i k} e => by
    by_cases c : i = j
    · rw [c, self] at e
      exact .inl ⟨c, (Option.some.inj e).symm⟩
    · rw [oAt_set_ne _ c] at e
      exact .inr ⟨c, e⟩
  refine ⟨j, e1, by rw [Array.size_setIfInBounds]; exact W.sz, fun i k hi e => ?_, fun k hk => ?_, fun i i' k hi hi' e e' => ?_⟩
  · rcases split e with ⟨rfl, rfl⟩ | ⟨_, e⟩
    · exact ⟨h, K, by rw [List.getElem?_append_right (Nat.le_refl _), Nat.sub_self]; rfl, ej, fun q hq => kept' (e3 q hq)⟩
    · obtain ⟨g, Q, a1, a2, a3⟩ := W.why i k hi e
      exact ⟨g, Q, by rw [List.getElem?_append_left (short hi e)]; exact a1, a2, fun q hq => kept' (a3 q hq)⟩
  · rw [List.length_append, List.length_singleton] at hk
    by_cases c : k = done.length
    · exact ⟨j, hjm, by rw [c]; exact self⟩
    · obtain ⟨i, hi, e⟩ := W.all k (by omega)
      exact ⟨i, hi, by rw [kept (by rw [e]; exact fun z => nomatch z)]; exact e⟩
  · rcases split e with ⟨rfl, rfl⟩ | ⟨_, e⟩
    · rcases split e' with ⟨rfl, _⟩ | ⟨_, e'⟩
      · rfl
      · exact absurd (short hi' e') (Nat.lt_irrefl _)
    · rcases split e' with ⟨_, rfl⟩ | ⟨_, e'⟩
      · exact absurd (short hi e) (Nat.lt_irrefl _)
      · exact W.one i i' k hi hi' e e'
end
end TG
namespace TG
open PySem PySem.Spec PyProof.Rows L2 HM
structure SetG (P : Program) (w : World) (h : Heap) (a : Addr) (L : List (Addr × List Int)) (es : Array (Int × Value)) (ep : Nat) (t : SetTable) : Prop where
  ob : ∃ o, h.get? a = some o ∧ o.ExactSet ∧ o.data = .set es ep t
  rows : es.toList = rowsOf P w L
  tab : TabG t (L.map fun p => thash P w p.2)
  nd : (L.map (·.2)).Nodup
  tup : ∀ p ∈ L, IsT P w h p.2 p.1
  plain : t.plain = true
  led : w.params.followText "set-order" = true ∨ t.led = true
  room : L.length * 5 < t.mask * 3
section
variable {P : Program} {w : World} {A : Around} {E : Value → Shared → Prop} {s : Shared} {a : Addr} {L : List (Addr × List Int)} {es : Array (Int × Value)} {ep : Nat} {t : SetTable}
/-- what the heap has of the set, its tuples left out -/
structure SetG0 (P : Program) (w : World) (h : Heap) (a : Addr) (L : List (Addr × List Int)) : Prop where
  ex : ∃ (es : Array (Int × Value)) (ep : Nat) (t : SetTable), (∃ o, h.get? a = some o ∧ o.ExactSet ∧ o.data = .set es ep t) ∧ es.toList = rowsOf P w L ∧ TabG t (L.map fun p => thash P w p.2) ∧ (L.map (·.2)).Nodup ∧ t.plain = true ∧
    (w.params.followText "set-order" = true ∨ t.led = true) ∧ L.length * 5 < t.mask * 3
theorem SetG.type (R : SetG P w s.heap a L es ep t) : s.TypeIs (.ref a) "set" := let ⟨o, g1, g2, _⟩ := R.ob; ⟨o, g1, g2.1⟩
end
/-- the set as a thing of the heap -/
def SetGO (P : Program) (w : World) (a : Addr) (L : List (Addr × List Int)) : HO := .ext fun h => SetG0 P w h a L
theorem SetG0.ok {P : Program} {w : World} {H : Hp} {h : Heap} {a : Addr} {L : List (Addr × List Int)} (R : SetG0 P w h a L) : ObjOk P w H h a (SetGO P w a L) := by
  have ⟨es, ep, t, ⟨o, ho, r⟩, q⟩ := R.ex
  refine ⟨R, ⟨o, ho⟩, fun h1 h2 p k => ?_⟩
  have ⟨es', ep', t', ⟨o', ho', r'⟩, q'⟩ := SetG0.ex p
  exact ⟨es', ep', t', ⟨o', k o' ho', r'⟩, q'⟩
end TG
namespace VL
open PySem PySem.Spec PyProof.Rows L2 HM
inductive Dt where
  | non | bl (b : Bool) | int (i : Int) | str (x : Str) | ty (n : String) | obj (a : Addr)
  | lst (ds : List Dt) | tup (ds : List Dt)
  | dic (ks : List (List Key)) (ds : List Dt) | dik (ks : List Key) (ds : List Dt)
  /-- a tuple whose object has no dict of its own -/
  | tuP (ds : List Dt)
mutual
inductive Rp (F : Hp) : V → Dt → Prop
  | non : Rp F .non .non
  | bl (b : Bool) : Rp F (.bl b) (.bl b)
  | int (i : Int) : Rp F (.int i) (.int i)
  | str (x : Str) : Rp F (.str x) (.str x)
  | ty (n : String) : Rp F (.ty n) (.ty n)
  | obj (a : Addr) : Rp F (.ref a) (.obj a)
  | lst {a : Addr} {xs : List V} {ds : List Dt} : F a = some (.lst xs) → Rps F xs ds → Rp F (.ref a) (.lst ds)
  | tup {a : Addr} {xs : List V} {ds : List Dt} : F a = some (.tup xs) → Rps F xs ds → Rp F (.ref a) (.tup ds)
  | dic {a : Addr} {od : Obj} {kvs : List (List Key × V)} {ks : List (List Key)} {ds : List Dt} : F a = some (.frz od (.dT kvs)) → kvs.map (·.1) = ks → Rps F (kvs.map (·.2)) ds → Rp F (.ref a) (.dic ks ds)
  | dik {a : Addr} {od : Obj} {kvs : List (Key × V)} {ks : List Key} {ds : List Dt} : F a = some (.frz od (.dK kvs)) → kvs.map (·.1) = ks → Rps F (kvs.map (·.2)) ds → Rp F (.ref a) (.dik ks ds)
  | tuP {a : Addr} {xs : List V} {ds : List Dt} : HM.TF F a xs → Rps F xs ds → Rp F (.ref a) (.tuP ds)
inductive Rps (F : Hp) : List V → List Dt → Prop
  | nil : Rps F [] []
  | cons {v : V} {vs : List V} {d : Dt} {ds : List Dt} : Rp F v d → Rps F vs ds → Rps F (v :: vs) (d :: ds)
end
/-- all of F is in F' -/
def Up (F F' : Hp) : Prop := ∀ a o, F a = some o → F' a = some o
theorem Up.refl (F : Hp) : Up F F := fun _ _ e => e
theorem Up.trans {a b c : Hp} (x : Up a b) (y : Up b c) : Up a c := fun q o e => y q o (x q o e)
theorem up_lay {H : Hp} {q : Addr} {o : HO} (n : H q = none) : Up H (upd H q o) := fun b u e => by rw [upd_ne (ne_of_none e n)]; exact e
theorem tf_up {F F' : Hp} {a : Addr} {xs : List V} (h : HM.TF F a xs) (u : Up F F') : HM.TF F' a xs := let ⟨o, hd, e⟩ := h; ⟨o, hd, u _ _ e⟩
mutual
theorem Rp.up {F F' : Hp} (u : Up F F') : ∀ {v : V} {d : Dt}, Rp F v d → Rp F' v d
  | _, _, .non => .non
  | _, _, .bl b => .bl b
  | _, _, .int i => .int i
  | _, _, .str x => .str x
  | _, _, .ty x => .ty x
  | _, _, .obj x => .obj x
  | _, _, .lst h t => .lst (u _ _ h) (Rps.up u t)
  | _, _, .tup h t => .tup (u _ _ h) (Rps.up u t)
  | _, _, .dic h e t => .dic (u _ _ h) e (Rps.up u t)
  | _, _, .dik h e t => .dik (u _ _ h) e (Rps.up u t)
  | _, _, .tuP h t => .tuP (tf_up h u) (Rps.up u t)
theorem Rps.up {F F' : Hp} (u : Up F F') : ∀ {v : List V} {d : List Dt}, Rps F v d → Rps F' v d
  | _, _, .nil => .nil
  | _, _, .cons h t => .cons (Rp.up u h) (Rps.up u t)
end
mutual
/-- no lists in it -/
def flat : Dt → Bool
  | .lst _ => false
  | .tup ds => flats ds
  | .dic _ _ => false
  | .dik _ _ => false
  | .tuP _ => false
  | _ => true
def flats : List Dt → Bool
  | [] => true
  | d :: ds => flat d && flats ds
end
mutual
theorem Rp.flat {F F' : Hp} (u : ∀ a xs, F a = some (.tup xs) → F' a = some (.tup xs)) : ∀ {v : V} {d : Dt}, Rp F v d → flat d = true → Rp F' v d
  | _, _, .non, _ => .non
  | _, _, .bl b, _ => .bl b
  | _, _, .int i, _ => .int i
  | _, _, .str x, _ => .str x
  | _, _, .ty x, _ => .ty x
  | _, _, .obj x, _ => .obj x
  | _, _, .lst h t, e => by simp [VL.flat] at e
  | _, _, .tup h t, e => .tup (u _ _ h) (Rps.flat u t (by simpa [VL.flat] using e))
  | _, _, .dic h _ t, e => by simp [VL.flat] at e
  | _, _, .dik h _ t, e => by simp [VL.flat] at e
  | _, _, .tuP h t, e => by simp [VL.flat] at e
theorem Rps.flat {F F' : Hp} (u : ∀ a xs, F a = some (.tup xs) → F' a = some (.tup xs)) : ∀ {v : List V} {d : List Dt}, Rps F v d → flats d = true → Rps F' v d
  | _, _, .nil, _ => .nil
  | _, d :: ds, .cons h t, e => by
    have e' : (VL.flat d && flats ds) = true := by simpa [flats] using e
    rw [Bool.and_eq_true] at e'
    exact .cons (Rp.flat u h e'.1) (Rps.flat u t e'.2)
end
theorem Rps.len {F : Hp} : ∀ {vs : List V} {ds : List Dt}, Rps F vs ds → vs.length = ds.length
  | _, _, .nil => rfl
  | _, _, .cons _ t => by rw [List.length_cons, List.length_cons, Rps.len t]
theorem Rps.get {F : Hp} : ∀ {vs : List V} {ds : List Dt} {i : Nat} {d : Dt}, Rps F vs ds → ds[i]? = some d → ∃ v, vs[i]? = some v ∧ Rp F v d
  | _, _, _, _, .nil, e => by simp at e
  | _, _, 0, _, .cons r _, e => by simp at e; subst e; exact ⟨_, rfl, r⟩
  | _, _, i + 1, d, .cons _ t, e => by
    obtain ⟨u, h1, h2⟩ := Rps.get (i := i) (d := d) t (by simpa using e)
    exact ⟨u, by simpa using h1, h2⟩
theorem Rps.append {F : Hp} : ∀ {vs ws : List V} {ds es : List Dt}, Rps F vs ds → Rps F ws es → Rps F (vs ++ ws) (ds ++ es)
  | _, _, _, _, .nil, s => s
  | _, _, _, _, .cons r t, s => .cons r (Rps.append t s)
theorem Rps.set {F : Hp} {v : V} {d : Dt} (r : Rp F v d) : ∀ {vs : List V} {ds : List Dt} (i : Nat), Rps F vs ds → Rps F (vs.set i v) (ds.set i d)
  | _, _, _, .nil => .nil
  | _, _, 0, .cons _ t => .cons r t
  | _, _, i + 1, .cons q t => .cons q (Rps.set r i t)
theorem Rps.erase {F : Hp} : ∀ {vs : List V} {ds : List Dt} (i : Nat), Rps F vs ds → Rps F (vs.eraseIdx i) (ds.eraseIdx i)
  | _, _, _, .nil => .nil
  | _, _, 0, .cons _ t => t
  | _, _, i + 1, .cons q t => .cons q (Rps.erase i t)
theorem Rps.dropLast {F : Hp} : ∀ {vs : List V} {ds : List Dt}, Rps F vs ds → Rps F vs.dropLast ds.dropLast
  | _, _, .nil => .nil
  | _, _, .cons _ .nil => .nil
  | _, _, .cons q (.cons r t) => .cons q (Rps.dropLast (.cons r t))
theorem Rps.take {F : Hp} : ∀ {vs : List V} {ds : List Dt} (i : Nat), Rps F vs ds → Rps F (vs.take i) (ds.take i)
  | _, _, 0, _ => .nil
  | _, _, _ + 1, .nil => .nil
  | _, _, i + 1, .cons q t => .cons q (Rps.take i t)
theorem Rps.drop {F : Hp} : ∀ {vs : List V} {ds : List Dt} (i : Nat), Rps F vs ds → Rps F (vs.drop i) (ds.drop i)
  | _, _, 0, r => r
  | _, _, _ + 1, .nil => .nil
  | _, _, i + 1, .cons q t => Rps.drop i t
theorem Rps.reverse {F : Hp} : ∀ {vs : List V} {ds : List Dt}, Rps F vs ds → Rps F vs.reverse ds.reverse
  | _, _, .nil => .nil
  | _, _, .cons q t => by
    rw [List.reverse_cons, List.reverse_cons]
    exact Rps.append (Rps.reverse t) (.cons q .nil)
theorem Rps.ints {F : Hp} : ∀ (ns : List Int), Rps F (ns.map V.int) (ns.map Dt.int)
  | [] => .nil
  | n :: ns => .cons (.int n) (Rps.ints ns)
theorem Rps.of_ints {F : Hp} : ∀ {vs : List V} {ns : List Int}, Rps F vs (ns.map Dt.int) → vs = ns.map V.int
  | _, [], .nil => rfl
  | _, n :: ns, .cons (.int _) t => by rw [List.map_cons, Rps.of_ints t]
theorem Rps.of_bools {F : Hp} : ∀ {vs : List V} {ns : List Bool}, Rps F vs (ns.map Dt.bl) → vs = ns.map V.bl
  | _, [], .nil => rfl
  | _, n :: ns, .cons (.bl _) t => by rw [List.map_cons, Rps.of_bools t]
/-- a thing that only its slot holds, and that may be written -/
inductive Con where
  | lst (ds : List Dt)
  | dK (kvs : List (Key × Dt))
  | dT (kvs : List (List Key × Dt))
  | set (w : World) (S : Int → Bool) (n : Nat)
  | setT (P : Program) (w : World) (ks : List (List Int))
inductive Sl where
  | no | fz (d : Dt) | ow (c : Con)
abbrev Ev := List Sl
def PrK {κ : Type} (F : Hp) : List (κ × V) → List (κ × Dt) → Prop := Paired fun (p : κ × V) (q : κ × Dt) => p.1 = q.1 ∧ Rp F p.2 q.2
def OwOk (F : Hp) (a : Addr) (o : HO) : Con → Prop
  | .lst ds => ∃ xs, o = .lst xs ∧ Rps F xs ds
  | .dK kvs => ∃ ks, o = .dK ks ∧ PrK F ks kvs
  | .dT kvs => ∃ ks, o = .dT ks ∧ PrK F ks kvs
  | .set w S n => o = SetO w a S n
  | .setT P w ks => ∃ L : List (Addr × List Int), o = TG.SetGO P w a L ∧ (L.map (·.2)).Perm ks ∧ ∀ p ∈ L, F p.1 = some (.tup (p.2.map V.int))
theorem PrK.up {κ : Type} {F F' : Hp} {a : List (κ × V)} {b : List (κ × Dt)} (u : Up F F') (h : PrK F a b) : PrK F' a b := Paired.mapP h fun _ _ z => ⟨z.1, z.2.up u⟩
theorem OwOk.up {F F' : Hp} {a : Addr} {o : HO} (u : Up F F') : ∀ {c : Con}, OwOk F a o c → OwOk F' a o c
  | .lst _, ⟨xs, e, r⟩ => ⟨xs, e, r.up u⟩
  | .dK _, ⟨ks, e, r⟩ => ⟨ks, e, PrK.up u r⟩
  | .dT _, ⟨ks, e, r⟩ => ⟨ks, e, PrK.up u r⟩
  | .set _ _ _, e => e
  | .setT _ _ _, ⟨L, e, h, r⟩ => ⟨L, e, h, fun p hp => u _ _ (r p hp)⟩
/-- no tuple -/
def NT (o : HO) : Prop := ∀ xs, o ≠ .tup xs
theorem OwOk.nt {F : Hp} {a : Addr} {o : HO} : ∀ {c : Con}, OwOk F a o c → NT o
  | .lst _, ⟨_, e, _⟩, _, z => by rw [e] at z; cases z
  | .dK _, ⟨_, e, _⟩, _, z => by rw [e] at z; cases z
  | .dT _, ⟨_, e, _⟩, _, z => by rw [e] at z; cases z
  | .set _ _ _, e, _, z => by
    have e' : o = SetO _ _ _ _ := e
    rw [e'] at z; cases z
  | .setT _ _ _, ⟨_, e, _⟩, _, z => by rw [e] at z; cases z
/-- code objects are kept -/
def CodeK (H H' : Hp) : Prop := ∀ b oc x, H b = some (.frz oc (.own x)) → H' b = H b
theorem codeK_upd {H : Hp} {p : Addr} {o : HO} (h : ∀ oc x, H p ≠ some (.frz oc (.own x))) : CodeK H (upd H p o) := fun b oc x e => upd_ne fun z => h oc x (z ▸ e)
theorem OwOk.nfrz {F : Hp} {a : Addr} {o : HO} : ∀ {c : Con}, OwOk F a o c → ∀ oc x, o ≠ .frz oc (.own x)
  | .lst _, ⟨_, e, _⟩, _, _, z => by rw [e] at z; cases z
  | .dK _, ⟨_, e, _⟩, _, _, z => by rw [e] at z; cases z
  | .dT _, ⟨_, e, _⟩, _, _, z => by rw [e] at z; cases z
  | .set _ _ _, e, _, _, z => by
    have e' : o = SetO _ _ _ _ := e
    rw [e'] at z; cases z
  | .setT _ _ _, ⟨_, e, _⟩, _, _, z => by rw [e] at z; cases z
/-- what runs along: the pen, the tables of generators -/
structure Am where
  sp : Addr → Prop
  ok : Nat → Hp → Hp → Prop
  trk : ∀ {n F H a}, ok n F H → sp a → H a ≠ none
  ntp : ∀ {n F H a xs}, ok n F H → sp a → H a ≠ some (.tup xs)
  mono : ∀ {n F F' H H'}, ok n F H → (∀ b, sp b → H' b = H b) → CodeK H H' → Up F F' → ok n F' H'
/-- what runs along asks nothing of what is still -/
class Plain (am : Am) : Prop where
  pl : ∀ {n F F' H}, am.ok n F H → am.ok n F' H
theorem CodeK.refl (H : Hp) : CodeK H H := fun _ _ _ _ => rfl
/-- where a def was entered: what was still, what stood -/
structure Fc where
  am : Am
  F0 : Hp
  H0 : Hp
def SlOk (c : Fc) (F H : Hp) (x : Option (Option V)) : Sl → Prop
  | .no => True
  | .fz d => ∃ v, x = some (some v) ∧ Rp F v d
  | .ow k => ∃ a o, x = some (some (.ref a)) ∧ F a = none ∧ c.H0 a = none ∧ ¬ c.am.sp a ∧ H a = some o ∧ OwOk F a o k
structure Rel (c : Fc) (F H : Hp) (σ : L2.St) (env : Ev) (n : Nat) : Prop where
  sub : Up F H
  spf : ∀ a, c.am.sp a → F a = none
  amb : c.am.ok n F H
  up0 : Up c.F0 F
  out0 : ∀ a o, c.H0 a = some o → NT o → c.F0 a = none → F a = none
  keep0 : ∀ a o, c.H0 a = some o → ¬ c.am.sp a → H a = some o
  len : σ.length = env.length
  sl : ∀ (i : Nat) (s : Sl), env[i]? = some s → SlOk c F H σ[i]? s
  apart : ∀ (i j : Nat) (a : Addr) (k k' : Con), i ≠ j → env[i]? = some (.ow k) → env[j]? = some (.ow k') → σ[i]? = some (some (.ref a)) → σ[j]? ≠ some (some (.ref a))
section
variable {c : Fc} {F H : Hp} {σ : L2.St} {env : Ev} {n : Nat} {p a : Addr} {o : HO}
theorem Rel.new0 (r : Rel c F H σ env n) (hp : H p = none) : c.H0 p = none ∧ ¬ c.am.sp p ∧ F p = none := by
  have h2 : ¬ c.am.sp p := fun z => c.am.trk r.amb z hp
  refine ⟨?_, h2, ?_⟩
  · cases e : c.H0 p with
    | none => rfl
    | some o => rw [r.keep0 p o e h2] at hp; cases hp
  · cases e : F p with
    | none => rfl
    | some o => rw [r.sub p o e] at hp; cases hp
theorem Rel.amb' (r : Rel c F H σ env n) {H' : Hp} (h : ∀ b, c.am.sp b → H' b = H b) (hc : CodeK H H') : c.am.ok n F H' := c.am.mono r.amb h hc (Up.refl F)
theorem Rel.ambU (r : Rel c F H σ env n) {F' : Hp} (u : Up F F') : c.am.ok n F' H := c.am.mono r.amb (fun _ _ => rfl) (CodeK.refl H) u
theorem SlOk.up {F' H' : Hp} {x : Option (Option V)} (u : Up F F') (k : ∀ a o, F a = none → H a = some o → c.H0 a = none → ¬ c.am.sp a → F' a = none ∧ H' a = some o) : ∀ {s : Sl}, SlOk c F H x s → SlOk c F' H' x s
  | .no, _ => trivial
  | .fz _, ⟨v, e, r⟩ => ⟨v, e, r.up u⟩
  | .ow _, ⟨a, o, e, f, h0, ns, h, w⟩ => ⟨a, o, e, (k a o f h h0 ns).1, h0, ns, (k a o f h h0 ns).2, w.up u⟩
/-- a new thing, not still -/
theorem Rel.lay (r : Rel c F H σ env n) (hp : H p = none) (o : HO) : Rel c F (upd H p o) σ env n := by
  obtain ⟨h0, ns, hf⟩ := r.new0 hp
  exact ⟨fun b u e => up_lay hp b u (r.sub b u e), r.spf, r.amb' (fun b hb => upd_ne fun z => ns (z ▸ hb)) (codeK_upd fun _ _ z => by rw [hp] at z; cases z), r.up0, r.out0, fun b u e nb => up_lay hp b u (r.keep0 b u e nb), r.len,
    fun i s e => (r.sl i s e).up (Up.refl F) fun b u fb hb _ _ => ⟨fb, up_lay hp b u hb⟩, r.apart⟩
/-- a new thing, still from now on -/
theorem Rel.layF (r : Rel c F H σ env n) (hp : H p = none) (o : HO) : Rel c (upd F p o) (upd H p o) σ env n := by
  obtain ⟨h0, ns, hf⟩ := r.new0 hp
  have r2 := r.lay hp o
  refine ⟨fun b u e => ?_, fun b hb => ?_, r2.ambU (up_lay hf), r.up0.trans (up_lay hf), fun b ob h1 nt h2 => ?_, r2.keep0, r.len, fun i s e => (r.sl i s e).up (up_lay hf) fun b u fb hb h0 nb => ?_, r.apart⟩
  · by_cases z : b = p
    · subst z; rw [upd_same] at e ⊢; exact e
    · rw [upd_ne z] at e ⊢; exact r.sub b u e
  · rw [upd_ne (fun (z : b = _) => ns (by rw [← z]; exact hb))]; exact r.spf b hb
  · rw [upd_ne (fun (z : b = _) => by rw [z, h0] at h1; cases h1)]; exact r.out0 b ob h1 nt h2
  · have z : b ≠ p := fun z => by rw [z, hp] at hb; cases hb
    rw [upd_ne z, upd_ne z]
    exact ⟨fb, hb⟩
/-- what is still may grow by what stands nowhere -/
theorem Rel.setF {v : V} {d : Dt} {i : Nat} (r : Rel c F H σ env n) (h : Rp F v d) : Rel c F H (σ.set i (some v)) (env.set i (.fz d)) n := by
  refine ⟨r.sub, r.spf, r.amb, r.up0, r.out0, r.keep0, by rw [List.length_set, List.length_set]; exact r.len, fun j s e => ?_, fun j l b k k' hjl e1 e2 e3 => ?_⟩
  · by_cases z : j = i
    · subst z
      have hl : j < env.length := by
        have := (List.getElem?_eq_some_iff.mp e).1
        rwa [List.length_set] at this
      rw [List.getElem?_set_self hl] at e
      cases e
      exact ⟨v, by rw [List.getElem?_set_self (by rw [r.len]; exact hl)], h⟩
    · rw [List.getElem?_set_ne (Ne.symm z)] at e ⊢
      exact r.sl j s e
  · have f : ∀ {j : Nat} {k : Con}, (env.set i (.fz d))[j]? = some (.ow k) → j ≠ i ∧ env[j]? = some (.ow k) := fun {j k} e => by
      by_cases z : j = i
      · subst z
        have hl : j < env.length := by
          have := (List.getElem?_eq_some_iff.mp e).1
          rwa [List.length_set] at this
        rw [List.getElem?_set_self hl] at e
        cases e
      · rw [List.getElem?_set_ne (Ne.symm z)] at e
        exact ⟨z, e⟩
    obtain ⟨n1, f1⟩ := f e1
    obtain ⟨n2, f2⟩ := f e2
    rw [List.getElem?_set_ne (Ne.symm n1)] at e3
    rw [List.getElem?_set_ne (Ne.symm n2)]
    exact r.apart j l b k k' hjl f1 f2 e3
/-- a new thing goes to its own slot -/
theorem Rel.setO {k : Con} {i : Nat} (r : Rel c F H σ env n) (hF : F a = none) (h0 : c.H0 a = none) (ns : ¬ c.am.sp a) (hH : H a = some o) (w : OwOk F a o k) (ha : ∀ (j : Nat) k', env[j]? = some (.ow k') → σ[j]? ≠ some (some (.ref a))) : Rel c F H (σ.set i (some (.ref a))) (env.set i (.ow k)) n := by
  refine ⟨r.sub, r.spf, r.amb, r.up0, r.out0, r.keep0, by rw [List.length_set, List.length_set]; exact r.len, fun j s e => ?_, fun j l b k1 k2 hjl e1 e2 e3 => ?_⟩
  · by_cases z : j = i
    · subst z
      have hl : j < env.length := by
        have := (List.getElem?_eq_some_iff.mp e).1
        rwa [List.length_set] at this
      rw [List.getElem?_set_self hl] at e
      cases e
      exact ⟨a, o, by rw [List.getElem?_set_self (by rw [r.len]; exact hl)], hF, h0, ns, hH, w⟩
    · rw [List.getElem?_set_ne (Ne.symm z)] at e ⊢
      exact r.sl j s e
  · by_cases zj : j = i
    · subst zj
      have hl : j < env.length := by
        have := (List.getElem?_eq_some_iff.mp e1).1
        rwa [List.length_set] at this
      rw [List.getElem?_set_self (by rw [r.len]; exact hl)] at e3
      cases e3
      rw [List.getElem?_set_ne hjl] at e2 ⊢
      exact ha l k2 e2
    · rw [List.getElem?_set_ne (Ne.symm zj)] at e1 e3
      by_cases zl : l = i
      · subst zl
        have hl : l < env.length := by
          have := (List.getElem?_eq_some_iff.mp e2).1
          rwa [List.length_set] at this
        rw [List.getElem?_set_self (by rw [r.len]; exact hl)]
        intro z
        cases z
        exact ha j k1 e1 e3
      · rw [List.getElem?_set_ne (Ne.symm zl)] at e2 ⊢
        exact r.apart j l b k1 k2 hjl e1 e2 e3
/-- the thing of a slot is written -/
theorem Rel.write {k k' : Con} {o' : HO} {i : Nat} (r : Rel c F H σ env n) (hi : env[i]? = some (.ow k)) (ha : σ[i]? = some (some (.ref a))) (w : OwOk F a o' k') : Rel c F (upd H a o') σ (env.set i (.ow k')) n := by
  obtain ⟨a', o, e1, hF, h0, ns, hH, wo⟩ := r.sl i _ hi
  rw [ha] at e1
  cases e1
  refine ⟨fun b u e => ?_, r.spf, r.amb' (fun b hb => upd_ne fun z => ns (z ▸ hb)) (codeK_upd fun oc x z => wo.nfrz oc x (by rw [hH] at z; exact Option.some.inj z)), r.up0, r.out0, fun b u e nb => ?_, by rw [List.length_set]; exact r.len, fun j s e => ?_, fun j l b k1 k2 hjl e1 e2 e3 => ?_⟩
  · rw [upd_ne fun z => by rw [z, hF] at e; cases e]; exact r.sub b u e
  · rw [upd_ne fun z => by rw [z, h0] at e; cases e]; exact r.keep0 b u e nb
  · by_cases z : j = i
    · subst z
      rw [List.getElem?_set_self (List.getElem?_eq_some_iff.mp hi).1] at e
      cases e
      exact ⟨a, o', ha, hF, h0, ns, upd_same, w⟩
    · rw [List.getElem?_set_ne (Ne.symm z)] at e
      have q := r.sl j s e
      cases s with
      | no => trivial
      | fz d => exact q
      | ow kk =>
        obtain ⟨a2, o2, g1, g2, g3, g4, g5, g6⟩ := q
        refine ⟨a2, o2, g1, g2, g3, g4, ?_, g6⟩
        rw [upd_ne fun z2 => r.apart i j a k kk (Ne.symm z) hi e ha (by rw [g1, z2])]
        exact g5
  · have f : ∀ {j : Nat} {k1 : Con}, (env.set i (.ow k'))[j]? = some (.ow k1) → ∃ k2, env[j]? = some (.ow k2) := fun {j k1} e => by
      by_cases z : j = i
      · exact ⟨k, z ▸ hi⟩
      · rw [List.getElem?_set_ne (Ne.symm z)] at e
        exact ⟨_, e⟩
    obtain ⟨_, f1⟩ := f e1
    obtain ⟨_, f2⟩ := f e2
    exact r.apart j l b _ _ hjl f1 f2 e3
/-- the thing of a slot is still from now on -/
theorem Rel.freeze {ds : List Dt} {i : Nat} (r : Rel c F H σ env n) (hi : env[i]? = some (.ow (.lst ds))) : ∃ a F', σ[i]? = some (some (.ref a)) ∧ Up F F' ∧ Rp F' (.ref a) (.lst ds) ∧ Rel c F' H σ (env.set i (.fz (.lst ds))) n := by
  obtain ⟨a, o, e1, hF, h0, ns, hH, xs, rfl, rx⟩ := r.sl i _ hi
  have hrp : Rp (upd F a (.lst xs)) (.ref a) (.lst ds) := .lst upd_same (rx.up (up_lay hF))
  refine ⟨a, upd F a (.lst xs), e1, up_lay hF, hrp, ?_⟩
  refine ⟨fun b u e => ?_, fun b hb => ?_, r.ambU (up_lay hF), r.up0.trans (up_lay hF), fun b ob h1 nt h2 => ?_, r.keep0, by rw [List.length_set]; exact r.len, fun j s e => ?_, fun j l b k1 k2 hjl e1 e2 e3 => ?_⟩
  · by_cases z : b = a
    · subst z; rw [upd_same] at e; cases e; exact hH
    · rw [upd_ne z] at e; exact r.sub b u e
  · rw [upd_ne (fun (z : b = _) => ns (by rw [← z]; exact hb))]; exact r.spf b hb
  · rw [upd_ne (fun (z : b = _) => by rw [z, h0] at h1; cases h1)]; exact r.out0 b ob h1 nt h2
  · by_cases z : j = i
    · subst z
      rw [List.getElem?_set_self (List.getElem?_eq_some_iff.mp hi).1] at e
      cases e
      exact ⟨_, e1, hrp⟩
    · rw [List.getElem?_set_ne (Ne.symm z)] at e
      have q := r.sl j s e
      cases s with
      | no => trivial
      | fz d => exact let ⟨v, g1, g2⟩ := q; ⟨v, g1, g2.up (up_lay hF)⟩
      | ow kk =>
        obtain ⟨a2, o2, g1, g2, g3, g4, g5, g6⟩ := q
        refine ⟨a2, o2, g1, ?_, g3, g4, g5, g6.up (up_lay hF)⟩
        rw [upd_ne fun z2 => r.apart i j a _ kk (Ne.symm z) hi e e1 (by rw [g1, z2])]
        exact g2
  · have f : ∀ {j : Nat} {k1 : Con}, (env.set i (.fz (.lst ds)))[j]? = some (.ow k1) → env[j]? = some (.ow k1) := fun {j k1} e => by
      by_cases z : j = i
      · subst z
        rw [List.getElem?_set_self (List.getElem?_eq_some_iff.mp hi).1] at e
        cases e
      · rw [List.getElem?_set_ne (Ne.symm z)] at e
        exact e
    exact r.apart j l b k1 k2 hjl (f e1) (f e2) e3
/-- slots may be forgotten -/
theorem Rel.weak {σ' : L2.St} {env' : Ev} (r : Rel c F H σ env n) (hl : σ'.length = env'.length) (h : ∀ (i : Nat) s, env'[i]? = some s → s = .no ∨ (env[i]? = some s ∧ σ'[i]? = σ[i]?)) : Rel c F H σ' env' n := by
  refine ⟨r.sub, r.spf, r.amb, r.up0, r.out0, r.keep0, hl, fun i s e => ?_, fun j l b k1 k2 hjl e1 e2 e3 => ?_⟩
  · rcases h i s e with rfl | ⟨h1, h2⟩
    · trivial
    · rw [h2]; exact r.sl i s h1
  · rcases h j _ e1 with z | ⟨h1, h2⟩
    · cases z
    · rcases h l _ e2 with z | ⟨h3, h4⟩
      · cases z
      · rw [h2] at e3
        rw [h4]
        exact r.apart j l b k1 k2 hjl h1 h3 e3
/-- behind a call that wrote nothing of ours -/
theorem Rel.call {F' H' : Hp} {n' : Nat} (r : Rel c F H σ env n) (u : Up F F') (sb : Up F' H') (sf : ∀ a, c.am.sp a → F' a = none) (ot : ∀ a o, H a = some o → NT o → F a = none → F' a = none) (kp : ∀ a o, H a = some o → ¬ c.am.sp a → H' a = some o) (am : c.am.ok n' F' H') : Rel c F' H' σ env n' := by
  refine ⟨sb, sf, am, r.up0.trans u, fun b ob h1 nt h2 => ?_, fun b o e nb => kp b o (r.keep0 b o e nb) nb, r.len, fun i s e => ?_, r.apart⟩
  · by_cases hs : c.am.sp b
    · exact sf b hs
    · exact ot b ob (r.keep0 b ob h1 hs) nt (r.out0 b ob h1 nt h2)
  · have q := r.sl i s e
    cases s with
    | no => trivial
    | fz d => exact let ⟨v, g1, g2⟩ := q; ⟨v, g1, g2.up u⟩
    | ow k =>
      obtain ⟨a, o, g1, g2, g3, g4, g5, g6⟩ := q
      exact ⟨a, o, g1, ot a o g5 g6.nt g2, g3, g4, kp a o g5 g4, g6.up u⟩
/-- a tuple that stands may be held still -/
theorem Rel.addT {xs : List V} (r : Rel c F H σ env n) (h : H a = some (.tup xs)) : Rel c (upd F a (.tup xs)) H σ env n ∧ Up F (upd F a (.tup xs)) := by
  have up : Up F (upd F a (.tup xs)) := fun b o e => by
    by_cases z : b = a
    · subst z
      rw [r.sub _ _ e] at h
      cases h
      exact upd_same
    · rw [upd_ne z]; exact e
  refine ⟨⟨fun b o e => ?_, fun b hb => ?_, r.ambU up, r.up0.trans up, fun b ob h1 nt h2 => ?_, r.keep0, r.len, fun i s e => ?_, r.apart⟩, up⟩
  · by_cases z : b = a
    · subst z; rw [upd_same] at e; cases e; exact h
    · rw [upd_ne z] at e; exact r.sub b o e
  · rw [upd_ne (fun (z : b = a) => c.am.ntp r.amb hb (by rw [z]; exact h))]; exact r.spf b hb
  · by_cases z : b = a
    · subst z
      by_cases hs : c.am.sp b
      · exact absurd h (c.am.ntp r.amb hs)
      · have := r.keep0 b ob h1 hs
        rw [h] at this
        cases this
        exact absurd rfl (nt xs)
    · rw [upd_ne z]; exact r.out0 b ob h1 nt h2
  · have q := r.sl i s e
    cases s with
    | no => trivial
    | fz d => exact let ⟨v, g1, g2⟩ := q; ⟨v, g1, g2.up up⟩
    | ow k =>
      obtain ⟨a2, o, g1, g2, g3, g4, g5, g6⟩ := q
      refine ⟨a2, o, g1, ?_, g3, g4, g5, g6.up up⟩
      rw [upd_ne fun z => by
        rw [z, h] at g5
        cases g5
        exact absurd rfl (g6.nt xs)]
      exact g2
end
end VL
namespace VL
open PySem PySem.Spec PyProof.Rows L2 HM
abbrev VTE := Ev → Nat → (Dt → Ev → Nat → Prop) → Prop
abbrev VTT := Ev → Nat → (Bool → Ev → Nat → Prop) → Prop
abbrev VTA := Ev → Nat → (List Dt → Ev → Nat → Prop) → Prop
abbrev VTN := Ev → Nat → (Con → Ev → Nat → Prop) → Prop
structure VEn where
  nx : Ev → Nat → Prop
  rt : Dt → Nat → Prop
  bk : Ev → Nat → Prop := fun _ _ => False
  ct : Ev → Nat → Prop := fun _ _ => False
abbrev VTS := VEn → Ev → Nat → Prop
abbrev VTG := Dt → Ev → Nat → (Ev → Nat → Prop) → Prop
abbrev VTGs := List Dt → Ev → Nat → (Ev → Nat → Prop) → Prop
abbrev VTI := Ev → Nat → (List Dt → Ev → Nat → Prop) → Prop
/-- a still value -/
def tOf (c : Fc) (te : VTE) : TE := fun σ H R => ∃ F env n Q, Rel c F H σ env n ∧ te env n Q ∧ ∀ v H' F' d env' n', Rel c F' H' σ env' n' → Up F F' → Rp F' v d → Q d env' n' → R v H'
/-- what is still, and some lists of one's own beside -/
structure Gx (c : Fc) (F H G : Hp) : Prop where
  u1 : Up F G
  u2 : Up G H
  sp : ∀ a, c.am.sp a → G a = none
  tp : ∀ a xs, G a = some (.tup xs) → F a = some (.tup xs)
theorem Rel.gx {c : Fc} {F H : Hp} {σ : L2.St} {env : Ev} {n : Nat} (r : Rel c F H σ env n) : Gx c F H F := ⟨Up.refl F, r.sub, r.spf, fun _ _ e => e⟩
/-- a value that is read at once -/
def rOf (c : Fc) (te : VTE) : TE := fun σ H R => ∃ F env n Q, Rel c F H σ env n ∧ te env n Q ∧ ∀ v H' F' G d env' n', Rel c F' H' σ env' n' → Up F F' → Gx c F' H' G → Rp G v d → Q d env' n' → R v H'
/-- a new thing -/
def nOf (c : Fc) (te : VTN) : TE := fun σ H R => ∃ F env n Q, Rel c F H σ env n ∧ te env n Q ∧ ∀ a o H' F' k env' n', Rel c F' H' σ env' n' → Up F F' → F' a = none → c.H0 a = none → ¬ c.am.sp a → H' a = some o → OwOk F' a o k → (∀ (j : Nat) k', env'[j]? = some (.ow k') → σ[j]? ≠ some (some (.ref a))) → Q k env' n' → R (.ref a) H'
def aOf (c : Fc) (ta : VTA) : TA := fun σ H R => ∃ F env n Q, Rel c F H σ env n ∧ ta env n Q ∧ ∀ vs H' F' ds env' n', Rel c F' H' σ env' n' → Up F F' → Rps F' vs ds → Q ds env' n' → R vs H'
def bOf (c : Fc) (ta : VTA) : TA := fun σ H R => ∃ F env n Q, Rel c F H σ env n ∧ ta env n Q ∧ ∀ vs H' F' G ds env' n', Rel c F' H' σ env' n' → Up F F' → Gx c F' H' G → Rps G vs ds → Q ds env' n' → R vs H'
def cOf (c : Fc) (tt : VTT) : TT := fun σ H R => ∃ F env n Q, Rel c F H σ env n ∧ tt env n Q ∧ ∀ b H' F' env' n', Rel c F' H' σ env' n' → Up F F' → Q b env' n' → R b H'
structure EnOk (c : Fc) (F : Hp) (V : VEn) (D : Ends) : Prop where
  nx : ∀ F' H' σ' env' n', Rel c F' H' σ' env' n' → Up F F' → V.nx env' n' → D.nx σ' H'
  rt : ∀ F' H' σ' env' n' v d, Rel c F' H' σ' env' n' → Up F F' → Rp F' v d → V.rt d n' → D.rt v H'
  bk : ∀ F' H' σ' env' n', Rel c F' H' σ' env' n' → Up F F' → V.bk env' n' → D.bk σ' H'
  ct : ∀ F' H' σ' env' n', Rel c F' H' σ' env' n' → Up F F' → V.ct env' n' → D.ct σ' H'
theorem EnOk.up {c : Fc} {F F' : Hp} {V : VEn} {D : Ends} (h : EnOk c F V D) (u : Up F F') : EnOk c F' V D :=
  ⟨fun F2 H' σ' env' n' r w => h.nx F2 H' σ' env' n' r (u.trans w), fun F2 H' σ' env' n' v d r w => h.rt F2 H' σ' env' n' v d r (u.trans w), fun F2 H' σ' env' n' r w => h.bk F2 H' σ' env' n' r (u.trans w), fun F2 H' σ' env' n' r w => h.ct F2 H' σ' env' n' r (u.trans w)⟩
def sOf (c : Fc) (ts : VTS) : TS := fun D σ H => ∃ F env n V, Rel c F H σ env n ∧ ts V env n ∧ EnOk c F V D
def gOf (c : Fc) (g : VTG) : TG := fun v σ H R => ∃ F env n d Q, Rel c F H σ env n ∧ Rp F v d ∧ g d env n Q ∧ ∀ σ' H' F' env' n', Rel c F' H' σ' env' n' → Up F F' → Q env' n' → R σ' H'
def gsOf (c : Fc) (g : VTGs) : TGs := fun vs σ H R => ∃ F env n ds Q, Rel c F H σ env n ∧ Rps F vs ds ∧ g ds env n Q ∧ ∀ σ' H' F' env' n', Rel c F' H' σ' env' n' → Up F F' → Q env' n' → R σ' H'
/-- what is walked: the things xs, one by one -/
def Wk (am : Am) (J : It) (F0 : Hp) (xs : List Dt) : Prop := ∀ (c : Fc), c.am = am → ∀ F H σ env n, Rel c F H σ env n → Up F0 F → ∀ i : Nat,
  (i < xs.length → J.go i H ∧ ∀ x H', J.yld i H x H' → ∃ F' d, Rel c F' H' σ env n ∧ Up F F' ∧ xs[i]? = some d ∧ Rp F' x d) ∧ (xs.length ≤ i → J.stop i H)
def iOf (c : Fc) (wi : VTI) : TI := fun σ H R => ∃ F env n Q, Rel c F H σ env n ∧ wi env n Q ∧ ∀ J H' F' xs env' n', Rel c F' H' σ env' n' → Up F F' → Wk c.am J F' xs → Q xs env' n' → R J H'
theorem PE.imp {X : Cx} {e : Expr} {t t' : TE} (h : PE X e t) (k : ∀ σ H R, t' σ H R → t σ H R) : PE X e t' := ⟨fun pins s σ H Q I q => h.run pins s σ H Q I (k _ _ _ q)⟩
theorem PT.imp {X : Cx} {e : Expr} {t t' : TT} (h : PT X e t) (k : ∀ σ H R, t' σ H R → t σ H R) : PT X e t' := ⟨fun pins s σ H Q I q => h.run pins s σ H Q I (k _ _ _ q)⟩
theorem PW.imp {X : Cx} {e : Expr} {t t' : TT} (h : PW X e t) (k : ∀ σ H R, t' σ H R → t σ H R) : PW X e t' := ⟨fun wh pins s σ H Q I q => h.run wh pins s σ H Q I (k _ _ _ q)⟩
theorem PA.imp {X : Cx} {e : List Expr} {t t' : TA} (h : PA X e t) (k : ∀ σ H R, t' σ H R → t σ H R) : PA X e t' := ⟨fun pos pins s σ H Q I q => h.run pos pins s σ H Q I (k _ _ _ q)⟩
theorem PS.imp {X : Cx} {e : Stmt} {t t' : TS} (h : PS X e t) (k : ∀ D σ H, t' D σ H → t D σ H) : PS X e t' := ⟨fun pins s σ H D I q => h.run pins s σ H D I (k _ _ _ q)⟩
theorem PSs.imp {X : Cx} {e : List Stmt} {t t' : TS} (h : PSs X e t) (k : ∀ D σ H, t' D σ H → t D σ H) : PSs X e t' := ⟨fun pins s σ H D I q => h.run pins s σ H D I (k _ _ _ q)⟩
theorem PG.imp {X : Cx} {e : Expr} {t t' : TG} (h : PG X e t) (k : ∀ v σ H R, t' v σ H R → t v σ H R) : PG X e t' := ⟨fun pins s σ H v u Q I r q => h.run pins s σ H v u Q I r (k _ _ _ _ q)⟩
theorem PGs.imp {X : Cx} {e : List Expr} {t t' : TGs} (h : PGs X e t) (k : ∀ v σ H R, t' v σ H R → t v σ H R) : PGs X e t' := ⟨fun pins s σ H v u Q I r q => h.run pins s σ H v u Q I r (k _ _ _ _ q)⟩
theorem PI.imp {X : Cx} {tg e : Expr} {t t' : TI} (h : PI X tg e t) (k : ∀ σ H R, t' σ H R → t σ H R) : PI X tg e t' := ⟨fun pins s σ H Q I q => h.run pins s σ H Q I (k _ _ _ q)⟩
section
variable {c : Fc} {X : Cx} {a b : Expr} {ta tb : VTE} {pos : Pos}
def vVar (i : Nat) : VTE := fun env n Q => ∃ d, env[i]? = some (.fz d) ∧ Q d env n
/-- a thing of one's own, still from now on -/
def vMv (i : Nat) : VTE := fun env n Q => ∃ ds, env[i]? = some (.ow (.lst ds)) ∧ Q (.lst ds) (env.set i (.fz (.lst ds))) n
/-- a thing of one's own, or a still one, just read -/
def vRd (i : Nat) : VTE := fun env n Q => ∃ d, (env[i]? = some (.fz d) ∨ ∃ ds, env[i]? = some (.ow (.lst ds)) ∧ d = .lst ds) ∧ Q d env n
def vC (d : Dt) : VTE := fun env n Q => Q d env n
theorem tVar_of {i : Nat} {σ : L2.St} {H : Hp} {R : VK} (h : tOf c (vVar i) σ H R) : tVar i σ H R := by
  obtain ⟨F, env, n, Q, r, ⟨d, e, q⟩, k⟩ := h
  obtain ⟨v, e2, rp⟩ := r.sl i _ e
  exact ⟨v, e2, k v H F d env n r (Up.refl F) rp q⟩
theorem ve_var {i : Nat} {x : Str} (h : PE X (.Name x pos) (tVar i)) : PE X (.Name x pos) (tOf c (vVar i)) := PE.imp h fun _ _ _ => tVar_of
theorem ve_mv {i : Nat} {x : Str} (h : PE X (.Name x pos) (tVar i)) : PE X (.Name x pos) (tOf c (vMv i)) := PE.imp h fun σ H R ⟨F, env, n, Q, r, ⟨ds, e, q⟩, k⟩ => by
  obtain ⟨a, F', e2, u, rp, r'⟩ := r.freeze e
  exact ⟨.ref a, e2, k _ H F' _ _ n r' u rp q⟩
theorem Rel.rdOwn {F H : Hp} {σ : L2.St} {env : Ev} {n : Nat} {i : Nat} {ds : List Dt} (r : Rel c F H σ env n) (e : env[i]? = some (.ow (.lst ds))) : ∃ a xs, σ[i]? = some (some (.ref a)) ∧ H a = some (.lst xs) ∧ Rps F xs ds := by
  obtain ⟨a, o, e2, _, _, _, hH, xs, rfl, rx⟩ := r.sl i _ e
  exact ⟨a, xs, e2, hH, rx⟩
/-- a list of one's own beside what is still -/
theorem Gx.add {F H G : Hp} {σ : L2.St} {env : Ev} {n : Nat} {i : Nat} {ds : List Dt} (r : Rel c F H σ env n) (g : Gx c F H G) (e : env[i]? = some (.ow (.lst ds))) : ∃ a G', σ[i]? = some (some (.ref a)) ∧ Gx c F H G' ∧ Up G G' ∧ Rp G' (.ref a) (.lst ds) := by
  obtain ⟨a, o, e2, hF, h0, ns, hH, xs, rfl, rx⟩ := r.sl i _ e
  have up : Up G (upd G a (.lst xs)) := fun b u q => by
    by_cases z : b = a
    · subst z
      rw [g.u2 _ _ q] at hH
      cases hH
      exact upd_same
    · rw [upd_ne z]; exact q
  refine ⟨a, upd G a (.lst xs), e2, ⟨g.u1.trans up, fun b u q => ?_, fun b hb => ?_, fun b ys q => ?_⟩, up, .lst upd_same (rx.up (g.u1.trans up))⟩
  · by_cases z : b = a
    · subst z; rw [upd_same] at q; cases q; exact hH
    · rw [upd_ne z] at q; exact g.u2 b u q
  · rw [upd_ne (fun (z : b = a) => ns (by rw [← z]; exact hb))]; exact g.sp b hb
  · by_cases z : b = a
    · subst z; rw [upd_same] at q; cases q
    · rw [upd_ne z] at q; exact g.tp b ys q
theorem vr_var {i : Nat} {x : Str} (h : PE X (.Name x pos) (tVar i)) : PE X (.Name x pos) (rOf c (vRd i)) := PE.imp h fun σ H R ⟨F, env, n, Q, r, ⟨d, e, q⟩, k⟩ => by
  rcases e with e | ⟨ds, e, rfl⟩
  · obtain ⟨v, e2, rp⟩ := r.sl i _ e
    exact ⟨v, e2, k v H F F d env n r (Up.refl F) r.gx rp q⟩
  · obtain ⟨a, G, e2, g, _, rp⟩ := r.gx.add r e
    exact ⟨_, e2, k _ H F G _ env n r (Up.refl F) g rp q⟩
theorem vr_of {te : VTE} {e : Expr} (h : PE X e (tOf c te)) : PE X e (rOf c te) := PE.imp h fun σ H R ⟨F, env, n, Q, r, h, k⟩ => ⟨F, env, n, Q, r, h, fun v H' F' d env' n' r' u rp q => k v H' F' F' d env' n' r' u r'.gx rp q⟩
theorem ve_c {e : Expr} {v : V} {d : Dt} (h : PE X e (tC v)) (hd : ∀ F, Rp F v d) : PE X e (tOf c (vC d)) := PE.imp h fun σ H R ⟨F, env, n, Q, r, q, k⟩ => k v H F d env n r (Up.refl F) (hd F) q
theorem ve_int {i j} : PE X (.Constant (.int i) j pos) (tOf c (vC (.int i))) := ve_c pe_int fun _ => .int i
theorem ve_bl {i j} : PE X (.Constant (.bool i) j pos) (tOf c (vC (.bl i))) := ve_c pe_bl fun _ => .bl i
theorem ve_non {j} : PE X (.Constant .none j pos) (tOf c (vC .non)) := ve_c pe_non fun _ => .non
theorem ve_str {i j} : PE X (.Constant (.str i) j pos) (tOf c (vC (.str i))) := ve_c pe_str fun _ => .str i
/-- a new list, still from now on -/
theorem ve_new {te : VTN} {e : Expr} (h : PE X e (nOf c te)) : PE X e (tOf c (fun env n Q => te env n fun k env' n' => ∃ ds, k = .lst ds ∧ Q (.lst ds) env' n')) := PE.imp h fun σ H R ⟨F, env, n, Q, r, h, k⟩ => ⟨F, env, n, _, r, h, fun a o H' F' kk env' n' r' u hF h0 ns hH w ha q => by
    obtain ⟨ds, rfl, q⟩ := q
    obtain ⟨xs, rfl, rx⟩ := w
    have rp : Rp (upd F' a (.lst xs)) (.ref a) (.lst ds) := .lst upd_same (rx.up (up_lay hF))
    refine k _ H' (upd F' a (.lst xs)) _ env' n' ⟨fun b ob e => ?_, fun b hb => ?_, r'.ambU (up_lay hF), r'.up0.trans (up_lay hF), fun b ob h1 nt h2 => ?_, r'.keep0, r'.len, fun i s e => ?_, r'.apart⟩ (u.trans (up_lay hF)) rp q
    · by_cases z : b = a
      · subst z; rw [upd_same] at e; cases e; exact hH
      · rw [upd_ne z] at e; exact r'.sub b ob e
    · rw [upd_ne (fun (z : b = a) => ns (by rw [← z]; exact hb))]; exact r'.spf b hb
    · rw [upd_ne (fun (z : b = a) => by rw [z, h0] at h1; cases h1)]; exact r'.out0 b ob h1 nt h2
    · have q := r'.sl i s e
      cases s with
      | no => trivial
      | fz d => exact let ⟨v, g1, g2⟩ := q; ⟨v, g1, g2.up (up_lay hF)⟩
      | ow kk =>
        obtain ⟨a2, o2, g1, g2, g3, g4, g5, g6⟩ := q
        refine ⟨a2, o2, g1, ?_, g3, g4, g5, g6.up (up_lay hF)⟩
        rw [upd_ne fun z2 => ha i kk e (by rw [g1, z2])]
        exact g2⟩
def v2 (ta tb : VTE) (k : Dt → Dt → Ev → Nat → Prop) : Ev → Nat → Prop := fun env n => ta env n fun x env1 n1 => tb env1 n1 fun y env2 n2 => k x y env2 n2
theorem t2_of {σ : L2.St} {H : Hp} {F : Hp} {env : Ev} {n : Nat} {k : Dt → Dt → Ev → Nat → Prop} {K : V → V → Hp → Prop} (r : Rel c F H σ env n) (h : v2 ta tb k env n)
    (hk : ∀ x y d1 d2 H' F' env' n', Rel c F' H' σ env' n' → Up F F' → Rp F' x d1 → Rp F' y d2 → k d1 d2 env' n' → K x y H') : tOf c ta σ H fun x H1 => tOf c tb σ H1 fun y H2 => K x y H2 :=
  ⟨F, env, n, _, r, h, fun x H1 F1 d1 env1 n1 r1 u1 p1 q1 => ⟨F1, env1, n1, _, r1, q1, fun y H2 F2 d2 env2 n2 r2 u2 p2 q2 => hk x y d1 d2 H2 F2 env2 n2 r2 (u1.trans u2) (p1.up u2) p2 q2⟩⟩
theorem Rp.int_inv {F : Hp} {v : V} {i : Int} (h : Rp F v (.int i)) : v = .int i := by cases h; rfl
theorem Rp.bl_inv {F : Hp} {v : V} {i : Bool} (h : Rp F v (.bl i)) : v = .bl i := by cases h; rfl
theorem Rp.non_inv {F : Hp} {v : V} (h : Rp F v .non) : v = .non := by cases h; rfl
theorem Rp.str_inv {F : Hp} {v : V} {i : Str} (h : Rp F v (.str i)) : v = .str i := by cases h; rfl
theorem Rp.lst_inv {F : Hp} {v : V} {ds : List Dt} (h : Rp F v (.lst ds)) : ∃ a xs, v = .ref a ∧ F a = some (.lst xs) ∧ Rps F xs ds := by cases h with | lst h t => exact ⟨_, _, rfl, h, t⟩
theorem Rp.tup_inv {F : Hp} {v : V} {ds : List Dt} (h : Rp F v (.tup ds)) : ∃ a xs, v = .ref a ∧ F a = some (.tup xs) ∧ Rps F xs ds := by cases h with | tup h t => exact ⟨_, _, rfl, h, t⟩
end
end VL
namespace VL
open PySem PySem.Spec PyProof.Rows L2 HM
abbrev R2D := Dt → Dt → (Dt → Prop) → Prop
def Lft2 (r : R2) (r' : R2D) : Prop := ∀ (F H : Hp) x y d1 d2 (Q : Dt → Prop) (R : VK), Up F H → Rp F x d1 → Rp F y d2 → r' d1 d2 Q → (∀ v d, Rp F v d → Q d → R v H) → r x y H R
def vOp (r' : R2D) (ta tb : VTE) : VTE := fun env n Q => v2 ta tb (fun x y env' n' => r' x y fun d => Q d env' n') env n
/-- what slot i holds, to be read -/
def rdS (env : Ev) (i : Nat) (d : Dt) : Prop := env[i]? = some (.fz d) ∨ ∃ ds, env[i]? = some (.ow (.lst ds)) ∧ d = .lst ds
/-- the left one a name whose thing is read at the end -/
def vOpN (r' : R2D) (i : Nat) (tb : VTE) : VTE := fun env n Q => (∃ d0, rdS env i d0) ∧ tb env n fun y env' n' => ∃ x, rdS env' i x ∧ r' x y fun d => flat d = true ∧ Q d env' n'
def vOpR (r' : R2D) (ta tb : VTE) : VTE := fun env n Q => v2 ta tb (fun x y env' n' => r' x y fun d => flat d = true ∧ Q d env' n') env n
section
variable {c : Fc} {X : Cx} {a b : Expr} {ta tb : VTE} {pos : Pos}
theorem Rel.rdS {F H G : Hp} {σ : L2.St} {env : Ev} {n : Nat} {i : Nat} {d : Dt} (r : Rel c F H σ env n) (g : Gx c F H G) (e : rdS env i d) : ∃ v G', σ[i]? = some (some v) ∧ Gx c F H G' ∧ Up G G' ∧ Rp G' v d := by
  rcases e with e | ⟨ds, e, rfl⟩
  · obtain ⟨v, e2, rp⟩ := r.sl i _ e
    exact ⟨v, G, e2, g, Up.refl G, rp.up g.u1⟩
  · obtain ⟨a, G', e2, g', u, rp⟩ := g.add r e
    exact ⟨_, G', e2, g', u, rp⟩
theorem op_of {r : R2} {r' : R2D} (L : Lft2 r r') {σ : L2.St} {H : Hp} {R : VK} (h : tOf c (vOp r' ta tb) σ H R) : tOp r (tOf c ta) (tOf c tb) σ H R := by
  obtain ⟨F, env, n, Q, rr, h, k⟩ := h
  exact t2_of rr h fun x y d1 d2 H' F' env' n' r' u p1 p2 q => L F' H' x y d1 d2 _ R r'.sub p1 p2 q fun v d rv qd => k v H' F' d env' n' r' u rv qd
/-- the right one just read -/
theorem opR_of {r : R2} {r' : R2D} (L : Lft2 r r') {σ : L2.St} {H : Hp} {R : VK} (h : tOf c (vOpR r' ta tb) σ H R) : tOp r (tOf c ta) (rOf c tb) σ H R := by
  obtain ⟨F, env, n, Q, rr, h, k⟩ := h
  exact ⟨F, env, n, _, rr, h, fun x H1 F1 d1 env1 n1 r1 u1 p1 q1 => ⟨F1, env1, n1, _, r1, q1, fun y H2 F2 G d2 env2 n2 r2 u2 g p2 q2 =>
    L G H2 x y d1 d2 _ R g.u2 ((p1.up u2).up g.u1) p2 q2 fun v d rv qd => k v H2 F2 d env2 n2 r2 (u1.trans u2) (rv.flat g.tp qd.1) qd.2⟩⟩
theorem opN_of {i : Nat} {r : R2} {r' : R2D} (L : Lft2 r r') {σ : L2.St} {H : Hp} {R : VK} (h : tOf c (vOpN r' i tb) σ H R) : tOp r (tVar i) (rOf c tb) σ H R := by
  obtain ⟨F, env, n, Q, rr, ⟨⟨d0, e0⟩, h⟩, k⟩ := h
  obtain ⟨v0, _, ev, _⟩ := rr.rdS rr.gx e0
  refine ⟨v0, ev, F, env, n, _, rr, h, fun y H2 F2 G d2 env2 n2 r2 u2 g p2 q2 => ?_⟩
  obtain ⟨x, ex, q2⟩ := q2
  obtain ⟨v1, G', ev1, g', ug, px⟩ := r2.rdS g ex
  rw [ev] at ev1
  cases ev1
  exact L G' H2 v0 y x d2 _ R g'.u2 px (p2.up ug) q2 fun v d rv qd => k v H2 F2 d env2 n2 r2 u2 (rv.flat g'.tp qd.1) qd.2
theorem ve_op {op : Operator} {r : R2} {r' : R2D} (ho : OpR X (binaryOp op) r) (L : Lft2 r r') (ha : PE X a (tOf c ta)) (hb : PE X b (tOf c tb)) : PE X (.BinOp a op b pos) (tOf c (vOp r' ta tb)) := PE.imp (pe_op ho ha hb) fun _ _ _ => op_of L
theorem ve_cmp {op : CmpOp} {r : R2} {r' : R2D} (ho : OpR X (compareOp op) r) (L : Lft2 r r') (ha : PE X a (tOf c ta)) (hb : PE X b (tOf c tb)) (hm : behindInMarks op b = false) : PE X (.Compare a [op] [b] pos) (tOf c (vOp r' ta tb)) := PE.imp (pe_cmpR ho ha hb hm) fun _ _ _ => op_of L
theorem ve_cmpR {op : CmpOp} {r : R2} {r' : R2D} (ho : OpR X (compareOp op) r) (L : Lft2 r r') (ha : PE X a (tOf c ta)) (hb : PE X b (rOf c tb)) (hm : behindInMarks op b = false) : PE X (.Compare a [op] [b] pos) (tOf c (vOpR r' ta tb)) := PE.imp (pe_cmpR ho ha hb hm) fun _ _ _ => opR_of L
theorem ve_cmpN {i : Nat} {op : CmpOp} {r : R2} {r' : R2D} (ho : OpR X (compareOp op) r) (L : Lft2 r r') (ha : PE X a (tVar i)) (hb : PE X b (rOf c tb)) (hm : behindInMarks op b = false) : PE X (.Compare a [op] [b] pos) (tOf c (vOpN r' i tb)) := PE.imp (pe_cmpR ho ha hb hm) fun _ _ _ => opN_of L
def vB (te : VTE) : VTT := fun env n Q => te env n fun d env' n' => ∃ b, d = .bl b ∧ Q b env' n'
theorem test_of {te : VTE} {t : TE} (h : ∀ {σ H R}, tOf c te σ H R → t σ H R) {σ : L2.St} {H : Hp} {R : Bool → Hp → Prop} (q : cOf c (vB te) σ H R) : tTest t σ H R := by
  obtain ⟨F, env, n, Q, rr, q, k⟩ := q
  refine h ⟨F, env, n, _, rr, q, fun v H' F' d env' n' r' u rp qd => ?_⟩
  obtain ⟨bb, rfl, qd⟩ := qd
  exact ⟨bb, rp.bl_inv, k bb H' F' env' n' r' u qd⟩
theorem vt_cmp {op : CmpOp} {r : R2} {r' : R2D} (ho : OpR X (compareOp op) r) (L : Lft2 r r') (ha : PE X a (tOf c ta)) (hb : PE X b (tOf c tb)) (hm : behindInMarks op b = false) : PT X (.Compare a [op] [b] pos) (cOf c (vB (vOp r' ta tb))) := PT.imp (pt_cmpR ho ha hb hm) fun _ _ _ => test_of (op_of L)
theorem vt_cmpR {op : CmpOp} {r : R2} {r' : R2D} (ho : OpR X (compareOp op) r) (L : Lft2 r r') (ha : PE X a (tOf c ta)) (hb : PE X b (rOf c tb)) (hm : behindInMarks op b = false) : PT X (.Compare a [op] [b] pos) (cOf c (vB (vOpR r' ta tb))) := PT.imp (pt_cmpR ho ha hb hm) fun _ _ _ => test_of (opR_of L)
theorem vt_cmpN {i : Nat} {op : CmpOp} {r : R2} {r' : R2D} (ho : OpR X (compareOp op) r) (L : Lft2 r r') (ha : PE X a (tVar i)) (hb : PE X b (rOf c tb)) (hm : behindInMarks op b = false) : PT X (.Compare a [op] [b] pos) (cOf c (vB (vOpN r' i tb))) := PT.imp (pt_cmpR ho ha hb hm) fun _ _ _ => test_of (opN_of L)
theorem vt_val {e : Expr} {te : VTE} (h : PE X e (tOf c te)) (he : ∀ whole, isTrue e X.env whole = (do let v ← whole; standAt e.pos; holding [v] (truthy v)) := by intro _; rfl) : PT X e (cOf c (vB te)) := PT.imp (pt_val h he) fun σ H R q => by
  obtain ⟨F, env, n, Q, rr, q, k⟩ := q
  refine ⟨F, env, n, _, rr, q, fun v H' F' d env' n' r' u rp qd => ?_⟩
  obtain ⟨bb, rfl, qd⟩ := qd
  exact ⟨bb, rp.bl_inv, k bb H' F' env' n' r' u qd⟩
def vOr (t u : VTT) : VTT := fun env n Q => t env n fun b env1 n1 => if b = true then Q true env1 n1 else u env1 n1 Q
def vNot (t : VTT) : VTT := fun env n Q => t env n fun b env1 n1 => Q (!b) env1 n1
variable {tA tB : VTT} {rest : List Expr}
theorem vt_or1 (h : PT X a (cOf c tA)) : PW X (.BoolOp .Or [a] pos) (cOf c tA) := pw_or1 h
theorem vt_or (ha : PT X a (cOf c tA)) (hb : PW X (.BoolOp .Or (b :: rest) pos) (cOf c tB)) : PW X (.BoolOp .Or (a :: b :: rest) pos) (cOf c (vOr tA tB)) := PW.imp (pw_or ha hb) fun σ H R q => by
  obtain ⟨F, env, n, Q, rr, q, k⟩ := q
  refine ⟨F, env, n, _, rr, q, fun b H' F' env' n' r' u qd => ?_⟩
  cases b with
  | false => exact ⟨F', env', n', _, r', qd, fun b2 H2 F2 env2 n2 r2 u2 q2 => k b2 H2 F2 env2 n2 r2 (u.trans u2) q2⟩
  | true => exact k true H' F' env' n' r' u qd
theorem vt_not (ha : PT X a (cOf c tA)) : PT X (.UnaryOp .Not a pos) (cOf c (vNot tA)) := PT.imp (pt_not ha) fun σ H R q => by
  obtain ⟨F, env, n, Q, rr, q, k⟩ := q
  exact ⟨F, env, n, _, rr, q, fun b H' F' env' n' r' u qd => k (!b) H' F' env' n' r' u qd⟩
/-- and, or, not as values -/
def vAndV (ta tb : VTE) : VTE := fun env n Q => ta env n fun d env1 n1 => ∃ b, d = .bl b ∧ if b = true then tb env1 n1 Q else Q (.bl false) env1 n1
theorem ve_one {op} (h : PE X a (tOf c ta)) : PE X (.BoolOp op [a] pos) (tOf c ta) := pe_one h
theorem ve_and (ha : PE X a (tOf c ta)) (hb : PE X (.BoolOp .And (b :: rest) pos) (tOf c tb)) : PE X (.BoolOp .And (a :: b :: rest) pos) (tOf c (vAndV ta tb)) := PE.imp (pe_and ha hb) fun σ H R q => by
  obtain ⟨F, env, n, Q, rr, q, k⟩ := q
  refine ⟨F, env, n, _, rr, q, fun v H' F' d env' n' r' u rp qd => ?_⟩
  obtain ⟨bb, rfl, qd⟩ := qd
  refine ⟨bb, rp.bl_inv, ?_⟩
  cases bb with
  | true => exact ⟨F', env', n', _, r', qd, fun v2 H2 F2 d2 env2 n2 r2 u2 rp2 q2 => k v2 H2 F2 d2 env2 n2 r2 (u.trans u2) rp2 q2⟩
  | false => exact k _ H' F' _ env' n' r' u (.bl false) qd
def vNil : VTA := fun env n Q => Q [] env n
def vCons (te : VTE) (ta : VTA) : VTA := fun env n Q => te env n fun d env1 n1 => ta env1 n1 fun ds env2 n2 => Q (d :: ds) env2 n2
/-- a name whose thing is read when all stand -/
def vConsR (i : Nat) (ta : VTA) : VTA := fun env n Q => (∃ d0, rdS env i d0) ∧ ta env n fun ds env2 n2 => ∃ d, rdS env2 i d ∧ Q (d :: ds) env2 n2
variable {te : VTE} {tas : VTA} {e : Expr} {es : List Expr}
theorem va_nil : PA X [] (aOf c vNil) := PA.imp pa_nil fun σ H R ⟨F, env, n, Q, rr, q, k⟩ => k [] H F [] env n rr (Up.refl F) .nil q
theorem va_cons (ha : PE X e (tOf c te)) (hr : PA X es (aOf c tas)) (hs : starEach (e :: es) X.env = (false, eval e X.env) :: starEach es X.env := by rfl) : PA X (e :: es) (aOf c (vCons te tas)) := PA.imp (pa_cons ha hr hs) fun σ H R ⟨F, env, n, Q, rr, q, k⟩ =>
  ⟨F, env, n, _, rr, q, fun v H1 F1 d env1 n1 r1 u1 p1 q1 => ⟨F1, env1, n1, _, r1, q1, fun vs H2 F2 ds env2 n2 r2 u2 p2 q2 => k _ H2 F2 _ env2 n2 r2 (u1.trans u2) (.cons (p1.up u2) p2) q2⟩⟩
theorem vb_of (h : PA X es (aOf c tas)) : PA X es (bOf c tas) := PA.imp h fun σ H R ⟨F, env, n, Q, rr, q, k⟩ => ⟨F, env, n, _, rr, q, fun vs H2 F2 ds env2 n2 r2 u2 p2 q2 => k _ H2 F2 F2 _ env2 n2 r2 u2 r2.gx p2 q2⟩
theorem vb_nil : PA X [] (bOf c vNil) := vb_of va_nil
theorem vb_cons (ha : PE X e (tOf c te)) (hr : PA X es (bOf c tas)) (hs : starEach (e :: es) X.env = (false, eval e X.env) :: starEach es X.env := by rfl) : PA X (e :: es) (bOf c (vCons te tas)) := PA.imp (pa_cons ha hr hs) fun σ H R ⟨F, env, n, Q, rr, q, k⟩ =>
  ⟨F, env, n, _, rr, q, fun v H1 F1 d env1 n1 r1 u1 p1 q1 => ⟨F1, env1, n1, _, r1, q1, fun vs H2 F2 G ds env2 n2 r2 u2 g p2 q2 => k _ H2 F2 G _ env2 n2 r2 (u1.trans u2) g (.cons ((p1.up u2).up g.u1) p2) q2⟩⟩
theorem vb_rd {i : Nat} (ha : PE X e (tVar i)) (hr : PA X es (bOf c tas)) (hs : starEach (e :: es) X.env = (false, eval e X.env) :: starEach es X.env := by rfl) : PA X (e :: es) (bOf c (vConsR i tas)) := PA.imp (pa_cons ha hr hs) fun σ H R ⟨F, env, n, Q, rr, ⟨⟨d0, e0⟩, q⟩, k⟩ => by
  obtain ⟨v0, _, ev, _⟩ := rr.rdS rr.gx e0
  refine ⟨v0, ev, F, env, n, _, rr, q, fun vs H2 F2 G ds env2 n2 r2 u2 g p2 q2 => ?_⟩
  obtain ⟨d, ed, q2⟩ := q2
  obtain ⟨v1, G', ev1, g', ug, pd⟩ := r2.rdS g ed
  rw [ev] at ev1
  cases ev1
  exact k _ H2 F2 G' _ env2 n2 r2 u2 g' (.cons pd (p2.up ug)) q2
theorem small1000 {n : Nat} (h : n ≤ 5000) : n < sizeLine := Nat.lt_of_le_of_lt h (by decide)
theorem small1k {n : Nat} (h : n ≤ 5000) : n ≤ sizeLine := Nat.le_of_lt (small1000 h)
def vTup (ta : VTA) : VTE := fun env n Q => ta env n fun ds env1 n1 => ds.length ≤ 5000 ∧ Q (.tup ds) env1 n1
def vLst (ta : VTA) : VTN := fun env n Q => ta env n fun ds env1 n1 => ds.length ≤ 5000 ∧ Q (.lst ds) env1 n1
theorem ve_tup {x1} (h : PA X es (aOf c tas)) : PE X (.Tuple es x1 pos) (tOf c (vTup tas)) := PE.imp (pe_tup h) fun σ H R ⟨F, env, n, Q, rr, q, k⟩ => ⟨F, env, n, _, rr, q, fun vs H2 F2 ds env2 n2 r2 u2 p2 q2 => by
  refine ⟨small1k (by rw [p2.len]; exact q2.1), fun p np => ?_⟩
  obtain ⟨_, _, nf⟩ := r2.new0 np
  exact k _ _ (upd F2 p (.tup vs)) _ env2 n2 (r2.layF np _) (u2.trans (up_lay nf)) (.tup upd_same (p2.up (up_lay nf))) q2.2⟩
theorem nOf_new {σ : L2.St} {H F : Hp} {env : Ev} {n : Nat} {p : Addr} {o : HO} {kk : Con} {F0 : Hp} {Q : Con → Ev → Nat → Prop} {R : VK} (rr : Rel c F H σ env n) (u : Up F0 F) (np : H p = none) (w : OwOk F p o kk) (q : Q kk env n)
    (k : ∀ a o H' F' kk env' n', Rel c F' H' σ env' n' → Up F0 F' → F' a = none → c.H0 a = none → ¬ c.am.sp a → H' a = some o → OwOk F' a o kk → (∀ (j : Nat) k', env'[j]? = some (.ow k') → σ[j]? ≠ some (some (.ref a))) → Q kk env' n' → R (.ref a) H') : R (.ref p) (upd H p o) := by
  obtain ⟨h0, ns, nf⟩ := rr.new0 np
  refine k p o (upd H p o) F kk env n (rr.lay np o) u nf h0 ns upd_same w (fun j k' e z => ?_) q
  obtain ⟨a2, o2, g1, _, _, _, g5, _⟩ := rr.sl j _ e
  rw [g1] at z
  cases z
  rw [g5] at np
  cases np
theorem vn_lst (h : PA X es (aOf c tas)) : PE X (.List es pos) (nOf c (vLst tas)) := PE.imp (pe_lst h) fun σ H R ⟨F, env, n, Q, rr, q, k⟩ => ⟨F, env, n, _, rr, q, fun vs H2 F2 ds env2 n2 r2 u2 p2 q2 =>
  ⟨small1k (by rw [p2.len]; exact q2.1), fun p np => nOf_new r2 u2 np (kk := .lst ds) ⟨vs, rfl, p2⟩ q2.2 k⟩⟩
end
end VL
namespace VL
open PySem PySem.Spec PyProof.Rows L2 HM
section
variable {c : Fc} {X : Cx} {a b e : Expr} {es : List Expr} {te ta tb : VTE} {tas : VTA} {pos : Pos}
def vNext : VTS := fun V env n => V.nx env n
def vSeq (t u : VTS) : VTS := fun V env n => t { V with nx := u V } env n
theorem EnOk.seq {F : Hp} {V : VEn} {D : Ends} {u : VTS} {u' : TS} (h : EnOk c F V D) (k : ∀ F' H' σ' env' n', Rel c F' H' σ' env' n' → Up F F' → u V env' n' → u' D σ' H') : EnOk c F { V with nx := u V } { D with nx := u' D } :=
  ⟨fun F' H' σ' env' n' r w q => k F' H' σ' env' n' r w q, h.rt, h.bk, h.ct⟩
variable {st : Stmt} {rest body els : List Stmt} {t u : VTS}
theorem vss_nil : PSs X [] (sOf c vNext) := PSs.imp pss_nil fun D σ H ⟨F, env, n, V, r, q, k⟩ => k.nx F H σ env n r (Up.refl F) q
theorem vss_cons (h1 : PS X st (sOf c t)) (h2 : PSs X rest (sOf c u)) : PSs X (st :: rest) (sOf c (vSeq t u)) := PSs.imp (pss_cons h1 h2) fun D σ H ⟨F, env, n, V, r, q, k⟩ =>
  ⟨F, env, n, _, r, q, k.seq fun F' H' σ' env' n' r' w q' => ⟨F', env', n', V, r', q', k.up w⟩⟩
theorem vss_one (h1 : PS X st (sOf c t)) : PSs X [st] (sOf c t) := pss_one h1
def vDrop (te : VTE) : VTS := fun V env n => te env n fun _ env1 n1 => V.nx env1 n1
theorem vs_expr (he : PE X e (tOf c te)) (hs : swapsWith e none pos.line X.env = pure false := by rfl) : PS X (.Expr e pos) (sOf c (vDrop te)) := PS.imp (ps_expr he hs) fun D σ H ⟨F, env, n, V, r, q, k⟩ =>
  ⟨F, env, n, _, r, q, fun v H' F' d env' n' r' u rp qd => k.nx F' H' σ env' n' r' u qd⟩
def vRet (te : VTE) : VTS := fun V env n => te env n fun d _ n1 => V.rt d n1
theorem vs_ret (he : PE X e (tOf c te)) : PS X (.Return (some e) pos) (sOf c (vRet te)) := PS.imp (ps_ret he) fun D σ H ⟨F, env, n, V, r, q, k⟩ =>
  ⟨F, env, n, _, r, q, fun v H' F' d env' n' r' u rp qd => k.rt F' H' σ env' n' v d r' u rp qd⟩
def vIf (tc : VTT) (t u : VTS) : VTS := fun V env n => tc env n fun b env1 n1 => if b = true then t V env1 n1 else u V env1 n1
theorem vs_if {tc : VTT} (hc : PT X e (cOf c tc)) (ha : PSs X body (sOf c t)) (hb : PSs X els (sOf c u)) : PS X (.If e body els pos) (sOf c (vIf tc t u)) := PS.imp (ps_if hc ha hb) fun D σ H ⟨F, env, n, V, r, q, k⟩ =>
  ⟨F, env, n, _, r, q, fun b H' F' env' n' r' w qd => by
    cases b with
    | true => exact ⟨F', env', n', V, r', qd, k.up w⟩
    | false => exact ⟨F', env', n', V, r', qd, k.up w⟩⟩
def vgName (i : Nat) : VTG := fun d env n Q => Q (env.set i (.fz d)) n
theorem vg_name {i : Nat} {x : Str} (h : PG X (.Name x pos) (gName i)) : PG X (.Name x pos) (gOf c (vgName i)) := PG.imp h fun v σ H R ⟨F, env, n, d, Q, r, rp, q, k⟩ => k _ H F _ n (r.setF rp) (Up.refl F) q
def vgNil : VTGs := fun ds env n Q => ds = [] ∧ Q env n
def vgCons (t : VTG) (u : VTGs) : VTGs := fun ds env n Q => ∃ d r, ds = d :: r ∧ t d env n fun env' n' => u r env' n' Q
theorem vgs_nil : PGs X [] (gsOf c vgNil) := PGs.imp pgs_nil fun v σ H R ⟨F, env, n, ds, Q, r, rp, ⟨e, q⟩, k⟩ => by
  subst e
  cases rp
  exact ⟨rfl, k _ H F _ n r (Up.refl F) q⟩
theorem vgs_cons {g : VTG} {gs : VTGs} (h1 : PG X e (gOf c g)) (h2 : PGs X es (gsOf c gs)) (hs : (assignEach (e :: es) X.env).map (·.2) = assign e X.env :: (assignEach es X.env).map (·.2) := by rfl) : PGs X (e :: es) (gsOf c (vgCons g gs)) := PGs.imp (pgs_cons h1 h2 hs) fun v σ H R ⟨F, env, n, ds, Q, r, rp, ⟨d, ds', e, q⟩, k⟩ => by
  subst e
  cases rp with
  | cons p ps => exact ⟨_, _, rfl, F, env, n, d, _, r, p, q, fun σ' H' F' env' n' r' w q' => ⟨F', env', n', ds', _, r', ps.up w, q', fun σ2 H2 F2 env2 n2 r2 w2 q2 => k σ2 H2 F2 env2 n2 r2 (w.trans w2) q2⟩⟩
def vgTup (m : Nat) (g : VTGs) : VTG := fun d env n Q => ∃ ds, d = .tup ds ∧ ds.length = m ∧ g ds env n Q
theorem vg_tup {k m : Nat} {gs : VTGs} (hc : X.calm = true) (h : PGs X es (gsOf c gs)) (hn : (assignEach es X.env).length = m := by rfl) (hst : (assignEach es X.env).findIdx? (·.1) = none := by rfl) : PG X (.Tuple es k pos) (gOf c (vgTup m gs)) := PG.imp (pg_tup hc h hn hst) fun v σ H R ⟨F, env, n, d, Q, r, rp, ⟨ds, e, hl, q⟩, k⟩ => by
  subst e
  obtain ⟨a, xs, rfl, hF, rx⟩ := rp.tup_inv
  exact ⟨a, xs, rfl, .inl (.inl (r.sub _ _ hF)), by rw [rx.len, hl], F, env, n, ds, Q, r, rx, q, k⟩
def vAsg (te : VTE) (g : VTG) : VTS := fun V env n => te env n fun d env1 n1 => g d env1 n1 V.nx
theorem asg_of {g : VTG} {σ : L2.St} {H : Hp} {D : Ends} (h : sOf c (vAsg te g) D σ H) : tAsg (tOf c te) (gOf c g) D σ H := by
  obtain ⟨F, env, n, V, r, q, k⟩ := h
  exact ⟨F, env, n, _, r, q, fun v H' F' d env' n' r' w rp qd => ⟨F', env', n', d, V.nx, r', rp, qd, fun σ2 H2 F2 env2 n2 r2 w2 q2 => k.nx F2 H2 σ2 env2 n2 r2 (w.trans w2) q2⟩⟩
theorem vs_asg {tg : Expr} {g : VTG} (he : PE X e (tOf c te)) (hg : PG X tg (gOf c g)) (hs : swapsWithSole [tg] e pos.line X.env = pure false := by rfl) (hw : swappedStores [tg] e X.env = pure none := by rfl)
    (h1 : (assignEach [tg] X.env).map (·.2) = [assign tg X.env] := by rfl) : PS X (.Assign [tg] e pos) (sOf c (vAsg te g)) := PS.imp (ps_asg he hg hs hw h1) fun D σ H => asg_of
/-- x = e -/
def vSet (i : Nat) (te : VTE) : VTS := fun V env n => te env n fun d env1 n1 => V.nx (env1.set i (.fz d)) n1
theorem set_of {i : Nat} {σ : L2.St} {H : Hp} {D : Ends} (h : sOf c (vSet i te) D σ H) : tAsg (tOf c te) (gName i) D σ H := by
  obtain ⟨F, env, n, V, r, q, k⟩ := h
  exact ⟨F, env, n, _, r, q, fun v H' F' d env' n' r' w rp qd => k.nx F' H' _ _ n' (r'.setF rp) w qd⟩
theorem vs_set {i : Nat} {x : Str} {pos' : Pos} (hN : X.N.Nodup) (hi : X.N[i]? = some x) (hx : Loc X.env.scope x) (he : PE X e (tOf c te)) (hs : swapsWith e (some (.Name x pos')) pos.line X.env = pure false := by rfl) (hf : X.fn x = true ∨ X.env.scope.names.lookup x = some .local := by first | exact .inl rfl | exact .inr rfl | assumption) :
    PS X (.Assign [.Name x pos'] e pos) (sOf c (vSet i te)) := PS.imp (ps_set hN hi hx he hs hf) fun D σ H => set_of
/-- x = a new thing -/
def vSetN (i : Nat) (tn : VTN) : VTS := fun V env n => tn env n fun k env1 n1 => V.nx (env1.set i (.ow k)) n1
theorem setN_of {i : Nat} {tn : VTN} {σ : L2.St} {H : Hp} {D : Ends} (h : sOf c (vSetN i tn) D σ H) : tAsg (nOf c tn) (gName i) D σ H := by
  obtain ⟨F, env, n, V, r, q, k⟩ := h
  exact ⟨F, env, n, _, r, q, fun a o H' F' kk env' n' r' w hF h0 ns hH ow ha qd => k.nx F' H' _ _ n' (r'.setO hF h0 ns hH ow ha) w qd⟩
theorem vs_setN {i : Nat} {tn : VTN} {x : Str} {pos' : Pos} (hN : X.N.Nodup) (hi : X.N[i]? = some x) (hx : Loc X.env.scope x) (he : PE X e (nOf c tn)) (hs : swapsWith e (some (.Name x pos')) pos.line X.env = pure false := by rfl) (hf : X.fn x = true ∨ X.env.scope.names.lookup x = some .local := by first | exact .inl rfl | exact .inr rfl | assumption) :
    PS X (.Assign [.Name x pos'] e pos) (sOf c (vSetN i tn)) := PS.imp (ps_set hN hi hx he hs hf) fun D σ H => setN_of
def vWhile (tc : VTT) (tb : VTS) : VTS := fun V env n => ∃ W : Nat → Ev → Nat → Prop, (∃ m, W m env n) ∧ ∀ m env n, W m env n →
  tc env n fun b env1 n1 => if b = true then tb { nx := fun e' n' => ∃ m', m' < m ∧ W m' e' n', ct := fun e' n' => ∃ m', m' < m ∧ W m' e' n', bk := V.nx, rt := V.rt } env1 n1 else V.nx env1 n1
theorem vs_while {tc : VTT} {tb : VTS} (hp : PassesOwn (model X.prog X.w) X.A X.env X.xe) (hc : PT X e (cOf c tc)) (hb : PSs X body (sOf c tb)) : PS X (.While e body [] pos) (sOf c (vWhile tc tb)) := PS.imp (ps_while hp hc hb) fun D σ H ⟨F, env, n, V, r, ⟨W, ⟨m0, w0⟩, turn⟩, k⟩ => by
  refine ⟨fun m σ H => ∃ F' env n, Rel c F' H σ env n ∧ Up F F' ∧ W m env n, ⟨m0, F, env, n, r, Up.refl F, w0⟩, ?_⟩
  rintro m σ1 H1 ⟨F1, env1, n1, r1, u1, w1⟩
  refine ⟨F1, env1, n1, _, r1, turn m env1 n1 w1, fun b H2 F2 env2 n2 r2 u2 q2 => ?_⟩
  cases b with
  | true => exact ⟨fun σ' H' => ∃ m', m' < m ∧ ∃ F' env n, Rel c F' H' σ' env n ∧ Up F F' ∧ W m' env n, fun σ' H' h => h, F2, env2, n2, _, r2, q2,
      ⟨fun F3 H3 σ3 env3 n3 r3 u3 q3 => let ⟨m', hm, w'⟩ := q3; ⟨m', hm, F3, env3, n3, r3, (u1.trans u2).trans u3, w'⟩, (k.up (u1.trans u2)).rt, (k.up (u1.trans u2)).nx, fun F3 H3 σ3 env3 n3 r3 u3 q3 => let ⟨m', hm, w'⟩ := q3; ⟨m', hm, F3, env3, n3, r3, (u1.trans u2).trans u3, w'⟩⟩⟩
  | false => exact k.nx F2 H2 σ1 env2 n2 r2 (u1.trans u2) q2
def vFor (wi : VTI) (g : VTG) (tb : VTS) : VTS := fun V env n => wi env n fun xs env1 n1 => ∃ P : Nat → Ev → Nat → Prop, P 0 env1 n1 ∧
  (∀ i x env n, xs[i]? = some x → P i env n → g x env n fun env2 n2 => tb { nx := P (i + 1), ct := P (i + 1), bk := V.nx, rt := V.rt } env2 n2) ∧ ∀ env n, P xs.length env n → V.nx env n
theorem vs_for {tg iter : Expr} {wi : VTI} {g : VTG} {tb : VTS} (hp : PassesOwn (model X.prog X.w) X.A X.env X.xe) (hc : X.calm = true) (hi : PI X tg iter (iOf c wi)) (hg : PG X tg (gOf c g)) (hb : PSs X body (sOf c tb))
    (hs : ∀ x, foldedSetIterable iter X.env x = pure x := by intro _; rfl) : PS X (.For tg iter body [] pos) (sOf c (vFor wi g tb)) := PS.imp (ps_for hp hc hi hg hb hs) fun D σ H ⟨F, env, n, V, r, q, k⟩ => by
  refine ⟨F, env, n, _, r, q, fun J H1 F1 xs env1 n1 r1 u1 wk q1 => ?_⟩
  obtain ⟨P, p0, turn, fin⟩ := q1
  refine ⟨fun i m σ H => m = xs.length - i ∧ i ≤ xs.length ∧ ∃ F' env n, Rel c F' H σ env n ∧ Up F1 F' ∧ P i env n, ⟨_, rfl, Nat.zero_le _, F1, env1, n1, r1, Up.refl F1, p0⟩, ?_⟩
  rintro i m σ2 H2 ⟨rfl, hi, F2, env2, n2, r2, u2, p2⟩
  obtain ⟨wg, ws⟩ := wk c rfl F2 H2 σ2 env2 n2 r2 u2 i
  by_cases hlt : i < xs.length
  · obtain ⟨go, yl⟩ := wg hlt
    refine .inr ⟨go, fun σ' H' => ∃ F' env n, Rel c F' H' σ' env n ∧ Up F1 F' ∧ P (i + 1) env n, fun σ' H' h => ⟨xs.length - (i + 1), by omega, rfl, hlt, h⟩, fun x H3 y => ?_⟩
    obtain ⟨F3, d, r3, u3, ed, rd⟩ := yl x H3 y
    refine ⟨F3, env2, n2, d, _, r3, rd, turn i d env2 n2 ed p2, fun σ4 H4 F4 env4 n4 r4 u4 q4 => ?_⟩
    have u14 := (u2.trans u3).trans u4
    exact ⟨F4, env4, n4, _, r4, q4, ⟨fun F5 H5 σ5 env5 n5 r5 u5 q5 => ⟨F5, env5, n5, r5, u14.trans u5, q5⟩, (k.up (u1.trans u14)).rt, (k.up (u1.trans u14)).nx, fun F5 H5 σ5 env5 n5 r5 u5 q5 => ⟨F5, env5, n5, r5, u14.trans u5, q5⟩⟩⟩
  · have e : i = xs.length := by omega
    subst e
    exact .inl ⟨ws (Nat.le_refl _), k.nx F2 H2 σ2 env2 n2 r2 (u1.trans u2) (fin env2 n2 p2)⟩
def viSeq (te : VTE) : VTI := fun env n Q => te env n fun d env1 n1 => ∃ ds, (d = .lst ds) ∧ Q ds env1 n1
def viTup (te : VTE) : VTI := fun env n Q => te env n fun d env1 n1 => ∃ ds, (d = .tup ds) ∧ Q ds env1 n1
theorem wk_list {K : PySem.W.Frag} {F : Hp} {a : Addr} {xs : List V} {ds : List Dt} (h : F a = some (.lst xs)) (rx : Rps F xs ds) : Wk c.am (Itl K a) F ds := fun c _ F1 H σ env n r u i => by
  have hH : SqL K H a xs := .inl (.inl (r.sub _ _ (u _ _ h)))
  refine ⟨fun hi => ?_, fun hi => ⟨xs, hH, by rw [rx.len]; exact hi⟩⟩
  obtain ⟨v, e1, e2⟩ := rx.get (List.getElem?_eq_getElem hi)
  refine ⟨⟨xs, v, hH, e1⟩, fun x H' y => ?_⟩
  obtain ⟨rfl, y⟩ := y
  have := y xs hH
  rw [e1] at this
  cases this
  exact ⟨F1, _, r, Up.refl F1, List.getElem?_eq_getElem hi, e2.up u⟩
theorem wk_tup {K : PySem.W.Frag} {F : Hp} {a : Addr} {xs : List V} {ds : List Dt} (h : F a = some (.tup xs)) (rx : Rps F xs ds) : Wk c.am (Itt K a) F ds := fun c _ F1 H σ env n r u i => by
  have hH : SqT K H a xs := .inl (.inl (r.sub _ _ (u _ _ h)))
  refine ⟨fun hi => ?_, fun hi => ⟨xs, hH, by rw [rx.len]; exact hi⟩⟩
  obtain ⟨v, e1, e2⟩ := rx.get (List.getElem?_eq_getElem hi)
  refine ⟨⟨xs, v, hH, e1⟩, fun x H' y => ?_⟩
  obtain ⟨rfl, y⟩ := y
  have := y xs hH
  rw [e1] at this
  cases this
  exact ⟨F1, _, r, Up.refl F1, List.getElem?_eq_getElem hi, e2.up u⟩
/-- lo, lo + 1, .., n of them -/
def rngD (lo : Int) (n : Nat) : List Dt := (List.range n).map fun i : Nat => Dt.int (lo + (i : Int))
theorem wk_range {F : Hp} {lo : Int} {n : Nat} : Wk c.am (Itr lo n) F (rngD lo n) := fun c _ F1 H σ env m r u i => by
  have hl : (rngD lo n).length = n := by simp [rngD]
  refine ⟨fun hi => ?_, fun hi => by rw [hl] at hi; exact hi⟩
  rw [hl] at hi
  refine ⟨hi, fun x H' y => ?_⟩
  obtain ⟨rfl, rfl⟩ := y
  exact ⟨F1,   .int (lo + (i : Int)), r, Up.refl F1, by simp [rngD, hi], .int _⟩
theorem vi_list {tg l : Expr} (hl : PE X l (tOf c te)) : PI X tg l (iOf c (viSeq te)) := PI.imp (pi_list hl) fun σ H R ⟨F, env, n, Q, r, q, k⟩ => ⟨F, env, n, _, r, q, fun v H' F' d env' n' r' w rp qd => by
  obtain ⟨ds, rfl, qd⟩ := qd
  obtain ⟨a, xs, rfl, hF, rx⟩ := rp.lst_inv
  exact ⟨a, rfl, ⟨xs, .inl (.inl (r'.sub _ _ hF))⟩, k _ H' F' ds env' n' r' w (wk_list hF rx) qd⟩⟩
theorem vi_tup {tg l : Expr} (hl : PE X l (tOf c te)) : PI X tg l (iOf c (viTup te)) := PI.imp (pi_tup hl) fun σ H R ⟨F, env, n, Q, r, q, k⟩ => ⟨F, env, n, _, r, q, fun v H' F' d env' n' r' w rp qd => by
  obtain ⟨ds, rfl, qd⟩ := qd
  obtain ⟨a, xs, rfl, hF, rx⟩ := rp.tup_inv
  exact ⟨a, rfl, ⟨xs, .inl (.inl (r'.sub _ _ hF))⟩, k _ H' F' ds env' n' r' w (wk_tup hF rx) qd⟩⟩
def viR1 (ta : VTA) : VTI := fun env n Q => ta env n fun ds env1 n1 => ∃ j : Int, ds = [.int j] ∧ (-1000000 ≤ j ∧ j ≤ 1000000) ∧ Q (rngD 0 j.toNat) env1 n1
def viR2 (ta : VTA) : VTI := fun env n Q => ta env n fun ds env1 n1 => ∃ i j : Int, ds = [.int i, .int j] ∧ (-1000000 ≤ i ∧ i ≤ 1000000 ∧ -1000000 ≤ j ∧ j ≤ 1000000) ∧ Q (rngD i (j - i).toNat) env1 n1
theorem vi_range1 {tg : Expr} {p : Pos} (hg : Gl X "range") (hm : X.mg "range" = none) (ha : PA X [a] (bOf c tas)) (hs : starEach [a] X.env = [(false, eval a X.env)] := by rfl) : PI X tg (.Call (.Name "range" p) [a] [] pos) (iOf c (viR1 tas)) := PI.imp (pi_range1 hg hm ha hs) fun σ H R ⟨F, env, n, Q, r, q, k⟩ =>
  ⟨F, env, n, _, r, q, fun vs H' F' G ds env' n' r' w g rp qd => by
    obtain ⟨j, rfl, hj, qd⟩ := qd
    cases rp with
    | cons p ps =>
      cases ps
      rw [p.int_inv]
      exact ⟨j, rfl, by omega, by omega, k _ H' F' _ env' n' r' w wk_range qd⟩⟩
theorem vi_range2 {tg : Expr} {p : Pos} (hg : Gl X "range") (hm : X.mg "range" = none) (ha : PA X [a, b] (bOf c tas)) (hs : starEach [a, b] X.env = [(false, eval a X.env), (false, eval b X.env)] := by rfl) (hs2 : starEach [b] X.env = [(false, eval b X.env)] := by rfl) : PI X tg (.Call (.Name "range" p) [a, b] [] pos) (iOf c (viR2 tas)) := PI.imp (pi_range2 hg hm ha hs hs2) fun σ H R ⟨F, env, n, Q, r, q, k⟩ =>
  ⟨F, env, n, _, r, q, fun vs H' F' G ds env' n' r' w g rp qd => by
    obtain ⟨i, j, rfl, hj, qd⟩ := qd
    cases rp with
    | cons p ps =>
      cases ps with
      | cons p2 ps =>
        cases ps
        rw [p.int_inv, p2.int_inv]
        exact ⟨i, j, rfl, ⟨by omega, by omega, by omega, by omega⟩, k _ H' F' _ env' n' r' w wk_range qd⟩⟩
abbrev RCD := List Dt → (Dt → Prop) → Prop
abbrev RCN := List Dt → (Con → Prop) → Prop
abbrev RC := List V → Hp → VK → Prop
def LftC (r : RC) (r' : RCD) : Prop := ∀ (F H : Hp) vs ds (Q : Dt → Prop) (R : VK), Up F H → Rps F vs ds → r' ds Q → (∀ v d, Rp F v d → Q d → R v H) → r vs H R
def LftN (r : RC) (r' : RCN) : Prop := ∀ (F H : Hp) vs ds (Q : Con → Prop) (R : VK), Up F H → Rps F vs ds → r' ds Q → (∀ p o k, H p = none → OwOk F p o k → Q k → R (.ref p) (upd H p o)) → r vs H R
def LftT (r : RC) (r' : RCD) : Prop := ∀ (F H : Hp) vs ds (Q : Dt → Prop) (R : VK), Up F H → Rps F vs ds → r' ds Q → (∀ p xs zs, H p = none → Rps F xs zs → Q (.tup zs) → R (.ref p) (upd H p (.tup xs))) → r vs H R
def vCB (r' : RCD) (ta : VTA) : VTE := fun env n Q => ta env n fun ds env1 n1 => r' ds fun d => Q d env1 n1
def vCBR (r' : RCD) (ta : VTA) : VTE := fun env n Q => ta env n fun ds env1 n1 => r' ds fun d => flat d = true ∧ Q d env1 n1
def vCN (r' : RCN) (ta : VTA) : VTN := fun env n Q => ta env n fun ds env1 n1 => r' ds fun d => Q d env1 n1
def flatC : Con → Bool
  | .lst ds => flats ds
  | .dK kvs => flats (kvs.map (·.2))
  | .dT kvs => flats (kvs.map (·.2))
  | .set _ _ _ => true
  | .setT _ _ _ => true
def vCNR (r' : RCN) (ta : VTA) : VTN := fun env n Q => ta env n fun ds env1 n1 => r' ds fun d => flatC d = true ∧ Q d env1 n1
variable {r : RC} {r' : RCD} {rn : RCN}
theorem PrK.flat {κ : Type} {F F' : Hp} (u : ∀ a xs, F a = some (.tup xs) → F' a = some (.tup xs)) : ∀ {a : List (κ × V)} {b : List (κ × Dt)}, PrK F a b → flats (b.map (·.2)) = true → PrK F' a b
  | _, _, .nil, _ => .nil
  | _, q :: qs, .cons h t, e => by
    have e' : (VL.flat q.2 && flats (qs.map (·.2))) = true := by simpa [flats] using e
    rw [Bool.and_eq_true] at e'
    exact .cons ⟨h.1, h.2.flat u e'.1⟩ (PrK.flat u t e'.2)
theorem OwOk.flat {F F' : Hp} (u : ∀ a xs, F a = some (.tup xs) → F' a = some (.tup xs)) {a : Addr} {o : HO} : ∀ {k : Con}, OwOk F a o k → flatC k = true → OwOk F' a o k
  | .lst _, ⟨xs, e, r⟩, h => ⟨xs, e, r.flat u h⟩
  | .dK _, ⟨xs, e, r⟩, h => ⟨xs, e, PrK.flat u r h⟩
  | .dT _, ⟨xs, e, r⟩, h => ⟨xs, e, PrK.flat u r h⟩
  | .set _ _ _, e, _ => e
  | .setT _ _ _, ⟨L, e, h, r⟩, _ => ⟨L, e, h, fun p hp => u _ _ (r p hp)⟩
theorem cb_of (L : LftC r r') {σ : L2.St} {H : Hp} {R : VK} (h : tOf c (vCB r' tas) σ H R) : tCB r (aOf c tas) σ H R := by
  obtain ⟨F, env, n, Q, rr, q, k⟩ := h
  exact ⟨F, env, n, _, rr, q, fun vs H' F' ds env' n' r2 w rp qd => L F' H' vs ds _ R r2.sub rp qd fun v d rv qv => k v H' F' d env' n' r2 w rv qv⟩
theorem cbR_of (L : LftC r r') {σ : L2.St} {H : Hp} {R : VK} (h : tOf c (vCBR r' tas) σ H R) : tCB r (bOf c tas) σ H R := by
  obtain ⟨F, env, n, Q, rr, q, k⟩ := h
  exact ⟨F, env, n, _, rr, q, fun vs H' F' G ds env' n' r2 w g rp qd => L G H' vs ds _ R g.u2 rp qd fun v d rv qv => k v H' F' d env' n' r2 w (rv.flat g.tp qv.1) qv.2⟩
theorem cn_of (L : LftN r rn) {σ : L2.St} {H : Hp} {R : VK} (h : nOf c (vCN rn tas) σ H R) : tCB r (aOf c tas) σ H R := by
  obtain ⟨F, env, n, Q, rr, q, k⟩ := h
  exact ⟨F, env, n, _, rr, q, fun vs H' F' ds env' n' r2 w rp qd => L F' H' vs ds _ R r2.sub rp qd fun p o kk np ow qv => nOf_new r2 w np ow qv k⟩
theorem cnR_of (L : LftN r rn) {σ : L2.St} {H : Hp} {R : VK} (h : nOf c (vCNR rn tas) σ H R) : tCB r (bOf c tas) σ H R := by
  obtain ⟨F, env, n, Q, rr, q, k⟩ := h
  exact ⟨F, env, n, _, rr, q, fun vs H' F' G ds env' n' r2 w g rp qd => L G H' vs ds _ R g.u2 rp qd fun p o kk np ow qv => nOf_new r2 w np (ow.flat g.tp qv.1) qv.2 k⟩
theorem ctR_of (L : LftT r r') {σ : L2.St} {H : Hp} {R : VK} (h : tOf c (vCBR r' tas) σ H R) : tCB r (bOf c tas) σ H R := by
  obtain ⟨F, env, n, Q, rr, q, k⟩ := h
  refine ⟨F, env, n, _, rr, q, fun vs H' F' G ds env' n' r2 w g rp qd => L G H' vs ds _ R g.u2 rp qd fun p xs zs np rz qv => ?_⟩
  obtain ⟨_, _, nf⟩ := r2.new0 np
  exact k _ _ (upd F' p (.tup xs)) _ env' n' (r2.layF np _) (w.trans (up_lay nf)) (.tup upd_same ((rz.flat g.tp (by have := qv.1; simpa [VL.flat] using this)).up (up_lay nf))) qv.2
end
end VL
namespace VL
open PySem PySem.Spec PyProof.Rows L2 HM
def dI0 (g : Int → Int → Dt) : R2D := fun x y Q => ∃ i j, x = .int i ∧ y = .int j ∧ Q (g i j)
def dI (C : Int → Int → Prop) (g : Int → Int → Dt) : R2D := fun x y Q => ∃ i j, x = .int i ∧ y = .int j ∧ C i j ∧ Q (g i j)
theorem lft_I0 {g : Int → Int → Int} : Lft2 (rI0 fun i j => .int (g i j)) (dI0 fun i j => .int (g i j)) := fun F H x y d1 d2 Q R u p1 p2 h k => by
  obtain ⟨i, j, rfl, rfl, h⟩ := h
  rw [p1.int_inv, p2.int_inv]
  exact ⟨i, j, rfl, rfl, k _ _ (.int _) h⟩
theorem lft_I {C : Int → Int → Prop} {g : Int → Int → Int} : Lft2 (rI C fun i j => .int (g i j)) (dI C fun i j => .int (g i j)) := fun F H x y d1 d2 Q R u p1 p2 h k => by
  obtain ⟨i, j, rfl, rfl, hc, h⟩ := h
  rw [p1.int_inv, p2.int_inv]
  exact ⟨i, j, rfl, rfl, hc, k _ _ (.int _) h⟩
theorem lft_B0 {g : Int → Int → Bool} : Lft2 (rI0 fun i j => .bl (g i j)) (dI0 fun i j => .bl (g i j)) := fun F H x y d1 d2 Q R u p1 p2 h k => by
  obtain ⟨i, j, rfl, rfl, h⟩ := h
  rw [p1.int_inv, p2.int_inv]
  exact ⟨i, j, rfl, rfl, k _ _ (.bl _) h⟩
/-- == of two whole numbers, of two truths -/
def dEq : R2D := fun x y Q => (∃ i j, x = .int i ∧ y = .int j ∧ Q (.bl (decide (i = j)))) ∨ (∃ i j, x = .bl i ∧ y = .bl j ∧ Q (.bl (decide (i = j))))
def dNe : R2D := fun x y Q => (∃ i j, x = .int i ∧ y = .int j ∧ Q (.bl (!decide (i = j)))) ∨ (∃ i j, x = .bl i ∧ y = .bl j ∧ Q (.bl (!decide (i = j))))
theorem dec_int (i j : Int) : decide (V.int i = V.int j) = decide (i = j) := by
  by_cases e : i = j
  · subst e; simp
  · rw [decide_eq_false e, decide_eq_false fun z => e (V.int.inj z)]
theorem dec_bl (i j : Bool) : decide (V.bl i = V.bl j) = decide (i = j) := by
  by_cases e : i = j
  · subst e; simp
  · rw [decide_eq_false e, decide_eq_false fun z => e (V.bl.inj z)]
theorem lft_eq : Lft2 rEq dEq := fun F H x y d1 d2 Q R u p1 p2 h k => by
  rcases h with ⟨i, j, rfl, rfl, h⟩ | ⟨i, j, rfl, rfl, h⟩
  · rw [p1.int_inv, p2.int_inv]
    exact ⟨rfl, by rw [dec_int]; exact k _ _ (.bl _) h⟩
  · rw [p1.bl_inv, p2.bl_inv]
    exact ⟨rfl, by rw [dec_bl]; exact k _ _ (.bl _) h⟩
theorem lft_ne : Lft2 rNe dNe := fun F H x y d1 d2 Q R u p1 p2 h k => by
  rcases h with ⟨i, j, rfl, rfl, h⟩ | ⟨i, j, rfl, rfl, h⟩
  · rw [p1.int_inv, p2.int_inv]
    exact ⟨rfl, by rw [dec_int]; exact k _ _ (.bl _) h⟩
  · rw [p1.bl_inv, p2.bl_inv]
    exact ⟨rfl, by rw [dec_bl]; exact k _ _ (.bl _) h⟩
mutual
def py : Dt → PyData
  | .bl b => .bool b
  | .int i => .int i
  | .str x => .str x
  | .lst ds => .list (pys ds)
  | .tup ds => .tuple (pys ds)
  | .tuP ds => .tuple (pys ds)
  | _ => .none
def pys : List Dt → List PyData
  | [] => []
  | d :: ds => py d :: pys ds
end
mutual
def isPy : Dt → Bool
  | .obj _ => false
  | .ty _ => false
  | .lst ds => isPys ds
  | .tup ds => isPys ds
  | .dic _ _ => false
  | .dik _ _ => false
  | .tuP ds => isPys ds
  | _ => true
def isPys : List Dt → Bool
  | [] => true
  | d :: ds => isPy d && isPys ds
end
mutual
theorem Rp.dp {K : PySem.W.Frag} {F H : Hp} (u : Up F H) : ∀ {v : V} {d : Dt}, Rp F v d → isPy d = true → Dp K H v (py d)
  | _, _, .non, _ => by rw [py]; exact .non; all_goals (intros; contradiction)
  | _, _, .bl b, _ => by rw [py]; exact .bl b
  | _, _, .int b, _ => by rw [py]; exact .int b
  | _, _, .str b, _ => by rw [py]; exact .str b
  | _, _, .ty b, h => by simp [isPy] at h
  | _, _, .obj b, h => by simp [isPy] at h
  | _, _, .dic _ _ _, h => by simp [isPy] at h
  | _, _, .dik _ _ _, h => by simp [isPy] at h
  | _, _, .tuP e t, h => by rw [py]; exact .tup (tf_up e u).sq (Rps.dps u t (by simpa [isPy] using h))
  | _, _, .lst e t, h => by rw [py]; exact .lst (.inl (.inl (u _ _ e))) (Rps.dps u t (by simpa [isPy] using h))
  | _, _, .tup e t, h => by rw [py]; exact .tup (.inl (.inl (u _ _ e))) (Rps.dps u t (by simpa [isPy] using h))
theorem Rps.dps {K : PySem.W.Frag} {F H : Hp} (u : Up F H) : ∀ {v : List V} {d : List Dt}, Rps F v d → isPys d = true → DpAll K H v (pys d)
  | _, _, .nil, _ => by rw [pys]; exact .nil
  | _, d :: ds, .cons e t, h => by
    have h' : (isPy d && isPys ds) = true := by simpa [isPys] using h
    rw [Bool.and_eq_true] at h'
    rw [pys]
    exact .cons (Rp.dp u e h'.1) (Rps.dps u t h'.2)
end
def dEqD : R2D := fun x y Q => isPy x = true ∧ isPy y = true ∧ SeqAt.shaped (py x) = true ∧ SeqAt.shaped (py y) = true ∧ Q (.bl (PyData.eqv (py x) (py y)))
def dNeD : R2D := fun x y Q => isPy x = true ∧ isPy y = true ∧ SeqAt.shaped (py x) = true ∧ SeqAt.shaped (py y) = true ∧ Q (.bl (!PyData.eqv (py x) (py y)))
theorem lft_eqD {K : PySem.W.Frag} : Lft2 (rEqD K) dEqD := fun F H x y d1 d2 Q R u p1 p2 ⟨h1, h2, h3, h4, h⟩ k => ⟨_, _, p1.dp u h1, p2.dp u h2, h3, h4, k _ _ (.bl _) h⟩
theorem lft_neD {K : PySem.W.Frag} : Lft2 (rNeD K) dNeD := fun F H x y d1 d2 Q R u p1 p2 ⟨h1, h2, h3, h4, h⟩ k => ⟨_, _, p1.dp u h1, p2.dp u h2, h3, h4, k _ _ (.bl _) h⟩
theorem atI_rps {F : Hp} {xs : List V} {ds : List Dt} {i : Int} {d : Dt} (r : Rps F xs ds) (h : atI ds i = some d) : ∃ v, atI xs i = some v ∧ Rp F v d := by
  unfold atI at h ⊢
  rw [r.len]
  cases e : ixN ds.length i with
  | none => rw [e] at h; cases h
  | some j =>
    rw [e] at h
    obtain ⟨v, h1, h2⟩ := r.get (show ds[j]? = some d from h)
    exact ⟨v, h1, h2⟩
def dIxL : R2D := fun x y Q => ∃ ds i d, x = .lst ds ∧ y = .int i ∧ atI ds i = some d ∧ Q d
def dIxT : R2D := fun x y Q => ∃ ds i d, x = .tup ds ∧ y = .int i ∧ atI ds i = some d ∧ Q d
theorem lft_ixL {K : PySem.W.Frag} : Lft2 (rIxL K) dIxL := fun F H x y d1 d2 Q R u p1 p2 ⟨ds, i, d, e1, e2, h, q⟩ k => by
  subst e1 e2
  obtain ⟨a, xs, rfl, hF, rx⟩ := p1.lst_inv
  obtain ⟨v, h1, h2⟩ := atI_rps rx h
  exact ⟨a, xs, i, v, rfl, p2.int_inv, .inl (.inl (u _ _ hF)), h1, k _ _ h2 q⟩
theorem lft_ixT {K : PySem.W.Frag} : Lft2 (rIxT K) dIxT := fun F H x y d1 d2 Q R u p1 p2 ⟨ds, i, d, e1, e2, h, q⟩ k => by
  subst e1 e2
  obtain ⟨a, xs, rfl, hF, rx⟩ := p1.tup_inv
  obtain ⟨v, h1, h2⟩ := atI_rps rx h
  exact ⟨a, xs, i, v, rfl, p2.int_inv, .inl (.inl (u _ _ hF)), h1, k _ _ h2 q⟩
def dIn (neg : Bool) : R2D := fun x y Q => ∃ (k : Int) (ns : List Int), x = .int k ∧ (y = .lst (ns.map Dt.int) ∨ y = .tup (ns.map Dt.int)) ∧ Q (.bl (if neg then !decide (k ∈ ns) else decide (k ∈ ns)))
theorem inV_ints (k : Int) : ∀ ns : List Int, inV (.int k) (ns.map V.int) = decide (k ∈ ns) := by
  intro ns
  induction ns with
  | nil => rfl
  | cons n ns ih =>
    have : inV (.int k) (V.int n :: ns.map V.int) = ((n == k) || inV (.int k) (ns.map V.int)) := rfl
    rw [List.map_cons, this, ih]
    by_cases h : n = k
    · subst h; simp
    · have h' : ¬ k = n := fun z => h z.symm
      simp [h, h']
theorem flat_ints (ns : List Int) : (ns.map V.int).all flatV = true := by
  rw [List.all_eq_true]
  intro x hx
  obtain ⟨n, _, rfl⟩ := List.mem_map.mp hx
  rfl
theorem lft_in {K : PySem.W.Frag} {neg : Bool} : Lft2 (rIn K neg) (dIn neg) := fun F H x y d1 d2 Q R u p1 p2 ⟨k, ns, e1, e2, q⟩ kk => by
  subst e1
  rcases e2 with rfl | rfl
  · obtain ⟨a, xs, rfl, hF, rx⟩ := p2.lst_inv
    rw [rx.of_ints] at hF
    rw [p1.int_inv]
    exact ⟨a, _, rfl, .inl (.inl (.inl (u _ _ hF))), rfl, flat_ints ns, by rw [inV_ints]; exact kk _ _ (.bl _) q⟩
  · obtain ⟨a, xs, rfl, hF, rx⟩ := p2.tup_inv
    rw [rx.of_ints] at hF
    rw [p1.int_inv]
    exact ⟨a, _, rfl, .inr (.inl (.inl (u _ _ hF))), rfl, flat_ints ns, by rw [inV_ints]; exact kk _ _ (.bl _) q⟩
def dLen : RCD := fun ds Q => ∃ zs, (ds = [.lst zs] ∨ ds = [.tup zs]) ∧ Q (.int zs.length)
theorem Rps.one {F : Hp} {vs : List V} {d : Dt} (h : Rps F vs [d]) : ∃ v, vs = [v] ∧ Rp F v d := by
  cases h with
  | cons p t => cases t; exact ⟨_, rfl, p⟩
theorem Rps.two {F : Hp} {vs : List V} {d e : Dt} (h : Rps F vs [d, e]) : ∃ v w, vs = [v, w] ∧ Rp F v d ∧ Rp F w e := by
  cases h with
  | cons p t =>
    obtain ⟨w, rfl, q⟩ := t.one
    exact ⟨_, _, rfl, p, q⟩
theorem lft_len {K : PySem.W.Frag} : LftC (fun xs H Q => ∃ p ys, xs = [.ref p] ∧ (SqL K H p ys ∨ SqT K H p ys) ∧ Q (.int ys.length) H) dLen := fun F H vs ds Q R u rp ⟨zs, h, q⟩ k => by
  rcases h with rfl | rfl
  · obtain ⟨v, rfl, p⟩ := rp.one
    obtain ⟨a, xs, rfl, hF, rx⟩ := p.lst_inv
    exact ⟨a, xs, rfl, .inl (.inl (.inl (u _ _ hF))), by rw [rx.len]; exact k _ _ (.int _) q⟩
  · obtain ⟨v, rfl, p⟩ := rp.one
    obtain ⟨a, xs, rfl, hF, rx⟩ := p.tup_inv
    exact ⟨a, xs, rfl, .inr (.inl (.inl (u _ _ hF))), by rw [rx.len]; exact k _ _ (.int _) q⟩
def dListOf : RCN := fun ds Q => ∃ zs, (ds = [.lst zs] ∨ ds = [.tup zs]) ∧ Q (.lst zs)
theorem lft_listOf {K : PySem.W.Frag} : LftN (fun xs H Q => ∃ p ys, xs = [.ref p] ∧ (SqL K H p ys ∨ SqT K H p ys) ∧ ∀ l, H l = none → Q (.ref l) (upd H l (.lst ys))) dListOf := fun F H vs ds Q R u rp ⟨zs, h, q⟩ k => by
  rcases h with rfl | rfl
  · obtain ⟨v, rfl, p⟩ := rp.one
    obtain ⟨a, xs, rfl, hF, rx⟩ := p.lst_inv
    exact ⟨a, xs, rfl, .inl (.inl (.inl (u _ _ hF))), fun l hl => k l _ (.lst zs) hl ⟨xs, rfl, rx⟩ q⟩
  · obtain ⟨v, rfl, p⟩ := rp.one
    obtain ⟨a, xs, rfl, hF, rx⟩ := p.tup_inv
    exact ⟨a, xs, rfl, .inr (.inl (.inl (u _ _ hF))), fun l hl => k l _ (.lst zs) hl ⟨xs, rfl, rx⟩ q⟩
def dTupleOf : RCD := fun ds Q => ∃ zs, ds = [.lst zs] ∧ Q (.tup zs)
theorem lft_tupleOf {K : PySem.W.Frag} : LftT (fun xs H Q => ∃ p ys, xs = [.ref p] ∧ ((SqL K H p ys ∧ ∀ l, H l = none → Q (.ref l) (upd H l (.tup ys))) ∨ (SqT K H p ys ∧ Q (.ref p) H))) dTupleOf := fun F H vs ds Q R u rp ⟨zs, h, q⟩ k => by
  subst h
  obtain ⟨v, rfl, p⟩ := rp.one
  obtain ⟨a, xs, rfl, hF, rx⟩ := p.lst_inv
  exact ⟨a, xs, rfl, .inl ⟨.inl (.inl (u _ _ hF)), fun l hl => k l xs zs hl rx q⟩⟩
/-- sorted of whole numbers -/
def dSorted : RCN := fun ds Q => ∃ ns : List Int, ds = [.lst (ns.map Dt.int)] ∧ ns.length < 64 ∧ ∀ ns' : List Int, ns'.Perm ns → ns'.Pairwise (· ≤ ·) → Q (.lst (ns'.map Dt.int))
theorem lft_sorted {K : PySem.W.Frag} : LftN (rSorted K) dSorted := fun F H vs ds Q R u rp ⟨ns, h, hl, q⟩ k => by
  subst h
  obtain ⟨v, rfl, p⟩ := rp.one
  obtain ⟨a, xs, rfl, hF, rx⟩ := p.lst_inv
  rw [rx.of_ints] at hF
  exact ⟨a, ns, rfl, .inl (.inl (u _ _ hF)), hl, fun ns' l h1 h2 h3 => k l _ (.lst (ns'.map Dt.int)) h3 ⟨_, rfl, Rps.ints ns'⟩ (q ns' h1 h2)⟩
def dAll : RCD := fun ds Q => ∃ bs : List Bool, ds = [.lst (bs.map Dt.bl)] ∧ Q (.bl (bs.all id))
theorem lft_all {K : PySem.W.Frag} : LftC (rAll K) dAll := fun F H vs ds Q R u rp ⟨ns, h, q⟩ k => by
  subst h
  obtain ⟨v, rfl, p⟩ := rp.one
  obtain ⟨a, xs, rfl, hF, rx⟩ := p.lst_inv
  rw [rx.of_bools] at hF
  exact ⟨a, ns, rfl, .inl (.inl (u _ _ hF)), k _ _ (.bl _) q⟩
def dSum : RCD := fun ds Q => ∃ ns : List Int, ds = [.lst (ns.map Dt.int)] ∧ Q (.int ns.sum)
theorem lft_sum {K : PySem.W.Frag} : LftC (rSum K) dSum := fun F H vs ds Q R u rp ⟨ns, h, q⟩ k => by
  subst h
  obtain ⟨v, rfl, p⟩ := rp.one
  obtain ⟨a, xs, rfl, hF, rx⟩ := p.lst_inv
  rw [rx.of_ints] at hF
  exact ⟨a, ns, rfl, .inl (.inl (u _ _ hF)), k _ _ (.int _) q⟩
section
variable {c : Fc} {X : Cx} {a b e : Expr} {es : List Expr} {te ta tb : VTE} {tas : VTA} {pos p : Pos} {x : Str} {r : RC} {r' : RCD} {rn : RCN} {id T : String}
theorem ve_cb (hc : CallR X (.builtin id) r) (L : LftC r r') (hg : Gl X x) (hm : X.mg x = none) (hv : bootBuiltins x = some (.builtin id)) (ha : PA X (e :: es) (aOf c tas)) (hn : x ≠ "__name__" := by decide) (hdb : (x == ("__debug__" : Str)) = false := by decide)
    (he : starEach (e :: es) X.env = (false, eval e X.env) :: starEach es X.env := by rfl) (hpl : (backTo pos (starEach es X.env)).any (·.1) = false := by rfl) : PE X (.Call (.Name x p) (e :: es) [] pos) (tOf c (vCB r' tas)) := PE.imp (pe_callB hc hg hm hv ha hn hdb he hpl) fun _ _ _ => cb_of L
theorem ve_cbR (hc : CallR X (.builtin id) r) (L : LftC r r') (hg : Gl X x) (hm : X.mg x = none) (hv : bootBuiltins x = some (.builtin id)) (ha : PA X (e :: es) (bOf c tas)) (hn : x ≠ "__name__" := by decide) (hdb : (x == ("__debug__" : Str)) = false := by decide)
    (he : starEach (e :: es) X.env = (false, eval e X.env) :: starEach es X.env := by rfl) (hpl : (backTo pos (starEach es X.env)).any (·.1) = false := by rfl) : PE X (.Call (.Name x p) (e :: es) [] pos) (tOf c (vCBR r' tas)) := PE.imp (pe_callB hc hg hm hv ha hn hdb he hpl) fun _ _ _ => cbR_of L
theorem vn_cb (hc : CallR X (.builtin id) r) (L : LftN r rn) (hg : Gl X x) (hm : X.mg x = none) (hv : bootBuiltins x = some (.builtin id)) (ha : PA X (e :: es) (aOf c tas)) (hn : x ≠ "__name__" := by decide) (hdb : (x == ("__debug__" : Str)) = false := by decide)
    (he : starEach (e :: es) X.env = (false, eval e X.env) :: starEach es X.env := by rfl) (hpl : (backTo pos (starEach es X.env)).any (·.1) = false := by rfl) : PE X (.Call (.Name x p) (e :: es) [] pos) (nOf c (vCN rn tas)) := PE.imp (pe_callB hc hg hm hv ha hn hdb he hpl) fun _ _ _ => cn_of L
theorem vn_cbR (hc : CallR X (.builtin id) r) (L : LftN r rn) (hg : Gl X x) (hm : X.mg x = none) (hv : bootBuiltins x = some (.builtin id)) (ha : PA X (e :: es) (bOf c tas)) (hn : x ≠ "__name__" := by decide) (hdb : (x == ("__debug__" : Str)) = false := by decide)
    (he : starEach (e :: es) X.env = (false, eval e X.env) :: starEach es X.env := by rfl) (hpl : (backTo pos (starEach es X.env)).any (·.1) = false := by rfl) : PE X (.Call (.Name x p) (e :: es) [] pos) (nOf c (vCNR rn tas)) := PE.imp (pe_callB hc hg hm hv ha hn hdb he hpl) fun _ _ _ => cnR_of L
theorem vn_tyR (hc : CallR X (.type T) r) (L : LftN r rn) (hg : Gl X x) (hm : X.mg x = none) (hv : bootBuiltins x = some (.type T)) (ha : PA X (e :: es) (bOf c tas)) (hn : x ≠ "__name__" := by decide) (hdb : (x == ("__debug__" : Str)) = false := by decide)
    (he : starEach (e :: es) X.env = (false, eval e X.env) :: starEach es X.env := by rfl) (hpl : (backTo pos (starEach es X.env)).any (·.1) = false := by rfl) : PE X (.Call (.Name x p) (e :: es) [] pos) (nOf c (vCNR rn tas)) := PE.imp (pe_callTy hc hg hm hv ha hn hdb he hpl) fun _ _ _ => cnR_of L
theorem ve_tyTR (hc : CallR X (.type T) r) (L : LftT r r') (hg : Gl X x) (hm : X.mg x = none) (hv : bootBuiltins x = some (.type T)) (ha : PA X (e :: es) (bOf c tas)) (hn : x ≠ "__name__" := by decide) (hdb : (x == ("__debug__" : Str)) = false := by decide)
    (he : starEach (e :: es) X.env = (false, eval e X.env) :: starEach es X.env := by rfl) (hpl : (backTo pos (starEach es X.env)).any (·.1) = false := by rfl) : PE X (.Call (.Name x p) (e :: es) [] pos) (tOf c (vCBR r' tas)) := PE.imp (pe_callTy hc hg hm hv ha hn hdb he hpl) fun _ _ _ => ctR_of L
theorem ve_tyC (hc : CallR X (.type T) r) (L : LftC r r') (hg : Gl X x) (hm : X.mg x = none) (hv : bootBuiltins x = some (.type T)) (ha : PA X (e :: es) (aOf c tas)) (hn : x ≠ "__name__" := by decide) (hdb : (x == ("__debug__" : Str)) = false := by decide)
    (he : starEach (e :: es) X.env = (false, eval e X.env) :: starEach es X.env := by rfl) (hpl : (backTo pos (starEach es X.env)).any (·.1) = false := by rfl) : PE X (.Call (.Name x p) (e :: es) [] pos) (tOf c (vCB r' tas)) := PE.imp (pe_callTy hc hg hm hv ha hn hdb he hpl) fun _ _ _ => cb_of L
theorem ve_ix {r : R2} {rd : R2D} (hr : IxR X r) (L : Lft2 r rd) (ha : PE X a (tOf c ta)) (hb : PE X b (tOf c tb)) (hs : PlainIx b) : PE X (.Subscript a b pos) (tOf c (vOp rd ta tb)) := PE.imp (pe_ix hr ha hb hs) fun _ _ _ => op_of L
/-- of a list of one's own -/
def vIxO (i : Nat) (tb : VTE) : VTE := fun env n Q => (∃ d0, rdS env i d0) ∧ tb env n fun y env' n' => ∃ ds k d, rdS env' i (.lst ds) ∧ y = .int k ∧ atI ds k = some d ∧ Q d env' n'
theorem Rel.rdL {F H : Hp} {σ : L2.St} {env : Ev} {n : Nat} {i : Nat} {ds : List Dt} (r : Rel c F H σ env n) (e : VL.rdS env i (.lst ds)) : ∃ a xs, σ[i]? = some (some (.ref a)) ∧ H a = some (.lst xs) ∧ Rps F xs ds := by
  rcases e with e | ⟨ds', e, h⟩
  · obtain ⟨v, e2, rp⟩ := r.sl i _ e
    obtain ⟨a, xs, rfl, hF, rx⟩ := rp.lst_inv
    exact ⟨a, xs, e2, r.sub _ _ hF, rx⟩
  · cases h
    exact r.rdOwn e
theorem ve_ixO {i : Nat} (ha : PE X a (tVar i)) (hb : PE X b (tOf c tb)) (hs : PlainIx b) : PE X (.Subscript a b pos) (tOf c (vIxO i tb)) := PE.imp (pe_ix ix_list ha hb hs) fun σ H R ⟨F, env, n, Q, r, ⟨⟨d0, e0⟩, q⟩, k⟩ => by
  obtain ⟨v0, _, ev, _⟩ := r.rdS r.gx e0
  refine ⟨v0, ev, F, env, n, _, r, q, fun y H2 F2 d2 env2 n2 r2 u2 p2 q2 => ?_⟩
  obtain ⟨ds, kk, d, ed, rfl, hat, q2⟩ := q2
  obtain ⟨a, xs, ea, hH, rx⟩ := r2.rdL ed
  rw [ev] at ea
  cases ea
  obtain ⟨v, h1, h2⟩ := atI_rps rx hat
  exact ⟨a, xs, kk, v, rfl, p2.int_inv, .inl (.inl hH), h1, k _ H2 F2 d env2 n2 r2 u2 h2 q2⟩
end
end VL
namespace VL
open PySem PySem.Spec PyProof.Rows L2 HM
/-- from F, H to F', H': nothing that stood is written, but what runs along -/
structure Out (am : Am) (F H F' H' : Hp) (n' : Nat) : Prop where
  u : Up F F'
  s : Up F' H'
  f : ∀ a, am.sp a → F' a = none
  o : ∀ a ob, H a = some ob → NT ob → F a = none → F' a = none
  k : ∀ a o, H a = some o → ¬ am.sp a → H' a = some o
  a : am.ok n' F' H'
abbrev VXK := Value → Option (List (Str × V)) → Nat → Prop
abbrev VSp := List Dt → Nat → (Dt → Nat → Prop) → VXK → Prop
/-- how an exception's own dict lies -/
def XOk (H H' F' : Hp) (od : Option Addr) (fs : Option (List (Str × V))) : Prop := (od = none ∧ fs = none) ∨ ∃ d l, od = some d ∧ fs = some l ∧ H d = none ∧ H' d = some (.xd l) ∧ F' d = none
def vsp (am : Am) (sp : VSp) : Sp := fun vs H Q E => ∃ F ds n Q' E', Up F H ∧ (∀ a, am.sp a → F a = none) ∧ am.ok n F H ∧ Rps F vs ds ∧ sp ds n Q' E' ∧ (∀ v F' H' d n', Out am F H F' H' n' → Rp F' v d → Q' d n' → Q v H') ∧
  ∀ cls od fs F' H' n', Out am F H F' H' n' → XOk H H' F' od fs → E' cls fs n' → E cls od H'
abbrev VFn (gd : Around → Prop) (P : Program) (w : World) (K : PySem.W.Frag) (mg : Str → Option Value) (base : Heap) (CX : CXT) (k : Nat) (f : Addr) (fd : FuncData) (ps : List Str) (am : Am) (sp : VSp) : Prop := PFn gd P w K mg base CX k f fd ps (vsp am sp)
def startE (N : List Str) (ds : List Dt) : Ev := ds.map Sl.fz ++ List.replicate (N.length - ds.length) Sl.no
theorem rel_start {am : Am} {F H : Hp} {N : List Str} {vs : List V} {ds : List Dt} {n : Nat} (u : Up F H) (hs : ∀ a, am.sp a → F a = none) (ha : am.ok n F H) (r : Rps F vs ds) : Rel ⟨am, F, H⟩ F H (L2.start N vs) (startE N ds) n := by
  have hl := r.len
  refine ⟨u, hs, ha, Up.refl F, fun _ _ _ _ e => e, fun _ _ e _ => e, by simp [L2.start, startE, hl], fun i s e => ?_, fun i j a k k' _ e1 _ _ => ?_⟩
  · unfold startE at e
    by_cases hi : i < ds.length
    · rw [List.getElem?_append_left (by simpa using hi), List.getElem?_map] at e
      obtain ⟨d, hd, rfl⟩ := Option.map_eq_some_iff.mp e
      obtain ⟨v, hv, rv⟩ := r.get hd
      refine ⟨v, ?_, rv⟩
      unfold L2.start
      rw [List.getElem?_append_left (by simp; omega), List.getElem?_map, hv]
      rfl
    · rw [List.getElem?_append_right (by simp; omega)] at e
      have := List.mem_of_getElem? e
      rw [List.mem_replicate] at this
      rw [this.2]
      trivial
  · unfold startE at e1
    by_cases hi : i < ds.length
    · rw [List.getElem?_append_left (by simpa using hi), List.getElem?_map] at e1
      obtain ⟨d, hd, z⟩ := Option.map_eq_some_iff.mp e1
      cases z
    · rw [List.getElem?_append_right (by simp; omega)] at e1
      have := List.mem_of_getElem? e1
      rw [List.mem_replicate] at this
      cases this.2
theorem Rel.out {am : Am} {F0 H0 F H : Hp} {σ : L2.St} {env : Ev} {n : Nat} (r : Rel ⟨am, F0, H0⟩ F H σ env n) : Out am F0 H0 F H n := ⟨r.up0, r.sub, r.spf, r.out0, r.keep0, r.amb⟩
section
variable {P : Program} {w : World} {K : PySem.W.Frag} {mg : Str → Option Value} {base : Heap} {am : Am} {gd : Around → Prop} {x qual : Str} {st : Stmt} {f : Addr} {fd : FuncData} {N ps : List Str} {k : Nat} {sp : VSp}
/-- a def that lets no exception out -/
theorem vfn_of (F : Fun K x qual st f fd) (S : FnScope N ps (defScope st)) (len : ∀ ds n Q E, sp ds n Q E → ds.length = ps.length)
    (body : ∃ ts : VTS, (∀ (cdv : Value) (A : Around) (out : List Env) (s : Shared) (H : Hp) (E : XK) (F0 H0 : Hp), fd.code = cdv → gd A → Room k (A.deeper (envOfC qual (defScope st) s.heap.objs.size f cdv)) → PSs (cxOf CX0 P w K mg base N qual (defScope st) f cdv A out s H E).nox (defBody st) (sOf ⟨am, F0, H0⟩ ts)) ∧
      ∀ ds n Q E, sp ds n Q E → ts { nx := fun _ n' => Q .non n', rt := Q } (startE N ds) n) : VFn gd P w K mg base CX0 (k + 1) f fd ps am sp := by
  obtain ⟨ts, hts, hsp⟩ := body
  refine pfn_of F S (fun vs H Q E h => ?_) (fun cdv A out s H vs Q E hcd hgd hr h => ?_)
  · obtain ⟨F0, ds, n, Q', E', _, _, _, r, h, _⟩ := h
    rw [r.len]
    exact len ds n Q' E' h
  · obtain ⟨F0, ds, n, Q', E', u, hs, ha, r, h, kq, ke⟩ := h
    refine ⟨_, hts cdv A out s H E F0 H hcd hgd hr, F0, startE N ds, n, _, rel_start u hs ha r, hsp ds n Q' E' h, ⟨fun F' H' σ' env' n' r' _ q => kq .non F' H' .non n' r'.out .non q, fun F' H' σ' env' n' v d r' _ rv q => kq v F' H' d n' r'.out rv q, fun _ _ _ _ _ _ _ z => z.elim, fun _ _ _ _ _ _ _ z => z.elim⟩⟩
variable {X : Cx} {c : Fc} {CX : CXT} {E : XK} {p pos : Pos} {e : Expr} {es : List Expr} {tas : VTA}
/-- f(..) -/
def vCall (sp : VSp) (ta : VTA) : VTE := fun env n Q => ta env n fun ds env1 n1 => sp ds n1 (fun d n2 => Q d env1 n2) fun _ _ _ => False
theorem call_of {σ : L2.St} {H : Hp} {R : VK} (h : tOf c (vCall sp tas) σ H R) : tCall (vsp c.am sp) [] E (aOf c tas) σ H R := by
  obtain ⟨F, env, n, Q, r, q, k⟩ := h
  refine ⟨F, env, n, _, r, q, fun vs H1 F1 ds env1 n1 r1 u1 p1 q1 => ?_⟩
  show vsp c.am sp (vs ++ []) H1 R E
  rw [List.append_nil]
  exact ⟨F1, ds, n1, _, _, r1.sub, r1.spf, r1.amb, p1, q1, fun v F' H' d n' o rv qv => k v H' F' d env1 n' (r1.call o.u o.s o.f o.o o.k o.a) (u1.trans o.u) rv qv, fun _ _ _ _ _ _ _ _ z => z.elim⟩
theorem ve_call (G : VFn gd X.prog X.w X.K X.mg X.base CX k f fd ps c.am sp) (hgd : gd X.A) (hr : Room k X.A) (hg : Gl X x) (hm : X.mg x = some (.ref f)) (hk : PySem.W.keepIn X.K (.ref f) = true) (hb : Binds X.K fd ps []) (hx : Passes CX X (fun _ _ _ => False)) (ha : PA X (e :: es) (aOf c tas)) (hdb : (x == ("__debug__" : Str)) = false := by decide)
    (he : starEach (e :: es) X.env = (false, eval e X.env) :: starEach es X.env := by rfl) (hpl : (backTo pos (starEach es X.env)).any (·.1) = false := by rfl) : PE X (.Call (.Name x p) (e :: es) [] pos) (tOf c (vCall sp tas)) := PE.imp (pe_callP G hgd hr hg hm hk hb hx ha hdb he hpl) fun _ _ _ => call_of
end
def Fc.wth (c : Fc) (D : Addr) (o : HO) : Fc := ⟨c.am, c.F0, upd c.H0 D o⟩
section
variable {c : Fc} {F H : Hp} {σ : L2.St} {env : Ev} {n : Nat} {D : Addr} {o : HO}
theorem Rel.push (r : Rel c F H σ env n) (hH : H D = some o) (hF : F D = none) (ns : ¬ c.am.sp D) (hn : ∀ (j : Nat) k', env[j]? = some (.ow k') → σ[j]? ≠ some (some (.ref D))) : Rel (c.wth D o) F H σ env n := by
  refine ⟨r.sub, r.spf, r.amb, r.up0, fun a oa h1 nt h2 => ?_, fun a ob e na => ?_, r.len, fun i s e => ?_, r.apart⟩
  · by_cases z : a = D
    · rw [z]; exact hF
    · exact r.out0 a oa (by have : upd c.H0 D o a = some oa := h1; rwa [upd_ne z] at this) nt h2
  · by_cases z : a = D
    · have e' : upd c.H0 D o a = some ob := e
      rw [z, upd_same] at e'
      cases e'
      rw [z]; exact hH
    · have e' : upd c.H0 D o a = some ob := e
      rw [upd_ne z] at e'
      exact r.keep0 a ob e' na
  · have q := r.sl i s e
    cases s with
    | no => trivial
    | fz d => exact q
    | ow k =>
      obtain ⟨a, ob, g1, g2, g3, g4, g5, g6⟩ := q
      exact ⟨a, ob, g1, g2, by show upd c.H0 D o a = none; rw [upd_ne fun z => hn i k e (by rw [g1, z])]; exact g3, g4, g5, g6⟩
theorem Rel.pop (nto : NT o) (r : Rel (c.wth D o) F H σ env n) (h0 : c.H0 D = none) (hF0 : c.F0 D = none) (ns : ¬ c.am.sp D) : Rel c F H σ env n ∧ H D = some o ∧ F D = none ∧ ∀ (j : Nat) k', env[j]? = some (.ow k') → σ[j]? ≠ some (some (.ref D)) := by
  refine ⟨⟨r.sub, r.spf, r.amb, r.up0, fun a oa h1 nt h2 => ?_, fun a ob e na => ?_, r.len, fun i s e => ?_, r.apart⟩, ?_, ?_, fun j k' e z => ?_⟩
  · refine r.out0 a oa ?_ nt h2
    show upd c.H0 D o a = some oa
    rw [upd_ne fun z => by rw [z, h0] at h1; cases h1]
    exact h1
  · refine r.keep0 a ob ?_ na
    show upd c.H0 D o a = some ob
    rw [upd_ne fun z => by rw [z, h0] at e; cases e]
    exact e
  · have q := r.sl i s e
    cases s with
    | no => trivial
    | fz d => exact q
    | ow k =>
      obtain ⟨a, ob, g1, g2, g3, g4, g5, g6⟩ := q
      refine ⟨a, ob, g1, g2, ?_, g4, g5, g6⟩
      have g3' : upd c.H0 D o a = none := g3
      by_cases z : a = D
      · rw [z]; exact h0
      · rw [upd_ne z] at g3'; exact g3'
  · exact r.keep0 D o (show upd c.H0 D o D = some o from upd_same) ns
  · exact r.out0 D o (show upd c.H0 D o D = some o from upd_same) nto hF0
  · obtain ⟨a, ob, g1, _, g3, _⟩ := r.sl j _ e
    rw [g1] at z
    cases z
    have g3' : upd c.H0 D o D = none := g3
    rw [upd_same] at g3'
    cases g3'
end
end VL
namespace VL
open PySem PySem.Spec PyProof.Rows L2 HM
def wipeE (env : Ev) : List Nat → Ev
  | [] => env
  | v :: vs => (wipeE env vs).set v .no
def restE (env1 env : Ev) : List Nat → Ev
  | [] => env
  | v :: vs => (restE env1 env vs).set v (env1.getD v .no)
theorem wipeE_length (env : Ev) : ∀ vs : List Nat, (wipeE env vs).length = env.length
  | [] => rfl
  | v :: vs => by unfold wipeE; rw [List.length_set, wipeE_length env vs]
theorem restE_length (env1 env : Ev) : ∀ vs : List Nat, (restE env1 env vs).length = env.length
  | [] => rfl
  | v :: vs => by unfold restE; rw [List.length_set, restE_length env1 env vs]
theorem wipeE_get {env : Ev} {i : Nat} {s : Sl} : ∀ {vs : List Nat}, (wipeE env vs)[i]? = some s → s = .no ∨ (env[i]? = some s ∧ i ∉ vs)
  | [], h => .inr ⟨h, by simp⟩
  | v :: vs, h => by
    unfold wipeE at h
    by_cases z : i = v
    · subst z
      have hl := (List.getElem?_eq_some_iff.mp h).1
      rw [List.length_set] at hl
      rw [List.getElem?_set_self hl] at h
      exact .inl (Option.some.inj h).symm
    · rw [List.getElem?_set_ne (Ne.symm z)] at h
      rcases wipeE_get h with h | ⟨h1, h2⟩
      · exact .inl h
      · exact .inr ⟨h1, by simp [z, h2]⟩
theorem restE_get {env1 env : Ev} {i : Nat} {s : Sl} : ∀ {vs : List Nat}, (restE env1 env vs)[i]? = some s → (s = env1.getD i .no ∧ i ∈ vs) ∨ (env[i]? = some s ∧ i ∉ vs)
  | [], h => .inr ⟨h, by simp⟩
  | v :: vs, h => by
    unfold restE at h
    by_cases z : i = v
    · subst z
      have hl := (List.getElem?_eq_some_iff.mp h).1
      rw [List.length_set] at hl
      rw [List.getElem?_set_self hl] at h
      exact .inl ⟨(Option.some.inj h).symm, by simp⟩
    · rw [List.getElem?_set_ne (Ne.symm z)] at h
      rcases restE_get h with ⟨h1, h2⟩ | ⟨h1, h2⟩
      · exact .inl ⟨h1, by simp [h2]⟩
      · exact .inr ⟨h1, by simp [z, h2]⟩
theorem wipe_get (σ : L2.St) (i : Nat) : ∀ vs : List Nat, (wipe σ vs)[i]? = if i ∈ vs ∧ i < σ.length then some none else σ[i]?
  | [] => by simp [wipe]
  | v :: vs => by
    unfold wipe
    by_cases z : i = v
    · subst z
      by_cases hl : i < σ.length
      · rw [List.getElem?_set_self (by rw [wipe_length]; exact hl), if_pos ⟨by simp, hl⟩]
      · rw [if_neg (fun h => hl h.2), List.getElem?_eq_none (by rw [List.length_set, wipe_length]; omega), List.getElem?_eq_none (by omega)]
    · rw [List.getElem?_set_ne (Ne.symm z), wipe_get σ i vs]
      simp [z]
theorem wipe_set {σ : L2.St} {i : Nat} {x : Option V} {vs : List Nat} (h : i ∈ vs) : wipe (σ.set i x) vs = wipe σ vs := by
  refine List.ext_getElem? fun j => ?_
  rw [wipe_get, wipe_get, List.length_set]
  by_cases z : j = i
  · subst z
    by_cases hl : j < σ.length
    · rw [if_pos ⟨h, hl⟩, if_pos ⟨h, hl⟩]
    · rw [if_neg (fun q => hl q.2), if_neg (fun q => hl q.2), List.getElem?_eq_none (by rw [List.length_set]; omega), List.getElem?_eq_none (by omega)]
  · rw [List.getElem?_set_ne (Ne.symm z)]
theorem Rel.wipe {c : Fc} {F H : Hp} {σ : L2.St} {env : Ev} {n : Nat} (r : Rel c F H σ env n) (vs : List Nat) : Rel c F H (L2.wipe σ vs) (wipeE env vs) n :=
  r.weak (by rw [wipe_length, wipeE_length, r.len]) fun i s e => by
    rcases wipeE_get e with h | ⟨h1, h2⟩
    · exact .inl h
    · exact .inr ⟨h1, wipe_out h2⟩
theorem Rel.wipe2 {c : Fc} {F H : Hp} {σ σ2 : L2.St} {env : Ev} {n : Nat} {vs : List Nat} (r : Rel c F H σ2 env n) (h : L2.wipe σ2 vs = L2.wipe σ vs) : Rel c F H (L2.wipe σ vs) (wipeE env vs) n := h ▸ r.wipe vs
theorem Rel.rest {c : Fc} {F1 H1 F H : Hp} {σ : L2.St} {env1 env : Ev} {n1 n : Nat} {vs : List Nat} (r1 : Rel c F1 H1 σ env1 n1) (u : Up F1 F) (no : ∀ i ∈ vs, ∀ k, env1[i]? ≠ some (.ow k)) (r : Rel c F H (L2.wipe σ vs) env n) : Rel c F H σ (restE env1 env vs) n := by
  have hl : σ.length = env.length := by rw [← r.len, wipe_length]
  refine ⟨r.sub, r.spf, r.amb, r.up0, r.out0, r.keep0, by rw [restE_length]; exact hl, fun i s e => ?_, fun i j a k k' hij e1 e2 e3 => ?_⟩
  · rcases restE_get e with ⟨rfl, h2⟩ | ⟨h1, h2⟩
    · cases e4 : env1[i]? with
      | none =>
        have : env1.getD i .no = .no := by rw [List.getD_eq_getElem?_getD, e4]; rfl
        rw [this]; trivial
      | some s =>
        have : env1.getD i .no = s := by rw [List.getD_eq_getElem?_getD, e4]; rfl
        rw [this]
        have q := r1.sl i s e4
        cases s with
        | no => trivial
        | fz d => exact let ⟨v, g1, g2⟩ := q; ⟨v, g1, g2.up u⟩
        | ow k => exact absurd e4 (no i h2 k)
    · have q := r.sl i s h1
      rw [wipe_out h2] at q
      exact q
  · have f : ∀ {i : Nat} {k : Con}, (restE env1 env vs)[i]? = some (.ow k) → i ∉ vs ∧ env[i]? = some (.ow k) := fun {i k} e => by
      rcases restE_get e with ⟨h1, h2⟩ | ⟨h1, h2⟩
      · cases e4 : env1[i]? with
        | none =>
          have : env1.getD i .no = .no := by rw [List.getD_eq_getElem?_getD, e4]; rfl
          rw [this] at h1; cases h1
        | some s =>
          have : env1.getD i .no = s := by rw [List.getD_eq_getElem?_getD, e4]; rfl
          rw [this] at h1
          rw [← h1] at e4
          exact absurd e4 (no i h2 k)
      · exact ⟨h2, h1⟩
    obtain ⟨n1, f1⟩ := f e1
    obtain ⟨n2, f2⟩ := f e2
    have q := r.apart i j a k k' hij f1 f2 (by rw [wipe_out n1]; exact e3)
    rw [wipe_out n2] at q
    exact q
/-- the target of a comprehension -/
def TgOk (g : TG) (gv : VTG) (vs : List Nat) : Prop := ∀ (c : Fc) F H σ env n v d (Q : Ev → Nat → Prop) (R : L2.St → Hp → Prop), Rel c F H σ env n → Rp F v d → gv d env n Q → (∀ σ' env' n', Rel c F H σ' env' n' → L2.wipe σ' vs = L2.wipe σ vs → Q env' n' → R σ' H) → g v σ H R
theorem tg_name {i : Nat} {vs : List Nat} (h : i ∈ vs) : TgOk (gName i) (vgName i) vs := fun c F H σ env n v d Q R r rp q k => k _ _ n (r.setF rp) (wipe_set h) q
theorem tg_two {K : PySem.W.Frag} {i j : Nat} {vs : List Nat} (hi : i ∈ vs) (hj : j ∈ vs) : TgOk (gTup K 2 (gCons (gName i) (gCons (gName j) gNil))) (vgTup 2 (vgCons (vgName i) (vgCons (vgName j) vgNil))) vs := fun c F H σ env n v d Q R r rp q k => by
  obtain ⟨ds, rfl, hl, d1, r1, rfl, d2, r2, rfl, rfl, q⟩ := q
  obtain ⟨a, xs, rfl, hF, rx⟩ := rp.tup_inv
  obtain ⟨v1, v2, rfl, p1, p2⟩ := rx.two
  exact ⟨a, _, rfl, .inl (.inl (r.sub _ _ hF)), rfl, _, _, rfl, _, _, rfl, rfl, k _ _ n ((r.setF p1).setF p2) (by rw [wipe_set hj, wipe_set hi]) q⟩
def vYes : VTT := fun env n Q => Q true env n
theorem vts_nil {c : Fc} {X : Cx} : PTs X [] (cOf c vYes) := ⟨fun pins s σ H Q I ⟨F, env, n, Q', r, q, k⟩ => (pts_nil (X := X)).run pins s σ H Q I (k true H F env n r (Up.refl F) q)⟩
theorem vts_one {c : Fc} {X : Cx} {e : Expr} {tt : VTT} (h : PT X e (cOf c tt)) : PTs X [e] (cOf c tt) := pts_one h
def LcBody (g : VTG) (tt : VTT) (te : VTE) (vs : List Nat) (xs : List Dt) (env1 : Ev) (n1 : Nat) (Q : Con → Ev → Nat → Prop) : Prop := (∀ i ∈ vs, ∀ k, env1[i]? ≠ some (.ow k)) ∧ xs.length ≤ 5000 ∧ ∃ P : Nat → List Dt → Ev → Nat → Prop, P 0 [] (wipeE env1 vs) n1 ∧
  (∀ i x acc env n, xs[i]? = some x → P i acc env n → g x env n fun env2 n2 => tt env2 n2 fun b env3 n3 => if b = true then te env3 n3 fun y env4 n4 => P (i + 1) (acc ++ [y]) (wipeE env4 vs) n4 else P (i + 1) acc (wipeE env3 vs) n3) ∧
  ∀ acc env n, acc.length ≤ xs.length → P xs.length acc env n → Q (.lst acc) (restE env1 env vs) n
def vLc (wi : VTI) (g : VTG) (tt : VTT) (te : VTE) (vs : List Nat) : VTN := fun env n Q => wi env n fun xs env1 n1 => LcBody g tt te vs xs env1 n1 Q
section
variable {am : Am} {F0 H0 : Hp} {X : Cx}
theorem lc_of {wi : VTI} {g : TG} {gv : VTG} {tt : VTT} {te : VTE} {vs : List Nat} {tt' : TT} {te' : TE} (hg : TgOk g gv vs) (ht : ∀ (F0 H0 : Hp) {σ H R}, cOf ⟨am, F0, H0⟩ tt σ H R → tt' σ H R) (he : ∀ (F0 H0 : Hp) {σ H R}, tOf ⟨am, F0, H0⟩ te σ H R → te' σ H R) {σ : L2.St} {H : Hp} {R : VK} (h : nOf ⟨am, F0, H0⟩ (vLc wi gv tt te vs) σ H R) :
    tLc (iOf ⟨am, F0, H0⟩ wi) g tt' te' vs σ H R := by
  obtain ⟨F, env, n, Q, r, q, k⟩ := h
  refine ⟨F, env, n, _, r, q, fun J H1 F1 xs env1 n1 r1 u1 wk q1 => ?_⟩
  obtain ⟨no, hlen, P, p0, turn, fin⟩ := q1
  intro D nD
  obtain ⟨h0, ns, nf⟩ := r1.new0 nD
  have hF0 : F0 D = none := by
    cases e : F0 D with
    | none => rfl
    | some o => rw [r1.up0 D o e] at nf; cases nf
  -- at each turn: what is made so far stands at D, apart
  refine ⟨fun i m H => m = xs.length - i ∧ i ≤ xs.length ∧ ∃ F' av acc env n, Rel (Fc.wth ⟨am, F0, H0⟩ D (.lst av)) F' H (L2.wipe σ vs) env n ∧ Up F1 F' ∧ Rps F' av acc ∧ acc.length ≤ i ∧ P i acc env n, ⟨_, rfl, Nat.zero_le _, F1, [], [], _, n1, (((r1.wipe vs).lay nD _).push upd_same nf ns fun j k' e z => ?_), Up.refl F1, .nil, Nat.zero_le _, p0⟩, ?_⟩
  · obtain ⟨a, o, g1, _, _, _, g5, _⟩ := (r1.wipe vs).sl j _ e
    rw [g1] at z
    cases z
    rw [g5] at nD
    cases nD
  · rintro i m H2 ⟨rfl, hi, F2, av, acc, env2, n2, r2, u2, ra, hal, p2⟩
    obtain ⟨wg, ws⟩ := wk (Fc.wth ⟨am, F0, H0⟩ D (.lst av)) rfl F2 H2 _ env2 n2 r2 u2 i
    by_cases hlt : i < xs.length
    · obtain ⟨go, yl⟩ := wg hlt
      refine .inr ⟨go, fun H' => ∃ F' av acc env n, Rel (Fc.wth ⟨am, F0, H0⟩ D (.lst av)) F' H' (L2.wipe σ vs) env n ∧ Up F1 F' ∧ Rps F' av acc ∧ acc.length ≤ i + 1 ∧ P (i + 1) acc env n, fun H' hN => ⟨xs.length - (i + 1), by omega, rfl, hlt, hN⟩, fun x H3 y => ?_⟩
      obtain ⟨F3, d, r3, u3, ed, rd⟩ := yl x H3 y
      refine hg _ F3 H3 _ env2 n2 x d _ _ r3 rd (turn i d acc env2 n2 ed p2) fun σ4 env4 n4 r4 hw q4 => ?_
      have hw' : L2.wipe σ4 vs = L2.wipe σ vs := hw.trans (List.ext_getElem? fun j => by
        rw [wipe_get, wipe_get, wipe_length]
        by_cases h : j ∈ vs ∧ j < σ.length
        · rw [if_pos h, if_pos h]
        · rw [if_neg h, if_neg h])
      refine ⟨hw', ht F0 (upd H0 D (.lst av)) ⟨F3, env4, n4, _, r4, q4, fun b H5 F5 env5 n5 r5 u5 q5 => ?_⟩⟩
      cases b with
      | true =>
        refine he F0 (upd H0 D (.lst av)) ⟨F5, env5, n5, _, r5, q5, fun v H6 F6 d6 env6 n6 r6 u6 rv q6 => ?_⟩
        obtain ⟨r7, eD, fD, nD7⟩ := Rel.pop (c := ⟨am, F0, H0⟩) (fun _ z => by cases z) r6 h0 hF0 ns
        have ulen : av.length = acc.length := ra.len
        refine ⟨av, eD, small1000 (by rw [ulen]; omega), F6, av ++ [v], acc ++ [d6], _, n6, ?_, ((u2.trans u3).trans u5).trans u6, (((ra.up u3).up u5).up u6).append (.cons rv .nil), by rw [List.length_append]; exact Nat.succ_le_succ hal, q6⟩
        have r8 : Rel ⟨am, F0, H0⟩ F6 (upd H6 D (.lst (av ++ [v]))) σ4 env6 n6 := by
          refine ⟨fun b o e => ?_, r7.spf, r7.amb' (fun b hb => upd_ne fun z => ns (z ▸ hb)) (codeK_upd fun oc x z => by rw [eD] at z; cases z), r7.up0, r7.out0, fun b o e nb => ?_, r7.len, fun j s e => ?_, r7.apart⟩
          · rw [upd_ne fun z => by rw [z, fD] at e; cases e]; exact r7.sub b o e
          · rw [upd_ne fun z => by
              have e' : H0 b = some o := e
              have h0' : H0 D = none := h0
              rw [z, h0'] at e'; cases e']
            exact r7.keep0 b o e nb
          · have q := r7.sl j s e
            cases s with
            | no => trivial
            | fz d => exact q
            | ow kk =>
              obtain ⟨a, o, g1, g2, g3, g4, g5, g6⟩ := q
              exact ⟨a, o, g1, g2, g3, g4, by rw [upd_ne fun z => nD7 j kk e (by rw [g1, z])]; exact g5, g6⟩
        exact (r8.push upd_same fD ns nD7).wipe2 hw'
      | false =>
        exact ⟨F5, av, acc, _, n5, r5.wipe2 hw', (u2.trans u3).trans u5, (ra.up u3).up u5, Nat.le_succ_of_le hal, q5⟩
    · have e : i = xs.length := by omega
      subst e
      refine .inl ⟨ws (Nat.le_refl _), ?_⟩
      obtain ⟨r7, eD, fD, nD7⟩ := Rel.pop (c := ⟨am, F0, H0⟩) (fun _ z => by cases z) r2 h0 hF0 ns
      refine k D (.lst av) H2 F2 (.lst acc) _ n2 (r1.rest u2 no r7) (u1.trans u2) fD h0 ns eD ⟨av, rfl, ra⟩ (fun j k' e z => ?_) (fin acc env2 n2 hal p2)
      have rr := r1.rest u2 no r7
      rcases restE_get e with ⟨h1, h2⟩ | ⟨h1, h2⟩
      · cases e4 : env1[j]? with
        | none =>
          have : env1.getD j .no = .no := by rw [List.getD_eq_getElem?_getD, e4]; rfl
          rw [this] at h1; cases h1
        | some s =>
          have : env1.getD j .no = s := by rw [List.getD_eq_getElem?_getD, e4]; rfl
          rw [this] at h1
          rw [← h1] at e4
          exact absurd e4 (no j h2 k')
      · exact nD7 j k' h1 (by rw [wipe_out h2]; exact z)
theorem vn_lc {elt tg iter : Expr} {ifs : List Expr} {scope : Scope} {own : List (Str × Nat)} {pos : Pos} {wi : VTI} {g : TG} {gv : VTG} {tt : VTT} {te : VTE} (hc : X.calm = true) (hN : X.N.Nodup) (hi : PI X tg iter (iOf ⟨am, F0, H0⟩ wi)) (ok : BlkOk X.N X.env.scope scope own) (hgk : TgOk g gv (own.map (·.2)))
    (hg : ∀ (s : Shared) (H : Hp) (C : Addr) (cl : List (Str × Addr)) (fp : List Addr), PG (X.blk s H scope (compEnvC scope cl C X.env) fp) tg g)
    (ht : ∀ (F0 H0 : Hp) (s : Shared) (H : Hp) (C : Addr) (cl : List (Str × Addr)) (fp : List Addr), PTs (X.blk s H scope (compEnvC scope cl C X.env) fp) ifs (cOf ⟨am, F0, H0⟩ tt))
    (he : ∀ (F0 H0 : Hp) (s : Shared) (H : Hp) (C : Addr) (cl : List (Str × Addr)) (fp : List Addr), PE (X.blk s H scope (compEnvC scope cl C X.env) fp) elt (tOf ⟨am, F0, H0⟩ te)) (hs : ∀ x, foldedSetIterable iter X.env x = pure x := by intro _; rfl) :
    PE X (.ListComp elt [⟨tg, iter, ifs, 0⟩] scope pos) (nOf ⟨am, F0, H0⟩ (vLc wi gv tt te (own.map (·.2)))) :=
  PE.imp (pe_lc (tt := fun σ H R => ∃ F0 H0, cOf ⟨am, F0, H0⟩ tt σ H R) (te := fun σ H R => ∃ F0 H0, tOf ⟨am, F0, H0⟩ te σ H R) hc hN hi ok hg
    (fun s H C cl fp => ⟨fun pins s' σ H' Q I ⟨F0, H0, q⟩ => (ht F0 H0 s H C cl fp).run pins s' σ H' Q I q⟩) (fun s H C cl fp => ⟨fun pins s' σ H' Q I ⟨F0, H0, q⟩ => (he F0 H0 s H C cl fp).run pins s' σ H' Q I q⟩) hs)
    fun σ H R h => lc_of hgk (fun F0 H0 _ _ _ q => ⟨F0, H0, q⟩) (fun F0 H0 _ _ _ q => ⟨F0, H0, q⟩) h
theorem vs_setLc {i : Nat} {y : Str} {py : Pos} {elt tg iter : Expr} {ifs : List Expr} {scope : Scope} {own : List (Str × Nat)} {pos spos : Pos} {wi : VTI} {g : TG} {gv : VTG} {tt : VTT} {te : VTE} (hc : X.calm = true) (hN : X.N.Nodup) (hy : X.N[i]? = some y) (hyl : X.env.scope.names.lookup y = some .local)
    (hsw : swapsWith (.ListComp elt [⟨tg, iter, ifs, 0⟩] scope pos) (some (.Name y py)) spos.line X.env = pure true) (hi : PI X tg iter (iOf ⟨am, F0, H0⟩ wi)) (ok : BlkOk X.N X.env.scope scope own) (hgk : TgOk g gv (own.map (·.2)))
    (hg : ∀ (s : Shared) (H : Hp) (C : Addr) (cl : List (Str × Addr)) (fp : List Addr), PG (X.blk s H scope (compEnvC scope cl C X.env) fp) tg g)
    (ht : ∀ (F0 H0 : Hp) (s : Shared) (H : Hp) (C : Addr) (cl : List (Str × Addr)) (fp : List Addr), PTs (X.blk s H scope (compEnvC scope cl C X.env) fp) ifs (cOf ⟨am, F0, H0⟩ tt))
    (he : ∀ (F0 H0 : Hp) (s : Shared) (H : Hp) (C : Addr) (cl : List (Str × Addr)) (fp : List Addr), PE (X.blk s H scope (compEnvC scope cl C X.env) fp) elt (tOf ⟨am, F0, H0⟩ te)) (hs : ∀ x, foldedSetIterable iter X.env x = pure x := by intro _; rfl) :
    PS X (.Assign [.Name y py] (.ListComp elt [⟨tg, iter, ifs, 0⟩] scope pos) spos) (sOf ⟨am, F0, H0⟩ (vSetN i (vLc wi gv tt te (own.map (·.2))))) :=
  PS.imp (ps_setLc (tt := fun σ H R => ∃ F0 H0, cOf ⟨am, F0, H0⟩ tt σ H R) (te := fun σ H R => ∃ F0 H0, tOf ⟨am, F0, H0⟩ te σ H R) hc hN hy hyl hsw hi ok hg
    (fun s H C cl fp => ⟨fun pins s' σ H' Q I ⟨F0, H0, q⟩ => (ht F0 H0 s H C cl fp).run pins s' σ H' Q I q⟩) (fun s H C cl fp => ⟨fun pins s' σ H' Q I ⟨F0, H0, q⟩ => (he F0 H0 s H C cl fp).run pins s' σ H' Q I q⟩) hs)
    fun D σ H h => by
      have h2 := setN_of h
      exact lc_of hgk (fun F0 H0 _ _ _ q => ⟨F0, H0, q⟩) (fun F0 H0 _ _ _ q => ⟨F0, H0, q⟩) h2
end
end VL
namespace VL
open PySem PySem.Spec PyProof.Rows L2 HM
abbrev RM := V → List V → Hp → VK → Prop
abbrev RMD := List Dt → List Dt → (Dt → List Dt → Prop) → Prop
def LftM (r : RM) (m : RMD) : Prop := ∀ (F H : Hp) (a : Addr) xs ds vs as (Q : Dt → List Dt → Prop) (R : VK), Up F H → F a = none → H a = some (.lst xs) → Rps F xs ds → Rps F vs as → m ds as Q → (∀ v d xs' ds', Rp F v d → Rps F xs' ds' → Q d ds' → R v (upd H a (.lst xs'))) → r (.ref a) vs H R
def vM (i : Nat) (m : RMD) (ta : VTA) : VTE := fun env n Q => (∃ ds0, env[i]? = some (.ow (.lst ds0))) ∧ ta env n fun as env1 n1 => ∃ ds, env1[i]? = some (.ow (.lst ds)) ∧ m ds as fun d ds' => Q d (env1.set i (.ow (.lst ds'))) n1
section
variable {c : Fc} {X : Cx} {a b e o : Expr} {es : List Expr} {te ta tb : VTE} {tas : VTA} {pos apos : Pos} {r : RM} {m : RMD} {name : Str} {id : String}
theorem m_of {i : Nat} (L : LftM r m) {σ : L2.St} {H : Hp} {R : VK} {K : PySem.W.Frag} (h : tOf c (vM i m tas) σ H R) : tBM K "list" r (tVar i) (aOf c tas) σ H R := by
  obtain ⟨F, env, n, Q, rr, ⟨⟨ds0, e0⟩, q⟩, k⟩ := h
  obtain ⟨a, xs, ea, hH, _⟩ := rr.rdOwn e0
  refine ⟨_, ea, .inl ⟨rfl, xs, .inl (.inl hH)⟩, F, env, n, _, rr, q, fun vs H' F' as env' n' r' u rp q' => ?_⟩
  obtain ⟨ds, ed, q'⟩ := q'
  obtain ⟨a', o', g1, g2, g3, g4, g5, xs', rfl, rx⟩ := r'.sl i _ ed
  rw [ea] at g1
  cases g1
  exact L F' H' a xs' ds vs as _ R r'.sub g2 g5 rx rp q' fun v d ys zs rv ry qv => k v _ F' d _ n' (r'.write (k' := .lst zs) ed ea ⟨ys, rfl, ry⟩) u rv qv
theorem m0_of {i : Nat} (L : LftM r m) {σ : L2.St} {H : Hp} {R : VK} {K : PySem.W.Frag} (h : tOf c (vM i m vNil) σ H R) : tBM0 K "list" r (tVar i) σ H R := by
  obtain ⟨F, env, n, Q, rr, ⟨⟨ds0, e0⟩, q⟩, k⟩ := h
  obtain ⟨a, xs, ea, hH, _⟩ := rr.rdOwn e0
  refine ⟨_, ea, .inl ⟨rfl, xs, .inl (.inl hH)⟩, ?_⟩
  obtain ⟨ds, ed, q'⟩ := q
  obtain ⟨a', o', g1, g2, g3, g4, g5, xs', rfl, rx⟩ := rr.sl i _ ed
  rw [ea] at g1
  cases g1
  exact L F H a xs' ds [] [] _ R rr.sub g2 g5 rx .nil q' fun v d ys zs rv ry qv => k v _ F d _ n (rr.write (k' := .lst zs) ed ea ⟨ys, rfl, ry⟩) (Up.refl F) rv qv
def mAppend : RMD := fun ds as Q => ∃ y, as = [y] ∧ ds.length ≤ 5000 ∧ Q .non (ds ++ [y])
theorem lft_append : LftM rAppend mAppend := fun F H a xs ds vs as Q R u hF hH rx ra ⟨y, e, hl, q⟩ k => by
  subst e
  obtain ⟨v, rfl, p⟩ := ra.one
  exact ⟨a, xs, v, rfl, rfl, hH, small1000 (by rw [rx.len]; exact hl), k _ _ _ _ .non (rx.append (.cons p .nil)) q⟩
def mPop : RMD := fun ds as Q => ∃ y, as = [] ∧ ds[ds.length - 1]? = some y ∧ Q y ds.dropLast
theorem lft_pop : LftM rPop mPop := fun F H a xs ds vs as Q R u hF hH rx ra ⟨y, e, hl, q⟩ k => by
  subst e
  cases ra
  obtain ⟨v, h1, h2⟩ := rx.get hl
  exact ⟨a, xs, v, rfl, rfl, hH, by rw [rx.len]; exact h1, k _ _ _ _ h2 rx.dropLast q⟩
def mExtend : RMD := fun ds as Q => ∃ zs, as = [.lst zs] ∧ ds.length + zs.length ≤ 5000 ∧ Q .non (ds ++ zs)
theorem lft_extend : LftM rExtend mExtend := fun F H a xs ds vs as Q R u hF hH rx ra ⟨zs, e, hl, q⟩ k => by
  subst e
  obtain ⟨v, rfl, p⟩ := ra.one
  obtain ⟨b, ys, rfl, hb, ry⟩ := p.lst_inv
  exact ⟨a, b, xs, ys, rfl, rfl, hH, u _ _ hb, small1k (by rw [rx.len, ry.len]; exact hl), k _ _ _ _ .non (rx.append ry) q⟩
/-- x[i] = e -/
def vSetIx (j : Nat) (ti te : VTE) : VTS := fun V env n => te env n fun d env1 n1 => (∃ ds0, env1[j]? = some (.ow (.lst ds0))) ∧ ti env1 n1 fun y env2 n2 => ∃ (ds : List Dt) (k : Nat), env2[j]? = some (.ow (.lst ds)) ∧ y = .int (k : Int) ∧ k < ds.length ∧ V.nx (env2.set j (.ow (.lst (ds.set k d)))) n2
theorem ixN_nat {m k : Nat} (h : k < m) : ixN m (k : Int) = some k := by unfold ixN; rw [if_pos (by omega), if_pos (by omega)]; simp
theorem vs_setIx {j : Nat} {i v : Expr} {ti tv : VTE} {p2 : Pos} (ho : PE X o (tVar j)) (hi : PE X i (tOf c ti)) (hv : PE X v (tOf c tv)) (ha : ∀ v, assign (.Subscript o i p2) X.env v = (do
      let ov ← holding [v] (eval o X.env)
      let iv ← holding [v, ov] (eval i X.env)
      standAt p2
      holding [v, ov, iv] (setItem ov iv v)
      release [v, ov, iv] []) := by intro _; rfl) (hs : swapsWithSole [.Subscript o i p2] v pos.line X.env = pure false := by rfl) (hw : swappedStores [.Subscript o i p2] v X.env = pure none := by rfl)
    (h1 : (assignEach [.Subscript o i p2] X.env).map (·.2) = [assign (.Subscript o i p2) X.env] := by rfl) : PS X (.Assign [.Subscript o i p2] v pos) (sOf c (vSetIx j ti tv)) := PS.imp (ps_asg hv (pg_sub ho hi set_list ha) hs hw h1) fun D σ H ⟨F, env, n, V, rr, q, k⟩ => by
  refine ⟨F, env, n, _, rr, q, fun v H1 F1 d env1 n1 r1 u1 rv q1 => ?_⟩
  obtain ⟨⟨ds0, e0⟩, q1⟩ := q1
  obtain ⟨a, xs, ea, hH, _⟩ := r1.rdOwn e0
  refine ⟨_, ea, F1, env1, n1, _, r1, q1, fun y H2 F2 d2 env2 n2 r2 u2 p2 q2 => ?_⟩
  obtain ⟨ds, kk, ed, rfl, hk, q2⟩ := q2
  obtain ⟨a', o', g1, g2, g3, g4, g5, xs', rfl, rx⟩ := r2.sl j _ ed
  rw [ea] at g1
  cases g1
  exact ⟨a, xs', _, kk, rfl, p2.int_inv, g5, ixN_nat (by rw [rx.len]; exact hk), k.nx F2 _ σ _ n2 (r2.write (k' := .lst (ds.set kk d)) ed ea ⟨_, rfl, rx.set (rv.up u2) kk⟩) (u1.trans u2) q2⟩
/-- an operator that makes a new list -/
def LftO (r : R2) (r' : Dt → Dt → (List Dt → Prop) → Prop) : Prop := ∀ (F H : Hp) x y d1 d2 (Q : List Dt → Prop) (R : VK), Up F H → Rp F x d1 → Rp F y d2 → r' d1 d2 Q → (∀ p xs zs, H p = none → Rps F xs zs → Q zs → R (.ref p) (upd H p (.lst xs))) → r x y H R
def vOpNew (r' : Dt → Dt → (List Dt → Prop) → Prop) (ta tb : VTE) : VTN := fun env n Q => v2 ta tb (fun x y env' n' => r' x y fun ds => Q (.lst ds) env' n') env n
theorem vn_op {op : Operator} {r : R2} {r' : Dt → Dt → (List Dt → Prop) → Prop} (ho : OpR X (binaryOp op) r) (L : LftO r r') (ha : PE X a (tOf c ta)) (hb : PE X b (tOf c tb)) : PE X (.BinOp a op b pos) (nOf c (vOpNew r' ta tb)) := PE.imp (pe_op ho ha hb) fun σ H R ⟨F, env, n, Q, rr, h, k⟩ =>
  t2_of rr h fun x y d1 d2 H' F' env' n' r2 u p1 p2 q => L F' H' x y d1 d2 _ R r2.sub p1 p2 q fun p xs zs np rx qz => nOf_new r2 u np (kk := .lst zs) ⟨xs, rfl, rx⟩ qz k
def dCat : Dt → Dt → (List Dt → Prop) → Prop := fun x y Q => ∃ a b, x = .lst a ∧ y = .lst b ∧ a.length + b.length ≤ 5000 ∧ Q (a ++ b)
theorem lft_cat : LftO rCat dCat := fun F H x y d1 d2 Q R u p1 p2 ⟨a, b, e1, e2, hl, q⟩ k => by
  subst e1 e2
  obtain ⟨l, xs, rfl, h1, r1⟩ := p1.lst_inv
  obtain ⟨l2, ys, rfl, h2, r2⟩ := p2.lst_inv
  exact ⟨l, l2, xs, ys, rfl, rfl, u _ _ h1, u _ _ h2, small1k (by rw [r1.len, r2.len]; exact hl), fun p np => k p _ _ np (r1.append r2) q⟩
theorem rgV_ints (a b : Int) : rgV a b = ((List.range (b - a).toNat).map fun i : Nat => a + (i : Int)).map V.int := by
  unfold rgV
  rw [List.map_map]
  rfl
theorem rps_rg {F : Hp} (a b : Int) : Rps F (rgV a b) (rngD a (b - a).toNat) := by
  rw [rgV_ints]
  have : rngD a (b - a).toNat = ((List.range (b - a).toNat).map fun i : Nat => a + (i : Int)).map Dt.int := by unfold rngD; rw [List.map_map]; rfl
  rw [this]
  exact Rps.ints _
abbrev VRG := Ev → Nat → (Int → Int → Ev → Nat → Prop) → Prop
def rgOf (c : Fc) (tr : VRG) : L2.St → Hp → (Int → Int → Hp → Prop) → Prop := fun σ H R => ∃ F env n Q, Rel c F H σ env n ∧ tr env n Q ∧ ∀ i j H' F' env' n', Rel c F' H' σ env' n' → Up F F' → Q i j env' n' → R i j H'
theorem PRg.imp {X : Cx} {e : Expr} {t t' : L2.St → Hp → (Int → Int → Hp → Prop) → Prop} (h : PRg X e t) (k : ∀ σ H R, t' σ H R → t σ H R) : PRg X e t' := fun pins s σ H Q I q => h pins s σ H Q I (k _ _ _ q)
def vRg1 (ta : VTE) : VRG := fun env n Q => ta env n fun d env1 n1 => ∃ j, d = .int j ∧ Q 0 j env1 n1
theorem vrg_1 {p pos : Pos} (hg : Gl X "range") (hm : X.mg "range" = none) (ha : PE X a (tOf c ta)) (na : starEach [a] X.env = (false, eval a X.env) :: starEach [] X.env := by rfl) : PRg X (.Call (.Name "range" p) [a] [] pos) (rgOf c (vRg1 ta)) := PRg.imp (prg_1 hg hm ha na) fun σ H R ⟨F, env, n, Q, rr, h, k⟩ =>
  ⟨F, env, n, _, rr, h, fun v H' F' d env' n' r' u rp q => by
    obtain ⟨j, rfl, q⟩ := q
    exact ⟨j, rp.int_inv, k _ _ _ _ _ _ r' u q⟩⟩
def vLRg (tr : VRG) : VTN := fun env n Q => tr env n fun i j env1 n1 => (0 ≤ i ∧ j ≤ 1000000 ∧ i ≤ 1000000 ∧ 0 ≤ j) ∧ Q (.lst (rngD i (j - i).toNat)) env1 n1
def vTRg (tr : VRG) : VTE := fun env n Q => tr env n fun i j env1 n1 => (0 ≤ i ∧ j ≤ 1000000 ∧ i ≤ 1000000 ∧ 0 ≤ j) ∧ Q (.tup (rngD i (j - i).toNat)) env1 n1
theorem vn_listRg {tr : VRG} {p pos : Pos} (hc : X.calm = true) (hg : Gl X "list") (hm : X.mg "list" = none) (he : PRg X e (rgOf c tr)) (na : starEach [e] X.env = (false, eval e X.env) :: starEach [] X.env := by rfl) : PE X (.Call (.Name "list" p) [e] [] pos) (nOf c (vLRg tr)) := PE.imp (pe_listRg hc hg hm he na) fun σ H R ⟨F, env, n, Q, rr, h, k⟩ =>
  ⟨F, env, n, _, rr, h, fun i j H' F' env' n' r' u q => ⟨RgOk.of_le q.1.1 (by omega) (by omega) q.1.2.2.2, fun p np => nOf_new r' u np (kk := .lst (rngD i (j - i).toNat)) ⟨_, rfl, rps_rg i j⟩ q.2 k⟩⟩
theorem ve_tupRg {tr : VRG} {p pos : Pos} (hc : X.calm = true) (hg : Gl X "tuple") (hm : X.mg "tuple" = none) (he : PRg X e (rgOf c tr)) (na : starEach [e] X.env = (false, eval e X.env) :: starEach [] X.env := by rfl) : PE X (.Call (.Name "tuple" p) [e] [] pos) (tOf c (vTRg tr)) := PE.imp (pe_tupRg hc hg hm he na) fun σ H R ⟨F, env, n, Q, rr, h, k⟩ =>
  ⟨F, env, n, _, rr, h, fun i j H' F' env' n' r' u q => ⟨RgOk.of_le q.1.1 (by omega) (by omega) q.1.2.2.2, fun p np => by
    obtain ⟨_, _, nf⟩ := r'.new0 np
    exact k _ _ (upd F' p _) _ env' n' (r'.layF np _) (u.trans (up_lay nf)) (.tup upd_same (rps_rg i j)) q.2⟩⟩
def dRep : Dt → Dt → (List Dt → Prop) → Prop := fun x y Q => ∃ (a : List Dt) (k : Nat), x = .lst a ∧ y = .int (k : Int) ∧ k ≤ 5000 ∧ a.length * k ≤ 5000 ∧ Q (List.flatten (List.replicate k a))
theorem Rps.rep {F : Hp} {xs : List V} {ds : List Dt} (h : Rps F xs ds) : ∀ k : Nat, Rps F (List.flatten (List.replicate k xs)) (List.flatten (List.replicate k ds))
  | 0 => .nil
  | k + 1 => by
    rw [List.replicate_succ, List.replicate_succ, List.flatten_cons, List.flatten_cons]
    exact h.append (Rps.rep h k)
theorem lft_rep : LftO rRep dRep := fun F H x y d1 d2 Q R u p1 p2 ⟨a, kk, e1, e2, hk, hl, q⟩ k => by
  subst e1 e2
  obtain ⟨l, xs, rfl, h1, r1⟩ := p1.lst_inv
  rw [p2.int_inv]
  exact ⟨l, _, xs, rfl, rfl, u _ _ h1, by omega, by omega, small1k (by rw [Int.toNat_natCast, r1.len]; exact hl), fun p np => k p _ _ np (by rw [Int.toNat_natCast]; exact r1.rep kk) q⟩
abbrev VTO := Ev → Nat → (Option Int → Ev → Nat → Prop) → Prop
def oOf (c : Fc) (to : VTO) : TO := fun σ H R => ∃ F env n Q, Rel c F H σ env n ∧ to env n Q ∧ ∀ i H' F' env' n', Rel c F' H' σ env' n' → Up F F' → Q i env' n' → R i H'
def vNoPart : VTO := fun env n Q => Q none env n
def vPart (te : VTE) : VTO := fun env n Q => te env n fun d env1 n1 => ∃ i, d = .int i ∧ Q (some i) env1 n1
theorem PO.imp {X : Cx} {e : Option Expr} {t t' : TO} (h : PO X e t) (k : ∀ σ H R, t' σ H R → t σ H R) : PO X e t' := ⟨fun pins s σ H Q I q => h.run pins s σ H Q I (k _ _ _ q)⟩
theorem vo_none : PO X none (oOf c vNoPart) := PO.imp po_none fun σ H R ⟨F, env, n, Q, rr, h, k⟩ => k none H F env n rr (Up.refl F) h
theorem vo_some (he : PE X e (tOf c te)) : PO X (some e) (oOf c (vPart te)) := PO.imp (po_some he) fun σ H R ⟨F, env, n, Q, rr, h, k⟩ => ⟨F, env, n, _, rr, h, fun v H' F' d env' n' r' u rp q => by
  obtain ⟨i, rfl, q⟩ := q
  exact ⟨i, rp.int_inv, k _ H' F' env' n' r' u q⟩⟩
def cutD (xs : List Dt) (lo hi : Option Int) : List Dt := (xs.drop (HT.sIx xs.length 0 lo)).take (HT.sIx xs.length xs.length hi - HT.sIx xs.length 0 lo)
def vSlL (te : VTE) (tl th : VTO) : VTN := fun env n Q => te env n fun d env1 n1 => tl env1 n1 fun l env2 n2 => th env2 n2 fun h env3 n3 => ∃ ds, d = .lst ds ∧ Q (.lst (cutD ds l h)) env3 n3
theorem Rps.cut {F : Hp} {xs : List V} {ds : List Dt} (h : Rps F xs ds) (lo hi : Option Int) : Rps F (cutV xs lo hi) (cutD ds lo hi) := by
  unfold cutV cutD
  rw [h.len]
  exact (h.drop _).take _
theorem vn_slL {lo hi : Option Expr} {tl th : VTO} {p2 : Pos} (he : PE X e (tOf c te)) (hl : PO X lo (oOf c tl)) (hu : PO X hi (oOf c th)) : PE X (.Subscript e (.Slice lo hi none p2) pos) (nOf c (vSlL te tl th)) := PE.imp (pe_slice sl_list he hl hu) fun σ H R ⟨F, env, n, Q, rr, h, k⟩ =>
  ⟨F, env, n, _, rr, h, fun v H1 F1 d env1 n1 r1 u1 p1 q1 => ⟨F1, env1, n1, _, r1, q1, fun l H2 F2 env2 n2 r2 u2 q2 => ⟨F2, env2, n2, _, r2, q2, fun hh H3 F3 env3 n3 r3 u3 q3 => by
    obtain ⟨ds, rfl, q3⟩ := q3
    obtain ⟨a, xs, rfl, hF, rx⟩ := (p1.up (u2.trans u3)).lst_inv
    exact ⟨a, xs, rfl, .inl (.inl (r3.sub _ _ hF)), fun p np => nOf_new r3 ((u1.trans u2).trans u3) np (kk := .lst (cutD ds l hh)) ⟨_, rfl, rx.cut l hh⟩ q3 k⟩⟩⟩⟩
end
end VL
namespace HM
open PySem PySem.Spec PyProof.Rows L2
section
variable {P : Program} {w : World} {A : Around} {E : Value → Shared → Prop} {s : Shared} {a : Addr} {o : Obj} {es : Array DictEntry} {ep : Nat}
theorem walks_keys (hh : A.handled = none) (I : Addr) (hne : a ≠ I) (hd : o.data = .dict es ep) :
    Walks P w A I [I, a] [I] es.size (fun i v => (es.toList.map (·.key))[i]? = some v) (fun i h => h.IsKeyIter I a i es.size ep ∧ h.get? a = some o) where
  sub := fun b hb => by simp at hb; simp [hb]
  frame := fun _ _ _ st hk => ⟨st.1.at fun o e => hk I (by simp) o e, hk a (by simp) o st.2⟩
  item := fun i s Q E hi st hQ => by
    have hx : es[i]? = some es[i] := Array.getElem?_eq_getElem hi
    refine next_key_item st.1 st.2 hd rfl hx fun h' hit' hs' => ?_
    exact hQ es[i].key h' s.toks (by rw [List.getElem?_map, Array.getElem?_toList, hx]; rfl) ⟨hit', (hs'.2 a hne).trans st.2⟩ fun b o hb e => (hs'.2 b (fun h => hb (by simp [h]))).trans e
  done := fun s Q E st hQ => next_key_end hh st.1 st.2 hd rfl (Nat.le_refl _) fun h' he' => hQ h' s.toks fun b o hb e => he' b o (fun h => hb (by simp [h])) e
  self := fun _ _ _ _ st hQ => wpAny_pyIter_keyiter st.1 hQ
theorem collect_dict {Q : List Value → Shared → Prop} (hh : A.handled = none) (hsys : (a == sysModules) = false) (ho : s.heap.get? a = some o) (hx : o.ExactDict) (hd : o.data = .dict es ep) (hsz : es.size ≤ sizeLine)
    (hQ : ∀ s', (∀ b o, s.heap.get? b = some o → s'.heap.get? b = some o) → s.heap.objs.size ≤ s'.heap.objs.size → s'.gens = s.gens → s'.os = s.os → Q (es.toList.map (·.key)) s') :
    wpAny (model P w) A (collect (.ref a)) Q E s := by
  have hlt : a < s.heap.objs.size := Heap.lt_size ho
  have hSa : s.heap.objs.size ≠ a := Nat.ne_of_gt hlt
  unfold collect
  refine wpAny_bind (wpAny_runValue (codeAny_builtin PySem.F.entry_proto_collect ?_))
  rw [Around.under_plainId PySem.F.plain_proto_collect _]
  show wpAny _ A.in1 (newList [] >>= fun l => again (.builtin "list.__iadd__" ⟨[l, .ref a], []⟩)) _ _ s
  refine wpAny_bind (wpAny_newObj_type ?_)
  refine wpAny_pure ⟨plainId_quiet PySem.F.plain_list_iadd _, codeAny_builtin PySem.F.entry_list_iadd ?_⟩
  rw [Around.under_plainId PySem.F.plain_list_iadd _]
  have hS : (s.heap.push { cls := .type "list", data := .seq ([] : List Value).toArray }).get? s.heap.objs.size = some { cls := .type "list", data := .seq ([] : List Value).toArray } := Heap.get?_push_size _ rfl
  have ho1 : (s.heap.push { cls := .type "list", data := .seq ([] : List Value).toArray }).get? a = some o := Heap.get?_push_of_some _ ho
  have hz1 : (s.heap.push { cls := .type "list", data := .seq ([] : List Value).toArray }).objs.size = s.heap.objs.size + 1 := size_push' _ _
  show wpAny _ A.in1 (Builtin.List.listExtendWith (.ref s.heap.objs.size) (.ref a) (.ref s.heap.objs.size)) _ _ _
  unfold Builtin.List.listExtendWith
  refine wpAny_bind (wpAny_typeOf (T := "dict") ⟨o, ho1, hx.1⟩ ?_)
  have h1 : Builtin.List.listSameRef (.ref s.heap.objs.size) (.ref a) = false := by simp [Builtin.List.listSameRef, hSa]
  have h2 : (Value.type "dict" == Value.type "list") = false := by decide
  have h3 : (Value.type "dict" == Value.type "tuple") = false := by decide
  simp only [h1, h2, h3, Bool.or_false, Bool.false_eq_true, if_false]
  refine wpAny_bind (iter_keys (s := { s with heap := s.heap.push { cls := .type "list", data := .seq ([] : List Value).toArray } }) hsys ho1 hx hd ?_)
  dsimp only
  rw [hz1]
  generalize hh2 : (s.heap.push { cls := .type "list", data := .seq ([] : List Value).toArray }).push { cls := .type "dict_keyiterator", data := .fields #[.ref a, .int 0 0, .int es.size 0, .int ep 0] } = h2'
  have k2 : ∀ b u, (s.heap.push { cls := .type "list", data := .seq ([] : List Value).toArray }).get? b = some u → h2'.get? b = some u := fun b u e => by rw [← hh2]; exact Heap.get?_push_of_some _ e
  have ho2 : h2'.get? a = some o := k2 _ _ ho1
  have hT2 : Shared.TypeIs { s with heap := h2' } (.ref a) "dict" := ⟨o, ho2, hx.1⟩
  have hI : h2'.get? (s.heap.objs.size + 1) = some { cls := .type "dict_keyiterator", data := .fields #[.ref a, .int 0 0, .int es.size 0, .int ep 0] } := by
    rw [← hh2, ← hz1]
    exact Heap.get?_push_size _ rfl
  refine wpAny_bind (wpAny_holding ?_)
  unfold Builtin.List.listLengthHint
  refine wpAny_bind (wpAny_specialOf hT2 PySem.F.slot_dict_len.lookup ?_)
  (generalize hid : ("dict.__len__" : String) = id0; (fail_if_success (clear hid id0)); wp_delta; rw [show splitId id0 = some ("dict", "__len__") from by subst hid; decide +kernel]; subst hid)
  refine wpAny_bind (wpAny_isInstance (b := true) hT2 (by rw [isSubtype_type]; kernel_rfl) ?_)
  show wpAny _ A.in1 (typeOf (.ref a) >>= _) _ _ _
  refine wpAny_bind (wpAny_typeOf hT2 ?_)
  refine wpAny_pure ?_
  show wpAny _ A.in1 (rule "list.extend.makes-room" >>= fun _ => Builtin.List.listTouch (.ref s.heap.objs.size) >>= fun _ =>
    again (.builtin "list.extend.loop" ⟨[.ref s.heap.objs.size, .ref (s.heap.objs.size + 1), .ref s.heap.objs.size], []⟩)) _ _ _
  refine wpAny_bind (wpAny_rule ?_)
  have hS2 := k2 _ _ hS
  refine wpAny_bind ?_
  show wpAny _ A.in1 (updateSeq s.heap.objs.size (·.push .none) >>= fun _ => updateSeq s.heap.objs.size (·.pop)) _ _ _
  refine wpAny_bind (wpAny_updateSeq hS2 rfl ?_)
  have hS3 := Heap.get?_update_self (Obj.mapSeq (·.push Value.none)) hS2 rfl
  refine wpAny_updateSeq hS3 rfl ?_
  have hS4 := Heap.get?_update_self (Obj.mapSeq (·.pop)) hS3 rfl
  have oth : ∀ b u, b ≠ s.heap.objs.size → h2'.get? b = some u → ((h2'.update s.heap.objs.size (Obj.mapSeq (·.push Value.none))).update s.heap.objs.size (Obj.mapSeq (·.pop))).get? b = some u :=
    fun b u hb e => (Heap.get?_update_other _ _ (Ne.symm hb)).trans ((Heap.get?_update_other _ _ (Ne.symm hb)).trans e)
  have hne : a ≠ s.heap.objs.size + 1 := Nat.ne_of_lt (Nat.lt_succ_of_lt hlt)
  have W := walks_keys (P := P) (w := w) (A := A.in1) hh (s.heap.objs.size + 1) hne hd
  have hSf : s.heap.objs.size ∉ [s.heap.objs.size + 1, a] := by
    simp only [List.mem_cons, List.not_mem_nil, or_false, not_or]
    exact ⟨Nat.ne_of_lt (Nat.lt_succ_self _), hSa⟩
  refine wpAny_pure ⟨plainId_quiet PySem.F.plain_extend_loop _, codeAny_extend_loopS W.toS hsz _ hSf _ es.size 0 _ _ _ rfl (Nat.zero_le _) ⟨⟨_, oth _ _ (Nat.succ_ne_self _) hI, rfl, rfl⟩, oth _ _ (Ne.symm hSa) ho2⟩ hS4 (ItemsOf.nil _) fun s' acc' c' hm hS' hacc => ?_⟩
  show wpAny _ A (load s.heap.objs.size >>= _) _ _ s'
  refine wpAny_bind (wpAny_load hS' ?_)
  have hacc' : ItemsOf (fun i v => (es.toList.map (·.key))[i]? = some v) acc' (es.toList.map (·.key)).length := by
    rw [List.length_map, Array.length_toList]
    exact hacc
  have eo := items_out hacc' fun j v q => q
  refine wpAny_pure ?_
  show Q acc'.toList s'
  rw [eo]
  refine hQ s' (fun b u e => ?_) (Nat.le_of_lt (Heap.lt_size hS')) hm.gens hm.os
  have hbl : b < s.heap.objs.size := Heap.lt_size e
  refine hm.heap b u (fun z => ?_) (oth b u (Nat.ne_of_lt hbl) (k2 b u (Heap.get?_push_of_some _ e)))
  simp only [List.mem_cons, List.not_mem_nil, or_false] at z
  rcases z with z | z
  · exact absurd hbl (by rw [z]; exact Nat.lt_irrefl _)
  · exact absurd hbl (by rw [z]; exact Nat.not_lt_of_le (Nat.le_succ _))
end
end HM
namespace HM
open PySem PySem.Spec PyProof.Rows L2
theorem permInv {α β : Type} {f : α → β} : ∀ {F : List α} {ys : List β}, ys.Perm (F.map f) → ∃ F' : List α, F'.Perm F ∧ ys = F'.map f
  | [], ys, h => ⟨[], List.Perm.refl _, List.Perm.eq_nil h⟩
  | a :: F, ys, h => by
    have hm : f a ∈ ys := h.mem_iff.mpr List.mem_cons_self
    obtain ⟨l1, l2, rfl⟩ := List.append_of_mem hm
    have h2 : (l1 ++ l2).Perm (F.map f) := List.Perm.cons_inv (List.perm_middle.symm.trans h)
    obtain ⟨F', g1, g2⟩ := permInv h2
    obtain ⟨A, B, rfl, e1, e2⟩ := List.map_eq_append_iff.mp g2.symm
    exact ⟨A ++ a :: B, List.perm_middle.trans (List.Perm.cons _ g1), by rw [List.map_append, List.map_cons, e1, e2]⟩
section
variable {P : Program} {w : World} {A : Around} {E : Value → Shared → Prop} {s : Shared} {a : Addr} {o : Obj} {es : Array DictEntry} {ep : Nat}
/-- sorted(d), the keys whole numbers -/
theorem sorted_dictI {is : List Int} {Q : Value → Shared → Prop} (hh : A.handled = none) (hsys : (a == sysModules) = false) (ho : s.heap.get? a = some o) (hx : o.ExactDict) (hd : o.data = .dict es ep) (h64 : es.size < 64) (hI : IntsAre (es.toList.map (·.key)) is)
    (hQ : ∀ s' p (out : Array Value) (c : Nat) (ns : List Int), (∀ b o, s.heap.get? b = some o → s'.heap.get? b = some o) → s'.gens = s.gens → s'.os = s.os → s.heap.objs.size ≤ p →
      s'.heap.get? p = some (seqObj "list" out c) → IntsAre out.toList ns → ns.Perm is → ns.Pairwise (· ≤ ·) → Q (.ref p) s') :
    wpAny (model P w) A (call (.builtin "sorted") [.ref a]) Q E s := by
  refine Calls.call_function_entry kind_sorted plain_sorted entry_sorted (args_sorted1 _) ?_
  unfold Builtin.«sorted»
  refine wpAny_bind (m := checkCount "sorted" 1 1 _) (wpAny_pure ?_)
  refine wpAny_bind (collect_dict (A := A.in1) hh hsys ho hx hd (by rw [sizeLine_eq]; omega) fun s1 k1 hz g1 o1 => ?_)
  have hvl : (es.toList.map (·.key)).length < 64 := by rw [List.length_map, Array.length_toList]; exact h64
  generalize es.toList.map (·.key) = vs at hI hvl ⊢
  refine wpAny_bind (wpAny_newList ?_ (by rw [sizeLine_eq]; omega))
  have hoL : (s1.heap.push (seqObj "list" vs.toArray 0)).get? s1.heap.objs.size = some (seqObj "list" vs.toArray 0) := Heap.get?_push_size _ rfl
  refine wpAny_bind (wpAny_holding (wpAny_call_entry slot_list_sort ⟨_, hoL, rfl⟩ entry_list_sort (list_sort_tree hoL hI hvl fun out ns' a1 a2 a3 => ⟨_, rfl, ?_⟩) (args_list_sort _)))
  obtain ⟨c, hc⟩ := sortedHeap_at (vs := vs) (out := out) hoL
  refine wpAny_pure ⟨_, rfl, hQ _ s1.heap.objs.size out c ns' (fun b u e => ?_) g1 o1 hz hc a1 a2 a3⟩
  have q := k1 b u e
  have hlt := Heap.lt_size q
  show (sortedHeap (s1.heap.push (seqObj "list" vs.toArray 0)) s1.heap.objs.size vs out).get? b = some u
  rw [sortedHeap_old (Nat.ne_of_lt hlt) (by rw [size_push']; exact Nat.lt_succ_of_lt hlt)]
  exact Heap.get?_push_of_some _ q
/-- sorted(d), the keys tuples of whole numbers -/
theorem sorted_dictT {L : List (Addr × List Int)} {Q : Value → Shared → Prop} (hh : A.handled = none) (hsys : (a == sysModules) = false) (ho : s.heap.get? a = some o) (hx : o.ExactDict) (hd : o.data = .dict es ep) (h64 : es.size < 64)
    (hes : es.toList.map (·.key) = L.map fun q => Value.ref q.1) (hT : ∀ q ∈ L, IsT P w s.heap q.2 q.1) {d : Nat} {B : Int} (hd1 : 1 ≤ d) (hB : ∀ p ∈ L, p.2.length = d ∧ TS.Bd B p.2)
    (hQ : ∀ s' p (out : Array Value) (c : Nat) (L' : List (Addr × List Int)), (∀ b o, s.heap.get? b = some o → s'.heap.get? b = some o) → s'.gens = s.gens → s'.os = s.os → s.heap.objs.size ≤ p →
      s'.heap.get? p = some (seqObj "list" out c) → out.toList = L'.map (fun q => Value.ref q.1) → L'.Perm L → L'.Pairwise (fun q r => TS.code B q.2 ≤ TS.code B r.2) → Q (.ref p) s') :
    wpAny (model P w) A (call (.builtin "sorted") [.ref a]) Q E s := by
  refine Calls.call_function_entry kind_sorted plain_sorted entry_sorted (args_sorted1 _) ?_
  unfold Builtin.«sorted»
  refine wpAny_bind (m := checkCount "sorted" 1 1 _) (wpAny_pure ?_)
  refine wpAny_bind (collect_dict (A := A.in1) hh hsys ho hx hd (by rw [sizeLine_eq]; omega) fun s1 k1 hz g1 o1 => ?_)
  have hvl : (es.toList.map (·.key)).length < 64 := by rw [List.length_map, Array.length_toList]; exact h64
  generalize hvs : es.toList.map (·.key) = vs at hes hvl ⊢
  refine wpAny_bind (wpAny_newList ?_ (by rw [sizeLine_eq]; omega))
  have hoL : (s1.heap.push (seqObj "list" vs.toArray 0)).get? s1.heap.objs.size = some (seqObj "list" vs.toArray 0) := Heap.get?_push_size _ rfl
  have tk : ∀ q ∈ L, TS.TupInts (s1.heap.push (seqObj "list" vs.toArray 0)) (.ref q.1) q.2 := fun q hq => tupInts_of (P := P) (w := w) (isT_keep (hT q hq) fun b u e => Heap.get?_push_of_some _ (k1 b u e))
  have x : TS.TupsOk (s1.heap.push (seqObj "list" vs.toArray 0)) d B vs := fun v hv => by
    rw [hes] at hv
    obtain ⟨q, hq, e⟩ := List.mem_map.mp hv
    rw [← e]
    exact ⟨q.2, tk q hq, (hB q hq).1, (hB q hq).2⟩
  refine wpAny_bind (wpAny_holding (TS.call_sort_tups (s := { s1 with heap := s1.heap.push (seqObj "list" vs.toArray 0) }) hoL hvl hd1 x fun out a1 a2 => ?_))
  obtain ⟨c, hc⟩ := sortedHeap_at (vs := vs) (out := out) hoL
  obtain ⟨L', pL, e'⟩ := permInv (F := L) (f := fun q => Value.ref q.1) (ys := out.toList) (by rw [← hes]; exact a1)
  have hs' : ∀ q ∈ L', q ∈ L := fun q hq => pL.mem_iff.mp hq
  have pw : L'.Pairwise (fun q r => TS.code B q.2 ≤ TS.code B r.2) := by
    rw [e'] at a2
    refine List.Pairwise.imp_of_mem (fun {q r} hq hr hle => ?_) (List.pairwise_map.mp a2)
    have f1 : TS.intsOf (s1.heap.push (seqObj "list" vs.toArray 0)) (.ref q.1) = q.2 := (tk q (hs' q hq)).ints
    have f2 : TS.intsOf (s1.heap.push (seqObj "list" vs.toArray 0)) (.ref r.1) = r.2 := (tk r (hs' r hr)).ints
    rw [← f1, ← f2]
    exact hle
  refine wpAny_pure ⟨_, rfl, hQ _ s1.heap.objs.size out c L' (fun b u e => ?_) g1 o1 hz hc e' pL pw⟩
  have q := k1 b u e
  have hlt := Heap.lt_size q
  show (sortedHeap (s1.heap.push (seqObj "list" vs.toArray 0)) s1.heap.objs.size vs out).get? b = some u
  rw [sortedHeap_old (Nat.ne_of_lt hlt) (by rw [size_push']; exact Nat.lt_succ_of_lt hlt)]
  exact Heap.get?_push_of_some _ q
end
section
variable {X : Cx}
theorem ints_keys {P : Program} {w : World} {es : List DictEntry} {vs : List (Key × Value)} (h : Pairs (mixKind P w) es vs) : ∀ {is : List Int}, vs.map (·.1) = is.map Sum.inl → IntsAre (es.map (·.key)) is := by
  induction h with
  | nil =>
    intro is e
    cases is with
    | nil => exact .nil
    | cons i is => cases e
  | cons k v t ih =>
    intro is e
    cases is with
    | nil => cases e
    | cons i is =>
      rw [List.map_cons, List.map_cons] at e
      injection e with e1 e2
      obtain ⟨tk, e3⟩ := Value.isInt_shape (show Value.isInt i _ = true from by have k' := k; rw [e1] at k'; exact k')
      rw [List.map_cons, e3]
      exact .cons i tk (ih e2)
def rSortedK : List V → Hp → VK → Prop := fun vs H Q => ∃ (a : Addr) (kvs : List (Key × V)) (is : List Int), vs = [V.ref a] ∧ H a = some (.dK kvs) ∧ kvs.map (·.1) = is.map Sum.inl ∧ is.length < 64 ∧
  ∀ (ns : List Int) (p : Addr), ns.Perm is → ns.Pairwise (· ≤ ·) → H p = none → Q (.ref p) (upd H p (.lst (ns.map V.int)))
theorem cr_sortedK (hc : X.calm = true) : CallR X (.builtin "sorted") rSortedK := by
  intro pins s σ H vs us Q I r h
  obtain ⟨a, kvs, is, rfl, ha, hk, h64, q⟩ := h
  rw [Vals.ref1 r]
  obtain ⟨_, hsys, ws, rel, dof⟩ := dk_of I.hok ha
  obtain ⟨ep, dat⟩ := dof.dictAt
  obtain ⟨ob, es, ho, hex, hdat, hko, hpr, hnd⟩ := id dat
  have hkeys : ws.map (·.1) = is.map Sum.inl := (KV.keys rel).symm.trans hk
  have hI := ints_keys hpr hkeys
  have hlen : es.size < 64 := by
    have := IntsAre.length hI
    rw [List.length_map, Array.length_toList] at this
    omega
  refine sorted_dictI (I.ok.hd hc) hsys ho hex hdat hlen hI fun s' p out c ns k g o hp hg hi hs hm => ?_
  have hz : (ns.map V.int).length ≤ sizeLine := by rw [List.length_map, hs.length_eq, sizeLine_eq]; omega
  have hn : H p = none := I.hok.fresh hp
  have J : Inv X pins σ (upd H p (.lst (ns.map V.int))) { s with heap := s'.heap, gens := s'.gens, drawn := s'.drawn, toks := s'.toks } :=
    I.call (ch := []) (Un.laid k hp hn) (I.hok.laid k hp ⟨hz, out.toList, c, vals_of_ints hi, hg⟩) (by rw [g]; exact I.bare) (fun _ z => nomatch z)
  have e : s' = { s with heap := s'.heap, gens := s'.gens, drawn := s'.drawn, toks := s'.toks } := by
    cases s'
    have o' : _ = s.os := o
    subst o'
    rfl
  rw [e]
  exact ⟨.ref p, _, J, rfl, q ns p hs hm hn⟩
/-- the keys as tuples of whole numbers -/
def ikey (k : List Int) : List Key := k.map Sum.inl
theorem ikey_kV (k : List Int) : (ikey k).map kV = k.map V.int := by
  unfold ikey
  rw [List.map_map]
  rfl
def rSortedDT (P : Program) (w : World) : List V → Hp → VK → Prop := fun vs H Q => ∃ (a : Addr) (kvs : List (List Key × V)) (ks : List (List Int)) (d : Nat) (B : Int), vs = [V.ref a] ∧ H a = some (.dT kvs) ∧ kvs.map (·.1) = ks.map ikey ∧ ks.length < 64 ∧ 1 ≤ d ∧ (∀ k ∈ ks, k.length = d ∧ TS.Bd B k) ∧
  ∀ (L : List (Addr × List Int)) (p : Addr), (L.map (·.2)).Perm ks → L.Pairwise (fun q r => TS.code B q.2 ≤ TS.code B r.2) → (∀ q ∈ L, H q.1 = some (.tup (q.2.map V.int))) → H p = none → Q (.ref p) (upd H p (.lst (L.map fun q => V.ref q.1)))
theorem kt_list {P : Program} {w : World} {H : Hp} : ∀ {kvs : List (List Key × V)} {xs : List (List Key × Addr × Value)} {ks : List (List Int)}, KT H kvs xs → kvs.map (·.1) = ks.map ikey → ∃ L : List (Addr × List Int), xs.map (fun x => x.2.1) = L.map (·.1) ∧ L.map (·.2) = ks ∧ ∀ q ∈ L, H q.1 = some (.tup (q.2.map V.int))
  | [], _, [], .nil, _ => ⟨[], rfl, rfl, fun q hq => by cases hq⟩
  | [], _, _ :: _, .nil, e => by cases e
  | _ :: _, _, [], .cons _ _, e => by cases e
  | p :: kvs, x :: xs, k :: ks, .cons h t, e => by
    rw [List.map_cons, List.map_cons] at e
    injection e with e1 e2
    obtain ⟨L, h1, h2, h3⟩ := kt_list (P := P) (w := w) t e2
    obtain ⟨g1, g2, g3⟩ := h
    refine ⟨(x.2.1, k) :: L, by rw [List.map_cons, List.map_cons, h1], by rw [List.map_cons, h2], fun q hq => ?_⟩
    rcases List.mem_cons.mp hq with rfl | hq
    · rw [e1, ikey_kV] at g2
      exact g2
    · exact h3 q hq
theorem cr_sortedDT (hc : X.calm = true) : CallR X (.builtin "sorted") (rSortedDT X.prog X.w) := by
  intro pins s σ H vs us Q I r h
  obtain ⟨a, kvs, ks, d, B, rfl, ha, hk, h64, hd1, hB, q⟩ := h
  rw [Vals.ref1 r]
  obtain ⟨_, hsys, xs, rel, dof⟩ := dt_of I.hok ha
  obtain ⟨ob, es, ep, ho, hex, hdat, hes, _, hnd⟩ := id dof
  obtain ⟨L, h1, h2, h3⟩ := kt_list (P := X.prog) (w := X.w) rel hk
  have hes2 : es.toList.map (·.key) = L.map fun q => Value.ref q.1 := by
    have : es.toList.map (·.key) = (xs.map (fun x => x.2.1)).map Value.ref := by
      rw [hes, List.map_map, List.map_map]
      rfl
    rw [this, h1, List.map_map]
    rfl
  have hlen : es.size < 64 := by
    have e1 := congrArg List.length hes2
    rw [List.length_map, List.length_map, Array.length_toList] at e1
    have e2 := congrArg List.length h2
    rw [List.length_map] at e2
    omega
  have hT : ∀ q ∈ L, IsT X.prog X.w s.heap q.2 q.1 := fun q hq => I.isT (.inl (.inl (h3 q hq)))
  refine sorted_dictT (I.ok.hd hc) hsys ho hex hdat hlen hes2 hT hd1 (fun p hp => hB p.2 (by rw [← h2]; exact List.mem_map.mpr ⟨p, hp, rfl⟩)) fun s' p out c L' k g o hp hg hi hpm hpw => ?_
  have hz : (L'.map fun q => V.ref q.1).length ≤ sizeLine := by
    have e2 := congrArg List.length h2
    rw [List.length_map] at e2
    rw [List.length_map, hpm.length_eq, sizeLine_eq]
    omega
  have hn : H p = none := I.hok.fresh hp
  have J : Inv X pins σ (upd H p (.lst (L'.map fun q => V.ref q.1))) { s with heap := s'.heap, gens := s'.gens, drawn := s'.drawn, toks := s'.toks } :=
    I.call (ch := []) (Un.laid k hp hn) (I.hok.laid k hp ⟨hz, out.toList, c, by rw [hi]; exact vals_of_refs L', hg⟩) (by rw [g]; exact I.bare) (fun _ z => nomatch z)
  have e : s' = { s with heap := s'.heap, gens := s'.gens, drawn := s'.drawn, toks := s'.toks } := by
    cases s'
    have o' : _ = s.os := o
    subst o'
    rfl
  rw [e]
  exact ⟨.ref p, _, J, rfl, q L' p (by rw [← h2]; exact hpm.map _) hpw (fun q hq => h3 q (hpm.mem_iff.mp hq)) hn⟩
end
end HM
namespace HM
open PySem PySem.Spec PyProof.Rows L2
end HM
namespace HM
open PySem PySem.Spec PyProof.Rows L2
section
variable {X : Cx}
def tDispT (tk tv : TE) : TE := fun σ H Q => ∀ p, H p = none → tk σ (upd H p (.dT [])) fun x H1 => tv σ H1 fun y H2 => ∃ b k, x = .ref b ∧ H2 b = some (.tup (k.map kV)) ∧ H2 p = some (.dT []) ∧ Q (.ref p) (upd H2 p (.dT [(k, y)]))
theorem pe_dispT {ke ve : Expr} {tk tv : TE} {pos : Pos} (hu : X.A.units + 1 < cLine) (hk : PE X ke tk) (hv : PE X ve tv) : PE X (.Dict [some ke] [ve] pos) (tDispT tk tv) := by
  refine ⟨fun pins s σ H Q I h => ?_⟩
  have hsh : (evalEachOpt [some ke] X.env).zip ((evalEach [ve] X.env).map fun v => do let x ← v; standAt pos; pure x) = ([(eval ke X.env, do let x ← eval ve X.env; standAt pos; pure x)] : List (Sem Value × Sem Value)).map fun p => (some p.1, p.2) := rfl
  rw [arm_eval_Dict, hsh, dictDisplay_pairs _ (by simp) (by simp)]
  refine wpAny_bind (wpAny_standAt (wpAny_bind ?_))
  unfold subDict
  refine wpAny_bind (wpAny_alloc ?_)
  have hn : H s.heap.objs.size = none := I.hok.fresh (Nat.le_refl _)
  have I1 := I.laid (a := s.heap.objs.size) (o := .dT []) (t' := s.toks) (fun _ _ q => Heap.get?_push_of_some _ q) (Nat.le_refl _) (dt_empty s.heap I.big)
  refine wpAny_bind (wpAny_holding ?_)
  rw [if_pos (by simp)]
  refine wpAny_bind (evalPairs_cons (thn (hk.run pins _ σ _ _ I1 (h _ hn)) fun u s1 ⟨x, H1, J1, rx, q1⟩ => wpAny_bind (thn (hv.run pins s1 σ H1 _ J1 q1) fun v s2 ⟨y, H2, J2, ry, b, k, ex, eb, ep, q2⟩ => wpAny_bind (wpAny_standAt (wpAny_pure (evalPairs_nil ?_))))))
  subst ex
  cases rx
  refine wpAny_holding ?_
  simp only [List.forIn_cons, List.forIn_nil]
  obtain ⟨z, hd, xs, rel, dd⟩ := dt_of J2.hok ep
  cases rel
  refine wpAny_bind (wpAny_bind (wpAny_bind (wpAny_dictSet_heap (hsz := by simp) (show X.A.units < cLine by omega) (key_of J2.hok eb) dd fun h' dd' hs => wpAny_pure (wpAny_pure (wpAny_pure (wpAny_pure (wpAny_pure ?_)))))))
  obtain ⟨q, es, ep', hq, h2, h3, h4, _, h5⟩ := dd'
  refine ⟨.ref s.heap.objs.size, upd H2 s.heap.objs.size (.dT [(k, y)]), d_write J2 (by rw [ep]; exact True.intro) hs ⟨q, hq⟩ ⟨by show 1 ≤ sizeLine; decide, hd, _, .cons ⟨rfl, ?_, ry⟩ .nil, q, es, ep', hq, h2, h3, h4, h5⟩, rfl, q2⟩
  rw [upd_ne (ne_of eb ep (fun z => nomatch z))]
  exact eb
end
end HM
namespace VL
open PySem PySem.Spec PyProof.Rows L2 HM
def keyD : Key → Dt
  | .inl i => .int i
  | .inr s => .str s
def tupD (k : List Key) : Dt := .tup (k.map keyD)
section
variable {κ : Type} [DecidableEq κ]
def valD (kvs : List (κ × Dt)) (k : κ) : Option Dt := (kvs.find? fun kv => decide (kv.1 = k)).map (·.2)
def putD (kvs : List (κ × Dt)) (k : κ) (v : Dt) : List (κ × Dt) :=
  if (kvs.any fun kv => decide (kv.1 = k)) = true then kvs.map (fun kv => if kv.1 = k then (kv.1, v) else kv) else kvs ++ [(k, v)]
theorem PrK.val {F : Hp} {k : κ} : ∀ {a : List (κ × V)} {b : List (κ × Dt)}, PrK F a b → (valV a k = none ∧ valD b k = none) ∨ ∃ v d, valV a k = some v ∧ valD b k = some d ∧ Rp F v d
  | _, _, .nil => .inl ⟨rfl, rfl⟩
  | p :: a, q :: b, .cons h t => by
    obtain ⟨h1, h2⟩ := h
    unfold valV valD
    by_cases e : p.1 = k
    · refine .inr ⟨p.2, q.2, ?_, ?_, h2⟩
      · rw [List.find?_cons_of_pos (by simpa using e)]; rfl
      · rw [List.find?_cons_of_pos (by rw [← h1]; simpa using e)]; rfl
    · rw [List.find?_cons_of_neg (by simpa using e), List.find?_cons_of_neg (by rw [← h1]; simpa using e)]
      exact PrK.val t
theorem PrK.any {F : Hp} {k : κ} : ∀ {a : List (κ × V)} {b : List (κ × Dt)}, PrK F a b → (a.any fun kv => decide (kv.1 = k)) = b.any fun kv => decide (kv.1 = k)
  | _, _, .nil => rfl
  | p :: a, q :: b, .cons h t => by rw [List.any_cons, List.any_cons, h.1, PrK.any t]
theorem PrK.mapp {F : Hp} {k : κ} {v : V} {d : Dt} (r : Rp F v d) : ∀ {a : List (κ × V)} {b : List (κ × Dt)}, PrK F a b → PrK F (a.map fun kv => if kv.1 = k then (kv.1, v) else kv) (b.map fun kv => if kv.1 = k then (kv.1, d) else kv)
  | _, _, .nil => .nil
  | p :: a, q :: b, .cons h t => by
    rw [List.map_cons, List.map_cons]
    refine .cons ?_ (PrK.mapp r t)
    by_cases e : p.1 = k
    · rw [if_pos e, if_pos (by rw [← h.1]; exact e)]
      exact ⟨h.1, r⟩
    · rw [if_neg e, if_neg (by rw [← h.1]; exact e)]
      exact h
theorem PrK.app {F : Hp} : ∀ {a a2 : List (κ × V)} {b b2 : List (κ × Dt)}, PrK F a b → PrK F a2 b2 → PrK F (a ++ a2) (b ++ b2)
  | _, _, _, _, .nil, s => s
  | _, _, _, _, .cons h t, s => .cons h (PrK.app t s)
theorem PrK.put {F : Hp} {k : κ} {v : V} {d : Dt} (r : Rp F v d) {a : List (κ × V)} {b : List (κ × Dt)} (h : PrK F a b) : PrK F (putK a k v) (putD b k d) := by
  unfold putK putD
  rw [h.any]
  split
  · exact PrK.mapp r h
  · exact PrK.app h (.cons ⟨rfl, r⟩ .nil)
theorem PrK.len {F : Hp} {a : List (κ × V)} {b : List (κ × Dt)} (h : PrK F a b) : a.length = b.length := Paired.length h
theorem PrK.keys {F : Hp} : ∀ {a : List (κ × V)} {b : List (κ × Dt)}, PrK F a b → a.map (·.1) = b.map (·.1)
  | _, _, .nil => rfl
  | _, _, .cons h t => by rw [List.map_cons, List.map_cons, h.1, PrK.keys t]
end
theorem Rp.key {F : Hp} {v : V} {k : Key} (h : Rp F v (keyD k)) : v = kV k := by
  cases k with
  | inl i => exact h.int_inv
  | inr s => exact h.str_inv
theorem Rps.keys {F : Hp} : ∀ {vs : List V} {k : List Key}, Rps F vs (k.map keyD) → vs = k.map kV
  | _, [], .nil => rfl
  | _, k :: ks, .cons h t => by rw [List.map_cons, h.key, Rps.keys t]
theorem Rp.tupk {F : Hp} {v : V} {k : List Key} (h : Rp F v (tupD k)) : ∃ b, v = .ref b ∧ F b = some (.tup (k.map kV)) := by
  obtain ⟨a, xs, rfl, hF, rx⟩ := Rp.tup_inv h
  exact ⟨a, rfl, by rw [← rx.keys]; exact hF⟩
section
variable {c : Fc} {X : Cx} {a b e o : Expr} {es : List Expr} {te ta tb : VTE} {tas : VTA} {pos apos p : Pos}
/-- slot i holds a dict: what stands at k -/
def hasD (env : Ev) (i : Nat) (d : Dt) (r : Option Dt) : Prop := (∃ kvs k, env[i]? = some (.ow (.dK kvs)) ∧ d = keyD k ∧ r = valD kvs k) ∨ ∃ kvs k, env[i]? = some (.ow (.dT kvs)) ∧ d = tupD k ∧ r = valD kvs k
def isDk (env : Ev) (i : Nat) : Prop := (∃ kvs, env[i]? = some (.ow (.dK kvs))) ∨ ∃ kvs, env[i]? = some (.ow (.dT kvs))
theorem Rel.slotA {F H : Hp} {σ : L2.St} {env : Ev} {n i : Nat} {k : Con} (r : Rel c F H σ env n) (e : env[i]? = some (.ow k)) : ∃ a o, σ[i]? = some (some (.ref a)) ∧ H a = some o ∧ OwOk F a o k := by
  obtain ⟨a, o, g1, _, _, _, g5, g6⟩ := r.sl i _ e
  exact ⟨a, o, g1, g5, g6⟩
theorem hasD.get {F H : Hp} {σ : L2.St} {env : Ev} {n i : Nat} {y : V} {d : Dt} {r : Option Dt} (rr : Rel c F H σ env n) (ry : Rp F y d) (h : hasD env i d r) : ∃ a v, σ[i]? = some (some (.ref a)) ∧ DGet H a y v ∧ ((v = none ∧ r = none) ∨ ∃ x z, v = some x ∧ r = some z ∧ Rp F x z) := by
  rcases h with ⟨kvs, k, e, rfl, rfl⟩ | ⟨kvs, k, e, rfl, rfl⟩
  · obtain ⟨a, o, g1, g5, ks, rfl, pr⟩ := rr.slotA e
    rw [ry.key]
    refine ⟨a, valV ks k, g1, .inl ⟨ks, k, .inl g5, rfl, rfl⟩, ?_⟩
    rcases pr.val (k := k) with ⟨h1, h2⟩ | ⟨x, z, h1, h2, h3⟩
    · exact .inl ⟨h1, h2⟩
    · exact .inr ⟨x, z, h1, h2, h3⟩
  · obtain ⟨a, o, g1, g5, ks, rfl, pr⟩ := rr.slotA e
    obtain ⟨bb, rfl, hb⟩ := ry.tupk
    refine ⟨a, valV ks k, g1, .inr ⟨ks, k, bb, .inl g5, rfl, rr.sub _ _ hb, rfl⟩, ?_⟩
    rcases pr.val (k := k) with ⟨h1, h2⟩ | ⟨x, z, h1, h2, h3⟩
    · exact .inl ⟨h1, h2⟩
    · exact .inr ⟨x, z, h1, h2, h3⟩
theorem isDk.at {F H : Hp} {σ : L2.St} {env : Ev} {n i : Nat} (rr : Rel c F H σ env n) (h : isDk env i) : ∃ a, σ[i]? = some (some (.ref a)) := by
  rcases h with ⟨kvs, e⟩ | ⟨kvs, e⟩
  · obtain ⟨a, _, g, _⟩ := rr.slotA e
    exact ⟨a, g⟩
  · obtain ⟨a, _, g, _⟩ := rr.slotA e
    exact ⟨a, g⟩
/-- k in d -/
def vDIn (neg : Bool) (i : Nat) (te : VTE) : VTE := fun env n Q => te env n fun d env1 n1 => ∃ r, hasD env1 i d r ∧ Q (.bl (if neg then !r.isSome else r.isSome)) env1 n1
theorem dnotin_of {i : Nat} {σ : L2.St} {H : Hp} {R : VK} (h : tOf c (vDIn true i te) σ H R) : tDNotIn (tOf c te) (tVar i) σ H R := by
  obtain ⟨F, env, n, Q, rr, h, k⟩ := h
  refine ⟨F, env, n, _, rr, h, fun y H1 F1 d env1 n1 r1 u1 p1 q1 => ?_⟩
  obtain ⟨r, hd, q1⟩ := q1
  obtain ⟨a, v, e1, g, hv⟩ := hd.get r1 p1
  refine ⟨_, e1, a, v, rfl, g, ?_⟩
  have : v.isSome = r.isSome := by rcases hv with ⟨rfl, rfl⟩ | ⟨x, z, rfl, rfl, _⟩ <;> rfl
  rw [this]
  exact k _ H1 F1 _ env1 n1 r1 u1 (.bl _) q1
theorem testB_of {te : VTE} {t : TE} (h : ∀ {σ H R}, tOf c te σ H R → t σ H R) {σ : L2.St} {H : Hp} {R : Bool → Hp → Prop} (q : cOf c (vB te) σ H R) : tB t σ H R := by
  obtain ⟨F, env, n, Q, rr, q, k⟩ := q
  refine h ⟨F, env, n, _, rr, q, fun v H' F' d env' n' r' u rp qd => ?_⟩
  obtain ⟨bb, rfl, qd⟩ := qd
  exact ⟨bb, rp.bl_inv, k bb H' F' env' n' r' u qd⟩
theorem vt_dnotin {i : Nat} (hu : X.A.units + 1 < cLine) (ha : PE X a (tOf c te)) (hb : PE X b (tVar i)) (h1 : behindInMarks .NotIn b = false := by rfl) : PT X (.Compare a [.NotIn] [b] pos) (cOf c (vB (vDIn true i te))) := PT.imp (pt_cmp (pc_dnotin hu ha hb) h1) fun _ _ _ => testB_of dnotin_of
/-- d[k] -/
def vDGet (i : Nat) (te : VTE) : VTE := fun env n Q => isDk env i ∧ te env n fun d env1 n1 => ∃ z, hasD env1 i d (some z) ∧ Q z env1 n1
theorem ve_dget {i : Nat} (hu : X.A.units + 1 < cLine) (ho : PE X o (tVar i)) (hi : PE X e (tOf c te)) (hs : NoSl e) : PE X (.Subscript o e pos) (tOf c (vDGet i te)) := PE.imp (pe_dget hu ho hi hs) fun σ H R ⟨F, env, n, Q, rr, ⟨h0, h⟩, k⟩ => by
  obtain ⟨a, ea⟩ := h0.at rr
  refine ⟨_, ea, F, env, n, _, rr, h, fun y H1 F1 d env1 n1 r1 u1 p1 q1 => ?_⟩
  obtain ⟨z, hd, q1⟩ := q1
  obtain ⟨a2, v, e1, g, hv⟩ := hd.get r1 p1
  rw [ea] at e1
  cases e1
  rcases hv with ⟨_, z2⟩ | ⟨x, z2, rfl, e2, rz⟩
  · cases z2
  · cases e2
    exact ⟨a, x, rfl, g, k _ H1 F1 _ env1 n1 r1 u1 rz q1⟩
/-- d[k] = v -/
def vDPut (i : Nat) (tk tv : VTE) : VTS := fun V env n => tv env n fun z env1 n1 => isDk env1 i ∧ tk env1 n1 fun d env2 n2 =>
  (∃ kvs k, env2[i]? = some (.ow (.dK kvs)) ∧ d = keyD k ∧ kvs.length ≤ 5000 ∧ V.nx (env2.set i (.ow (.dK (putD kvs k z)))) n2) ∨ (∃ kvs k, env2[i]? = some (.ow (.dT kvs)) ∧ d = tupD k ∧ kvs.length ≤ 5000 ∧ V.nx (env2.set i (.ow (.dT (putD kvs k z)))) n2)
theorem vs_dput {i : Nat} {v : Expr} {tk tv : VTE} {p2 : Pos} (hu : X.A.units + 1 < cLine) (ho : PE X o (tVar i)) (hi : PE X e (tOf c tk)) (hv : PE X v (tOf c tv)) (hs : swapsWith v (some (.Subscript o e p2)) pos.line X.env = pure false) : PS X (.Assign [.Subscript o e p2] v pos) (sOf c (vDPut i tk tv)) := PS.imp (ps_dput hu ho hi hv hs) fun D σ H ⟨F, env, n, V, rr, h, k⟩ => by
  refine ⟨F, env, n, _, rr, h, fun v H1 F1 z env1 n1 r1 u1 p1 q1 => ?_⟩
  obtain ⟨h0, q1⟩ := q1
  obtain ⟨a, ea⟩ := h0.at r1
  refine ⟨_, ea, F1, env1, n1, _, r1, q1, fun y H2 F2 d env2 n2 r2 u2 p2 q2 => ?_⟩
  rcases q2 with ⟨kvs, kk, e, rfl, hl, q2⟩ | ⟨kvs, kk, e, rfl, hl, q2⟩
  · obtain ⟨a2, o2, g1, g5, ks, rfl, pr⟩ := r2.slotA e
    rw [ea] at g1
    cases g1
    rw [p2.key]
    exact ⟨a, _, rfl, .inl ⟨ks, kk, g5, rfl, small1000 (by rw [pr.len]; exact hl), rfl⟩, k.nx F2 _ σ _ n2 (r2.write (k' := .dK (putD kvs kk z)) e ea ⟨_, rfl, pr.put (p1.up u2)⟩) (u1.trans u2) q2⟩
  · obtain ⟨a2, o2, g1, g5, ks, rfl, pr⟩ := r2.slotA e
    rw [ea] at g1
    cases g1
    obtain ⟨bb, rfl, hb⟩ := p2.tupk
    exact ⟨a, _, rfl, .inr ⟨ks, kk, bb, g5, rfl, r2.sub _ _ hb, small1000 (by rw [pr.len]; exact hl), rfl⟩, k.nx F2 _ σ _ n2 (r2.write (k' := .dT (putD kvs kk z)) e ea ⟨_, rfl, pr.put (p1.up u2)⟩) (u1.trans u2) q2⟩
/-- len(d), keys tuples -/
def vDLenT (i : Nat) : VTE := fun env n Q => ∃ kvs, env[i]? = some (.ow (.dT kvs)) ∧ Q (.int kvs.length) env n
theorem ve_dlenT {i : Nat} {p : Pos} (hg : Gl X "len") (hm : X.mg "len" = none) (ho : PE X o (tVar i)) (he : starEach [o] X.env = (false, eval o X.env) :: starEach [] X.env := by rfl) (hpl : (backTo pos (starEach [] X.env)).any (·.1) = false := by rfl) :
    PE X (.Call (.Name "len" p) [o] [] pos) (tOf c (vDLenT i)) := PE.imp (pe_callB call_len_dT hg hm PySem.boot_len (pa_cons ho pa_nil he) (by decide) (by decide) he hpl) fun σ H R ⟨F, env, n, Q, rr, ⟨kvs, e, q⟩, k⟩ => by
  obtain ⟨a, o, g1, g5, ks, rfl, pr⟩ := rr.slotA e
  exact ⟨_, g1, a, ks, rfl, g5, by rw [pr.len]; exact k _ H F _ env n rr (Up.refl F) (.int _) q⟩
theorem vn_dnewT : PE X (.Dict [] [] pos) (nOf c (fun env n Q => Q (.dT []) env n)) := PE.imp pe_dnewT fun σ H R ⟨F, env, n, Q, rr, q, k⟩ p np => nOf_new rr (Up.refl F) np (kk := .dT []) ⟨[], rfl, .nil⟩ q k
/-- sorted(d) -/
def vDSortK (i : Nat) : VTN := fun env n Q => ∃ kvs is, env[i]? = some (.ow (.dK kvs)) ∧ kvs.map (·.1) = is.map Sum.inl ∧ is.length < 64 ∧ ∀ ns : List Int, ns.Perm is → ns.Pairwise (· ≤ ·) → Q (.lst (ns.map Dt.int)) env n
theorem vn_dsortK {i : Nat} {p : Pos} (hc : X.calm = true) (hg : Gl X "sorted") (hm : X.mg "sorted" = none) (ho : PE X o (tVar i)) (he : starEach [o] X.env = (false, eval o X.env) :: starEach [] X.env := by rfl) (hpl : (backTo pos (starEach [] X.env)).any (·.1) = false := by rfl) :
    PE X (.Call (.Name "sorted" p) [o] [] pos) (nOf c (vDSortK i)) := PE.imp (pe_callB (cr_sortedK hc) hg hm (by decide +kernel) (pa_cons ho pa_nil he) (by decide) (by decide) he hpl) fun σ H R ⟨F, env, n, Q, rr, ⟨kvs, is, e, hk, hl, q⟩, k⟩ => by
  obtain ⟨a, o, g1, g5, ks, rfl, pr⟩ := rr.slotA e
  exact ⟨_, g1, a, ks, is, rfl, g5, by rw [pr.keys]; exact hk, hl, fun ns p h1 h2 np => nOf_new rr (Up.refl F) np (kk := .lst (ns.map Dt.int)) ⟨_, rfl, Rps.ints ns⟩ (q ns h1 h2) k⟩
def vDSortT (i : Nat) : VTN := fun env n Q => ∃ kvs ks d B, env[i]? = some (.ow (.dT kvs)) ∧ kvs.map (·.1) = ks.map ikey ∧ ks.length < 64 ∧ 1 ≤ d ∧ (∀ k ∈ ks, k.length = d ∧ TS.Bd B k) ∧ ∀ ls : List (List Int), ls.Perm ks → ls.Pairwise (fun q r => TS.code B q ≤ TS.code B r) → Q (.lst (ls.map fun l => .tup (l.map Dt.int))) env n
end
end VL
namespace VL
open PySem PySem.Spec PyProof.Rows L2 HM
section
variable {c : Fc} {X : Cx} {a b e o : Expr} {es : List Expr} {te ta tb : VTE} {tas : VTA} {pos apos p : Pos}
theorem Rel.addTs {F H : Hp} {σ : L2.St} {env : Ev} {n : Nat} : ∀ {L : List (Addr × List Int)} (r : Rel c F H σ env n), (∀ q ∈ L, H q.1 = some (.tup (q.2.map V.int))) → ∃ F', Rel c F' H σ env n ∧ Up F F' ∧ Rps F' (L.map fun q => V.ref q.1) (L.map fun q => Dt.tup (q.2.map Dt.int))
  | [], r, _ => ⟨F, r, Up.refl F, .nil⟩
  | q :: L, r, h => by
    obtain ⟨r1, u1⟩ := r.addT (h q List.mem_cons_self)
    obtain ⟨F', r2, u2, rp⟩ := Rel.addTs (L := L) r1 fun p hp => h p (List.mem_cons_of_mem _ hp)
    exact ⟨F', r2, u1.trans u2, .cons (.tup (u2 _ _ upd_same) (Rps.ints _)) rp⟩
theorem vn_dsortT {i : Nat} {p : Pos} (hc : X.calm = true) (hg : Gl X "sorted") (hm : X.mg "sorted" = none) (ho : PE X o (tVar i)) (he : starEach [o] X.env = (false, eval o X.env) :: starEach [] X.env := by rfl) (hpl : (backTo pos (starEach [] X.env)).any (·.1) = false := by rfl) :
    PE X (.Call (.Name "sorted" p) [o] [] pos) (nOf c (vDSortT i)) := PE.imp (pe_callB (cr_sortedDT hc) hg hm (by decide +kernel) (pa_cons ho pa_nil he) (by decide) (by decide) he hpl) fun σ H R ⟨F, env, n, Q, rr, ⟨kvs, ks, d, B, e, hk, hl, hd, hB, q⟩, k⟩ => by
  obtain ⟨a, o, g1, g5, kws, rfl, pr⟩ := rr.slotA e
  refine ⟨_, g1, a, kws, ks, d, B, rfl, g5, by rw [pr.keys]; exact hk, hl, hd, hB, fun L p h1 h2 h3 np => ?_⟩
  obtain ⟨F', r', u', rp⟩ := rr.addTs h3
  have e1 : L.map (fun q => Dt.tup (q.2.map Dt.int)) = (L.map (·.2)).map fun l => Dt.tup (l.map Dt.int) := by rw [List.map_map]; rfl
  rw [e1] at rp
  exact nOf_new r' u' np (kk := .lst ((L.map (·.2)).map fun l => Dt.tup (l.map Dt.int))) ⟨_, rfl, rp⟩ (q (L.map (·.2)) h1 (List.pairwise_map.mpr h2)) k
end
section
variable {am : Am} {F0 H0 : Hp} {X : Cx} {a b e o : Expr} {te ta tb tk tv : VTE} {pos : Pos}
theorem Rel.laid {c : Fc} {F H : Hp} {σ : L2.St} {env : Ev} {n : Nat} {p : Addr} (r : Rel c F H σ env n) (np : H p = none) (o : HO) : Rel (c.wth p o) F (upd H p o) σ env n ∧ c.H0 p = none ∧ c.F0 p = none ∧ ¬ c.am.sp p := by
  obtain ⟨h0, ns, nf⟩ := r.new0 np
  refine ⟨(r.lay np o).push upd_same nf ns fun j k' e z => ?_, h0, ?_, ns⟩
  · obtain ⟨a2, o2, g1, _, _, _, g5, _⟩ := r.sl j _ e
    rw [g1] at z
    cases z
    rw [g5] at np
    cases np
  · cases e : c.F0 p with
    | none => rfl
    | some o => rw [r.up0 p o e] at nf; cases nf
/-- a kept thing is written, and is new -/
theorem nOf_wth {σ : L2.St} {H F F1 : Hp} {env : Ev} {n : Nat} {p : Addr} {o o' : HO} {kk : Con} {Q : Con → Ev → Nat → Prop} {R : VK} {c : Fc} (nto : NT o) (r : Rel (c.wth p o) F H σ env n) (h0 : c.H0 p = none) (hF0 : c.F0 p = none) (ns : ¬ c.am.sp p) (u : Up F1 F) (w : OwOk F p o' kk) (q : Q kk env n)
    (k : ∀ a o H' F' kk env' n', Rel c F' H' σ env' n' → Up F1 F' → F' a = none → c.H0 a = none → ¬ c.am.sp a → H' a = some o → OwOk F' a o kk → (∀ (j : Nat) k', env'[j]? = some (.ow k') → σ[j]? ≠ some (some (.ref a))) → Q kk env' n' → R (.ref a) H') (nf : ∀ oc x, o ≠ .frz oc (.own x) := by intro _ _ z; cases z) : R (.ref p) (upd H p o') := by
  obtain ⟨r7, eD, fD, nD7⟩ := Rel.pop nto r h0 hF0 ns
  have r8 : Rel c F (upd H p o') σ env n := by
    refine ⟨fun b o e => ?_, r7.spf, r7.amb' (fun b hb => upd_ne fun z => ns (z ▸ hb)) (codeK_upd fun oc x z => nf oc x (by rw [eD] at z; exact Option.some.inj z)), r7.up0, r7.out0, fun b o e nb => ?_, r7.len, fun j s e => ?_, r7.apart⟩
    · rw [upd_ne fun z => by rw [z, fD] at e; cases e]; exact r7.sub b o e
    · rw [upd_ne fun z => by rw [z, h0] at e; cases e]; exact r7.keep0 b o e nb
    · have q := r7.sl j s e
      cases s with
      | no => trivial
      | fz d => exact q
      | ow kk =>
        obtain ⟨a, o, g1, g2, g3, g4, g5, g6⟩ := q
        exact ⟨a, o, g1, g2, g3, g4, by rw [upd_ne fun z => nD7 j kk e (by rw [g1, z])]; exact g5, g6⟩
  exact k p o' _ F kk env n r8 u fD h0 ns upd_same w nD7 q
/-- {k: v}, k a tuple; k a number or a text -/
def vDispT (tk tv : VTE) : VTN := fun env n Q => tk env n fun d env1 n1 => tv env1 n1 fun z env2 n2 => ∃ k, d = tupD k ∧ Q (.dT [(k, z)]) env2 n2
theorem vn_dispT {ke ve : Expr} (hu : X.A.units + 1 < cLine) (hk : ∀ F0 H0, PE X ke (tOf ⟨am, F0, H0⟩ tk)) (hv : ∀ F0 H0, PE X ve (tOf ⟨am, F0, H0⟩ tv)) : PE X (.Dict [some ke] [ve] pos) (nOf ⟨am, F0, H0⟩ (vDispT tk tv)) :=
  PE.imp (pe_dispT (tk := fun σ H R => ∃ F0 H0, tOf ⟨am, F0, H0⟩ tk σ H R) (tv := fun σ H R => ∃ F0 H0, tOf ⟨am, F0, H0⟩ tv σ H R) hu
    ⟨fun pins s σ H Q I ⟨F0, H0, q⟩ => (hk F0 H0).run pins s σ H Q I q⟩ ⟨fun pins s σ H Q I ⟨F0, H0, q⟩ => (hv F0 H0).run pins s σ H Q I q⟩) fun σ H R ⟨F, env, n, Q, rr, q, k⟩ p np => by
  obtain ⟨r1, h0, hF0, ns⟩ := rr.laid np (.dT [])
  refine ⟨F0, upd H0 p (.dT []), F, env, n, _, r1, q, fun x H2 F2 d env2 n2 r2 u2 p2 q2 => ⟨F0, upd H0 p (.dT []), F2, env2, n2, _, r2, q2, fun y H3 F3 z env3 n3 r3 u3 p3 q3 => ?_⟩⟩
  obtain ⟨kk, rfl, q3⟩ := q3
  obtain ⟨bb, rfl, hb⟩ := (p2.up u3).tupk
  obtain ⟨r7, eD, _, _⟩ := Rel.pop (c := ⟨am, F0, H0⟩) (fun _ z => by cases z) r3 h0 hF0 ns
  exact ⟨bb, kk, rfl, r3.sub _ _ hb, eD, nOf_wth (c := ⟨am, F0, H0⟩) (fun _ z => by cases z) r3 h0 hF0 ns (u2.trans u3) (kk := .dT [(kk, z)]) ⟨[(kk, y)], rfl, .cons ⟨rfl, p3⟩ .nil⟩ q3 k⟩
def vDispK (tk tv : VTE) : VTN := fun env n Q => tk env n fun d env1 n1 => tv env1 n1 fun z env2 n2 => ∃ k, d = keyD k ∧ Q (.dK [(k, z)]) env2 n2
theorem vn_dispK {ke ve : Expr} (hk : ∀ F0 H0, PE X ke (tOf ⟨am, F0, H0⟩ tk)) (hv : ∀ F0 H0, PE X ve (tOf ⟨am, F0, H0⟩ tv)) : PE X (.Dict [some ke] [ve] pos) (nOf ⟨am, F0, H0⟩ (vDispK tk tv)) :=
  PE.imp (pe_disp (pps_cons (tk := fun σ H R => ∃ F0 H0, tOf ⟨am, F0, H0⟩ tk σ H R) (tv := fun σ H R => ∃ F0 H0, tOf ⟨am, F0, H0⟩ tv σ H R) ⟨fun pins s σ H Q I ⟨F0, H0, q⟩ => (hk F0 H0).run pins s σ H Q I q⟩ ⟨fun pins s σ H Q I ⟨F0, H0, q⟩ => (hv F0 H0).run pins s σ H Q I q⟩ pps_nil) rfl rfl (by simp) (by simp)) fun σ H R ⟨F, env, n, Q, rr, q, k⟩ p np => by
  obtain ⟨r1, h0, hF0, ns⟩ := rr.laid np (.dK [])
  refine ⟨F0, upd H0 p (.dK []), F, env, n, _, r1, q, fun x H2 F2 d env2 n2 r2 u2 p2 q2 => ⟨F0, upd H0 p (.dK []), F2, env2, n2, _, r2, q2, fun y H3 F3 z env3 n3 r3 u3 p3 q3 => ?_⟩⟩
  obtain ⟨kk, rfl, q3⟩ := q3
  rw [p2.key]
  obtain ⟨r7, eD, _, _⟩ := Rel.pop (c := ⟨am, F0, H0⟩) (fun _ z => by cases z) r3 h0 hF0 ns
  refine ⟨eD, [(kk, y)], rfl, by simp, ?_⟩
  have em : mergeK [] [(kk, y)] = [(kk, y)] := by simp [mergeK, putK]
  rw [em]
  exact nOf_wth (c := ⟨am, F0, H0⟩) (fun _ z => by cases z) r3 h0 hF0 ns (u2.trans u3) (kk := .dK [(kk, z)]) ⟨[(kk, y)], rfl, .cons ⟨rfl, p3⟩ .nil⟩ q3 k
end
end VL
namespace VL
open PySem PySem.Spec PyProof.Rows L2 HM
section
variable {c : Fc} {X : Cx} {a b d e o : Expr} {es : List Expr} {te ta tb tc : VTE} {tas : VTA} {tn : VTN} {pos apos cpos p : Pos} {x : Str}
def vNeg (ta : VTE) : VTE := fun env n Q => ta env n fun d env1 n1 => ∃ i, d = .int i ∧ Q (.int (-i)) env1 n1
theorem ve_neg (h : PE X a (tOf c ta)) : PE X (.UnaryOp .USub a pos) (tOf c (vNeg ta)) := PE.imp (pe_un un_neg h) fun σ H R ⟨F, env, n, Q, rr, q, k⟩ => ⟨F, env, n, _, rr, q, fun v H' F' d env' n' r' u rp qd => by
  obtain ⟨i, rfl, qd⟩ := qd
  exact ⟨i, rp.int_inv, k _ H' F' _ env' n' r' u (.int _) qd⟩⟩
/-- int(truth) -/
def dIntB : RCD := fun ds Q => ∃ b, ds = [.bl b] ∧ Q (.int (if b then 1 else 0))
theorem lft_intB : LftC (fun xs H Q => (∃ i, xs = [.int i] ∧ Q (.int i) H) ∨ ∃ k, xs = [.bl k] ∧ Q (.int (if k then 1 else 0)) H) dIntB := fun F H vs ds Q R u rp ⟨i, h, q⟩ k => by
  subst h
  obtain ⟨v, rfl, p⟩ := rp.one
  rw [p.bl_inv]
  exact .inr ⟨i, rfl, k _ _ (.int _) q⟩
theorem ve_intB (hg : Gl X "int") (hm : X.mg "int" = none) (h : PE X a (tOf c ta)) (he : starEach [a] X.env = (false, eval a X.env) :: starEach [] X.env := by rfl) (hpl : (backTo pos (starEach [] X.env)).any (·.1) = false := by rfl) : PE X (.Call (.Name "int" p) [a] [] pos) (tOf c (vCB dIntB (vCons ta vNil))) := ve_tyC call_int1 lft_intB hg hm (by decide +kernel) (va_cons h va_nil he) (by decide) (by decide) he hpl
def tyD : Dt → String
  | .non => "NoneType"
  | .bl _ => "bool"
  | .int _ => "int"
  | .str _ => "str"
  | .lst _ => "list"
  | .tup _ => "tuple"
  | _ => ""
theorem Rp.tyX {K : PySem.W.Frag} {F H : Hp} {v : V} {d : Dt} (u : Up F H) (h : Rp F v d) (ht : tyD d ≠ "") : TyX K H v (.type (tyD d)) := by
  cases h with
  | non => exact .base .non
  | bl b => exact .base (.bl b)
  | int b => exact .base (.int b)
  | str b => exact .base (.str b)
  | ty b => exact absurd rfl ht
  | obj b => exact absurd rfl ht
  | lst e _ => exact .base (.lst (u _ _ e))
  | tup e _ => exact .base (.tup (u _ _ e))
  | dic _ _ _ => exact absurd rfl ht
  | dik _ _ _ => exact absurd rfl ht
  | tuP _ _ => exact absurd rfl ht
def dIsi : RCD := fun ds Q => ∃ d T b, ds = [d, .ty T] ∧ tyD d ≠ "" ∧ kitB (tyD d) T = some b ∧ Q (.bl b)
theorem lft_isi {K : PySem.W.Frag} : LftC (rIsi K) dIsi := fun F H vs ds Q R u rp ⟨d, T, b, h, ht, hb, q⟩ k => by
  subst h
  obtain ⟨v, w, rfl, p1, p2⟩ := rp.two
  cases p2
  exact ⟨v, .ty T, _, _, b, rfl, .ty T, p1.tyX u ht, kit_ty hb, k _ _ (.bl _) q⟩
def vIsi (T : String) (ta : VTE) : VTE := vCB dIsi (vCons ta (vCons (vC (.ty T)) vNil))
theorem ve_isi {T : Str} {T' : String} {p2 : Pos} (hg : Gl X "isinstance") (hm : X.mg "isinstance" = none) (hg2 : Gl X T) (hm2 : X.mg T = none) (h : PE X a (tOf c ta)) (hT : bootBuiltins T = some (.type T') := by decide +kernel) (hn : T ≠ "__name__" := by decide) (hd : (T == ("__debug__" : Str)) = false := by decide)
    (he : starEach [a, .Name T p2] X.env = (false, eval a X.env) :: starEach [.Name T p2] X.env := by rfl) (he2 : starEach [.Name T p2] X.env = (false, eval (.Name T p2) X.env) :: starEach [] X.env := by rfl) (hpl : (backTo pos (starEach [.Name T p2] X.env)).any (·.1) = false := by rfl) :
    PE X (.Call (.Name "isinstance" p) [a, .Name T p2] [] pos) (tOf c (vIsi T' ta)) :=
  ve_cb call_isi lft_isi hg hm PyProof.Rows.boot_isinstance (va_cons h (va_cons (ve_c (pe_bltn (v := .ty T') hg2 hm2 hT rfl hn hd) fun _ => .ty T') va_nil he2) he) (by decide) (by decide) he hpl
theorem ve_m {i : Nat} {r : RM} {m : RMD} (h : PE X e (tBM X.K "list" r (tVar i) (aOf c tas))) (L : LftM r m) : PE X e (tOf c (vM i m tas)) := PE.imp h fun _ _ _ => m_of L
theorem ve_m0 {i : Nat} {r : RM} {m : RMD} (h : PE X e (tBM0 X.K "list" r (tVar i))) (L : LftM r m) : PE X e (tOf c (vM i m vNil)) := PE.imp h fun _ _ _ => m0_of L
/-- x = a new list, which is still from then on -/
def vSetF (i : Nat) (tn : VTN) : VTS := fun V env n => tn env n fun k env1 n1 => ∃ ds, k = .lst ds ∧ V.nx (env1.set i (.fz (.lst ds))) n1
theorem Rel.frzNew {F H : Hp} {σ : L2.St} {env : Ev} {n : Nat} {a : Addr} {xs : List V} {ds : List Dt} (r : Rel c F H σ env n) (hF : F a = none) (h0 : c.H0 a = none) (ns : ¬ c.am.sp a) (hH : H a = some (.lst xs)) (rx : Rps F xs ds) (ha : ∀ (j : Nat) k', env[j]? = some (.ow k') → σ[j]? ≠ some (some (.ref a))) :
    Rel c (upd F a (.lst xs)) H σ env n ∧ Rp (upd F a (.lst xs)) (.ref a) (.lst ds) := by
  refine ⟨⟨fun b ob e => ?_, fun b hb => ?_, r.ambU (up_lay hF), r.up0.trans (up_lay hF), fun b ob h1 nt h2 => ?_, r.keep0, r.len, fun i s e => ?_, r.apart⟩, .lst upd_same (rx.up (up_lay hF))⟩
  · by_cases z : b = a
    · subst z; rw [upd_same] at e; cases e; exact hH
    · rw [upd_ne z] at e; exact r.sub b ob e
  · rw [upd_ne (fun (z : b = a) => ns (by rw [← z]; exact hb))]; exact r.spf b hb
  · rw [upd_ne (fun (z : b = a) => by rw [z, h0] at h1; cases h1)]; exact r.out0 b ob h1 nt h2
  · have q := r.sl i s e
    cases s with
    | no => trivial
    | fz d => exact let ⟨v, g1, g2⟩ := q; ⟨v, g1, g2.up (up_lay hF)⟩
    | ow kk =>
      obtain ⟨a2, o2, g1, g2, g3, g4, g5, g6⟩ := q
      refine ⟨a2, o2, g1, ?_, g3, g4, g5, g6.up (up_lay hF)⟩
      rw [upd_ne fun z2 => ha i kk e (by rw [g1, z2])]
      exact g2
theorem setF_of {i : Nat} {σ : L2.St} {H : Hp} {D : Ends} (h : sOf c (vSetF i tn) D σ H) : tAsg (nOf c tn) (gName i) D σ H := by
  obtain ⟨F, env, n, V, r, q, k⟩ := h
  refine ⟨F, env, n, _, r, q, fun a o H' F' kk env' n' r' w hF h0 ns hH ow ha qd => ?_⟩
  obtain ⟨ds, rfl, qd⟩ := qd
  obtain ⟨xs, rfl, rx⟩ := ow
  obtain ⟨r2, rp⟩ := r'.frzNew hF h0 ns hH rx ha
  exact k.nx _ H' _ _ n' (r2.setF rp) (w.trans (up_lay hF)) qd
end
section
variable {am : Am} {F0 H0 : Hp} {X : Cx}
theorem vs_setLcF {i : Nat} {y : Str} {py : Pos} {elt tg iter : Expr} {ifs : List Expr} {scope : Scope} {own : List (Str × Nat)} {pos spos : Pos} {wi : VTI} {g : TG} {gv : VTG} {tt : VTT} {te : VTE} (hc : X.calm = true) (hN : X.N.Nodup) (hy : X.N[i]? = some y) (hyl : X.env.scope.names.lookup y = some .local)
    (hsw : swapsWith (.ListComp elt [⟨tg, iter, ifs, 0⟩] scope pos) (some (.Name y py)) spos.line X.env = pure true) (hi : PI X tg iter (iOf ⟨am, F0, H0⟩ wi)) (ok : BlkOk X.N X.env.scope scope own) (hgk : TgOk g gv (own.map (·.2)))
    (hg : ∀ (s : Shared) (H : Hp) (C : Addr) (cl : List (Str × Addr)) (fp : List Addr), PG (X.blk s H scope (compEnvC scope cl C X.env) fp) tg g)
    (ht : ∀ (F0 H0 : Hp) (s : Shared) (H : Hp) (C : Addr) (cl : List (Str × Addr)) (fp : List Addr), PTs (X.blk s H scope (compEnvC scope cl C X.env) fp) ifs (cOf ⟨am, F0, H0⟩ tt))
    (he : ∀ (F0 H0 : Hp) (s : Shared) (H : Hp) (C : Addr) (cl : List (Str × Addr)) (fp : List Addr), PE (X.blk s H scope (compEnvC scope cl C X.env) fp) elt (tOf ⟨am, F0, H0⟩ te)) (hs : ∀ x, foldedSetIterable iter X.env x = pure x := by intro _; rfl) :
    PS X (.Assign [.Name y py] (.ListComp elt [⟨tg, iter, ifs, 0⟩] scope pos) spos) (sOf ⟨am, F0, H0⟩ (vSetF i (vLc wi gv tt te (own.map (·.2))))) :=
  PS.imp (ps_setLc (tt := fun σ H R => ∃ F0 H0, cOf ⟨am, F0, H0⟩ tt σ H R) (te := fun σ H R => ∃ F0 H0, tOf ⟨am, F0, H0⟩ te σ H R) hc hN hy hyl hsw hi ok hg
    (fun s H C cl fp => ⟨fun pins s' σ H' Q I ⟨F0, H0, q⟩ => (ht F0 H0 s H C cl fp).run pins s' σ H' Q I q⟩) (fun s H C cl fp => ⟨fun pins s' σ H' Q I ⟨F0, H0, q⟩ => (he F0 H0 s H C cl fp).run pins s' σ H' Q I q⟩) hs)
    fun D σ H h => by
      have h2 := setF_of h
      exact lc_of hgk (fun F0 H0 _ _ _ q => ⟨F0, H0, q⟩) (fun F0 H0 _ _ _ q => ⟨F0, H0, q⟩) h2
end
end VL
namespace VL
open PySem PySem.Spec PyProof.Rows L2 HM
mutual
def pl : Dt → Bool
  | .int _ => true
  | .lst ds => pls ds
  | .tup ds => pls ds
  | _ => false
def pls : List Dt → Bool
  | [] => true
  | d :: ds => pl d && pls ds
end
mutual
def dep : Dt → Nat
  | .lst ds => deps ds + 1
  | .tup ds => deps ds + 1
  | .tuP ds => deps ds + 1
  | _ => 0
def deps : List Dt → Nat
  | [] => 0
  | d :: ds => max (dep d) (deps ds)
end
mutual
theorem pl_isPy : ∀ {d : Dt}, pl d = true → isPy d = true
  | .int _, _ => rfl
  | .lst ds, h => pls_isPy (ds := ds) h
  | .tup ds, h => pls_isPy (ds := ds) h
  | .non, h => by cases h
  | .bl _, h => by cases h
  | .str _, h => by cases h
  | .ty _, h => by cases h
  | .obj _, h => by cases h
  | .dic _ _, h => by cases h
  | .dik _ _, h => by cases h
  | .tuP _, h => by cases h
theorem pls_isPy : ∀ {ds : List Dt}, pls ds = true → isPys ds = true
  | [], _ => rfl
  | d :: ds, h => by
    have h' : (pl d && pls ds) = true := h
    rw [Bool.and_eq_true] at h'
    show (isPy d && isPys ds) = true
    rw [pl_isPy h'.1, pls_isPy h'.2]
    rfl
end
mutual
theorem pl_lay : ∀ {d : Dt}, pl d = true → (py d).canLay0 = true ∧ (py d).depth = dep d
  | .int _, _ => ⟨rfl, rfl⟩
  | .lst ds, h => by
    obtain ⟨h1, h2⟩ := pls_lay (ds := ds) h
    exact ⟨h1, by show PyData.depthAll (pys ds) + 1 = deps ds + 1; rw [h2]⟩
  | .tup ds, h => by
    obtain ⟨h1, h2⟩ := pls_lay (ds := ds) h
    exact ⟨h1, by show PyData.depthAll (pys ds) + 1 = deps ds + 1; rw [h2]⟩
  | .non, h => by cases h
  | .bl _, h => by cases h
  | .str _, h => by cases h
  | .ty _, h => by cases h
  | .obj _, h => by cases h
  | .dic _ _, h => by cases h
  | .dik _ _, h => by cases h
  | .tuP _, h => by cases h
theorem pls_lay : ∀ {ds : List Dt}, pls ds = true → PyData.canLayAll0 (pys ds) = true ∧ PyData.depthAll (pys ds) = deps ds
  | [], _ => ⟨rfl, rfl⟩
  | d :: ds, h => by
    have h' : (pl d && pls ds) = true := h
    rw [Bool.and_eq_true] at h'
    obtain ⟨a1, a2⟩ := pl_lay h'.1
    obtain ⟨b1, b2⟩ := pls_lay h'.2
    refine ⟨?_, ?_⟩
    · show ((py d).canLay0 && PyData.canLayAll0 (pys ds)) = true
      rw [a1, b1]
      rfl
    · show max (py d).depth (PyData.depthAll (pys ds)) = max (dep d) (deps ds)
      rw [a2, b2]
end
theorem pl_shaped {d : Dt} (h : pl d = true) (hd : dep d ≤ 64) : SeqAt.shaped (py d) = true := by
  obtain ⟨a1, a2⟩ := pl_lay h
  show ((py d).canLay0 && decide ((py d).depth ≤ 64)) = true
  rw [a1, a2, decide_eq_true hd]
  rfl
mutual
theorem pl_eqv : ∀ {d e : Dt}, pl d = true → pl e = true → (PyData.eqv (py d) (py e) = true ↔ d = e)
  | .int i, .int j, _, _ => by
    show PyData.eqv (.int i) (.int j) = true ↔ _
    have e : PyData.eqv (.int i) (.int j) = (i == j) := by simp [PyData.eqv]
    rw [e, beq_iff_eq]
    exact ⟨fun h => by rw [h], fun h => by injection h⟩
  | .int i, .lst es, _, _ => by
    have e : PyData.eqv (py (.int i)) (py (.lst es)) = false := by simp [py, PyData.eqv]
    rw [e]
    exact ⟨(fun h => nomatch h), (fun h => nomatch h)⟩
  | .int i, .tup es, _, _ => by
    have e : PyData.eqv (py (.int i)) (py (.tup es)) = false := by simp [py, PyData.eqv]
    rw [e]
    exact ⟨(fun h => nomatch h), (fun h => nomatch h)⟩
  | .lst ds, .int i, _, _ => by
    have e : PyData.eqv (py (.lst ds)) (py (.int i)) = false := by simp [py, PyData.eqv]
    rw [e]
    exact ⟨(fun h => nomatch h), (fun h => nomatch h)⟩
  | .tup ds, .int i, _, _ => by
    have e : PyData.eqv (py (.tup ds)) (py (.int i)) = false := by simp [py, PyData.eqv]
    rw [e]
    exact ⟨(fun h => nomatch h), (fun h => nomatch h)⟩
  | .lst ds, .tup es, _, _ => by
    have e : PyData.eqv (py (.lst ds)) (py (.tup es)) = false := by simp [py, PyData.eqv]
    rw [e]
    exact ⟨(fun h => nomatch h), (fun h => nomatch h)⟩
  | .tup ds, .lst es, _, _ => by
    have e : PyData.eqv (py (.tup ds)) (py (.lst es)) = false := by simp [py, PyData.eqv]
    rw [e]
    exact ⟨(fun h => nomatch h), (fun h => nomatch h)⟩
  | .lst ds, .lst es, h1, h2 => by
    have e : PyData.eqv (py (.lst ds)) (py (.lst es)) = PyData.eqvAll (pys ds) (pys es) := by simp [py, PyData.eqv]
    rw [e, pls_eqv (ds := ds) (es := es) h1 h2]
    exact ⟨fun h => by rw [h], fun h => by injection h⟩
  | .tup ds, .tup es, h1, h2 => by
    have e : PyData.eqv (py (.tup ds)) (py (.tup es)) = PyData.eqvAll (pys ds) (pys es) := by simp [py, PyData.eqv]
    rw [e, pls_eqv (ds := ds) (es := es) h1 h2]
    exact ⟨fun h => by rw [h], fun h => by injection h⟩
  | .non, _, h, _ => by cases h
  | .bl _, _, h, _ => by cases h
  | .str _, _, h, _ => by cases h
  | .ty _, _, h, _ => by cases h
  | .obj _, _, h, _ => by cases h
  | .dic _ _, _, h, _ => by cases h
  | .dik _ _, _, h, _ => by cases h
  | .tuP _, _, h, _ => by cases h
  | _, .non, _, h => by cases h
  | _, .bl _, _, h => by cases h
  | _, .str _, _, h => by cases h
  | _, .ty _, _, h => by cases h
  | _, .obj _, _, h => by cases h
  | _, .dic _ _, _, h => by cases h
  | _, .dik _ _, _, h => by cases h
  | _, .tuP _, _, h => by cases h
theorem pls_eqv : ∀ {ds es : List Dt}, pls ds = true → pls es = true → (PyData.eqvAll (pys ds) (pys es) = true ↔ ds = es)
  | [], [], _, _ => by simp [pys, PyData.eqvAll]
  | [], e :: es, _, _ => by simp [pys, PyData.eqvAll]
  | d :: ds, [], _, _ => by simp [pys, PyData.eqvAll]
  | d :: ds, e :: es, h1, h2 => by
    have h1' : (pl d && pls ds) = true := h1
    have h2' : (pl e && pls es) = true := h2
    rw [Bool.and_eq_true] at h1' h2'
    have z : PyData.eqvAll (pys (d :: ds)) (pys (e :: es)) = (PyData.eqv (py d) (py e) && PyData.eqvAll (pys ds) (pys es)) := by simp [pys, PyData.eqvAll]
    rw [z, Bool.and_eq_true, pl_eqv h1'.1 h2'.1, pls_eqv h1'.2 h2'.2, List.cons.injEq]
end
theorem dEqD_pl {x y : Dt} {Q : Dt → Prop} (px : pl x = true) (qy : pl y = true) (dx : dep x ≤ 64) (dy : dep y ≤ 64) (h : ∀ b : Bool, (b = true ↔ x = y) → Q (.bl b)) : dEqD x y Q :=
  ⟨pl_isPy px, pl_isPy qy, pl_shaped px dx, pl_shaped qy dy, h _ (pl_eqv px qy)⟩
theorem dNeD_pl {x y : Dt} {Q : Dt → Prop} (px : pl x = true) (qy : pl y = true) (dx : dep x ≤ 64) (dy : dep y ≤ 64) (h : ∀ b : Bool, (b = true ↔ x ≠ y) → Q (.bl b)) : dNeD x y Q :=
  ⟨pl_isPy px, pl_isPy qy, pl_shaped px dx, pl_shaped qy dy, h _ (by
    have := pl_eqv px qy
    cases e : PyData.eqv (py x) (py y) with
    | true => rw [e] at this; simp [this.mp rfl]
    | false =>
      rw [e] at this
      have hn : x ≠ y := fun z => by have := this.mpr z; cases this
      simp [hn])⟩
theorem pls_map {α : Type} {f : α → Dt} (h : ∀ a, pl (f a) = true) : ∀ l : List α, pls (l.map f) = true
  | [] => rfl
  | a :: l => by
    show (pl (f a) && pls (l.map f)) = true
    rw [h a, pls_map h l]
    rfl
theorem deps_map {α : Type} {f : α → Dt} {k : Nat} (h : ∀ a, dep (f a) ≤ k) : ∀ l : List α, deps (l.map f) ≤ k
  | [] => Nat.zero_le _
  | a :: l => Nat.max_le.mpr ⟨h a, deps_map h l⟩
end VL
namespace VL
open PySem PySem.Spec PyProof.Rows L2 HM
theorem wipeE_at (env : Ev) (i : Nat) : ∀ vs : List Nat, (wipeE env vs)[i]? = if i ∈ vs ∧ i < env.length then some .no else env[i]?
  | [] => by simp [wipeE]
  | v :: vs => by
    unfold wipeE
    by_cases z : i = v
    · subst z
      by_cases hl : i < env.length
      · rw [List.getElem?_set_self (by rw [wipeE_length]; exact hl), if_pos ⟨by simp, hl⟩]
      · rw [if_neg (fun h => hl h.2), List.getElem?_eq_none (by rw [List.length_set, wipeE_length]; omega), List.getElem?_eq_none (by omega)]
    · rw [List.getElem?_set_ne (Ne.symm z), wipeE_at env i vs]
      simp [z]
theorem wipeE_set {env : Ev} {i : Nat} {x : Sl} {vs : List Nat} (h : i ∈ vs) : wipeE (env.set i x) vs = wipeE env vs := by
  refine List.ext_getElem? fun j => ?_
  rw [wipeE_at, wipeE_at, List.length_set]
  by_cases z : j = i
  · subst z
    by_cases hl : j < env.length
    · rw [if_pos ⟨h, hl⟩, if_pos ⟨h, hl⟩]
    · rw [if_neg (fun q => hl q.2), if_neg (fun q => hl q.2), List.getElem?_eq_none (by rw [List.length_set]; omega), List.getElem?_eq_none (by omega)]
  · rw [List.getElem?_set_ne (Ne.symm z)]
theorem wipeE_idem (env : Ev) (vs : List Nat) : wipeE (wipeE env vs) vs = wipeE env vs := by
  refine List.ext_getElem? fun j => ?_
  rw [wipeE_at, wipeE_length, wipeE_at]
  by_cases h : j ∈ vs ∧ j < env.length
  · rw [if_pos h, if_pos h]
  · rw [if_neg h, if_neg h]
theorem restE_at (env1 env : Ev) (i : Nat) : ∀ vs : List Nat, (restE env1 env vs)[i]? = if i ∈ vs ∧ i < env.length then some (env1.getD i .no) else env[i]?
  | [] => by simp [restE]
  | v :: vs => by
    unfold restE
    by_cases z : i = v
    · subst z
      by_cases hl : i < env.length
      · rw [List.getElem?_set_self (by rw [restE_length]; exact hl), if_pos ⟨by simp, hl⟩]
      · rw [if_neg (fun h => hl h.2), List.getElem?_eq_none (by rw [List.length_set, restE_length]; omega), List.getElem?_eq_none (by omega)]
    · rw [List.getElem?_set_ne (Ne.symm z), restE_at env1 env i vs]
      simp [z]
theorem rest_wipe (env : Ev) (vs : List Nat) : restE env (wipeE env vs) vs = env := by
  refine List.ext_getElem? fun j => ?_
  rw [restE_at, wipeE_length, wipeE_at]
  by_cases h : j ∈ vs ∧ j < env.length
  · rw [if_pos h, List.getD_eq_getElem?_getD, List.getElem?_eq_getElem h.2]
    rfl
  · rw [if_neg h, if_neg h]
/-- [e for x in xs], e without draws: by what e is at each place -/
theorem lc_map {te : VTE} {vs : List Nat} {xs : List Dt} {env1 : Ev} {n1 : Nat} {Q : Con → Ev → Nat → Prop} {i : Nat} (f : Nat → Dt) (hi : i ∈ vs) (no : ∀ i ∈ vs, ∀ k, env1[i]? ≠ some (.ow k)) (hl : xs.length ≤ 5000)
    (h : ∀ (j : Nat) (x : Dt), xs[j]? = some x → ∀ R : Dt → Ev → Nat → Prop, R (f j) ((wipeE env1 vs).set i (.fz x)) n1 → te ((wipeE env1 vs).set i (.fz x)) n1 R) (q : Q (.lst ((List.range xs.length).map f)) env1 n1) : LcBody (vgName i) vYes te vs xs env1 n1 Q := by
  refine ⟨no, hl, fun j acc env n => acc = (List.range j).map f ∧ env = wipeE env1 vs ∧ n = n1, ⟨rfl, rfl, rfl⟩, fun j x acc env n hx hP => ?_, fun acc env n _ hP => ?_⟩
  · obtain ⟨rfl, rfl, rfl⟩ := hP
    show te _ _ _
    refine h j x hx _ ⟨by rw [List.range_succ, List.map_append]; rfl, by rw [wipeE_set hi, wipeE_idem], rfl⟩
  · obtain ⟨rfl, rfl, rfl⟩ := hP
    rw [rest_wipe]
    exact q
/-- [e for x in xs], e by draws -/
theorem lc_any {te : VTE} {vs : List Nat} {xs : List Dt} {env1 : Ev} {n1 : Nat} {Q : Con → Ev → Nat → Prop} {i : Nat} (P : Nat → List Dt → Prop) (hi : i ∈ vs) (no : ∀ i ∈ vs, ∀ k, env1[i]? ≠ some (.ow k)) (hl : xs.length ≤ 5000) (p0 : P 0 [])
    (h : ∀ (j : Nat) (x : Dt) (acc : List Dt), xs[j]? = some x → P j acc → ∀ R : Dt → Ev → Nat → Prop, (∀ y, P (j + 1) (acc ++ [y]) → R y ((wipeE env1 vs).set i (.fz x)) n1) → te ((wipeE env1 vs).set i (.fz x)) n1 R) (q : ∀ acc, P xs.length acc → Q (.lst acc) env1 n1) : LcBody (vgName i) vYes te vs xs env1 n1 Q := by
  refine ⟨no, hl, fun j acc env n => P j acc ∧ env = wipeE env1 vs ∧ n = n1, ⟨p0, rfl, rfl⟩, fun j x acc env n hx hP => ?_, fun acc env n _ hP => ?_⟩
  · obtain ⟨hp, rfl, rfl⟩ := hP
    show te _ _ _
    refine h j x acc hx hp _ fun y hy => ⟨hy, by rw [wipeE_set hi, wipeE_idem], rfl⟩
  · obtain ⟨hp, rfl, rfl⟩ := hP
    rw [rest_wipe]
    exact q acc hp
/-- [e for a, b in xs] -/
theorem lc_map2 {te : VTE} {vs : List Nat} {xs : List Dt} {env1 : Ev} {n1 : Nat} {Q : Con → Ev → Nat → Prop} {i i2 : Nat} (f : Nat → Dt) (hi : i ∈ vs) (hi2 : i2 ∈ vs) (no : ∀ i ∈ vs, ∀ k, env1[i]? ≠ some (.ow k)) (hl : xs.length ≤ 5000)
    (h : ∀ (j : Nat) (x : Dt), xs[j]? = some x → ∃ u v, x = .tup [u, v] ∧ ∀ R : Dt → Ev → Nat → Prop, R (f j) (((wipeE env1 vs).set i (.fz u)).set i2 (.fz v)) n1 → te (((wipeE env1 vs).set i (.fz u)).set i2 (.fz v)) n1 R) (q : Q (.lst ((List.range xs.length).map f)) env1 n1) :
    LcBody (vgTup 2 (vgCons (vgName i) (vgCons (vgName i2) vgNil))) vYes te vs xs env1 n1 Q := by
  refine ⟨no, hl, fun j acc env n => acc = (List.range j).map f ∧ env = wipeE env1 vs ∧ n = n1, ⟨rfl, rfl, rfl⟩, fun j x acc env n hx hP => ?_, fun acc env n _ hP => ?_⟩
  · obtain ⟨rfl, rfl, rfl⟩ := hP
    obtain ⟨u, v, rfl, h2⟩ := h j x hx
    refine ⟨_, rfl, rfl, _, _, rfl, _, _, rfl, rfl, ?_⟩
    show te _ _ _
    refine h2 _ ⟨by rw [List.range_succ, List.map_append]; rfl, by rw [wipeE_set hi2, wipeE_set hi, wipeE_idem], rfl⟩
  · obtain ⟨rfl, rfl, rfl⟩ := hP
    rw [rest_wipe]
    exact q
theorem noOw1 {env : Ev} {i : Nat} {s : Sl} (h : env[i]? = some s) (hs : ∀ k, s ≠ .ow k) : ∀ j ∈ [i], ∀ k, env[j]? ≠ some (.ow k) := fun j hj k e => by
  rw [List.mem_singleton.mp hj, h] at e
  exact hs k (Option.some.inj e)
theorem noOw2 {env : Ev} {i j : Nat} {s s2 : Sl} (h : env[i]? = some s) (h2 : env[j]? = some s2) (hs : ∀ k, s ≠ .ow k) (hs2 : ∀ k, s2 ≠ .ow k) : ∀ j' ∈ [i, j], ∀ k, env[j']? ≠ some (.ow k) := fun j' hj k e => by
  rcases List.mem_cons.mp hj with rfl | hj
  · rw [h] at e; exact hs k (Option.some.inj e)
  · rw [List.mem_singleton.mp hj, h2] at e; exact hs2 k (Option.some.inj e)
theorem no_ow (k : Con) : Sl.no ≠ .ow k := nofun
theorem fz_ow (d : Dt) (k : Con) : Sl.fz d ≠ .ow k := nofun
theorem vseq_set {i : Nat} {te : VTE} {B : VTS} {V : VEn} {env : Ev} {n : Nat} (h : te env n fun d env1 n1 => B V (env1.set i (.fz d)) n1) : vSeq (vSet i te) B V env n := h
theorem vseq_setN {i : Nat} {tn : VTN} {B : VTS} {V : VEn} {env : Ev} {n : Nat} (h : tn env n fun k env1 n1 => B V (env1.set i (.ow k)) n1) : vSeq (vSetN i tn) B V env n := h
/-- cut: what is so behind the first row -/
theorem vcut {A B : VTS} {V : VEn} {env : Ev} {n : Nat} (M : Ev → Nat → Prop) (h1 : ∀ N : Ev → Nat → Prop, (∀ e n', M e n' → N e n') → A { V with nx := N } env n) (h2 : ∀ e n', M e n' → B V e n') : vSeq A B V env n := h1 _ h2
theorem rngD_len (lo : Int) (n : Nat) : (rngD lo n).length = n := by simp [rngD]
theorem rngD_get {lo : Int} {n i : Nat} {x : Dt} (h : (rngD lo n)[i]? = some x) : x = .int (lo + (i : Int)) ∧ i < n := by
  have hl := (List.getElem?_eq_some_iff.mp h).1
  rw [rngD_len] at hl
  unfold rngD at h
  rw [List.getElem?_map, List.getElem?_range hl] at h
  exact ⟨(Option.some.inj h).symm, hl⟩
theorem rngD_get0 {n i : Nat} {x : Dt} (h : (rngD 0 n)[i]? = some x) : x = .int (i : Int) ∧ i < n := by
  obtain ⟨h1, h2⟩ := rngD_get h
  rw [Int.zero_add] at h1
  exact ⟨h1, h2⟩
section
variable {c : Fc} {X : Cx} {es : List Expr} {e : Expr} {pos : Pos} {ds : List Dt} {d : Dt} {t t' : VTE}
theorem ve_weak (h : PE X e (tOf c t)) (w : ∀ env n Q, t' env n Q → t env n Q) : PE X e (tOf c t') := PE.imp h fun σ H R ⟨F, env, n, Q, rr, q, k⟩ => ⟨F, env, n, Q, rr, w env n Q q, k⟩
def vKs (ds : List Dt) : VTA := fun env n Q => Q ds env n
theorem ka_nil : PA X [] (aOf c (vKs [])) := va_nil
theorem ka_cons (h : PE X e (tOf c (vC d))) (hr : PA X es (aOf c (vKs ds))) (hs : starEach (e :: es) X.env = (false, eval e X.env) :: starEach es X.env := by rfl) : PA X (e :: es) (aOf c (vKs (d :: ds))) := va_cons h hr hs
theorem ve_tupK {x1} (h : PA X es (aOf c (vKs ds))) (hl : ds.length ≤ 5000) : PE X (.Tuple es x1 pos) (tOf c (vC (.tup ds))) := ve_weak (ve_tup h) fun env n Q q => ⟨hl, q⟩
theorem ve_lstK (h : PA X es (aOf c (vKs ds))) (hl : ds.length ≤ 5000) : PE X (.List es pos) (tOf c (vC (.lst ds))) := ve_weak (ve_new (vn_lst h)) fun env n Q q => ⟨hl, _, rfl, q⟩
end
end VL
namespace VL
open PySem PySem.Spec PyProof.Rows L2 HM
end VL
namespace VL
open PySem PySem.Spec PyProof.Rows L2 HM
open Classical in
/-- H0, and rows r 0, .., r (n - 1) at A 0, .., A (n - 1) -/
noncomputable def mat (H0 : Hp) (n : Nat) (A : Nat → Addr) (r : Nat → List Int) : Hp := fun a => if h : ∃ i, i < n ∧ A i = a then some (.lst ((r h.choose).map V.int)) else H0 a
structure MatOk (am : Am) (F0 H0 : Hp) (n : Nat) (A : Nat → Addr) : Prop where
  inj : ∀ i j, i < n → j < n → A i = A j → i = j
  h0 : ∀ i, i < n → H0 (A i) = none
  f0 : ∀ i, i < n → F0 (A i) = none
  ns : ∀ i, i < n → ¬ am.sp (A i)
section
variable {am : Am} {F0 H0 F H : Hp} {n t : Nat} {A : Nat → Addr} {r r' : Nat → List Int} {σ : L2.St} {env : Ev} {a : Addr}
theorem mat_at (inj : ∀ i j, i < n → j < n → A i = A j → i = j) {i : Nat} (hi : i < n) : mat H0 n A r (A i) = some (.lst ((r i).map V.int)) := by
  have h : ∃ j, j < n ∧ A j = A i := ⟨i, hi, rfl⟩
  unfold mat
  rw [dif_pos h, inj _ i h.choose_spec.1 hi h.choose_spec.2]
theorem mat_out (h : ∀ i, i < n → A i ≠ a) : mat H0 n A r a = H0 a := by
  unfold mat
  rw [dif_neg fun ⟨i, hi, e⟩ => h i hi e]
theorem mat_zero : mat H0 0 A r = H0 := funext fun a => mat_out fun i hi => by omega
theorem mat_some {o : HO} (h : mat H0 n A r a = some o) : (∃ i, i < n ∧ A i = a) ∨ ((∀ i, i < n → A i ≠ a) ∧ H0 a = some o) := by
  by_cases e : ∃ i, i < n ∧ A i = a
  · exact .inl e
  · have e' : ∀ i, i < n → A i ≠ a := fun i hi z => e ⟨i, hi, z⟩
    exact .inr ⟨e', by rw [mat_out e'] at h; exact h⟩
theorem upd_comm {f : Hp} {p q : Addr} {x y : HO} (h : p ≠ q) : upd (upd f p x) q y = upd (upd f q y) p x := funext fun a => by
  by_cases e1 : a = p
  · subst e1; rw [upd_ne h, upd_same, upd_same]
  · rw [upd_ne e1]
    by_cases e2 : a = q
    · subst e2; rw [upd_same, upd_same]
    · rw [upd_ne e2, upd_ne e2, upd_ne e1]
def addA (n : Nat) (A : Nat → Addr) (p : Addr) : Nat → Addr := fun i => if i = n then p else A i
theorem addA_old {p : Addr} {i : Nat} (h : i < n) : addA n A p i = A i := if_neg (by omega)
theorem addA_new {p : Addr} : addA n A p n = p := if_pos rfl
theorem MatOk.add {p : Addr} (m : MatOk am F0 H0 n A) (hp : mat H0 n A r p = none) (hf : F0 p = none) (hs : ¬ am.sp p) : MatOk am F0 H0 (n + 1) (addA n A p) := by
  have ne : ∀ i, i < n → A i ≠ p := fun i hi z => by rw [← z, mat_at m.inj hi] at hp; cases hp
  have h0 : H0 p = none := by rw [mat_out ne] at hp; exact hp
  refine ⟨fun i j hi hj e => ?_, fun i hi => ?_, fun i hi => ?_, fun i hi => ?_⟩
  · by_cases ei : i = n
    · by_cases ej : j = n
      · omega
      · rw [ei, addA_new, addA_old (by omega)] at e
        exact absurd e.symm (ne j (by omega))
    · by_cases ej : j = n
      · rw [ej, addA_new, addA_old (by omega)] at e
        exact absurd e (ne i (by omega))
      · rw [addA_old (by omega), addA_old (by omega)] at e
        exact m.inj i j (by omega) (by omega) e
  · by_cases ei : i = n
    · rw [ei, addA_new]; exact h0
    · rw [addA_old (by omega)]; exact m.h0 i (by omega)
  · by_cases ei : i = n
    · rw [ei, addA_new]; exact hf
    · rw [addA_old (by omega)]; exact m.f0 i (by omega)
  · by_cases ei : i = n
    · rw [ei, addA_new]; exact hs
    · rw [addA_old (by omega)]; exact m.ns i (by omega)
theorem mat_add {p : Addr} (m : MatOk am F0 H0 n A) (hp : mat H0 n A r p = none) : upd (mat H0 n A r) p (.lst ((r n).map V.int)) = mat H0 (n + 1) (addA n A p) r := funext fun a => by
  have ne : ∀ i, i < n → A i ≠ p := fun i hi z => by rw [← z, mat_at m.inj hi] at hp; cases hp
  have inj' : ∀ i j, i < n + 1 → j < n + 1 → addA n A p i = addA n A p j → i = j := fun i j hi hj e => by
    by_cases ei : i = n
    · by_cases ej : j = n
      · omega
      · rw [ei, addA_new, addA_old (by omega)] at e
        exact absurd e.symm (ne j (by omega))
    · by_cases ej : j = n
      · rw [ej, addA_new, addA_old (by omega)] at e
        exact absurd e (ne i (by omega))
      · rw [addA_old (by omega), addA_old (by omega)] at e
        exact m.inj i j (by omega) (by omega) e
  by_cases e1 : a = p
  · subst e1
    have := mat_at (H0 := H0) (r := r) inj' (Nat.lt_succ_self n)
    rw [addA_new] at this
    rw [upd_same, this]
  · rw [upd_ne e1]
    by_cases e : ∃ i, i < n ∧ A i = a
    · obtain ⟨i, hi, rfl⟩ := e
      have := mat_at (H0 := H0) (r := r) inj' (show i < n + 1 by omega)
      rw [addA_old hi] at this
      rw [mat_at m.inj hi, this]
    · have e' : ∀ i, i < n → A i ≠ a := fun i hi z => e ⟨i, hi, z⟩
      rw [mat_out e', mat_out fun i hi => ?_]
      by_cases ei : i = n
      · rw [ei, addA_new]; exact fun z => e1 z.symm
      · rw [addA_old (by omega)]; exact e' i (by omega)
/-- a row is written -/
theorem Rel.row (m : MatOk am F0 H0 n A) (q : Rel ⟨am, F0, mat H0 n A r⟩ F H σ env t) {i : Nat} (hi : i < n) (l : List Int) : Rel ⟨am, F0, mat H0 n A (fun j => if j = i then l else r j)⟩ F (upd H (A i) (.lst (l.map V.int))) σ env t := by
  have hm : mat H0 n A r (A i) = some (.lst ((r i).map V.int)) := mat_at m.inj hi
  have fi : F (A i) = none := q.out0 (A i) _ hm (fun _ z => by cases z) (m.f0 i hi)
  have out : ∀ b, b ≠ A i → mat H0 n A (fun j => if j = i then l else r j) b = mat H0 n A r b := fun b hb => by
    by_cases e : ∃ j, j < n ∧ A j = b
    · obtain ⟨j, hj, rfl⟩ := e
      rw [mat_at m.inj hj, mat_at m.inj hj, if_neg fun z => hb (by rw [z])]
    · have e' : ∀ j, j < n → A j ≠ b := fun j hj z => e ⟨j, hj, z⟩
      rw [mat_out e', mat_out e']
  refine ⟨fun b u e => ?_, q.spf, q.amb' (fun b hb => upd_ne fun z => m.ns i hi (z ▸ hb)) (codeK_upd fun oc x z => by rw [q.keep0 (A i) _ hm (m.ns i hi)] at z; cases z), q.up0, fun b ob h1 nt h2 => ?_, fun b u e nb => ?_, q.len, fun j s e => ?_, q.apart⟩
  · rw [upd_ne fun z => by rw [z, fi] at e; cases e]; exact q.sub b u e
  · by_cases z : b = A i
    · rw [z]; exact fi
    · have h1' : mat H0 n A (fun j => if j = i then l else r j) b = some ob := h1
      rw [out b z] at h1'
      exact q.out0 b ob h1' nt h2
  · have e' : mat H0 n A (fun j => if j = i then l else r j) b = some u := e
    by_cases z : b = A i
    · rw [z, mat_at m.inj hi, if_pos rfl] at e'
      rw [z, upd_same]; exact e'
    · rw [out b z] at e'
      rw [upd_ne z]; exact q.keep0 b u e' nb
  · have qs := q.sl j s e
    cases s with
    | no => trivial
    | fz d => exact qs
    | ow kk =>
      obtain ⟨a2, o2, g1, g2, g3, g4, g5, g6⟩ := qs
      have g3' : mat H0 n A r a2 = none := g3
      have z : a2 ≠ A i := fun z => by rw [z, hm] at g3'; cases g3'
      exact ⟨a2, o2, g1, g2, (out a2 z).trans g3', g4, by rw [upd_ne z]; exact g5, g6⟩
open Classical in
/-- all rows are still from now on -/
theorem Rel.rowsF (m : MatOk am F0 H0 n A) (q : Rel ⟨am, F0, mat H0 n A r⟩ F H σ env t) : ∃ F', Up F F' ∧ Rel ⟨am, F0, H0⟩ F' H σ env t ∧ ∀ i, i < n → Rp F' (.ref (A i)) (.lst ((r i).map Dt.int)) := by
  have fi : ∀ i, i < n → F (A i) = none := fun i hi => q.out0 (A i) _ (mat_at m.inj hi) (fun _ z => by cases z) (m.f0 i hi)
  have hi' : ∀ i, i < n → H (A i) = some (.lst ((r i).map V.int)) := fun i hi => q.keep0 (A i) _ (mat_at m.inj hi) (m.ns i hi)
  have up : Up F (mat F n A r) := fun b o e => by
    rw [mat_out fun i hi z => by rw [← z, fi i hi] at e; cases e]
    exact e
  have inv : ∀ b o, mat F n A r b = some o → (∃ i, i < n ∧ A i = b ∧ o = .lst ((r i).map V.int)) ∨ ((∀ i, i < n → A i ≠ b) ∧ F b = some o) := fun b o e => by
    rcases mat_some e with ⟨i, hi, rfl⟩ | ⟨h1, h2⟩
    · rw [mat_at m.inj hi] at e
      exact .inl ⟨i, hi, rfl, (Option.some.inj e).symm⟩
    · exact .inr ⟨h1, h2⟩
  refine ⟨mat F n A r, up, ⟨fun b o e => ?_, fun b hb => ?_, q.ambU up, q.up0.trans up, fun b ob h1 nt h2 => ?_, fun b u e nb => ?_, q.len, fun j s e => ?_, q.apart⟩, fun i hi => .lst (mat_at m.inj hi) (Rps.ints _)⟩
  · rcases inv b o e with ⟨i, hi, rfl, rfl⟩ | ⟨_, h2⟩
    · exact hi' i hi
    · exact q.sub b o h2
  · rw [mat_out (a := b) fun i hi (z : A i = b) => m.ns i hi (by rw [z]; exact hb)]; exact q.spf b hb
  · have h1' : H0 b = some ob := h1
    have ne : ∀ i, i < n → A i ≠ b := fun i hi z => by rw [← z, m.h0 i hi] at h1'; cases h1'
    rw [mat_out ne]
    exact q.out0 b ob (by show mat H0 n A r b = some ob; rw [mat_out ne]; exact h1') nt h2
  · have h1' : H0 b = some u := e
    have ne : ∀ i, i < n → A i ≠ b := fun i hi z => by rw [← z, m.h0 i hi] at h1'; cases h1'
    exact q.keep0 b u (by show mat H0 n A r b = some u; rw [mat_out ne]; exact h1') nb
  · have qs := q.sl j s e
    cases s with
    | no => trivial
    | fz d => exact let ⟨v, g1, g2⟩ := qs; ⟨v, g1, g2.up up⟩
    | ow kk =>
      obtain ⟨a2, o2, g1, g2, g3, g4, g5, g6⟩ := qs
      have g3' : mat H0 n A r a2 = none := g3
      have ne : ∀ i, i < n → A i ≠ a2 := fun i hi z => by rw [← z, mat_at m.inj hi] at g3'; cases g3'
      refine ⟨a2, o2, g1, by rw [mat_out ne]; exact g2, by show H0 a2 = none; rw [mat_out ne] at g3'; exact g3', g4, g5, g6.up up⟩
end
structure XEn where
  nx : Hp → Ev → Nat → Prop
  rt : Hp → Dt → Nat → Prop
  bk : Hp → Ev → Nat → Prop := fun _ _ _ => False
  ct : Hp → Ev → Nat → Prop := fun _ _ _ => False
abbrev XTS := XEn → Hp → Ev → Nat → Prop
structure EnX (am : Am) (F0 F : Hp) (V : XEn) (D : Ends) : Prop where
  nx : ∀ H0 F' H' σ' env' n', Rel ⟨am, F0, H0⟩ F' H' σ' env' n' → Up F F' → V.nx H0 env' n' → D.nx σ' H'
  rt : ∀ H0 F' H' σ' env' n' v d, Rel ⟨am, F0, H0⟩ F' H' σ' env' n' → Up F F' → Rp F' v d → V.rt H0 d n' → D.rt v H'
  bk : ∀ H0 F' H' σ' env' n', Rel ⟨am, F0, H0⟩ F' H' σ' env' n' → Up F F' → V.bk H0 env' n' → D.bk σ' H'
  ct : ∀ H0 F' H' σ' env' n', Rel ⟨am, F0, H0⟩ F' H' σ' env' n' → Up F F' → V.ct H0 env' n' → D.ct σ' H'
theorem EnX.up {am : Am} {F0 F F' : Hp} {V : XEn} {D : Ends} (h : EnX am F0 F V D) (u : Up F F') : EnX am F0 F' V D :=
  ⟨fun H0 F2 H' σ' env' n' r w => h.nx H0 F2 H' σ' env' n' r (u.trans w), fun H0 F2 H' σ' env' n' v d r w => h.rt H0 F2 H' σ' env' n' v d r (u.trans w), fun H0 F2 H' σ' env' n' r w => h.bk H0 F2 H' σ' env' n' r (u.trans w), fun H0 F2 H' σ' env' n' r w => h.ct H0 F2 H' σ' env' n' r (u.trans w)⟩
def sX (am : Am) (F0 : Hp) (ts : XTS) : TS := fun D σ H => ∃ H0 F env n V, Rel ⟨am, F0, H0⟩ F H σ env n ∧ ts V H0 env n ∧ EnX am F0 F V D
section
variable {am : Am} {F0 : Hp} {X : Cx} {s : Stmt} {ss body : List Stmt} {pos : Pos}
def xLift (ts : VTS) : XTS := fun V H0 env n => ts ⟨V.nx H0, V.rt H0, V.bk H0, V.ct H0⟩ env n
theorem xs_lift {ts : VTS} (h : ∀ H0, PS X s (sOf ⟨am, F0, H0⟩ ts)) : PS X s (sX am F0 (xLift ts)) := ⟨fun pins s σ H D I ⟨H0, F, env, n, V, r, q, k⟩ => (h H0).run pins s σ H D I ⟨F, env, n, _, r, q, ⟨fun F' H' σ' env' n' r' u q' => k.nx H0 F' H' σ' env' n' r' u q', fun F' H' σ' env' n' v d r' u rv q' => k.rt H0 F' H' σ' env' n' v d r' u rv q', fun F' H' σ' env' n' r' u q' => k.bk H0 F' H' σ' env' n' r' u q', fun F' H' σ' env' n' r' u q' => k.ct H0 F' H' σ' env' n' r' u q'⟩⟩⟩
def xSeq (A B : XTS) : XTS := fun V H0 env n => A { V with nx := fun H1 env1 n1 => B V H1 env1 n1 } H0 env n
end
end VL
namespace VL
open PySem PySem.Spec PyProof.Rows L2 HM
section
variable {am : Am} {F0 : Hp} {X : Cx} {st : Stmt} {rest body : List Stmt} {pos : Pos} {t u : XTS}
theorem xss_cons (h1 : PS X st (sX am F0 t)) (h2 : PSs X rest (sX am F0 u)) : PSs X (st :: rest) (sX am F0 (xSeq t u)) := PSs.imp (pss_cons h1 h2) fun D σ H ⟨H0, F, env, n, V, r, q, k⟩ =>
  ⟨H0, F, env, n, _, r, q, ⟨fun H1 F' H' σ' env' n' r' w q' => ⟨H1, F', env', n', V, r', q', k.up w⟩, k.rt, k.bk, k.ct⟩⟩
theorem xss_one (h1 : PS X st (sX am F0 t)) : PSs X [st] (sX am F0 t) := pss_one h1
/-- back to what was there when entered -/
def xOut (H0 : Hp) (t : XTS) : VTS := fun V env n => t { nx := fun H1 e n => H1 = H0 ∧ V.nx e n, rt := fun H1 d n => H1 = H0 ∧ V.rt d n, bk := fun H1 e n => H1 = H0 ∧ V.bk e n, ct := fun H1 e n => H1 = H0 ∧ V.ct e n } H0 env n
theorem xss_out {H0 : Hp} (h : PSs X body (sX am F0 t)) : PSs X body (sOf ⟨am, F0, H0⟩ (xOut H0 t)) := PSs.imp h fun D σ H ⟨F, env, n, V, r, q, k⟩ => ⟨H0, F, env, n, _, r, q,
  ⟨fun H1 F' H' σ' env' n' r' w q' => by obtain ⟨rfl, q'⟩ := q'; exact k.nx F' H' σ' env' n' r' w q', fun H1 F' H' σ' env' n' v d r' w rv q' => by obtain ⟨rfl, q'⟩ := q'; exact k.rt F' H' σ' env' n' v d r' w rv q',
   fun H1 F' H' σ' env' n' r' w q' => by obtain ⟨rfl, q'⟩ := q'; exact k.bk F' H' σ' env' n' r' w q', fun H1 F' H' σ' env' n' r' w q' => by obtain ⟨rfl, q'⟩ := q'; exact k.ct F' H' σ' env' n' r' w q'⟩⟩
def xFor (wi : VTI) (g : VTG) (tb : XTS) : XTS := fun V H0 env n => wi env n fun xs env1 n1 => ∃ P : Nat → Hp → Ev → Nat → Prop, P 0 H0 env1 n1 ∧
  (∀ i x H0 env n, xs[i]? = some x → P i H0 env n → g x env n fun env2 n2 => tb { nx := P (i + 1), ct := P (i + 1), bk := V.nx, rt := V.rt } H0 env2 n2) ∧ ∀ H0 env n, P xs.length H0 env n → V.nx H0 env n
theorem xs_for {tg iter : Expr} {wi : VTI} {g : VTG} {tb : XTS} (hp : PassesOwn (model X.prog X.w) X.A X.env X.xe) (hc : X.calm = true) (hi : ∀ H0, PI X tg iter (iOf ⟨am, F0, H0⟩ wi)) (hg : ∀ H0, PG X tg (gOf ⟨am, F0, H0⟩ g)) (hb : PSs X body (sX am F0 tb))
    (hs : ∀ x, foldedSetIterable iter X.env x = pure x := by intro _; rfl) : PS X (.For tg iter body [] pos) (sX am F0 (xFor wi g tb)) :=
  PS.imp (ps_for (wi := fun σ H R => ∃ H0, iOf ⟨am, F0, H0⟩ wi σ H R) (g := fun v σ H R => ∃ H0, gOf ⟨am, F0, H0⟩ g v σ H R) hp hc ⟨fun pins s σ H Q I ⟨H0, q⟩ => (hi H0).run pins s σ H Q I q⟩ ⟨fun pins s σ H v u Q I r ⟨H0, q⟩ => (hg H0).run pins s σ H v u Q I r q⟩ hb hs) fun D σ H ⟨H0, F, env, n, V, r, q, k⟩ => by
  refine ⟨H0, F, env, n, _, r, q, fun J H1 F1 xs env1 n1 r1 u1 wk q1 => ?_⟩
  obtain ⟨P, p0, turn, fin⟩ := q1
  refine ⟨fun i m σ H => m = xs.length - i ∧ i ≤ xs.length ∧ ∃ H0 F' env n, Rel ⟨am, F0, H0⟩ F' H σ env n ∧ Up F1 F' ∧ P i H0 env n, ⟨_, rfl, Nat.zero_le _, H0, F1, env1, n1, r1, Up.refl F1, p0⟩, ?_⟩
  rintro i m σ2 H2 ⟨rfl, hi, Hb, F2, env2, n2, r2, u2, p2⟩
  obtain ⟨wg, ws⟩ := wk ⟨am, F0, Hb⟩ rfl F2 H2 σ2 env2 n2 r2 u2 i
  by_cases hlt : i < xs.length
  · obtain ⟨go, yl⟩ := wg hlt
    refine .inr ⟨go, fun σ' H' => ∃ H0 F' env n, Rel ⟨am, F0, H0⟩ F' H' σ' env n ∧ Up F1 F' ∧ P (i + 1) H0 env n, fun σ' H' h => ⟨xs.length - (i + 1), by omega, rfl, hlt, h⟩, fun x H3 y => ?_⟩
    obtain ⟨F3, d, r3, u3, ed, rd⟩ := yl x H3 y
    refine ⟨Hb, F3, env2, n2, d, _, r3, rd, turn i d Hb env2 n2 ed p2, fun σ4 H4 F4 env4 n4 r4 u4 q4 => ?_⟩
    have u14 := (u2.trans u3).trans u4
    exact ⟨Hb, F4, env4, n4, _, r4, q4, ⟨fun H0 F5 H5 σ5 env5 n5 r5 u5 q5 => ⟨H0, F5, env5, n5, r5, u14.trans u5, q5⟩, (k.up (u1.trans u14)).rt, (k.up (u1.trans u14)).nx, fun H0 F5 H5 σ5 env5 n5 r5 u5 q5 => ⟨H0, F5, env5, n5, r5, u14.trans u5, q5⟩⟩⟩
  · have e : i = xs.length := by omega
    subst e
    exact .inl ⟨ws (Nat.le_refl _), k.nx Hb F2 H2 σ2 env2 n2 r2 (u1.trans u2) (fin Hb env2 n2 p2)⟩
def objD (n : Nat) (A : Nat → Addr) : List Dt := (List.range n).map fun i => Dt.obj (A i)
def xRow (to ti tv : VTE) : XTS := fun V H0 env n => tv env n fun d env1 n1 => to env1 n1 fun o env2 n2 => ti env2 n2 fun y env3 n3 => ∃ (Hb : Hp) (m : Nat) (A : Nat → Addr) (r : Nat → List Int) (i k : Nat) (z : Int),
  H0 = mat Hb m A r ∧ MatOk am F0 Hb m A ∧ o = .obj (A i) ∧ i < m ∧ y = .int (k : Int) ∧ k < (r i).length ∧ d = .int z ∧ V.nx (mat Hb m A (fun j => if j = i then (r i).set k z else r j)) env3 n3
theorem set_ints (l : List Int) (k : Nat) (z : Int) : (l.map V.int).set k (V.int z) = (l.set k z).map V.int := (List.map_set ..).symm
theorem xs_row {o i v : Expr} {to ti tv : VTE} {p2 : Pos} (ho : ∀ H0, PE X o (tOf ⟨am, F0, H0⟩ to)) (hi : ∀ H0, PE X i (tOf ⟨am, F0, H0⟩ ti)) (hv : ∀ H0, PE X v (tOf ⟨am, F0, H0⟩ tv)) (ha : ∀ v, assign (.Subscript o i p2) X.env v = (do
      let ov ← holding [v] (eval o X.env)
      let iv ← holding [v, ov] (eval i X.env)
      standAt p2
      holding [v, ov, iv] (setItem ov iv v)
      release [v, ov, iv] []) := by intro _; rfl) (hs : swapsWithSole [.Subscript o i p2] v pos.line X.env = pure false := by rfl) (hw : swappedStores [.Subscript o i p2] v X.env = pure none := by rfl)
    (h1 : (assignEach [.Subscript o i p2] X.env).map (·.2) = [assign (.Subscript o i p2) X.env] := by rfl) : PS X (.Assign [.Subscript o i p2] v pos) (sX am F0 (xRow (am := am) (F0 := F0) to ti tv)) :=
  PS.imp (ps_asg (te := fun σ H R => ∃ H0, tOf ⟨am, F0, H0⟩ tv σ H R) ⟨fun pins s σ H Q I ⟨H0, q⟩ => (hv H0).run pins s σ H Q I q⟩ (pg_sub (to := fun σ H R => ∃ H0, tOf ⟨am, F0, H0⟩ to σ H R) (ti := fun σ H R => ∃ H0, tOf ⟨am, F0, H0⟩ ti σ H R) ⟨fun pins s σ H Q I ⟨H0, q⟩ => (ho H0).run pins s σ H Q I q⟩ ⟨fun pins s σ H Q I ⟨H0, q⟩ => (hi H0).run pins s σ H Q I q⟩ set_list ha) hs hw h1) fun D σ H ⟨H0, F, env, n, V, rr, q, k⟩ => by
  refine ⟨H0, F, env, n, _, rr, q, fun v H1 F1 d env1 n1 r1 u1 rv q1 => ?_⟩
  refine ⟨H0, F1, env1, n1, _, r1, q1, fun o H2 F2 d2 env2 n2 r2 u2 ro q2 => ?_⟩
  refine ⟨H0, F2, env2, n2, _, r2, q2, fun y H3 F3 d3 env3 n3 r3 u3 ry q3 => ?_⟩
  obtain ⟨Hb, m, A, rw_, i, kk, z, rfl, mo, rfl, him, rfl, hk, rfl, q3⟩ := q3
  have hA : H3 (A i) = some (.lst ((rw_ i).map L2.V.int)) := r3.keep0 (A i) _ (mat_at mo.inj him) (mo.ns i him)
  have eo : o = .ref (A i) := by cases ro; rfl
  have r4 := Rel.row mo r3 him ((rw_ i).set kk z)
  rw [rv.int_inv]
  refine ⟨A i, (rw_ i).map L2.V.int, _, kk, eo, ry.int_inv, hA, ixN_nat (by rw [List.length_map]; exact hk), ?_⟩
  rw [set_ints]
  exact k.nx _ F3 _ σ env3 n3 r4 ((u1.trans u2).trans u3) q3
def xRetRows (j : Nat) : XTS := fun V H0 env n => ∃ (Hb : Hp) (m : Nat) (A : Nat → Addr) (r : Nat → List Int), H0 = mat Hb m A r ∧ MatOk am F0 Hb m A ∧ env[j]? = some (.ow (.lst (objD m A))) ∧ V.rt Hb (.lst ((List.range m).map fun i => .lst ((r i).map Dt.int))) n
theorem rps_objs {F : Hp} {A : Nat → Addr} {r : Nat → List Int} : ∀ {l : List Nat} {xs : List V}, Rps F xs (l.map fun i => Dt.obj (A i)) → (∀ i ∈ l, Rp F (.ref (A i)) (.lst ((r i).map Dt.int))) → Rps F xs (l.map fun i => .lst ((r i).map Dt.int))
  | [], _, .nil, _ => .nil
  | i :: l, _, .cons h t, hr => by
    cases h
    exact .cons (hr i List.mem_cons_self) (rps_objs t fun j hj => hr j (List.mem_cons_of_mem _ hj))
theorem xs_retRows {j : Nat} {x : Str} {p : Pos} (h : PE X (.Name x p) (tVar j)) : PS X (.Return (some (.Name x p)) pos) (sX am F0 (xRetRows (am := am) (F0 := F0) j)) := PS.imp (ps_ret h) fun D σ H ⟨H0, F, env, n, V, rr, ⟨Hb, m, A, r, e0, mo, e, q⟩, k⟩ => by
  subst e0
  obtain ⟨F1, u1, r1, hr⟩ := Rel.rowsF mo rr
  obtain ⟨a, F2, e2, u2, rp, r2⟩ := r1.freeze e
  refine ⟨.ref a, e2, ?_⟩
  obtain ⟨a', xs, ea, hF, rx⟩ := rp.lst_inv
  cases ea
  exact k.rt Hb F2 H σ _ n (.ref a) _ r2 (u1.trans u2) (.lst hF (rps_objs rx fun i hi => (hr i (List.mem_range.mp hi)).up u2)) q
end
end VL
namespace VL
open PySem PySem.Spec PyProof.Rows L2 HM
theorem Rel.rest2 {c1 c : Fc} {F1 H1 F H : Hp} {σ : L2.St} {env1 env : Ev} {n1 n : Nat} {vs : List Nat} (r1 : Rel c1 F1 H1 σ env1 n1) (u : Up F1 F) (no : ∀ i ∈ vs, ∀ k, env1[i]? ≠ some (.ow k)) (r : Rel c F H (L2.wipe σ vs) env n) : Rel c F H σ (restE env1 env vs) n := by
  have hl : σ.length = env.length := by rw [← r.len, wipe_length]
  refine ⟨r.sub, r.spf, r.amb, r.up0, r.out0, r.keep0, by rw [restE_length]; exact hl, fun i s e => ?_, fun i j a k k' hij e1 e2 e3 => ?_⟩
  · rcases restE_get e with ⟨rfl, h2⟩ | ⟨h1, h2⟩
    · cases e4 : env1[i]? with
      | none =>
        have : env1.getD i .no = .no := by rw [List.getD_eq_getElem?_getD, e4]; rfl
        rw [this]; trivial
      | some s =>
        have : env1.getD i .no = s := by rw [List.getD_eq_getElem?_getD, e4]; rfl
        rw [this]
        have q := r1.sl i s e4
        cases s with
        | no => trivial
        | fz d => exact let ⟨v, g1, g2⟩ := q; ⟨v, g1, g2.up u⟩
        | ow k => exact absurd e4 (no i h2 k)
    · have q := r.sl i s h1
      rw [wipe_out h2] at q
      exact q
  · have f : ∀ {i : Nat} {k : Con}, (restE env1 env vs)[i]? = some (.ow k) → i ∉ vs ∧ env[i]? = some (.ow k) := fun {i k} e => by
      rcases restE_get e with ⟨h1, h2⟩ | ⟨h1, h2⟩
      · cases e4 : env1[i]? with
        | none =>
          have : env1.getD i .no = .no := by rw [List.getD_eq_getElem?_getD, e4]; rfl
          rw [this] at h1; cases h1
        | some s =>
          have : env1.getD i .no = s := by rw [List.getD_eq_getElem?_getD, e4]; rfl
          rw [this] at h1
          rw [← h1] at e4
          exact absurd e4 (no i h2 k)
      · exact ⟨h2, h1⟩
    obtain ⟨n1, f1⟩ := f e1
    obtain ⟨n2, f2⟩ := f e2
    have q := r.apart i j a k k' hij f1 f2 (by rw [wipe_out n1]; exact e3)
    rw [wipe_out n2] at q
    exact q
/-- a kept thing is written -/
theorem Rel.rewr {σ : L2.St} {H F : Hp} {env : Ev} {n : Nat} {p : Addr} {o : HO} {c : Fc} (nto : NT o) (r : Rel (c.wth p o) F H σ env n) (h0 : c.H0 p = none) (hF0 : c.F0 p = none) (ns : ¬ c.am.sp p) (o' : HO) (nf : ∀ oc x, o ≠ .frz oc (.own x) := by intro _ _ z; cases z) : Rel (c.wth p o') F (upd H p o') σ env n := by
  obtain ⟨r7, eD, fD, nD7⟩ := Rel.pop nto r h0 hF0 ns
  have r8 : Rel c F (upd H p o') σ env n := by
    refine ⟨fun b o e => ?_, r7.spf, r7.amb' (fun b hb => upd_ne fun z => ns (z ▸ hb)) (codeK_upd fun oc x z => nf oc x (by rw [eD] at z; exact Option.some.inj z)), r7.up0, r7.out0, fun b o e nb => ?_, r7.len, fun j s e => ?_, r7.apart⟩
    · rw [upd_ne fun z => by rw [z, fD] at e; cases e]; exact r7.sub b o e
    · rw [upd_ne fun z => by rw [z, h0] at e; cases e]; exact r7.keep0 b o e nb
    · have q := r7.sl j s e
      cases s with
      | no => trivial
      | fz d => exact q
      | ow kk =>
        obtain ⟨a, o, g1, g2, g3, g4, g5, g6⟩ := q
        exact ⟨a, o, g1, g2, g3, g4, by rw [upd_ne fun z => nD7 j kk e (by rw [g1, z])]; exact g5, g6⟩
  exact r8.push upd_same fD ns nD7
def refV (n : Nat) (A : Nat → Addr) : List V := (List.range n).map fun i => V.ref (A i)
theorem rps_refs {F : Hp} {A : Nat → Addr} : ∀ l : List Nat, Rps F (l.map fun i => V.ref (A i)) (l.map fun i => Dt.obj (A i))
  | [] => .nil
  | i :: l => .cons (.obj _) (rps_refs l)
theorem refV_add {n : Nat} {A : Nat → Addr} {p : Addr} : refV (n + 1) (addA n A p) = refV n A ++ [.ref p] := by
  unfold refV
  rw [List.range_succ, List.map_append]
  refine congr (congrArg _ (List.map_congr_left fun i hi => ?_)) ?_
  · rw [addA_old (List.mem_range.mp hi)]
  · show [V.ref (addA n A p n)] = _
    rw [addA_new]
section
variable {am : Am} {F0 : Hp} {X : Cx}
def xLcRows (j iv : Nat) (wi : VTI) (tn : VTN) (vs : List Nat) : XTS := fun V H0 env n => wi env n fun xs env1 n1 => (∀ i ∈ vs, ∀ k, env1[i]? ≠ some (.ow k)) ∧ xs.length ≤ 5000 ∧ iv ∈ vs ∧ ∃ r : Nat → List Int,
  (∀ i x, xs[i]? = some x → ∀ R : Con → Ev → Nat → Prop, R (.lst ((r i).map Dt.int)) ((wipeE env1 vs).set iv (.fz x)) n1 → tn ((wipeE env1 vs).set iv (.fz x)) n1 R) ∧
  ∀ A, MatOk am F0 H0 xs.length A → V.nx (mat H0 xs.length A r) (env1.set j (.ow (.lst (objD xs.length A)))) n1
theorem lcRows_of {H0 : Hp} {j iv : Nat} {wi : VTI} {tn : VTN} {vs : List Nat} {F H : Hp} {σ : L2.St} {env : Ev} {n : Nat} {V : XEn} {D : Ends} (r : Rel ⟨am, F0, H0⟩ F H σ env n) (q : xLcRows (am := am) (F0 := F0) j iv wi tn vs V H0 env n) (k : EnX am F0 F V D) :
    tAsg (tLc (fun σ H R => ∃ H0, iOf ⟨am, F0, H0⟩ wi σ H R) (gName iv) (fun σ H R => R true H) (fun σ H R => ∃ H0, nOf ⟨am, F0, H0⟩ tn σ H R) vs) (gName j) D σ H := by
  refine ⟨H0, F, env, n, _, r, q, fun J H1 F1 xs env1 n1 r1 u1 wk q1 => ?_⟩
  obtain ⟨no, hlen, hiv, rr, he, fin⟩ := q1
  intro L nL
  obtain ⟨h0, ns, nf⟩ := r1.new0 nL
  have hF0 : F0 L = none := by
    cases e : F0 L with
    | none => rfl
    | some o => rw [r1.up0 L o e] at nf; cases nf
  refine ⟨fun i m H => m = xs.length - i ∧ i ≤ xs.length ∧ ∃ F' A, MatOk am F0 H0 i A ∧ mat H0 i A rr L = none ∧ Rel (Fc.wth ⟨am, F0, mat H0 i A rr⟩ L (.lst (refV i A))) F' H (L2.wipe σ vs) (wipeE env1 vs) n1 ∧ Up F1 F', ⟨_, rfl, Nat.zero_le _, F1, fun _ => L, ⟨fun i j hi => by omega, fun i hi => by omega, fun i hi => by omega, fun i hi => by omega⟩, by rw [mat_zero]; exact h0, ?_, Up.refl F1⟩, ?_⟩
  · rw [mat_zero]
    refine ((r1.wipe vs).lay nL _).push upd_same nf ns fun j k' e z => ?_
    obtain ⟨a, o, g1, _, _, _, g5, _⟩ := (r1.wipe vs).sl j _ e
    rw [g1] at z
    cases z
    rw [g5] at nL
    cases nL
  · rintro i m H2 ⟨rfl, hi, F2, A, mo, hL, r2, u2⟩
    obtain ⟨wg, ws⟩ := wk (Fc.wth ⟨am, F0, mat H0 i A rr⟩ L (.lst (refV i A))) rfl F2 H2 _ _ n1 r2 u2 i
    by_cases hlt : i < xs.length
    · obtain ⟨go, yl⟩ := wg hlt
      refine .inr ⟨go, fun H => ∃ F' A, MatOk am F0 H0 (i + 1) A ∧ mat H0 (i + 1) A rr L = none ∧ Rel (Fc.wth ⟨am, F0, mat H0 (i + 1) A rr⟩ L (.lst (refV (i + 1) A))) F' H (L2.wipe σ vs) (wipeE env1 vs) n1 ∧ Up F1 F', fun H' hN => ⟨xs.length - (i + 1), by omega, rfl, hlt, hN⟩, fun x H3 y => ?_⟩
      obtain ⟨F3, d, r3, u3, ed, rd⟩ := yl x H3 y
      have hw : L2.wipe ((L2.wipe σ vs).set iv (some x)) vs = L2.wipe σ vs := by
        rw [wipe_set hiv]
        exact List.ext_getElem? fun j => by
          rw [wipe_get, wipe_get, wipe_length]
          by_cases h : j ∈ vs ∧ j < σ.length
          · rw [if_pos h, if_pos h]
          · rw [if_neg h, if_neg h]
      refine ⟨hw, ?_⟩
      show (if true = true then _ else _)
      rw [if_pos rfl]
      refine ⟨upd (mat H0 i A rr) L (.lst (refV i A)), F3, (wipeE env1 vs).set iv (.fz d), n1, fun k env' n' => k = .lst ((rr i).map Dt.int) ∧ env' = (wipeE env1 vs).set iv (.fz d) ∧ n' = n1, r3.setF rd, he i d ed _ ⟨rfl, rfl, rfl⟩, ?_⟩
      rintro a o H4 F4 kk env4 n4 r4 u4 hF h0a nsa hH w ha ⟨rfl, rfl, rfl⟩
      obtain ⟨xs', rfl, rx⟩ := w
      have ex := rx.of_ints
      subst ex
      have h0a' : upd (mat H0 i A rr) L (.lst (refV i A)) a = none := h0a
      have aL : a ≠ L := fun z => by rw [z, upd_same] at h0a'; cases h0a'
      rw [upd_ne aL] at h0a'
      have f0a : F0 a = none := by
        cases e : F0 a with
        | none => rfl
        | some o => rw [r4.up0 a o e] at hF; cases hF
      have mo' := mo.add (r := rr) h0a' f0a nsa
      have r5 := r4.push hH hF nsa ha
      have ec : Fc.wth ⟨am, F0, upd (mat H0 i A rr) L (.lst (refV i A))⟩ a (.lst ((rr i).map L2.V.int)) = Fc.wth ⟨am, F0, mat H0 (i + 1) (addA i A a) rr⟩ L (.lst (refV i A)) := by
        show (⟨am, F0, upd (upd (mat H0 i A rr) L (.lst (refV i A))) a (.lst ((rr i).map L2.V.int))⟩ : Fc) = ⟨am, F0, upd (mat H0 (i + 1) (addA i A a) rr) L (.lst (refV i A))⟩
        rw [upd_comm (Ne.symm aL), mat_add mo h0a']
      have r5' : Rel (Fc.wth ⟨am, F0, upd (mat H0 i A rr) L (.lst (refV i A))⟩ a (.lst ((rr i).map L2.V.int))) F4 H4 ((L2.wipe σ vs).set iv (some x)) ((wipeE env1 vs).set iv (.fz d)) n4 := r5
      rw [ec] at r5'
      have hL' : mat H0 (i + 1) (addA i A a) rr L = none := by
        rw [← mat_add mo h0a', upd_ne (Ne.symm aL)]; exact hL
      have eD : H4 L = some (.lst (refV i A)) := r5'.keep0 L _ (show upd _ L _ L = _ from upd_same) ns
      refine ⟨refV i A, eD, small1000 (by simp [refV]; omega), F4, addA i A a, mo', hL', ?_, (u2.trans u3).trans u4⟩
      have r6 := Rel.rewr (c := ⟨am, F0, mat H0 (i + 1) (addA i A a) rr⟩) (fun _ z => by cases z) r5' hL' hF0 ns (.lst (refV i A ++ [.ref a]))
      rw [refV_add]
      have r7 := r6.wipe2 hw
      rw [wipeE_set hiv, wipeE_idem] at r7
      exact r7
    · have e : i = xs.length := by omega
      subst e
      refine .inl ⟨ws (Nat.le_refl _), ?_⟩
      obtain ⟨r7, eD, fD, nD7⟩ := Rel.pop (c := ⟨am, F0, mat H0 xs.length A rr⟩) (fun _ z => by cases z) r2 hL hF0 ns
      have r8 := r1.rest2 u2 no r7
      rw [rest_wipe] at r8
      have nD8 : ∀ (j : Nat) k', env1[j]? = some (.ow k') → σ[j]? ≠ some (some (.ref L)) := fun j k' e z => by
        have hj : j ∉ vs := fun hj => no j hj k' e
        refine nD7 j k' ?_ (by rw [wipe_out hj]; exact z)
        rw [wipeE_at, if_neg fun h => hj h.1]
        exact e
      exact k.nx _ F2 H2 _ _ n1 (r8.setO (i := j) fD hL ns eD (k := .lst (objD xs.length A)) ⟨_, rfl, rps_refs _⟩ nD8) (u1.trans u2) (fin A mo)
theorem xs_setLcRows {i iv : Nat} {y : Str} {py : Pos} {elt tg iter : Expr} {scope : Scope} {own : List (Str × Nat)} {pos spos : Pos} {wi : VTI} {tn : VTN} (hc : X.calm = true) (hN : X.N.Nodup) (hy : X.N[i]? = some y) (hyl : X.env.scope.names.lookup y = some .local)
    (hsw : swapsWith (.ListComp elt [⟨tg, iter, [], 0⟩] scope pos) (some (.Name y py)) spos.line X.env = pure true) (hi : ∀ H0, PI X tg iter (iOf ⟨am, F0, H0⟩ wi)) (ok : BlkOk X.N X.env.scope scope own)
    (hg : ∀ (s : Shared) (H : Hp) (C : Addr) (cl : List (Str × Addr)) (fp : List Addr), PG (X.blk s H scope (compEnvC scope cl C X.env) fp) tg (gName iv))
    (he : ∀ (H0 : Hp) (s : Shared) (H : Hp) (C : Addr) (cl : List (Str × Addr)) (fp : List Addr), PE (X.blk s H scope (compEnvC scope cl C X.env) fp) elt (nOf ⟨am, F0, H0⟩ tn)) (hs : ∀ x, foldedSetIterable iter X.env x = pure x := by intro _; rfl) :
    PS X (.Assign [.Name y py] (.ListComp elt [⟨tg, iter, [], 0⟩] scope pos) spos) (sX am F0 (xLcRows (am := am) (F0 := F0) i iv wi tn (own.map (·.2)))) :=
  PS.imp (ps_setLc (wi := fun σ H R => ∃ H0, iOf ⟨am, F0, H0⟩ wi σ H R) (tt := fun σ H R => R true H) (te := fun σ H R => ∃ H0, nOf ⟨am, F0, H0⟩ tn σ H R) hc hN hy hyl hsw ⟨fun pins s σ H Q I ⟨H0, q⟩ => (hi H0).run pins s σ H Q I q⟩ ok hg
    (fun s H C cl fp => pts_nil) (fun s H C cl fp => ⟨fun pins s' σ H' Q I ⟨H0, q⟩ => (he H0 s H C cl fp).run pins s' σ H' Q I q⟩) hs)
    fun D σ H ⟨H0, F, env, n, V, r, q, k⟩ => lcRows_of r q k
end
section
variable {P : Program} {w : World} {K : PySem.W.Frag} {mg : Str → Option Value} {base : Heap} {am : Am} {gd : Around → Prop} {x qual : Str} {st : Stmt} {f : Addr} {fd : FuncData} {N ps : List Str} {k : Nat} {sp : VSp}
/-- a def that lets no exception out, its reading by what was there when entered -/
theorem vfn_ofX (F : Fun K x qual st f fd) (S : FnScope N ps (defScope st)) (len : ∀ ds n Q E, sp ds n Q E → ds.length = ps.length)
    (body : ∃ ts : Hp → Hp → VTS, (∀ (cdv : Value) (A : Around) (out : List Env) (s : Shared) (H : Hp) (E : XK) (F0 H0 : Hp), fd.code = cdv → gd A → Room k (A.deeper (envOfC qual (defScope st) s.heap.objs.size f cdv)) → PSs (cxOf CX0 P w K mg base N qual (defScope st) f cdv A out s H E).nox (defBody st) (sOf ⟨am, F0, H0⟩ (ts F0 H0))) ∧
      ∀ F0 H0 ds n Q E, sp ds n Q E → ts F0 H0 { nx := fun _ n' => Q .non n', rt := Q } (startE N ds) n) : VFn gd P w K mg base CX0 (k + 1) f fd ps am sp := by
  obtain ⟨ts, hts, hsp⟩ := body
  refine pfn_of F S (fun vs H Q E h => ?_) (fun cdv A out s H vs Q E hcd hgd hr h => ?_)
  · obtain ⟨F0, ds, n, Q', E', _, _, _, r, h, _⟩ := h
    rw [r.len]
    exact len ds n Q' E' h
  · obtain ⟨F0, ds, n, Q', E', u, hs, ha, r, h, kq, ke⟩ := h
    refine ⟨_, hts cdv A out s H E F0 H hcd hgd hr, F0, startE N ds, n, _, rel_start u hs ha r, hsp F0 H ds n Q' E' h, ⟨fun F' H' σ' env' n' r' _ q => kq .non F' H' .non n' r'.out .non q, fun F' H' σ' env' n' v d r' _ rv q => kq v F' H' d n' r'.out rv q, fun _ _ _ _ _ _ _ z => z.elim, fun _ _ _ _ _ _ _ z => z.elim⟩⟩
end
end VL
namespace VL
open PySem PySem.Spec PyProof.Rows L2 HM
def zipD (xs ys : List Dt) : List Dt := List.zipWith (fun a b => Dt.tup [a, b]) xs ys
theorem zipD_get {xs ys : List Dt} {i : Nat} {z : Dt} (h : (zipD xs ys)[i]? = some z) : ∃ a b, xs[i]? = some a ∧ ys[i]? = some b ∧ z = .tup [a, b] := by
  unfold zipD at h
  rw [List.getElem?_zipWith] at h
  cases ea : xs[i]? with
  | none => rw [ea] at h; cases h
  | some a =>
    cases eb : ys[i]? with
    | none => rw [ea, eb] at h; cases h
    | some b =>
      rw [ea, eb] at h
      exact ⟨a, b, rfl, rfl, (Option.some.inj h).symm⟩
theorem zipD_len (xs ys : List Dt) : (zipD xs ys).length = min xs.length ys.length := by unfold zipD; rw [List.length_zipWith]
section
variable {c : Fc} {X : Cx} {te : VTE} {tas : VTA}
theorem wk_zipT {K : PySem.W.Frag} {F : Hp} {a b : Addr} {xs ys : List V} {ds es : List Dt} (h : F a = some (.tup xs)) (rx : Rps F xs ds) (h2 : F b = some (.tup ys)) (ry : Rps F ys es) : Wk c.am (RZ.ItzT K a b) F (zipD ds es) := fun c _ F1 H σ env n r u i => by
  have hA : SqT K H a xs := .inl (.inl (r.sub _ _ (u _ _ h)))
  have hB : SqT K H b ys := .inl (.inl (r.sub _ _ (u _ _ h2)))
  refine ⟨fun hi => ?_, fun hi => ⟨xs, ys, hA, hB, ?_⟩⟩
  · obtain ⟨da, db, ea, eb, ez⟩ := zipD_get (List.getElem?_eq_getElem hi)
    obtain ⟨v, e1, p1⟩ := rx.get ea
    obtain ⟨v2, e2, p2⟩ := ry.get eb
    refine ⟨⟨xs, ys, v, v2, hA, hB, e1, e2⟩, fun x H' y => ?_⟩
    obtain ⟨T, x1, y1, rfl, nT, rfl, hx, hy⟩ := y
    have q1 := hx xs hA
    have q2 := hy ys hB
    rw [e1] at q1
    rw [e2] at q2
    cases q1
    cases q2
    obtain ⟨_, _, nf⟩ := r.new0 nT
    exact ⟨upd F1 T (.tup [v, v2]), _, r.layF nT _, up_lay nf, List.getElem?_eq_getElem hi, by rw [ez]; exact .tup upd_same (.cons ((p1.up u).up (up_lay nf)) (.cons ((p2.up u).up (up_lay nf)) .nil))⟩
  · rw [zipD_len] at hi
    rw [rx.len, ry.len]
    omega
theorem wk_zipL {K : PySem.W.Frag} {F : Hp} {a b : Addr} {xs ys : List V} {ds es : List Dt} (h : F a = some (.lst xs)) (rx : Rps F xs ds) (h2 : F b = some (.lst ys)) (ry : Rps F ys es) : Wk c.am (Itz K a b) F (zipD ds es) := fun c _ F1 H σ env n r u i => by
  have hA : SqL K H a xs := .inl (.inl (r.sub _ _ (u _ _ h)))
  have hB : SqL K H b ys := .inl (.inl (r.sub _ _ (u _ _ h2)))
  refine ⟨fun hi => ?_, fun hi => ⟨xs, ys, hA, hB, ?_⟩⟩
  · obtain ⟨da, db, ea, eb, ez⟩ := zipD_get (List.getElem?_eq_getElem hi)
    obtain ⟨v, e1, p1⟩ := rx.get ea
    obtain ⟨v2, e2, p2⟩ := ry.get eb
    refine ⟨⟨xs, ys, v, v2, hA, hB, e1, e2⟩, fun x H' y => ?_⟩
    obtain ⟨T, x1, y1, rfl, nT, rfl, hx, hy⟩ := y
    have q1 := hx xs hA
    have q2 := hy ys hB
    rw [e1] at q1
    rw [e2] at q2
    cases q1
    cases q2
    obtain ⟨_, _, nf⟩ := r.new0 nT
    exact ⟨upd F1 T (.tup [v, v2]), _, r.layF nT _, up_lay nf, List.getElem?_eq_getElem hi, by rw [ez]; exact .tup upd_same (.cons ((p1.up u).up (up_lay nf)) (.cons ((p2.up u).up (up_lay nf)) .nil))⟩
  · rw [zipD_len] at hi
    rw [rx.len, ry.len]
    omega
def viZip (ta : VTA) : VTI := fun env n Q => ta env n fun ds env1 n1 => ∃ xs ys, (ds = [.tup xs, .tup ys] ∨ ds = [.lst xs, .lst ys]) ∧ Q (zipD xs ys) env1 n1
theorem vi_zip {e e2 : Expr} {p pos tpos : Pos} {elts : List Expr} {kk : Nat} (hg : Gl X "zip") (hm : X.mg "zip" = none) (ha : PA X [e, e2] (aOf c tas))
    (hs : starEach [e, e2] X.env = (false, eval e X.env) :: starEach [e2] X.env := by rfl) (hpl : (backTo pos (starEach [e2] X.env)).any (·.1) = false := by rfl) :
    PI X (.Tuple elts kk tpos) (.Call (.Name "zip" p) [e, e2] [] pos) (iOf c (viZip tas)) := PI.imp (RZ.pi_zipA hg hm ha hs hpl) fun σ H R ⟨F, env, n, Q, r, q, k⟩ => ⟨F, env, n, _, r, q, fun vs H' F' ds env' n' r' w rp qd => by
  obtain ⟨xs, ys, e, qd⟩ := qd
  rcases e with rfl | rfl
  · obtain ⟨v, v2, rfl, p1, p2⟩ := rp.two
    obtain ⟨a, us, rfl, hF, rx⟩ := p1.tup_inv
    obtain ⟨b, us2, rfl, hF2, ry⟩ := p2.tup_inv
    exact ⟨a, b, us, us2, rfl, .inr ⟨.inl (.inl (r'.sub _ _ hF)), .inl (.inl (r'.sub _ _ hF2)), k _ H' F' _ env' n' r' w (wk_zipT hF rx hF2 ry) qd⟩⟩
  · obtain ⟨v, v2, rfl, p1, p2⟩ := rp.two
    obtain ⟨a, us, rfl, hF, rx⟩ := p1.lst_inv
    obtain ⟨b, us2, rfl, hF2, ry⟩ := p2.lst_inv
    exact ⟨a, b, us, us2, rfl, .inl ⟨.inl (.inl (r'.sub _ _ hF)), .inl (.inl (r'.sub _ _ hF2)), k _ H' F' _ env' n' r' w (wk_zipL hF rx hF2 ry) qd⟩⟩⟩
end
end VL
namespace VL
open PySem PySem.Spec PyProof.Rows L2 HM
section
variable {P : Program} {w : World} {K : PySem.W.Frag} {mg : Str → Option Value} {base : Heap} {am : Am} {gd : Around → Prop} {f : Addr} {fd : FuncData} {ps : List Str} {k : Nat} {sp sp' : VSp} {CX : CXT}
/-- a promise that asks more -/
theorem VFn.imp (h : VFn gd P w K mg base CX k f fd ps am sp) (i : ∀ ds n Q E, sp' ds n Q E → sp ds n Q E) : VFn gd P w K mg base CX k f fd ps am sp' :=
  ⟨fun vs H Q E ⟨F, ds, n, Q', E', h1, h2, h3, h4, h5, h6⟩ => h.len vs H Q E ⟨F, ds, n, Q', E', h1, h2, h3, h4, i _ _ _ _ h5, h6⟩,
   fun A out s H args us vs Q E hg hr hb hu hI ⟨F, ds, n, Q', E', h1, h2, h3, h4, h5, h6⟩ => h.go A out s H args us vs Q E hg hr hb hu hI ⟨F, ds, n, Q', E', h1, h2, h3, h4, i _ _ _ _ h5, h6⟩⟩
end
end VL
namespace VL
open PySem PySem.Spec PyProof.Rows L2 HM
def lockAm (am : Am) (d : Addr) (od : Obj) (ks : List (List Key × V)) : Am where
  sp b := am.sp b ∨ b = d
  ok n F H := am.ok n F H ∧ H d = some (.frz od (.dT ks))
  trk := fun {n F H a} h hs z => by
    rcases hs with hs | rfl
    · exact am.trk h.1 hs z
    · rw [h.2] at z; cases z
  ntp := fun {n F H a xs} h hs z => by
    rcases hs with hs | rfl
    · exact am.ntp h.1 hs z
    · rw [h.2] at z; cases z
  mono := fun {n F F' H H'} h e c uF => ⟨am.mono h.1 (fun b hb => e b (.inl hb)) c uF, by rw [e d (.inr rfl)]; exact h.2⟩
section
variable {am : Am} {F0 H0 F H : Hp} {σ : L2.St} {env : Ev} {n i : Nat} {d : Addr} {od : Obj} {ks : List (List Key × V)} {kvs : List (List Key × Dt)}
theorem Rel.lock (r : Rel ⟨am, F0, H0⟩ F H σ env n) (hi : env[i]? = some (.ow (.dT kvs))) (ha : σ[i]? = some (some (.ref d))) (hd : H d = some (.dT ks)) : Rel ⟨lockAm am d od ks, F0, H0⟩ F (upd H d (.frz od (.dT ks))) σ (env.set i (.fz (.obj d))) n := by
  obtain ⟨d', o, e1, hF, h0, ns, hH, _⟩ := r.sl i _ hi
  rw [ha] at e1
  cases e1
  have hl := (List.getElem?_eq_some_iff.mp hi).1
  have get : ∀ {j : Nat} {k : Con}, (env.set i (.fz (.obj d)))[j]? = some (.ow k) → j ≠ i ∧ env[j]? = some (.ow k) := fun {j k} e => by
    by_cases z : j = i
    · subst z; rw [List.getElem?_set_self hl] at e; cases e
    · rw [List.getElem?_set_ne (Ne.symm z)] at e; exact ⟨z, e⟩
  refine ⟨fun b u e => ?_, fun b hb => ?_, ⟨r.amb' (fun b hb => upd_ne fun z => ns (z ▸ hb)) (codeK_upd fun oc x z => by rw [hd] at z; cases z), upd_same⟩, r.up0, r.out0, fun b u e nb => ?_, by rw [List.length_set]; exact r.len, fun j s e => ?_, fun j l b k1 k2 hjl e1 e2 e3 => ?_⟩
  · rw [upd_ne fun z => by rw [z, hF] at e; cases e]; exact r.sub b u e
  · rcases hb with hb | rfl
    · exact r.spf b hb
    · exact hF
  · rw [upd_ne fun z => nb (.inr z)]; exact r.keep0 b u e fun z => nb (.inl z)
  · by_cases z : j = i
    · subst z
      rw [List.getElem?_set_self hl] at e
      cases e
      exact ⟨_, ha, .obj d⟩
    · rw [List.getElem?_set_ne (Ne.symm z)] at e
      have q := r.sl j s e
      cases s with
      | no => trivial
      | fz d => exact q
      | ow kk =>
        obtain ⟨a2, o2, g1, g2, g3, g4, g5, g6⟩ := q
        have ne : a2 ≠ d := fun z2 => r.apart i j d _ kk (Ne.symm z) hi e ha (by rw [g1, z2])
        exact ⟨a2, o2, g1, g2, g3, fun hs => hs.elim g4 ne, by rw [upd_ne ne]; exact g5, g6⟩
  · obtain ⟨_, f1⟩ := get e1
    obtain ⟨_, f2⟩ := get e2
    exact r.apart j l b k1 k2 hjl f1 f2 e3
end
theorem PrK.get {κ : Type} {F : Hp} : ∀ {a : List (κ × V)} {b : List (κ × Dt)} {i : Nat} {k : κ} {v : V}, PrK F a b → a[i]? = some (k, v) → ∃ q, b[i]? = some q ∧ Rp F v q.2
  | _, _, _, _, _, .nil, e => by simp at e
  | _, q :: _, 0, _, _, .cons h _, e => by simp at e; subst e; exact ⟨q, rfl, h.2⟩
  | _, _, i + 1, k, v, .cons _ t, e => by
    obtain ⟨q, h1, h2⟩ := PrK.get (i := i) (k := k) (v := v) t (by simpa using e)
    exact ⟨q, by simpa using h1, h2⟩
end VL
namespace HG
open PySem PySem.Spec PyProof.Rows L2 HM GenW
/-- the frame of a generator expression: A where it runs; s, H what stood when it was made; fp its iterator's objects; pn its own object -/
abbrev gx (X : Cx) (A : Around) (s : Shared) (H : Hp) (cenv : Env) (fp : List Addr) (pn : List (Addr × Obj)) : Cx :=
  { X with A := A, s_0 := s, H_0 := H, env := cenv, outer := X.stack, stack := cenv :: X.stack, ex := fp, fn := fun _ => false, pn := pn, xe := fun _ _ => False }
end HG
namespace HG
open PySem PySem.Spec PyProof.Rows L2 HM GenW
end HG
namespace HG
open PySem PySem.Spec PyProof.Rows L2 HM GenW
end HG
namespace HG
open PySem PySem.Spec PyProof.Rows L2 HM GenW
end HG
namespace HG
open PySem PySem.Spec PyProof.Rows L2 HM GenW
open AutoSeq1 (wpAny_loadPart')
theorem GMade.ty {P : Program} {w : World} {k : Nat} {outer : List Env} {H : Hp} {sc s : Shared} {ex : List Addr} {Q : List V → Hp → Prop} {E : XK} {u : Value} (h : GMade P w k outer H sc ex Q E u s) : s.TypeIs u "generator" := by
  obtain ⟨a, g, c, rfl, ha1, ha2, hg, _⟩ := h
  exact hg.typeIs
theorem GMade.sz {P : Program} {w : World} {k : Nat} {outer : List Env} {H : Hp} {sc s : Shared} {ex : List Addr} {Q : List V → Hp → Prop} {E : XK} {u : Value} (h : GMade P w k outer H sc ex Q E u s) : sc.heap.objs.size ≤ s.heap.objs.size := by
  obtain ⟨a, g, c, rfl, ha1, ha2, hg, _⟩ := h
  exact Nat.le_trans ha1 (Nat.le_of_lt ha2)
end HG
namespace HG
open PySem PySem.Spec PyProof.Rows L2 HM GenW
end HG
namespace HG
open PySem PySem.Spec PyProof.Rows L2 HM GenW
def psum (f : Nat → Int) : Nat → Int
  | 0 => 0
  | j + 1 => psum f j + f j
def GJ (X : Cx) (S : Addr) (f : Nat → Int) (ip : List (Addr × Obj)) (j : Nat) (σ : L2.St) (H : Hp) (s : Shared) : Prop :=
  ∃ (t : Tok) (c : Nat), Inv X ((S, lstObj #[.int (psum f j) t] c) :: ip) σ H s
theorem GJ.at {X : Cx} {S : Addr} {f : Nat → Int} {ip : List (Addr × Obj)} {j : Nat} {σ : L2.St} {H : Hp} {s : Shared} (h : GJ X S f ip j σ H s) :
    H S = none ∧ S ≠ X.env.locals ∧ S ∉ X.fs ∧ ∃ (t : Tok) (c : Nat), s.heap.get? S = some (lstObj #[.int (psum f j) t] c) := by
  obtain ⟨t, c, I⟩ := h
  obtain ⟨h1, h2, h3, h4, _⟩ := I.pin (S, lstObj #[.int (psum f j) t] c) (List.mem_append_right _ List.mem_cons_self)
  exact ⟨h2, h3, h4, t, c, h1⟩
end HG
namespace HG
open PySem PySem.Spec PyProof.Rows L2 HM GenW
end HG
namespace HG
open PySem PySem.Spec PyProof.Rows L2 HM GenW
end HG
namespace HG
open PySem PySem.Spec PyProof.Rows L2 HM GenW
end HG
namespace HG
open PySem PySem.Spec PyProof.Rows L2 HM GenW
end HG
namespace VL
open PySem PySem.Spec PyProof.Rows L2 HM HG
/-- the table of generators at P runs along -/
structure TabIn (am : Am) (P : Addr) : Prop where
  sp : am.sp P
  rd : ∀ {n F H}, am.ok n F H → GxR.TabG H P
  wr : ∀ {n F H H'}, am.ok n F H → GxR.Tabbed P H H' → am.ok n F H'
section
variable {c : Fc} {F H H' : Hp} {σ : L2.St} {env : Ev} {n : Nat} {P : Addr}
theorem Rel.tab (T : TabIn c.am P) (r : Rel c F H σ env n) (h : GxR.Tabbed P H H') : Rel c F H' σ env n := by
  have hF : F P = none := r.spf P T.sp
  refine ⟨fun b u e => ?_, r.spf, T.wr r.amb h, r.up0, r.out0, fun b u e nb => ?_, r.len, fun i s e => ?_, r.apart⟩
  · rw [h.2 b fun z => by rw [z, hF] at e; cases e]; exact r.sub b u e
  · rw [h.2 b fun z => nb (by rw [z]; exact T.sp)]; exact r.keep0 b u e nb
  · have q := r.sl i s e
    cases s with
    | no => trivial
    | fz d => exact q
    | ow kk =>
      obtain ⟨a, o, g1, g2, g3, g4, g5, g6⟩ := q
      exact ⟨a, o, g1, g2, g3, g4, by rw [h.2 a fun z => g4 (by rw [z]; exact T.sp)]; exact g5, g6⟩
end
end VL
namespace HG
open PySem PySem.Spec PyProof.Rows L2 HM GenW
end HG
namespace VL
open PySem PySem.Spec PyProof.Rows L2 HM HG
end VL
namespace HG
open PySem PySem.Spec PyProof.Rows L2 HM GenW
end HG
namespace HG
open PySem PySem.Spec PyProof.Rows L2 HM GenW
end HG
namespace VL
open PySem PySem.Spec PyProof.Rows L2 HM HG
end VL
namespace HM
open PySem PySem.Spec PyProof.Rows L2
end HM
namespace VL
open PySem PySem.Spec PyProof.Rows L2 HM
theorem iteB {a b : Prop} {k : Bool} (h1 : k = true → a) (h2 : k = false → b) : if k = true then a else b := by
  cases k with
  | true => exact h1 rfl
  | false => exact h2 rfl
end VL
namespace VL
open PySem PySem.Spec PyProof.Rows L2 HM
end VL
namespace VL
open PySem PySem.Spec PyProof.Rows L2 HM
def nD (i : Nat) : Dt := .int (i : Int)
def nsD (l : List Nat) : List Dt := l.map nD
def rowD (n : Nat) (m : Nat → Nat) : Dt := .lst (nsD ((List.range n).map m))
def houD (n : Nat) (m : Nat → Nat → Nat) : Dt := .lst ((List.range n).map fun a => rowD n (m a))
theorem flats_int : ∀ ns : List Int, flats (ns.map Dt.int) = true
  | [] => rfl
  | n :: ns => by rw [List.map_cons]; show (true && flats (ns.map Dt.int)) = true; rw [flats_int ns]; rfl
theorem nsD_len (l : List Nat) : (nsD l).length = l.length := List.length_map _
theorem nsD_get {l : List Nat} {i : Nat} {x : Nat} (h : l[i]? = some x) : atI (nsD l) (i : Int) = some (nD x) := atI_nat (by unfold nsD; rw [List.getElem?_map, h]; rfl)
theorem nsD_ints (l : List Nat) : nsD l = (l.map fun i : Nat => (i : Int)).map Dt.int := by unfold nsD; rw [List.map_map]; rfl
theorem row_at {n : Nat} {m : Nat → Nat} {i : Nat} (h : i < n) : atI (nsD ((List.range n).map m)) (i : Int) = some (nD (m i)) := nsD_get (by rw [List.getElem?_map, List.getElem?_range h]; rfl)
theorem hou_at {n : Nat} {m : Nat → Nat → Nat} {i : Nat} (h : i < n) : atI ((List.range n).map fun a => rowD n (m a)) (i : Int) = some (rowD n (m i)) := atI_nat (by rw [List.getElem?_map, List.getElem?_range h]; rfl)
theorem nsD_inj : ∀ {a b : List Nat}, nsD a = nsD b → a = b
  | [], [], _ => rfl
  | [], _ :: _, h => by cases h
  | _ :: _, [], h => by cases h
  | x :: a, y :: b, h => by
    unfold nsD at h
    rw [List.map_cons, List.map_cons] at h
    injection h with h1 h2
    have : x = y := by
      unfold nD at h1
      injection h1 with h1
      omega
    rw [this, nsD_inj h2]
/-- what comes of some numbers, from 0 on -/
inductive Rch (m : Nat → Nat → Nat) (gs : List Nat) : Nat → Prop
  | zero : Rch m gs 0
  | step {a g : Nat} : Rch m gs a → g ∈ gs → Rch m gs (m a g)
theorem Rch.lt {n : Nat} {m : Nat → Nat → Nat} {gs : List Nat} (h0 : 0 < n) (hm : ∀ a b, a < n → b < n → m a b < n) (hg : ∀ g ∈ gs, g < n) : ∀ {x : Nat}, Rch m gs x → x < n
  | _, .zero => h0
  | _, .step h g => hm _ _ (Rch.lt h0 hm hg h) (hg _ g)
theorem Rch.mono {m : Nat → Nat → Nat} {gs hs : List Nat} (h : ∀ g ∈ gs, g ∈ hs) : ∀ {x : Nat}, Rch m gs x → Rch m hs x
  | _, .zero => .zero
  | _, .step a g => .step (Rch.mono h a) (h _ g)
/-- the part of some numbers: rising, all that comes of them -/
structure IsPt (m : Nat → Nat → Nat) (gs : List Nat) (l : List Nat) : Prop where
  up : l.Pairwise (· < ·)
  mem : ∀ x, x ∈ l ↔ Rch m gs x
theorem rising_eq {a b : List Nat} (ha : a.Pairwise (· < ·)) (hb : b.Pairwise (· < ·)) (h : ∀ x, x ∈ a ↔ x ∈ b) : a = b := by
  have na : a.Nodup := ha.imp fun h => Nat.ne_of_lt h
  have nb : b.Nodup := hb.imp fun h => Nat.ne_of_lt h
  refine List.Perm.eq_of_pairwise (le := (· < ·)) (fun x y _ _ h1 h2 => absurd (Nat.lt_trans h1 h2) (Nat.lt_irrefl _)) ha hb ((List.perm_ext_iff_of_nodup na nb).mpr h)
theorem IsPt.eq {m : Nat → Nat → Nat} {gs hs l k : List Nat} (a : IsPt m gs l) (b : IsPt m hs k) (h : ∀ x, Rch m gs x ↔ Rch m hs x) : l = k := rising_eq a.up b.up fun x => by rw [a.mem, b.mem, h]
/-- what is found on the way -/
structure Fnd (m : Nat → Nat → Nat) (gs : List Nat) (fs : List Nat) (at_ : Nat) : Prop where
  nd : fs.Nodup
  rc : ∀ x ∈ fs, Rch m gs x
  ze : 0 ∈ fs
  cl : ∀ i x, i < at_ → fs[i]? = some x → ∀ g ∈ gs, m x g ∈ fs
theorem Fnd.start (m : Nat → Nat → Nat) (gs : List Nat) : Fnd m gs [0] 0 := ⟨by simp, fun x hx => by rw [List.mem_singleton.mp hx]; exact .zero, by simp, fun i x h => absurd h (Nat.not_lt_zero i)⟩
theorem Fnd.all {m : Nat → Nat → Nat} {gs fs : List Nat} (h : Fnd m gs fs fs.length) : ∀ x, x ∈ fs ↔ Rch m gs x := fun x => ⟨h.rc x, fun r => by
  induction r with
  | zero => exact h.ze
  | step _ hg ih =>
    obtain ⟨i, hi, e⟩ := List.getElem_of_mem ih
    exact h.cl i _ hi (by rw [List.getElem?_eq_getElem hi, e]) _ hg⟩
theorem few_of_nodup {n : Nat} {l : List Nat} (nd : l.Nodup) (h : ∀ x ∈ l, x < n) : l.length ≤ n := by
  have := List.Nodup.length_le_of_subset nd (l₂ := List.range n) fun x hx => List.mem_range.mpr (h x hx)
  rw [List.length_range] at this
  exact this
theorem take_snoc' {α : Type} {l : List α} {j : Nat} {x : α} (h : l[j]? = some x) : l.take (j + 1) = l.take j ++ [x] := by rw [List.take_add_one, h]; rfl
theorem perm_cast {l : List Nat} {ns : List Int} (h : ns.Perm (l.map fun i : Nat => (i : Int))) : ∃ k : List Nat, ns = k.map (fun i : Nat => (i : Int)) ∧ k.Perm l := by
  obtain ⟨k, h1, h2⟩ := permInv h
  exact ⟨k, h2, h1⟩
theorem lt_of_le_nodup' {l : List Nat} (h : (l.map fun i : Nat => (i : Int)).Pairwise (· ≤ ·)) (nd : l.Nodup) : l.Pairwise (· < ·) := by
  rw [List.pairwise_map] at h
  exact (List.Pairwise.and h nd).imp fun {a b} ⟨h1, h2⟩ => by omega
end VL
namespace VL
open PySem PySem.Spec PyProof.Rows L2 HM
def spPart : VSp := fun ds t Q _ => ∃ (n : Nat) (m : Nat → Nat → Nat) (gs : List Nat), ds = [houD n m, .lst (nsD gs)] ∧ 0 < n ∧ n ≤ 60 ∧ gs.length < 64 ∧ (∀ a b, a < n → b < n → m a b < n) ∧ (∀ g ∈ gs, g < n) ∧ ∀ l : List Nat, IsPt m gs l → Q (.tup (nsD l)) t
end VL
namespace VL
open PySem PySem.Spec PyProof.Rows L2 HM
theorem valD_some {κ : Type} [DecidableEq κ] {kvs : List (κ × Dt)} {k : κ} : (valD kvs k).isSome = decide (k ∈ kvs.map (·.1)) := by
  induction kvs with
  | nil => rfl
  | cons p r ih =>
    unfold valD at ih ⊢
    by_cases h : p.1 = k
    · rw [List.find?_cons_of_pos (by simpa using h)]
      simp [h]
    · rw [List.find?_cons_of_neg (by simpa using h), ih]
      have h' : ¬ k = p.1 := fun z => h z.symm
      simp [h']
theorem putD_new {κ : Type} [DecidableEq κ] {kvs : List (κ × Dt)} {k : κ} {v : Dt} (h : k ∉ kvs.map (·.1)) : putD kvs k v = kvs ++ [(k, v)] := by
  unfold putD
  rw [if_neg]
  intro z
  rw [List.any_eq_true] at z
  obtain ⟨p, hp, e⟩ := z
  exact h (List.mem_map.mpr ⟨p, hp, of_decide_eq_true e⟩)
theorem keyN_mem {fs : List Nat} {x : Nat} : (Sum.inl (x : Int) : Key) ∈ fs.map (fun i : Nat => (Sum.inl (i : Int) : Key)) ↔ x ∈ fs := by
  rw [List.mem_map]
  constructor
  · rintro ⟨i, hi, e⟩
    have : (i : Int) = x := Sum.inl.inj e
    have : i = x := by omega
    rw [← this]; exact hi
  · exact fun h => ⟨x, h, rfl⟩
/-- what is found, and what waits -/
structure Wt (m : Nat → Nat → Nat) (gs : List Nat) (fs ws : List Nat) : Prop where
  nd : fs.Nodup
  rc : ∀ x ∈ fs, Rch m gs x
  ze : 0 ∈ fs
  sb : ∀ x ∈ ws, x ∈ fs
  wn : ws.Nodup
  cl : ∀ x ∈ fs, x ∉ ws → ∀ g ∈ gs, m x g ∈ fs
theorem Wt.all {m : Nat → Nat → Nat} {gs fs : List Nat} (h : Wt m gs fs []) : ∀ x, x ∈ fs ↔ Rch m gs x := fun x => ⟨h.rc x, fun r => by
  induction r with
  | zero => exact h.ze
  | step _ hg ih => exact h.cl _ ih (by simp) _ hg⟩
theorem nsD_last {l : List Nat} {x : Nat} : (nsD (l ++ [x]))[(nsD (l ++ [x])).length - 1]? = some (nD x) := by
  rw [nsD_len]
  unfold nsD
  rw [List.getElem?_map, List.length_append, List.length_singleton, Nat.add_sub_cancel, List.getElem?_append_right (Nat.le_refl _)]
  simp
theorem nsD_dropLast {l : List Nat} {x : Nat} : (nsD (l ++ [x])).dropLast = nsD l := by
  unfold nsD
  rw [List.map_append, List.map_cons, List.map_nil, List.dropLast_concat]
theorem nsD_app (l : List Nat) (x : Nat) : nsD l ++ [nD x] = nsD (l ++ [x]) := by unfold nsD; rw [List.map_append]; rfl
theorem pl_ns (l : List Nat) : pl (.lst (nsD l)) = true := pls_map (fun _ => rfl) l
theorem pl_nt (l : List Nat) : pl (.tup (nsD l)) = true := pls_map (fun _ => rfl) l
theorem dep_ns (l : List Nat) : dep (.lst (nsD l)) ≤ 64 := Nat.le_trans (Nat.succ_le_succ (deps_map (f := nD) (k := 0) (fun _ => Nat.le_refl 0) l)) (by decide)
theorem nsD_nil {l : List Nat} : Dt.lst (nsD l) = .lst [] ↔ l = [] := by
  cases l with
  | nil => exact ⟨fun _ => rfl, fun _ => rfl⟩
  | cons a l => exact ⟨(fun h => nomatch h), (fun h => nomatch h)⟩
end VL
namespace VL
open PySem PySem.Spec PyProof.Rows L2 HM
end VL
namespace VL
open PySem PySem.Spec PyProof.Rows L2 HM
end VL
namespace VL
open PySem PySem.Spec PyProof.Rows L2 HM
def pk4 (a : Addr) (t l : Int) (g : Bool) : List (Key × V) := [(.inr "script", .ref a), (.inr "at", .int t), (.inr "left", .int l), (.inr "great", .bl g)]
/-- the pen runs along -/
structure PenIn (K : PySem.W.Frag) (am : Am) (p : Addr) : Prop where
  pl : Plain am
  sp : am.sp p
  rd : ∀ {n F H}, am.ok n F H → ∃ a ns t l g, H p = some (.dK (pk4 a t l g)) ∧ Scr K H a ns ∧ ns.length ≤ 63 ∧ 0 ≤ t ∧ 0 ≤ l
  wr : ∀ {n F H a t l g}, am.ok n F H → H p = some (.dK (pk4 a t l g)) → ∀ (t' l' : Int) (g' : Bool), 0 ≤ t' → 0 ≤ l' → am.ok n F (upd H p (.dK (pk4 a t' l' g')))
/-- nothing but the pen is written -/
theorem PenIn.out {K : PySem.W.Frag} {am : Am} {p a : Addr} (h : PenIn K am p) {F H : Hp} {n : Nat} {t l : Int} {g : Bool} (u : Up F H) (hs : ∀ a, am.sp a → F a = none) (ha : am.ok n F H) (hp : H p = some (.dK (pk4 a t l g))) {t' l' : Int} {g' : Bool} (h1 : 0 ≤ t') (h2 : 0 ≤ l') :
    Out am F H F (upd H p (.dK (pk4 a t' l' g'))) n :=
  ⟨Up.refl F, fun b o e => by rw [upd_ne (fun (z : b = p) => by rw [z, hs p h.sp] at e; cases e)]; exact u b o e, hs, fun _ _ _ _ e => e, fun b o e nb => by rw [upd_ne (fun (z : b = p) => nb (by rw [z]; exact h.sp))]; exact e, h.wr ha hp t' l' g' h1 h2⟩
end VL
namespace VL
open PySem PySem.Spec PyProof.Rows L2 HM
end VL
namespace VL
open PySem PySem.Spec PyProof.Rows L2 HM
def prM (s o : Nat) (pw : Nat → Nat) (x y : Nat) : Nat := (x / o + pw (x % o) * (y / o)) % s * o + (x % o + y % o) % o
/-- powers by which the numbers of the one are led by those of the other -/
structure Pws (s o : Nat) (pw : Nat → Nat) : Prop where
  bd : ∀ a, pw a ≤ 12
  one : pw 0 % s = 1 % s
  add : ∀ a b, a < o → b < o → pw ((a + b) % o) % s = (pw a * pw b) % s
def pwB (s b : Nat) : Nat → Nat
  | 0 => 1
  | j + 1 => pwB s b j * b % s
theorem pwB_mod (s b : Nat) : ∀ j, pwB s b j % s = b ^ j % s
  | 0 => by rw [pwB, Nat.pow_zero]
  | j + 1 => by rw [pwB, Nat.mod_mod, Nat.mul_mod, pwB_mod s b j, ← Nat.mul_mod, ← Nat.pow_succ]
theorem pwB_le {s : Nat} (b : Nat) (h0 : 0 < s) (h : s ≤ 12) : ∀ j, pwB s b j ≤ 12
  | 0 => by rw [pwB]; decide
  | j + 1 => by
    rw [pwB]
    have := Nat.mod_lt (pwB s b j * b) h0
    omega
theorem pow_wrap {s o b : Nat} (h : b ^ o % s = 1 % s) : ∀ k, b ^ (k % o) % s = b ^ k % s := fun k => by
  have e := Nat.div_add_mod k o
  have : b ^ k = (b ^ o) ^ (k / o) * b ^ (k % o) := by rw [← Nat.pow_mul, ← Nat.pow_add, e]
  rw [this, Nat.mul_mod, Nat.pow_mod (b ^ o), h, ← Nat.pow_mod, Nat.one_pow, ← Nat.mul_mod, Nat.one_mul]
theorem pws_b {s o b : Nat} (h0 : 0 < s) (hs : s ≤ 12) (h : pwB s b o % s = 1 % s) : Pws s o (pwB s b) := by
  rw [pwB_mod] at h
  refine ⟨pwB_le b h0 hs, rfl, fun x y hx hy => ?_⟩
  rw [pwB_mod, pow_wrap h, Nat.pow_add, Nat.mul_mod, ← pwB_mod, ← pwB_mod, ← Nat.mul_mod]
end VL
namespace VL
open PySem PySem.Spec PyProof.Rows L2 HM
end VL
namespace VL
open PySem PySem.Spec PyProof.Rows L2 HM
def Tn (m : Nat) (l : List Nat) : Prop := l.Perm (List.range m)
theorem Tn.len {m : Nat} {l : List Nat} (h : Tn m l) : l.length = m := by rw [List.Perm.length_eq h, List.length_range]
theorem Tn.lt {m : Nat} {l : List Nat} (h : Tn m l) {x : Nat} (hx : x ∈ l) : x < m := List.mem_range.mp ((List.Perm.mem_iff h).mp hx)
theorem Tn.nd {m : Nat} {l : List Nat} (h : Tn m l) : l.Nodup := (List.Perm.nodup_iff h).mpr List.nodup_range
theorem Tn.all {m : Nat} {l : List Nat} (h : Tn m l) {x : Nat} (hx : x < m) : x ∈ l := (List.Perm.mem_iff h).mpr (List.mem_range.mpr hx)
theorem tn_of {m : Nat} {l : List Nat} (hl : l.length = m) (h : ∀ x ∈ l, x < m) (nd : l.Nodup) : Tn m l := by
  refine (List.perm_ext_iff_of_nodup nd List.nodup_range).mpr fun x => ⟨fun hx => List.mem_range.mpr (h x hx), fun hx => ?_⟩
  rcases Classical.em (x ∈ l) with z | z
  · exact z
  · have hx := List.mem_range.mp hx
    have := few_of_nodup (n := m) (l := x :: l) (List.nodup_cons.mpr ⟨z, nd⟩) fun y hy => by
      rcases List.mem_cons.mp hy with rfl | hy
      · exact hx
      · exact h y hy
    rw [List.length_cons, hl] at this
    omega
theorem flats_ns (l : List Nat) : flats (nsD l) = true := by rw [nsD_ints]; exact flats_int _
def tA (l : List Nat) (k : Nat) : Nat := l.getD k 0
theorem tA_get {l : List Nat} {k : Nat} (h : k < l.length) : l[k]? = some (tA l k) := by
  unfold tA
  rw [List.getD_eq_getElem?_getD, List.getElem?_eq_getElem h]
  rfl
theorem tA_mem {l : List Nat} {k : Nat} (h : k < l.length) : tA l k ∈ l := List.mem_of_getElem? (tA_get h)
theorem Tn.at_lt {m : Nat} {l : List Nat} (h : Tn m l) {k : Nat} (hk : k < m) : tA l k < m := h.lt (tA_mem (by rw [h.len]; exact hk))
theorem Tn.inj {m : Nat} {l : List Nat} (h : Tn m l) {i j : Nat} (hi : i < m) (hj : j < m) (e : tA l i = tA l j) : i = j := by
  have h1 : l[i]? = l[j]? := by rw [tA_get (by rw [h.len]; exact hi), tA_get (by rw [h.len]; exact hj), e]
  exact (List.getElem?_inj (by rw [h.len]; exact hi) h.nd).mp h1
theorem Tn.onto {m : Nat} {l : List Nat} (h : Tn m l) {x : Nat} (hx : x < m) : ∃ k, k < m ∧ tA l k = x := by
  obtain ⟨k, hk, e⟩ := List.getElem_of_mem (h.all hx)
  refine ⟨k, by rw [← h.len]; exact hk, ?_⟩
  have := tA_get hk
  rw [List.getElem?_eq_getElem hk, e] at this
  exact (Option.some.inj this).symm
theorem nsD_tA {l : List Nat} {k : Nat} (h : k < l.length) : atI (nsD l) (k : Int) = some (nD (tA l k)) := nsD_get (tA_get h)
end VL
namespace VL
open PySem PySem.Spec PyProof.Rows L2 HM
def spTurn (p : Addr) : VSp := fun ds t Q _ => ∃ m : Nat, ds = [.obj p, nD m] ∧ m ≤ 60 ∧ ∀ l, Tn m l → Q (.tup (nsD l)) t
end VL
namespace VL
open PySem PySem.Spec PyProof.Rows L2 HM
def tnB (m : Nat) (l : List Nat) : Bool := l.length == m && l.all (fun x => decide (x < m)) && decide l.Nodup
theorem tn_B {m : Nat} {l : List Nat} (h : tnB m l = true) : Tn m l := by
  unfold tnB at h
  rw [Bool.and_eq_true, Bool.and_eq_true, beq_iff_eq, List.all_eq_true, decide_eq_true_iff] at h
  exact tn_of h.1.1 (fun x hx => of_decide_eq_true (h.1.2 x hx)) h.2
def tnsD (ls : List (List Nat)) : List Dt := ls.map fun l => .tup (nsD l)
end VL
namespace VL
open PySem PySem.Spec PyProof.Rows L2 HM
end VL
namespace VL
open PySem PySem.Spec PyProof.Rows L2 HM
def thn (a b : List Nat) : List Nat := a.map (tA b)
def stay (m : Nat) : List Nat := List.range m
theorem thn_tn {m : Nat} {a b : List Nat} (ha : Tn m a) (hb : Tn m b) : Tn m (thn a b) := by
  refine tn_of (by unfold thn; rw [List.length_map, ha.len]) (fun x hx => ?_) ?_
  · obtain ⟨k, hk, rfl⟩ := List.mem_map.mp hx
    exact hb.at_lt (ha.lt hk)
  · unfold thn
    exact List.pairwise_map.mpr ((List.Pairwise.and_mem.mp ha.nd).imp fun {x y} h e => h.2.2 (hb.inj (ha.lt h.1) (ha.lt h.2.1) e))
theorem stay_tn (m : Nat) : Tn m (stay m) := List.Perm.refl _
theorem thn_stay {m : Nat} {a : List Nat} (ha : Tn m a) : thn a (stay m) = a := by
  unfold thn
  refine (List.map_congr_left fun x hx => ?_).trans (List.map_id a)
  unfold tA stay
  rw [List.getD_eq_getElem?_getD, List.getElem?_range (ha.lt hx)]
  rfl
theorem stay_thn {m : Nat} {a : List Nat} (ha : Tn m a) : thn (stay m) a = a := by
  refine List.ext_getElem? fun i => ?_
  unfold thn stay
  rw [List.getElem?_map]
  by_cases h : i < m
  · rw [List.getElem?_range h, tA_get (by rw [ha.len]; exact h)]
    rfl
  · rw [List.getElem?_eq_none (by rw [List.length_range]; omega), List.getElem?_eq_none (by rw [ha.len]; omega)]
    rfl
theorem tA_thn {a b : List Nat} {k : Nat} (h : k < a.length) : tA (thn a b) k = tA b (tA a k) := by
  have h1 : (thn a b)[k]? = some (tA b (tA a k)) := by
    unfold thn
    rw [List.getElem?_map, tA_get h]
    rfl
  unfold tA at h1 ⊢
  rw [List.getD_eq_getElem?_getD (l := thn a b), h1]
  rfl
theorem thn_assoc {m : Nat} {a b c : List Nat} (ha : Tn m a) (hb : Tn m b) : thn (thn a b) c = thn a (thn b c) := by
  unfold thn
  rw [List.map_map]
  refine List.map_congr_left fun x hx => ?_
  exact (tA_thn (b := c) (by rw [hb.len]; exact ha.lt hx)).symm
theorem thn_inj {m : Nat} {a b c : List Nat} (ha : Tn m a) (hb : Tn m b) (hc : Tn m c) (e : thn a b = thn a c) : b = c := by
  refine List.ext_getElem? fun i => ?_
  by_cases h : i < m
  · obtain ⟨k, hk, rfl⟩ := ha.onto h
    have e2 : tA (thn a b) k = tA (thn a c) k := by rw [e]
    rw [tA_thn (by rw [ha.len]; exact hk), tA_thn (by rw [ha.len]; exact hk)] at e2
    rw [tA_get (by rw [hb.len]; exact h), tA_get (by rw [hc.len]; exact h), e2]
  · rw [List.getElem?_eq_none (by rw [hb.len]; omega), List.getElem?_eq_none (by rw [hc.len]; omega)]
def itr (f : Nat → Nat) : Nat → Nat → Nat
  | 0, x => x
  | i + 1, x => f (itr f i x)
theorem itr_add (f : Nat → Nat) (i j x : Nat) : itr f (i + j) x = itr f i (itr f j x) := by
  induction i with
  | zero => rw [Nat.zero_add]; rfl
  | succ i ih => rw [Nat.succ_add]; show f _ = f _; rw [ih]
theorem itr_mul {f : Nat → Nat} {c x : Nat} (h : itr f c x = x) : ∀ q, itr f (q * c) x = x
  | 0 => by rw [Nat.zero_mul]; rfl
  | q + 1 => by rw [Nat.succ_mul, itr_add, h, itr_mul h q]
theorem itr_lt {m : Nat} {g : List Nat} (h : Tn m g) {x : Nat} (hx : x < m) : ∀ i, itr (tA g) i x < m
  | 0 => hx
  | i + 1 => h.at_lt (itr_lt h hx i)
theorem itr_inj {m : Nat} {g : List Nat} (h : Tn m g) {x y : Nat} (hx : x < m) (hy : y < m) : ∀ i, itr (tA g) i x = itr (tA g) i y → x = y
  | 0, e => e
  | i + 1, e => itr_inj h hx hy i (h.inj (itr_lt h hx i) (itr_lt h hy i) e)
theorem itr_back {m : Nat} {g : List Nat} (h : Tn m g) {x i j : Nat} (hx : x < m) (hij : i ≤ j) (e : itr (tA g) i x = itr (tA g) j x) : itr (tA g) (j - i) x = x := by
  have e2 : itr (tA g) i x = itr (tA g) i (itr (tA g) (j - i) x) := by rw [← itr_add, show i + (j - i) = j by omega]; exact e
  exact (itr_inj h hx (itr_lt h hx _) i e2).symm
theorem itr_ring {m : Nat} {g : List Nat} (h : Tn m g) {x : Nat} (hx : x < m) : ∃ c, 1 ≤ c ∧ c ≤ m ∧ itr (tA g) c x = x := by
  rcases Classical.em (∃ i j, i < j ∧ j ≤ m ∧ itr (tA g) i x = itr (tA g) j x) with ⟨i, j, hij, hj, e⟩ | no
  · exact ⟨j - i, by omega, by omega, itr_back h hx (by omega) e⟩
  · exfalso
    have nd : ((List.range (m + 1)).map fun i => itr (tA g) i x).Nodup := by
      refine List.pairwise_map.mpr (List.Pairwise.imp_of_mem (fun {a b} ha hb hab e => ?_) (List.pairwise_lt_range (n := m + 1)))
      exact no ⟨a, b, hab, by have := List.mem_range.mp hb; omega, e⟩
    have := few_of_nodup (n := m) nd fun y hy => by
      obtain ⟨i, _, rfl⟩ := List.mem_map.mp hy
      exact itr_lt h hx i
    rw [List.length_map, List.length_range] at this
    omega
theorem ring60 {m : Nat} {g : List Nat} (h : Tn m g) (hm : m ≤ 7) : (∀ x, x < m → itr (tA g) 60 x = x) ∨ ∀ x, x < m → itr (tA g) 7 x = x := by
  rcases Classical.em (∀ x, x < m → ∃ c, 1 ≤ c ∧ c ≤ 6 ∧ itr (tA g) c x = x) with al | no
  · refine .inl fun x hx => ?_
    obtain ⟨c, h1, h6, e⟩ := al x hx
    have hd : ∃ q, 60 = q * c := by
      rcases (by omega : c = 1 ∨ c = 2 ∨ c = 3 ∨ c = 4 ∨ c = 5 ∨ c = 6) with rfl | rfl | rfl | rfl | rfl | rfl
      · exact ⟨60, rfl⟩
      · exact ⟨30, rfl⟩
      · exact ⟨20, rfl⟩
      · exact ⟨15, rfl⟩
      · exact ⟨12, rfl⟩
      · exact ⟨10, rfl⟩
    obtain ⟨q, hq⟩ := hd
    rw [hq]
    exact itr_mul e q
  · refine .inr ?_
    obtain ⟨x, hn⟩ := Classical.not_forall.mp no
    obtain ⟨hx, hno⟩ := Classical.not_imp.mp hn
    clear hn
    obtain ⟨c, h1, hc, e⟩ := itr_ring h hx
    have hc7 : c = 7 := by
      rcases Nat.lt_or_ge c 7 with z | z
      · exact absurd ⟨c, h1, by omega, e⟩ hno
      · omega
    have hm7 : m = 7 := by omega
    subst hm7
    subst hc7
    have tn : Tn 7 ((List.range 7).map fun i => itr (tA g) i x) := by
      refine tn_of (by rw [List.length_map, List.length_range]) (fun y hy => ?_) ?_
      · obtain ⟨i, _, rfl⟩ := List.mem_map.mp hy
        exact itr_lt h hx i
      · refine List.pairwise_map.mpr (List.Pairwise.imp_of_mem (fun {a b} ha hb hab e2 => ?_) (List.pairwise_lt_range (n := 7)))
        have := List.mem_range.mp hb
        exact hno ⟨b - a, by omega, by omega, itr_back h hx (by omega) e2⟩
    intro y hy
    obtain ⟨i, _, rfl⟩ := List.mem_map.mp (tn.all hy)
    rw [← itr_add, Nat.add_comm, itr_add, e]
/-- what comes of some turns -/
inductive GR (m : Nat) (ts : List (List Nat)) : List Nat → Prop
  | stay : GR m ts (stay m)
  | step {a g : List Nat} : GR m ts a → g ∈ ts → GR m ts (thn a g)
theorem GR.tn {m : Nat} {ts : List (List Nat)} (h : ∀ g ∈ ts, Tn m g) : ∀ {a : List Nat}, GR m ts a → Tn m a
  | _, .stay => stay_tn m
  | _, .step a g => thn_tn (GR.tn h a) (h _ g)
theorem GR.mul {m : Nat} {ts : List (List Nat)} (h : ∀ g ∈ ts, Tn m g) {a : List Nat} (ha : GR m ts a) : ∀ {b : List Nat}, GR m ts b → GR m ts (thn a b)
  | _, .stay => by rw [thn_stay (ha.tn h)]; exact ha
  | _, .step b g => by rw [← thn_assoc (ha.tn h) (b.tn h)]; exact .step (GR.mul h ha b) g
def gpw (m : Nat) (g : List Nat) (i : Nat) : List Nat := (List.range m).map (itr (tA g) i)
theorem gpw_thn {m : Nat} {g : List Nat} (i : Nat) : thn (gpw m g i) g = gpw m g (i + 1) := by
  unfold thn gpw
  rw [List.map_map]
  rfl
theorem gpw_wrap {m : Nat} {g : List Nat} {c : Nat} (hc : ∀ x, x < m → itr (tA g) c x = x) : gpw m g c = gpw m g 0 := List.map_congr_left fun x hx => hc x (List.mem_range.mp hx)
theorem GR.one {m c : Nat} {g : List Nat} (h0 : 0 < c) (hc : ∀ x, x < m → itr (tA g) c x = x) : ∀ {a : List Nat}, GR m [g] a → ∃ i, i < c ∧ a = gpw m g i
  | _, .stay => ⟨0, h0, (List.map_id _).symm⟩
  | _, .step a g' => by
    obtain ⟨i, hi, rfl⟩ := GR.one h0 hc a
    rw [List.mem_singleton.mp g', gpw_thn]
    rcases Nat.lt_or_ge (i + 1) c with z | z
    · exact ⟨i + 1, z, rfl⟩
    · exact ⟨0, h0, by rw [show i + 1 = c by omega, gpw_wrap hc]⟩
theorem GR.few {m : Nat} {ts fs : List (List Nat)} (h : ∀ g ∈ ts, Tn m g) (hm : m ≤ 7) (h1 : ts.length ≤ 1) (nd : fs.Nodup) (hf : ∀ a ∈ fs, GR m ts a) : fs.length ≤ 60 := by
  match ts, h1 with
  | [], _ =>
    have : fs.length ≤ [VL.stay m].length := List.Nodup.length_le_of_subset nd fun a ha => by
      cases hf a ha with
      | stay => exact List.mem_singleton.mpr rfl
      | step _ z => cases z
    exact Nat.le_trans this (show 1 ≤ 60 by decide)
  | [g], _ =>
    obtain ⟨c, h0, h60, hc⟩ : ∃ c, 0 < c ∧ c ≤ 60 ∧ ∀ x, x < m → itr (tA g) c x = x := by
      rcases ring60 (h g (List.mem_singleton.mpr rfl)) hm with z | z
      · exact ⟨60, by decide, by decide, z⟩
      · exact ⟨7, by decide, by decide, z⟩
    have : fs.length ≤ ((List.range c).map (gpw m g)).length := List.Nodup.length_le_of_subset nd fun a ha => by
      obtain ⟨i, hi, rfl⟩ := GR.one h0 hc (hf a ha)
      exact List.mem_map.mpr ⟨i, List.mem_range.mpr hi, rfl⟩
    rw [List.length_map, List.length_range] at this
    omega
  | _ :: _ :: _, z => simp at z
end VL
namespace VL
open PySem PySem.Spec PyProof.Rows L2 HM
/-- a group of turns, the stay first -/
structure IsGr (m : Nat) (gl : List (List Nat)) : Prop where
  few : gl.length ≤ 60
  nd : gl.Nodup
  tn : ∀ a ∈ gl, Tn m a
  mul : ∀ a ∈ gl, ∀ b ∈ gl, thn a b ∈ gl
  hd : gl[0]? = some (stay m)
def iN (l : List Nat) : List Int := l.map fun i : Nat => (i : Int)
def kN (l : List Nat) : List Key := l.map fun i : Nat => (Sum.inl (i : Int) : Key)
theorem tup_key (l : List Nat) : Dt.tup (nsD l) = tupD (kN l) := by
  unfold tupD kN nsD
  rw [List.map_map]
  rfl
theorem kN_ikey (l : List Nat) : ikey (iN l) = kN l := by
  unfold ikey iN kN
  rw [List.map_map]
  rfl
theorem kN_inj : ∀ {a b : List Nat}, kN a = kN b → a = b := fun {a b} h => by
  refine nsD_inj ?_
  have : Dt.tup (nsD a) = Dt.tup (nsD b) := by rw [tup_key, tup_key, h]
  injection this
theorem kN_mem {fs : List (List Nat)} {x : List Nat} : kN x ∈ fs.map kN ↔ x ∈ fs := by
  rw [List.mem_map]
  exact ⟨fun ⟨y, hy, e⟩ => kN_inj e ▸ hy, fun h => ⟨x, h, rfl⟩⟩
theorem tns_int (gl : List (List Nat)) : (gl.map iN).map (fun l => Dt.tup (l.map Dt.int)) = tnsD gl := by
  unfold tnsD
  rw [List.map_map]
  refine List.map_congr_left fun l _ => ?_
  show Dt.tup ((iN l).map Dt.int) = _
  rw [nsD_ints]
  rfl
theorem tnsD_len (l : List (List Nat)) : (tnsD l).length = l.length := List.length_map _
theorem tnsD_last {l : List (List Nat)} {x : List Nat} : (tnsD (l ++ [x]))[(tnsD (l ++ [x])).length - 1]? = some (.tup (nsD x)) := by
  rw [tnsD_len]
  unfold tnsD
  rw [List.getElem?_map, List.length_append, List.length_singleton, Nat.add_sub_cancel, List.getElem?_append_right (Nat.le_refl _)]
  simp
theorem tnsD_dropLast {l : List (List Nat)} {x : List Nat} : (tnsD (l ++ [x])).dropLast = tnsD l := by
  unfold tnsD
  rw [List.map_append, List.map_cons, List.map_nil, List.dropLast_concat]
theorem tnsD_app (l : List (List Nat)) (x : List Nat) : tnsD l ++ [.tup (nsD x)] = tnsD (l ++ [x]) := by unfold tnsD; rw [List.map_append]; rfl
theorem tnsD_nil {l : List (List Nat)} : Dt.lst (tnsD l) = .lst [] ↔ l = [] := by
  cases l with
  | nil => exact ⟨fun _ => rfl, fun _ => rfl⟩
  | cons a l => exact ⟨(fun h => nomatch h), (fun h => nomatch h)⟩
theorem pl_tns (l : List (List Nat)) : pl (.lst (tnsD l)) = true := pls_map (fun x => pl_nt x) l
theorem dep_tns (l : List (List Nat)) : dep (.lst (tnsD l)) ≤ 64 := Nat.le_trans (Nat.succ_le_succ (deps_map (f := fun x => Dt.tup (nsD x)) (k := 1) (fun x => Nat.succ_le_succ (deps_map (f := nD) (k := 0) (fun _ => Nat.le_refl 0) x)) l)) (by decide)
theorem thn_lc (a g : List Nat) : (List.range (nsD a).length).map (fun j => nD (tA g (tA a j))) = nsD (thn a g) := by
  rw [nsD_len]
  unfold nsD thn
  rw [List.map_map]
  refine List.ext_getElem? fun i => ?_
  rw [List.getElem?_map, List.getElem?_map]
  by_cases h : i < a.length
  · rw [List.getElem?_range h, tA_get h]
    rfl
  · rw [List.getElem?_eq_none (by rw [List.length_range]; omega), List.getElem?_eq_none (by omega)]
    rfl
/-- of all turns the stay comes first -/
theorem stay_least {B : Int} : ∀ {n i : Nat} {l : List Nat}, l.length = n → l.Nodup → (∀ x ∈ l, i ≤ x) → TS.Bd B (iN (List.range' i n)) → TS.Bd B (iN l) → l = List.range' i n ∨ TS.code B (iN (List.range' i n)) < TS.code B (iN l)
  | 0, _, l, hl, _, _, _, _ => .inl (by rw [List.length_eq_zero_iff.mp hl]; rfl)
  | n + 1, i, [], hl, _, _, _, _ => by simp at hl
  | n + 1, i, x :: r, hl, nd, hx, b1, b2 => by
    rw [List.nodup_cons] at nd
    have hl' : r.length = n := by simpa using hl
    have hx0 := hx x List.mem_cons_self
    rw [List.range'_succ] at b1 ⊢
    have ll : (iN (List.range' (i + 1) n)).length = (iN r).length := by unfold iN; rw [List.length_map, List.length_map, List.length_range', hl']
    rcases Nat.lt_or_ge i x with z | z
    · exact .inr (TS.code_lt ll (TS.Bd.tail b1) (TS.Bd.tail b2) (by show (i : Int) < (x : Int); omega))
    · have e : x = i := by omega
      subst e
      rcases stay_least (i := x + 1) hl' nd.2 (fun y hy => by
        have h1 := hx y (List.mem_cons_of_mem _ hy)
        have h2 : y ≠ x := fun z => nd.1 (z ▸ hy)
        omega) (TS.Bd.tail b1) (TS.Bd.tail b2) with h | h
      · exact .inl (by rw [h])
      · exact .inr ((TS.code_same ll).mpr h)
theorem bd_tn {m : Nat} {a : List Nat} (h : Tn m a) : TS.Bd (m : Int) (iN a) := fun x hx => by
  obtain ⟨y, hy, rfl⟩ := List.mem_map.mp hx
  have := h.lt hy
  exact ⟨by omega, by omega⟩
theorem stay_first {m : Nat} {gl : List (List Nat)} (h : ∀ a ∈ gl, Tn m a) (hs : stay m ∈ gl) (hp : (gl.map iN).Pairwise fun q r => TS.code (m : Int) q ≤ TS.code (m : Int) r) : gl[0]? = some (stay m) := by
  match gl, h, hs, hp with
  | a :: r, h, hs, hp =>
    rw [List.map_cons, List.pairwise_cons] at hp
    have ha := h a List.mem_cons_self
    have e : stay m = List.range' 0 m := List.range_eq_range'
    rcases List.mem_cons.mp hs with z | z
    · rw [z]; rfl
    · have h1 := hp.1 (iN (stay m)) (List.mem_map.mpr ⟨_, z, rfl⟩)
      rcases stay_least (B := (m : Int)) (n := m) (i := 0) ha.len ha.nd (fun x _ => Nat.zero_le x) (by rw [← e]; exact bd_tn (stay_tn m)) (bd_tn ha) with h2 | h2
      · rw [h2, ← e]; rfl
      · rw [← e] at h2
        omega
theorem cut1 (ts : List (List Nat)) : cutD (tnsD ts) none (some 1) = tnsD (ts.take 1) := by
  unfold cutD
  rw [show HT.sIx (tnsD ts).length 0 none = 0 from rfl]
  match ts with
  | [] => rfl
  | a :: r =>
    rw [show HT.sIx (tnsD (a :: r)).length (tnsD (a :: r)).length (some 1) = 1 by
      rw [tnsD_len, List.length_cons]
      unfold HT.sIx
      simp]
    rfl
/-- what is found, and what waits -/
structure GWt (m : Nat) (ts fs ws : List (List Nat)) : Prop where
  nd : fs.Nodup
  rc : ∀ x ∈ fs, GR m ts x
  ze : stay m ∈ fs
  sb : ∀ x ∈ ws, x ∈ fs
  wn : ws.Nodup
  cl : ∀ x ∈ fs, x ∉ ws → ∀ g ∈ ts, thn x g ∈ fs
theorem GWt.all {m : Nat} {ts fs : List (List Nat)} (h : GWt m ts fs []) : ∀ x, x ∈ fs ↔ GR m ts x := fun x => ⟨h.rc x, fun r => by
  induction r with
  | stay => exact h.ze
  | step _ hg ih => exact h.cl _ ih (by simp) _ hg⟩
theorem rg_stay (m : Nat) : rngD 0 m = nsD (stay m) := by
  unfold rngD nsD stay
  refine List.map_congr_left fun i _ => ?_
  rw [Int.zero_add]
  rfl
end VL
namespace VL
open PySem PySem.Spec PyProof.Rows L2 HM
section
variable {P : Program} {w : World} {K : PySem.W.Frag} {mg : Str → Option Value} {base : Heap} {am : Am} {gd : Around → Prop} {k : Nat}
theorem never {f : Addr} {fd : FuncData} {ps : List Str} : VFn gd P w K mg base CX0 k f fd ps am (fun _ _ _ _ => False) :=
  ⟨fun vs H Q E ⟨_, _, _, _, _, _, _, _, _, h, _⟩ => h.elim, fun A out s H args us vs Q E hgd hr e0 hb r ⟨_, _, _, _, _, _, _, _, _, h, _⟩ => h.elim⟩
end
end VL
namespace VL
open PySem PySem.Spec PyProof.Rows L2 HM
end VL
namespace VL
open PySem PySem.Spec PyProof.Rows L2 HM
def glA (gl : List (List Nat)) (a : Nat) : List Nat := gl.getD a []
def tblM (gl : List (List Nat)) (a b : Nat) : Nat := gl.idxOf (thn (glA gl a) (glA gl b))
theorem glA_get {gl : List (List Nat)} {a : Nat} (h : a < gl.length) : gl[a]? = some (glA gl a) := by
  unfold glA
  rw [List.getD_eq_getElem?_getD, List.getElem?_eq_getElem h]
  rfl
theorem glA_mem {gl : List (List Nat)} {a : Nat} (h : a < gl.length) : glA gl a ∈ gl := List.mem_of_getElem? (glA_get h)
theorem tns_get {gl : List (List Nat)} {j : Nat} {x : Dt} (h : (tnsD gl)[j]? = some x) : x = .tup (nsD (glA gl j)) ∧ j < gl.length := by
  have hj := (List.getElem?_eq_some_iff.mp h).1
  rw [tnsD_len] at hj
  unfold tnsD at h
  rw [List.getElem?_map, glA_get hj] at h
  exact ⟨(Option.some.inj h).symm, hj⟩
/-- the numbers of the turns -/
def numK (gl : List (List Nat)) (j : Nat) : List (List Key × Dt) := (List.range j).map fun i => (kN (glA gl i), nD i)
theorem glA_inj {gl : List (List Nat)} (nd : gl.Nodup) {i j : Nat} (hi : i < gl.length) (hj : j < gl.length) (e : glA gl i = glA gl j) : i = j :=
  (List.getElem?_inj hi nd).mp (by rw [glA_get hi, glA_get hj, e])
theorem glA_idx {gl : List (List Nat)} {x : List Nat} (h : x ∈ gl) : glA gl (gl.idxOf x) = x := by
  have hl := List.idxOf_lt_length_of_mem h
  have := glA_get hl
  rw [List.getElem?_eq_getElem hl, List.getElem_idxOf hl] at this
  exact (Option.some.inj this).symm
theorem numK_val {gl : List (List Nat)} (nd : gl.Nodup) : ∀ {j a : Nat}, j ≤ gl.length → a < j → valD (numK gl j) (kN (glA gl a)) = some (nD a) := fun {j a} hj ha => by
  unfold valD numK
  rw [List.find?_map]
  have : (List.range j).find? ((fun p : List Key × Dt => decide (p.1 = kN (glA gl a))) ∘ fun i => (kN (glA gl i), nD i)) = some a := by
    rw [List.find?_eq_some_iff_getElem]
    refine ⟨by simp, a, by rw [List.length_range]; exact ha, by simp, fun i hi => ?_⟩
    rw [List.getElem_range]
    simp only [Function.comp, Bool.not_eq_true', decide_eq_false_iff_not]
    intro e
    have := glA_inj nd (by omega) (by omega) (kN_inj e)
    omega
  rw [this]
  rfl
end VL
namespace VL
open PySem PySem.Spec PyProof.Rows L2 HM
def spTable : VSp := fun ds t Q _ => ∃ (m : Nat) (gl : List (List Nat)), ds = [.lst (tnsD gl)] ∧ m ≤ 7 ∧ IsGr m gl ∧ Q (houD gl.length (tblM gl)) t
end VL
namespace VL
open PySem PySem.Spec PyProof.Rows L2 HM
structure Hse (n : Nat) (m : Nat → Nat → Nat) : Prop where
  pos : 0 < n
  lt : ∀ a b, a < n → b < n → m a b < n
  zl : ∀ a, a < n → m 0 a = a
  zr : ∀ a, a < n → m a 0 = a
  as : ∀ a b c, a < n → b < n → c < n → m (m a b) c = m a (m b c)
  cn : ∀ a b c, a < n → b < n → c < n → m a b = m a c → b = c
/-- each number has a contrary -/
theorem Hse.inv {n : Nat} {m : Nat → Nat → Nat} (h : Hse n m) {a : Nat} (ha : a < n) : ∃ b, b < n ∧ m a b = 0 := by
  have tn : Tn n ((List.range n).map (m a)) := by
    refine tn_of (by rw [List.length_map, List.length_range]) (fun x hx => ?_) ?_
    · obtain ⟨b, hb, rfl⟩ := List.mem_map.mp hx
      exact h.lt a b ha (List.mem_range.mp hb)
    · refine List.pairwise_map.mpr (List.Pairwise.imp_of_mem (fun {x y} hx hy hxy e => ?_) (List.pairwise_lt_range (n := n)))
      have := h.cn a x y ha (List.mem_range.mp hx) (List.mem_range.mp hy) e
      omega
  obtain ⟨b, hb, e⟩ := List.mem_map.mp (tn.all h.pos)
  exact ⟨b, List.mem_range.mp hb, e⟩
theorem Hse.rch {n : Nat} {m : Nat → Nat → Nat} (h : Hse n m) {gs : List Nat} (hg : ∀ g ∈ gs, g < n) {a b : Nat} (ha : Rch m gs a) (hb : Rch m gs b) : Rch m gs (m a b) := by
  induction hb with
  | zero => rw [h.zr a (ha.lt h.pos h.lt hg)]; exact ha
  | step r g ih => rw [← h.as a _ _ (ha.lt h.pos h.lt hg) (r.lt h.pos h.lt hg) (hg _ g)]; exact .step ih g
/-- the house of a group of turns -/
theorem hse_tbl {m : Nat} {gl : List (List Nat)} (h : IsGr m gl) : Hse gl.length (tblM gl) := by
  have h0 : 0 < gl.length := by
    have := h.hd
    exact (List.getElem?_eq_some_iff.mp this).1
  have e0 : glA gl 0 = stay m := Option.some.inj ((glA_get h0).symm.trans h.hd)
  have hin : ∀ {a b}, a < gl.length → b < gl.length → thn (glA gl a) (glA gl b) ∈ gl := fun ha hb => h.mul _ (glA_mem ha) _ (glA_mem hb)
  have lt : ∀ a b, a < gl.length → b < gl.length → tblM gl a b < gl.length := fun a b ha hb => List.idxOf_lt_length_of_mem (hin ha hb)
  have at_ : ∀ {a b}, a < gl.length → b < gl.length → glA gl (tblM gl a b) = thn (glA gl a) (glA gl b) := fun ha hb => glA_idx (hin ha hb)
  have tn : ∀ {a}, a < gl.length → Tn m (glA gl a) := fun ha => h.tn _ (glA_mem ha)
  refine ⟨h0, lt, fun a ha => ?_, fun a ha => ?_, fun a b c ha hb hc => ?_, fun a b c ha hb hc e => ?_⟩
  · exact glA_inj h.nd (lt 0 a h0 ha) ha (by rw [at_ h0 ha, e0, stay_thn (tn ha)])
  · exact glA_inj h.nd (lt a 0 ha h0) ha (by rw [at_ ha h0, e0, thn_stay (tn ha)])
  · refine glA_inj h.nd (lt _ _ (lt _ _ ha hb) hc) (lt _ _ ha (lt _ _ hb hc)) ?_
    rw [at_ (lt _ _ ha hb) hc, at_ ha (lt _ _ hb hc), at_ ha hb, at_ hb hc, thn_assoc (tn ha) (tn hb)]
  · refine glA_inj h.nd hb hc (thn_inj (tn ha) (tn hb) (tn hc) ?_)
    rw [← at_ ha hb, ← at_ ha hc, e]
/-- numbered anew: o leads the old numbers to the new ones -/
theorem hse_ren {n : Nat} {m m' : Nat → Nat → Nat} {o : List Nat} (h : Hse n m) (ho : Tn n o) (h0 : tA o 0 = 0) (e : ∀ a b, a < n → b < n → m' (tA o a) (tA o b) = tA o (m a b)) : Hse n m' := by
  have z : m' 0 0 = 0 ∨ True := .inr trivial
  refine ⟨h.pos, fun a b ha hb => ?_, fun a ha => ?_, fun a ha => ?_, fun a b c ha hb hc => ?_, fun a b c ha hb hc e2 => ?_⟩
  · obtain ⟨x, hx, rfl⟩ := ho.onto ha
    obtain ⟨y, hy, rfl⟩ := ho.onto hb
    rw [e x y hx hy]
    exact ho.at_lt (h.lt x y hx hy)
  · obtain ⟨x, hx, rfl⟩ := ho.onto ha
    have := e 0 x h.pos hx
    rw [h0, h.zl x hx] at this
    exact this
  · obtain ⟨x, hx, rfl⟩ := ho.onto ha
    have := e x 0 hx h.pos
    rw [h0, h.zr x hx] at this
    exact this
  · obtain ⟨x, hx, rfl⟩ := ho.onto ha
    obtain ⟨y, hy, rfl⟩ := ho.onto hb
    obtain ⟨z, hz, rfl⟩ := ho.onto hc
    rw [e x y hx hy, e y z hy hz, e _ z (h.lt x y hx hy) hz, e x _ hx (h.lt y z hy hz), h.as x y z hx hy hz]
  · obtain ⟨x, hx, rfl⟩ := ho.onto ha
    obtain ⟨y, hy, rfl⟩ := ho.onto hb
    obtain ⟨z, hz, rfl⟩ := ho.onto hc
    rw [e x y hx hy, e x z hx hz] at e2
    rw [h.cn x y z hx hy hz (ho.inj (h.lt x y hx hy) (h.lt x z hx hz) e2)]
end VL
namespace VL
open PySem PySem.Spec PyProof.Rows L2 HM
theorem cg_mul {s a b c d : Nat} (h1 : a % s = b % s) (h2 : c % s = d % s) : (a * c) % s = (b * d) % s := by rw [Nat.mul_mod, h1, h2, ← Nat.mul_mod]
theorem cg_add {s a b c d : Nat} (h1 : a % s = b % s) (h2 : c % s = d % s) : (a + c) % s = (b + d) % s := by rw [Nat.add_mod, h1, h2, ← Nat.add_mod]
theorem cg_cancel {s a b c : Nat} (hs : 0 < s) (h : (a + b) % s = (a + c) % s) : b % s = c % s := by
  have e := cg_add (rfl : ((s - 1) * a) % s = ((s - 1) * a) % s) h
  have f : ∀ y, (s - 1) * a + (a + y) = y + s * a := fun y => by
    have : (s - 1) * a + a = s * a := by rw [← Nat.succ_mul, Nat.succ_eq_add_one, Nat.sub_add_cancel hs]
    omega
  rw [f, f, Nat.add_mul_mod_self_left, Nat.add_mul_mod_self_left] at e
  exact e
theorem pr_div {o A B : Nat} (h : B < o) : (A * o + B) / o = A := by rw [Nat.mul_comm, Nat.mul_add_div (by omega), Nat.div_eq_of_lt h, Nat.add_zero]
theorem pr_mod {o A B : Nat} (h : B < o) : (A * o + B) % o = B := by rw [Nat.mul_comm, Nat.mul_add_mod, Nat.mod_eq_of_lt h]
theorem pr_lt {s o A B : Nat} (hA : A < s) (hB : B < o) : A * o + B < s * o := by
  have := Nat.mul_le_mul_right o (show A + 1 ≤ s by omega)
  rw [Nat.succ_mul] at this
  omega
theorem pr_eq (o x : Nat) : x / o * o + x % o = x := by rw [Nat.mul_comm]; exact Nat.div_add_mod x o
theorem hse_pairs {s o : Nat} {pw : Nat → Nat} (hs : 0 < s) (ho : 0 < o) (h : Pws s o pw) : Hse (s * o) (prM s o pw) := by
  have dv : ∀ {x}, x < s * o → x / o < s := fun hx => Nat.div_lt_of_lt_mul (by rw [Nat.mul_comm]; exact hx)
  have md : ∀ x, x % o < o := fun x => Nat.mod_lt _ ho
  have ms : ∀ x, x % s < s := fun x => Nat.mod_lt _ hs
  have fd : ∀ x y, prM s o pw x y / o = (x / o + pw (x % o) * (y / o)) % s := fun x y => pr_div (md _)
  have fm : ∀ x y, prM s o pw x y % o = (x % o + y % o) % o := fun x y => pr_mod (md _)
  have ext : ∀ {x y : Nat}, x / o = y / o → x % o = y % o → x = y := fun {x y} e1 e2 => by rw [← pr_eq o x, ← pr_eq o y, e1, e2]
  refine ⟨Nat.mul_pos hs ho, fun a b ha hb => pr_lt (ms _) (md _), fun a ha => ?_, fun a ha => ?_, fun a b c ha hb hc => ?_, fun a b c ha hb hc e => ?_⟩
  · refine ext ?_ ?_
    · rw [fd, Nat.zero_mod, Nat.zero_div, Nat.zero_add, cg_mul h.one (rfl : (a / o) % s = (a / o) % s), Nat.one_mul, Nat.mod_eq_of_lt (dv ha)]
    · rw [fm, Nat.zero_mod, Nat.zero_add, Nat.mod_mod]
  · refine ext ?_ ?_
    · rw [fd, Nat.zero_div, Nat.mul_zero, Nat.add_zero, Nat.mod_eq_of_lt (dv ha)]
    · rw [fm, Nat.zero_mod, Nat.add_zero, Nat.mod_mod]
  · refine ext ?_ ?_
    · rw [fd, fd a, fd a, fm, fd b]
      have e1 : ((a / o + pw (a % o) * (b / o)) % s + pw ((a % o + b % o) % o) * (c / o)) % s = ((a / o + pw (a % o) * (b / o)) + (pw (a % o) * pw (b % o)) * (c / o)) % s := cg_add (Nat.mod_mod _ _) (cg_mul (h.add _ _ (md a) (md b)) rfl)
      have e2 : (a / o + pw (a % o) * ((b / o + pw (b % o) * (c / o)) % s)) % s = (a / o + pw (a % o) * (b / o + pw (b % o) * (c / o))) % s := cg_add rfl (cg_mul rfl (Nat.mod_mod _ _))
      rw [e1, e2, Nat.mul_add, ← Nat.mul_assoc, Nat.add_assoc]
    · rw [fm, fm a, fm a, fm b]
      have e1 : ((a % o + b % o) % o + c % o) % o = (a % o + b % o + c % o) % o := cg_add (Nat.mod_mod _ _) rfl
      have e2 : (a % o + (b % o + c % o) % o) % o = (a % o + (b % o + c % o)) % o := cg_add rfl (Nat.mod_mod _ _)
      rw [e1, e2, Nat.add_assoc]
  · have e1 : prM s o pw a b / o = prM s o pw a c / o := by rw [e]
    have e2 : prM s o pw a b % o = prM s o pw a c % o := by rw [e]
    rw [fd, fd] at e1
    rw [fm, fm] at e2
    refine ext ?_ ?_
    · have e3 := cg_cancel hs e1
      have ja := md a
      have e4 : (pw ((o - a % o) % o) * pw (a % o)) % s = 1 % s := by
        rw [← h.add _ _ (md _) ja, ← h.one]
        congr 2
        have : ((o - a % o) % o + a % o) % o = ((o - a % o) + a % o) % o := cg_add (Nat.mod_mod _ _) rfl
        rw [this, Nat.sub_add_cancel (Nat.le_of_lt ja), Nat.mod_self]
      have e5 : ∀ y, (pw ((o - a % o) % o) * (pw (a % o) * y)) % s = y % s := fun y => by rw [← Nat.mul_assoc, cg_mul e4 (rfl : y % s = y % s), Nat.one_mul]
      have e6 := cg_mul (rfl : pw ((o - a % o) % o) % s = _) e3
      rw [e5, e5, Nat.mod_eq_of_lt (dv hb), Nat.mod_eq_of_lt (dv hc)] at e6
      exact e6
    · have e3 := cg_cancel ho e2
      rw [Nat.mod_mod, Nat.mod_mod] at e3
      exact e3
end VL
namespace VL
open PySem PySem.Spec PyProof.Rows L2 HM
end VL
namespace VL
open PySem PySem.Spec PyProof.Rows L2 HM
end VL
namespace VL
open PySem PySem.Spec PyProof.Rows L2 HM
def spRen (p : Addr) : VSp := fun ds t Q _ => ∃ (n : Nat) (m : Nat → Nat → Nat), ds = [.obj p, houD n m] ∧ Hse n m ∧ n ≤ 60 ∧ ∀ m', Hse n m' → Q (houD n m') t
def spHouse (p : Addr) : VSp := fun ds t Q _ => ds = [.obj p] ∧ ∀ (n : Nat) (m : Nat → Nat → Nat), Hse n m → n ≤ 60 → Q (houD n m) t
end VL
namespace VL
open PySem PySem.Spec PyProof.Rows L2 HM
theorem rep_ints (n : Nat) : List.flatten (List.replicate n [Dt.int 0]) = (List.replicate n (0 : Int)).map Dt.int := by
  induction n with
  | zero => rfl
  | succ n ih => rw [List.replicate_succ, List.flatten_cons, ih, List.replicate_succ]; rfl
theorem objD_at {n : Nat} {A : Nat → Addr} {i : Nat} (h : i < n) : atI (objD n A) (i : Int) = some (.obj (A i)) := atI_nat (by unfold objD; rw [List.getElem?_map, List.getElem?_range h]; rfl)
theorem tn_cons {n : Nat} {fs : List Nat} (hn : 0 < n) (h : fs.Perm ((List.range (n - 1)).map (· + 1))) : Tn n (0 :: fs) := by
  have e : List.range n = 0 :: (List.range (n - 1)).map (· + 1) := by
    obtain ⟨k, rfl⟩ : ∃ k, n = k + 1 := ⟨n - 1, by omega⟩
    rw [List.range_succ_eq_map]
    rfl
  unfold Tn
  rw [e]
  exact List.Perm.cons 0 h
/-- rows written by places -/
theorem rows_hou {n : Nat} {r : Nat → List Int} (hl : ∀ i, i < n → (r i).length = n) (hr : ∀ i j, i < n → j < n → ∃ k : Nat, (r i)[j]? = some (k : Int)) : Dt.lst ((List.range n).map fun i => .lst ((r i).map Dt.int)) = houD n fun i j => ((r i).getD j 0).toNat := by
  unfold houD
  refine congrArg Dt.lst (List.map_congr_left fun i hi => ?_)
  have hi := List.mem_range.mp hi
  unfold rowD
  refine congrArg Dt.lst (List.ext_getElem? fun j => ?_)
  by_cases hj : j < n
  · obtain ⟨k, hk⟩ := hr i j hi hj
    unfold nsD
    rw [List.getElem?_map, hk, List.getElem?_map, List.getElem?_map, List.getElem?_range hj]
    show some (Dt.int (k : Int)) = some (nD ((r i).getD j 0).toNat)
    rw [List.getD_eq_getElem?_getD, hk]
    rfl
  · rw [List.getElem?_eq_none (by rw [List.length_map, hl i hi]; omega), List.getElem?_eq_none (by rw [nsD_len, List.length_map, List.length_range]; omega)]
end VL
namespace VL
open PySem PySem.Spec PyProof.Rows L2 HM
end VL
namespace VL
open PySem PySem.Spec PyProof.Rows L2 HM
end VL
namespace VL
open PySem PySem.Spec PyProof.Rows L2 HM
def enD (xs : List Dt) : List Dt := zipD (rngD 0 xs.length) xs
theorem enD_get {xs : List Dt} {i : Nat} {z : Dt} (h : (enD xs)[i]? = some z) : ∃ x, xs[i]? = some x ∧ z = .tup [.int (i : Int), x] := by
  obtain ⟨a, b, ea, eb, rfl⟩ := zipD_get h
  rw [(rngD_get0 ea).1]
  exact ⟨b, eb, rfl⟩
theorem enD_len (xs : List Dt) : (enD xs).length = xs.length := by unfold enD; rw [zipD_len, rngD_len, Nat.min_self]
section
variable {c : Fc} {X : Cx} {tas : VTA}
theorem wk_enL {K : PySem.W.Frag} {F : Hp} {a : Addr} {xs : List V} {ds : List Dt} (h : F a = some (.lst xs)) (rx : Rps F xs ds) : Wk c.am (Ite K a) F (enD ds) := fun c _ F1 H σ env n r u i => by
  have hA : SqL K H a xs := .inl (.inl (r.sub _ _ (u _ _ h)))
  refine ⟨fun hi => ?_, fun hi => ⟨xs, hA, by rw [enD_len] at hi; rw [rx.len]; exact hi⟩⟩
  obtain ⟨d, ed, ez⟩ := enD_get (List.getElem?_eq_getElem hi)
  obtain ⟨v, e1, p1⟩ := rx.get ed
  refine ⟨⟨xs, v, hA, e1⟩, fun x H' y => ?_⟩
  obtain ⟨T, y1, rfl, nT, rfl, hy⟩ := y
  have q1 := hy xs hA
  rw [e1] at q1
  cases q1
  obtain ⟨_, _, nf⟩ := r.new0 nT
  exact ⟨upd F1 T (.tup [.int (i : Nat), v]), _, r.layF nT _, up_lay nf, List.getElem?_eq_getElem hi, by rw [ez]; exact .tup upd_same (.cons (.int _) (.cons ((p1.up u).up (up_lay nf)) .nil))⟩
def viEnum (ta : VTA) : VTI := fun env n Q => ta env n fun ds env1 n1 => ∃ xs, ds = [.lst xs] ∧ Q (enD xs) env1 n1
theorem vi_enum {e : Expr} {p pos tpos : Pos} {elts : List Expr} {kk : Nat} (hg : Gl X "enumerate") (hm : X.mg "enumerate" = none) (ha : PA X [e] (aOf c tas)) (hs : starEach [e] X.env = [(false, eval e X.env)] := by rfl) :
    PI X (.Tuple elts kk tpos) (.Call (.Name "enumerate" p) [e] [] pos) (iOf c (viEnum tas)) := PI.imp (pi_enum hg hm ha hs) fun σ H R ⟨F, env, n, Q, r, q, k⟩ => ⟨F, env, n, _, r, q, fun vs H' F' ds env' n' r' w rp qd => by
  obtain ⟨xs, rfl, qd⟩ := qd
  obtain ⟨v, rfl, p1⟩ := rp.one
  obtain ⟨a, us, rfl, hF, rx⟩ := p1.lst_inv
  exact ⟨a, us, rfl, .inl (.inl (r'.sub _ _ hF)), k _ H' F' _ env' n' r' w (wk_enL hF rx) qd⟩⟩
end
end VL
namespace VL
open PySem PySem.Spec PyProof.Rows L2 HM
structure Sub (n : Nat) (m : Nat → Nat → Nat) (l : List Nat) : Prop where
  up : l.Pairwise (· < ·)
  lt : ∀ x ∈ l, x < n
  ze : 0 ∈ l
  mul : ∀ x ∈ l, ∀ y ∈ l, m x y ∈ l
theorem IsPt.sub {n : Nat} {m : Nat → Nat → Nat} {gs l : List Nat} (h : Hse n m) (hg : ∀ g ∈ gs, g < n) (hl : IsPt m gs l) : Sub n m l :=
  ⟨hl.up, fun x hx => ((hl.mem x).mp hx).lt h.pos h.lt hg, (hl.mem 0).mpr .zero, fun x hx y hy => (hl.mem _).mpr (h.rch hg ((hl.mem x).mp hx) ((hl.mem y).mp hy))⟩
theorem len_le_of_sub {k l : List Nat} (nd : k.Nodup) (sub : ∀ x ∈ k, x ∈ l) : k.length ≤ l.length := by
  have := few_of_nodup (n := l.length) (l := k.map fun x => l.idxOf x) (by
    refine List.pairwise_map.mpr (List.Pairwise.imp_of_mem (fun {x y} hx hy hxy e => hxy ?_) nd)
    have h1 : l.idxOf x < l.length := List.idxOf_lt_length_of_mem (sub x hx)
    have h2 : l.idxOf y < l.length := List.idxOf_lt_length_of_mem (sub y hy)
    have e1 : l[l.idxOf x] = x := List.getElem_idxOf h1
    have e2 : l[l.idxOf y] = y := List.getElem_idxOf h2
    rw [← e1, ← e2]
    congr 1) fun x hx => by
    obtain ⟨y, hy, rfl⟩ := List.mem_map.mp hx
    exact List.idxOf_lt_length_of_mem (sub y hy)
  rwa [List.length_map] at this
theorem full_of_nodup {k l : List Nat} (nd : k.Nodup) (sub : ∀ x ∈ k, x ∈ l) (len : l.length ≤ k.length) : ∀ x ∈ l, x ∈ k := fun x hx => by
  rcases Classical.em (x ∈ k) with z | z
  · exact z
  · have := len_le_of_sub (k := x :: k) (l := l) (List.nodup_cons.mpr ⟨z, nd⟩) fun y hy => by
      rcases List.mem_cons.mp hy with rfl | hy
      · exact hx
      · exact sub y hy
    rw [List.length_cons] at this
    omega
section
variable {n : Nat} {m : Nat → Nat → Nat} {P O : List Nat}
theorem Hse.inv2 (h : Hse n m) {a : Nat} (ha : a < n) : ∃ b, b < n ∧ m a b = 0 ∧ m b a = 0 := by
  obtain ⟨b, hb, e⟩ := h.inv ha
  obtain ⟨c, hc, e2⟩ := h.inv hb
  have : a = c := by
    have := h.as a b c ha hb hc
    rw [e, e2, h.zl c hc, h.zr a ha] at this
    exact this.symm
  exact ⟨b, hb, e, by rw [this]; exact e2⟩
theorem Hse.rc (h : Hse n m) {a b c : Nat} (ha : a < n) (hb : b < n) (hc : c < n) (e : m a c = m b c) : a = b := by
  obtain ⟨d, hd, e1, _⟩ := h.inv2 hc
  have h1 := h.as a c d ha hc hd
  have h2 := h.as b c d hb hc hd
  rw [e1, h.zr _ ha] at h1
  rw [e1, h.zr _ hb] at h2
  rw [← h1, ← h2, e]
theorem Sub.nd (s : Sub n m P) : P.Nodup := s.up.imp fun h => Nat.ne_of_lt h
theorem Sub.inv (h : Hse n m) (s : Sub n m P) {x : Nat} (hx : x ∈ P) : ∃ y ∈ P, m x y = 0 ∧ m y x = 0 := by
  have nd : (P.map (m x)).Nodup := List.pairwise_map.mpr (List.Pairwise.imp_of_mem (fun {a b} ha hb hab e => hab (h.cn x a b (s.lt x hx) (s.lt a ha) (s.lt b hb) e)) s.nd)
  have := full_of_nodup nd (fun z hz => by
    obtain ⟨y, hy, rfl⟩ := List.mem_map.mp hz
    exact s.mul x hx y hy) (by rw [List.length_map]; exact Nat.le_refl _) 0 s.ze
  obtain ⟨y, hy, e⟩ := List.mem_map.mp this
  obtain ⟨b, hb, e1, e2⟩ := h.inv2 (s.lt x hx)
  have : y = b := h.cn x y b (s.lt x hx) (s.lt y hy) hb (by rw [e, e1])
  exact ⟨y, hy, e, by rw [this]; exact e2⟩
def cls (m : Nat → Nat → Nat) (P : List Nat) (g h : Nat) : Prop := ∃ x ∈ P, m x g = h
theorem Sub.refl (h : Hse n m) (s : Sub n m P) {g : Nat} (hg : g < n) : cls m P g g := ⟨0, s.ze, h.zl g hg⟩
theorem Sub.lt2 (h : Hse n m) (s : Sub n m P) {g k : Nat} (hg : g < n) (c : cls m P g k) : k < n := by
  obtain ⟨x, hx, rfl⟩ := c
  exact h.lt x g (s.lt x hx) hg
theorem Sub.symm (h : Hse n m) (s : Sub n m P) {g k : Nat} (hg : g < n) (c : cls m P g k) : cls m P k g := by
  obtain ⟨x, hx, rfl⟩ := c
  obtain ⟨y, hy, _, e⟩ := s.inv h hx
  exact ⟨y, hy, by rw [← h.as y x g (s.lt y hy) (s.lt x hx) hg, e, h.zl g hg]⟩
theorem Sub.trans (h : Hse n m) (s : Sub n m P) {g k l : Nat} (hg : g < n) (c : cls m P g k) (d : cls m P k l) : cls m P g l := by
  obtain ⟨x, hx, rfl⟩ := c
  obtain ⟨y, hy, rfl⟩ := d
  exact ⟨m y x, s.mul y hy x hx, h.as y x g (s.lt y hy) (s.lt x hx) hg⟩
def rp (m : Nat → Nat → Nat) (P : List Nat) (g : Nat) : Nat := P.foldr (fun x r => min (m x g) r) g
theorem rp_le (g : Nat) : ∀ P : List Nat, rp m P g ≤ g ∧ ∀ x ∈ P, rp m P g ≤ m x g
  | [] => ⟨Nat.le_refl _, fun x hx => by cases hx⟩
  | y :: P => by
    obtain ⟨h1, h2⟩ := rp_le g P
    have e : rp m (y :: P) g = min (m y g) (rp m P g) := rfl
    rw [e]
    refine ⟨by omega, fun x hx => ?_⟩
    rcases List.mem_cons.mp hx with rfl | hx
    · omega
    · have := h2 x hx
      omega
theorem rp_is (g : Nat) : ∀ P : List Nat, rp m P g = g ∨ ∃ x ∈ P, m x g = rp m P g
  | [] => .inl rfl
  | y :: P => by
    have e : rp m (y :: P) g = min (m y g) (rp m P g) := rfl
    rcases Nat.le_total (m y g) (rp m P g) with hle | hle
    · exact .inr ⟨y, List.mem_cons_self, by rw [e]; omega⟩
    · rw [e, Nat.min_eq_right hle]
      rcases rp_is g P with h | ⟨x, hx, h⟩
      · exact .inl h
      · exact .inr ⟨x, List.mem_cons_of_mem _ hx, h⟩
theorem Sub.rp_cls (h : Hse n m) (s : Sub n m P) {g : Nat} (hg : g < n) : cls m P g (rp m P g) := by
  rcases rp_is (m := m) g P with e | ⟨x, hx, e⟩
  · rw [e]; exact s.refl h hg
  · exact ⟨x, hx, e⟩
theorem rp_min {g k : Nat} (c : cls m P g k) : rp m P g ≤ k := by
  obtain ⟨x, hx, rfl⟩ := c
  exact (rp_le g P).2 x hx
theorem Sub.rp_eq (h : Hse n m) (s : Sub n m P) {g k : Nat} (hg : g < n) (c : cls m P g k) : rp m P g = rp m P k := by
  have hk := s.lt2 h hg c
  have h1 := rp_min (s.trans h hg c (s.rp_cls h hk))
  have h2 := rp_min (s.trans h hk (s.symm h hg c) (s.rp_cls h hg))
  omega
theorem Sub.cls_of_rp (h : Hse n m) (s : Sub n m P) {g k : Nat} (hg : g < n) (hk : k < n) (e : rp m P g = rp m P k) : cls m P g k := by
  have h1 := s.rp_cls h hg
  rw [e] at h1
  exact s.trans h hg h1 (s.symm h hk (s.rp_cls h hk))
theorem Sub.rp_lt (h : Hse n m) (s : Sub n m P) {g : Nat} (hg : g < n) : rp m P g < n := Nat.lt_of_le_of_lt (rp_le g P).1 hg
theorem Sub.rp_rp (h : Hse n m) (s : Sub n m P) {g : Nat} (hg : g < n) : rp m P (rp m P g) = rp m P g := (s.rp_eq h hg (s.rp_cls h hg)).symm
def isL (m : Nat → Nat → Nat) (P : List Nat) (g : Nat) : Bool := decide (rp m P g = g)
def lst (m : Nat → Nat → Nat) (P : List Nat) (j : Nat) : List Nat := (List.range j).filter (isL m P)
def plc (m : Nat → Nat → Nat) (P : List Nat) (g : Nat) : Nat := (lst m P (rp m P g)).length
theorem lst_succ (j : Nat) : lst m P (j + 1) = lst m P j ++ (if isL m P j = true then [j] else []) := by
  unfold lst
  rw [List.range_succ, List.filter_append]
  congr 1
  by_cases e : isL m P j = true
  · rw [if_pos e]; simp [e]
  · rw [if_neg e]; simp [e]
theorem lst_mono {i j : Nat} (h : i ≤ j) : (lst m P i).length ≤ (lst m P j).length := by
  induction h with
  | refl => exact Nat.le_refl _
  | step h ih => rw [lst_succ, List.length_append]; omega
theorem plc_inj {a b : Nat} (ha : isL m P a = true) (hb : isL m P b = true) (e : (lst m P a).length = (lst m P b).length) : a = b := by
  have key : ∀ {a b : Nat}, isL m P a = true → a < b → (lst m P a).length < (lst m P b).length := fun {a b} ha hab => by
    have := lst_mono (m := m) (P := P) (show a + 1 ≤ b by omega)
    rw [lst_succ, if_pos ha, List.length_append, List.length_singleton] at this
    omega
  rcases Nat.lt_trichotomy a b with z | z | z
  · have := key ha z; omega
  · exact z
  · have := key hb z; omega
theorem Sub.isL_rp (h : Hse n m) (s : Sub n m P) {g : Nat} (hg : g < n) : isL m P (rp m P g) = true := decide_eq_true (s.rp_rp h hg)
theorem Sub.plc_iff (h : Hse n m) (s : Sub n m P) {g k : Nat} (hg : g < n) (hk : k < n) : plc m P g = plc m P k ↔ rp m P g = rp m P k :=
  ⟨fun e => plc_inj (s.isL_rp h hg) (s.isL_rp h hk) e, fun e => by unfold plc; rw [e]⟩
def phi (m : Nat → Nat → Nat) (P O : List Nat) (g : Nat) : Bool := O.all fun k => decide (rp m P (m g k) = rp m P g)
def mkN (n : Nat) (m : Nat → Nat → Nat) (P O : List Nat) : Nat := ((lst m P n).filter (phi m P O)).length
def PhiN (n : Nat) (m : Nat → Nat → Nat) (P O : List Nat) : Nat := ((List.range n).filter (phi m P O)).length
theorem phi_iff (h : Hse n m) (s : Sub n m P) (ho : ∀ k ∈ O, k < n) {g : Nat} (hg : g < n) : phi m P O g = true ↔ ∀ k ∈ O, cls m P g (m g k) := by
  unfold phi
  rw [List.all_eq_true]
  exact ⟨fun q k hk => s.cls_of_rp h hg (h.lt g k hg (ho k hk)) (of_decide_eq_true (q k hk)).symm, fun q k hk => decide_eq_true (s.rp_eq h hg (q k hk)).symm⟩
theorem phi_cls (h : Hse n m) (s : Sub n m P) (ho : ∀ k ∈ O, k < n) {g k : Nat} (hg : g < n) (c : cls m P g k) : phi m P O g = phi m P O k := by
  have hk := s.lt2 h hg c
  have one : ∀ {g k : Nat}, g < n → cls m P g k → phi m P O g = true → phi m P O k = true := fun {g k} hg c e => by
    have hk := s.lt2 h hg c
    rw [phi_iff h s ho hg] at e
    rw [phi_iff h s ho hk]
    intro q hq
    have hqn := ho q hq
    obtain ⟨x, hx, rfl⟩ := id c
    refine s.trans h hk (s.symm h hg c) (s.trans h hg (e q hq) ⟨x, hx, (h.as x g q (s.lt x hx) hg hqn).symm⟩)
  cases e : phi m P O g with
  | true => exact (one hg c e).symm
  | false =>
    cases e2 : phi m P O k with
    | true => rw [one hk (s.symm h hg c) e2] at e; cases e
    | false => rfl
theorem len_flat {f : Nat → List Nat} {c : Nat} : ∀ {l : List Nat}, (∀ g ∈ l, (f g).length = c) → (l.flatMap f).length = l.length * c
  | [], _ => by simp
  | g :: l, h => by
    rw [List.flatMap_cons, List.length_append, len_flat fun x hx => h x (List.mem_cons_of_mem _ hx), h g List.mem_cons_self, List.length_cons, Nat.succ_mul]
    omega
theorem lst_mem {j g : Nat} : g ∈ lst m P j ↔ g < j ∧ rp m P g = g := by
  unfold lst isL
  rw [List.mem_filter, List.mem_range, decide_eq_true_iff]
theorem mk_mul (h : Hse n m) (s : Sub n m P) (ho : ∀ k ∈ O, k < n) : mkN n m P O * P.length = PhiN n m P O := by
  have pm : (((lst m P n).filter (phi m P O)).flatMap fun g => P.map fun x => m x g).Perm ((List.range n).filter (phi m P O)) := by
    refine (List.perm_ext_iff_of_nodup ?_ (List.nodup_range.filter _)).mpr fun k => ?_
    · refine List.pairwise_flatMap.mpr ⟨fun g hg => ?_, ?_⟩
      · obtain ⟨hg1, _⟩ := lst_mem.mp (List.mem_filter.mp hg).1
        exact List.pairwise_map.mpr (List.Pairwise.imp_of_mem (fun {a b} ha hb hab e => hab (h.rc (s.lt a ha) (s.lt b hb) hg1 e)) s.nd)
      · refine List.Pairwise.imp_of_mem (fun {a b} ha hb hab x hx y hy e => hab ?_) (List.Pairwise.filter (phi m P O) (List.Pairwise.filter (isL m P) (show List.Pairwise (· ≠ ·) (List.range n) from List.nodup_range)))
        obtain ⟨a1, a2⟩ := lst_mem.mp (List.mem_filter.mp ha).1
        obtain ⟨b1, b2⟩ := lst_mem.mp (List.mem_filter.mp hb).1
        obtain ⟨p, hp, rfl⟩ := List.mem_map.mp hx
        obtain ⟨q, hq, rfl⟩ := List.mem_map.mp hy
        have c1 := s.rp_eq h a1 ⟨p, hp, rfl⟩
        have c2 := s.rp_eq h b1 ⟨q, hq, rfl⟩
        rw [← a2, ← b2, c1, c2, e]
    · rw [List.mem_flatMap, List.mem_filter, List.mem_range]
      constructor
      · rintro ⟨g, hg, hk⟩
        obtain ⟨g1, g2⟩ := List.mem_filter.mp hg
        obtain ⟨g3, _⟩ := lst_mem.mp g1
        obtain ⟨x, hx, rfl⟩ := List.mem_map.mp hk
        exact ⟨h.lt x g (s.lt x hx) g3, by rw [← phi_cls h s ho g3 ⟨x, hx, rfl⟩]; exact g2⟩
      · rintro ⟨hk, e⟩
        have c := s.rp_cls h hk
        refine ⟨rp m P k, List.mem_filter.mpr ⟨lst_mem.mpr ⟨s.rp_lt h hk, s.rp_rp h hk⟩, by rw [← phi_cls h s ho hk c]; exact e⟩, ?_⟩
        obtain ⟨x, hx, e⟩ := s.symm h hk c
        exact List.mem_map.mpr ⟨x, hx, e⟩
  have := pm.length_eq
  rw [len_flat (c := P.length) fun g _ => by rw [List.length_map]] at this
  exact this
/-- l is P led by g -/
structure Led (n : Nat) (m : Nat → Nat → Nat) (P : List Nat) (g : Nat) (l : List Nat) : Prop where
  up : l.Pairwise (· < ·)
  ex : ∃ b, b < n ∧ m g b = 0 ∧ m b g = 0 ∧ ∀ y, y ∈ l ↔ ∃ x ∈ P, m (m b x) g = y
theorem Led.sub (h : Hse n m) (s : Sub n m P) {g : Nat} (hg : g < n) {l : List Nat} (L : Led n m P g l) : Sub n m l := by
  obtain ⟨b, hb, e1, e2, mem⟩ := L.ex
  refine ⟨L.up, fun y hy => ?_, ?_, fun y hy z hz => ?_⟩
  · obtain ⟨x, hx, rfl⟩ := (mem y).mp hy
    exact h.lt _ _ (h.lt b x hb (s.lt x hx)) hg
  · exact (mem 0).mpr ⟨0, s.ze, by rw [h.zr b hb]; exact e2⟩
  · obtain ⟨x, hx, rfl⟩ := (mem y).mp hy
    obtain ⟨x2, hx2, rfl⟩ := (mem z).mp hz
    have hx' := s.lt x hx
    have hx2' := s.lt x2 hx2
    refine (mem _).mpr ⟨m x x2, s.mul x hx x2 hx2, ?_⟩
    have hbx := h.lt b x hb hx'
    have hbx2 := h.lt b x2 hb hx2'
    rw [h.as (m b x) g (m (m b x2) g) hbx hg (h.lt _ _ hbx2 hg), ← h.as g (m b x2) g hg hbx2 hg, ← h.as g b x2 hg hb hx2', e1, h.zl x2 hx2', ← h.as b x x2 hb hx' hx2', h.as (m b x) x2 g hbx hx2' hg]
theorem Led.len (h : Hse n m) (s : Sub n m P) {g : Nat} (hg : g < n) {l : List Nat} (L : Led n m P g l) : l.length = P.length := by
  obtain ⟨b, hb, e1, e2, mem⟩ := L.ex
  have nd : (P.map fun x => m (m b x) g).Nodup := List.pairwise_map.mpr (List.Pairwise.imp_of_mem (fun {x y} hx hy hxy e => hxy (h.cn b x y hb (s.lt x hx) (s.lt y hy) (h.rc (h.lt b x hb (s.lt x hx)) (h.lt b y hb (s.lt y hy)) hg e))) s.nd)
  have pm : l.Perm (P.map fun x => m (m b x) g) := (List.perm_ext_iff_of_nodup (L.up.imp fun z => Nat.ne_of_lt z) nd).mpr fun y => by
    rw [mem y, List.mem_map]
  rw [pm.length_eq, List.length_map]
end
def spLLed : VSp := fun ds t Q _ => ∃ (n : Nat) (m : Nat → Nat → Nat) (P : List Nat) (g : Nat), ds = [houD n m, .tup (nsD P), nD g] ∧ Hse n m ∧ n ≤ 60 ∧ Sub n m P ∧ g < n ∧ ∀ l, Led n m P g l → Q (.tup (nsD l)) t
theorem sorted_ns {L : List Nat} (nd : L.Nodup) {ns : List Int} (h : ns.Perm (L.map fun i : Nat => (i : Int))) (hp : ns.Pairwise (· ≤ ·)) : ∃ l : List Nat, ns.map Dt.int = nsD l ∧ l.Perm L ∧ l.Pairwise (· < ·) := by
  obtain ⟨k, rfl, hk⟩ := perm_cast h
  refine ⟨k, (nsD_ints k).symm, hk, ?_⟩
  have nk : k.Nodup := (List.Perm.nodup_iff hk).mpr nd
  have h1 : k.Pairwise (fun a b : Nat => ((a : Nat) : Int) ≤ ((b : Nat) : Int)) := List.pairwise_map.mp hp
  exact (List.pairwise_and_iff.mpr ⟨h1, nk⟩).imp fun {a b} z => by have := z.1; have := z.2; omega
end VL
namespace VL
open PySem PySem.Spec PyProof.Rows L2 HM
def vIndex (ta tb : VTE) : VTE := fun env n Q => ta env n fun d1 env1 n1 => (∃ ds, d1 = .lst ds) ∧ vCons tb vNil env1 n1 fun as env2 n2 => ∃ (ns : List Int) (k : Int) (j : Nat), d1 = .lst (ns.map Dt.int) ∧ as = [.int k] ∧ ns[j]? = some k ∧ (∀ i z, i < j → ns[i]? = some z → z ≠ k) ∧ Q (nD j) env2 n2
section
variable {X : Cx} {c : Fc} {o e : Expr} {ta tb : VTE} {apos cpos : Pos}
theorem ve_index (ha : PE X o (tOf c ta)) (hb : PE X e (tOf c tb))
    (hbase : attributeBase o "index" X.env (eval o X.env) = eval o X.env := by rfl)
    (hfew : ((backTo cpos (starEach [e] X.env)).all (fun x => !x.1) && (backToKw cpos (keywordEach [] X.env)).all (fun x => x.1.isSome)
      && decide ([e].length + ([] : List Keyword).length + (if ([] : List Keyword).isEmpty then 0 else 1) < 30)) = true := by rfl)
    (hline : (apos.endLine == cpos.line) = true := by rfl) (hs : starEach [e] X.env = (false, eval e X.env) :: starEach [] X.env := by rfl) (hplain : (backTo cpos (starEach [] X.env)).any (·.1) = false := by rfl) :
    PE X (.Call (.Attribute o "index" apos) [e] [] cpos) (tOf c (vIndex ta tb)) :=
  PE.imp (pe_bm PySem.F.plainAttrs_list PySem.F.slot_list_index PySem.F.type_list_index mt_index ha (va_cons hb va_nil hs) hbase hfew hline hs hplain) fun σ H R ⟨F, env, n, Q, rr, q, k⟩ => by
    refine ⟨F, env, n, _, rr, q, fun v H1 F1 d1 env1 n1 r1 u1 p1 q1 => ?_⟩
    obtain ⟨⟨ds, rfl⟩, q1⟩ := q1
    obtain ⟨a, xs, rfl, hF, rx⟩ := p1.lst_inv
    refine ⟨.inl ⟨rfl, xs, .inl (.inl (r1.sub _ _ hF))⟩, F1, env1, n1, _, r1, q1, fun vs H2 F2 ds2 env2 n2 r2 u2 p2 q2 => ?_⟩
    · obtain ⟨ns, k', j, e1, rfl, e3, e4, q3⟩ := q2
      cases e1
      obtain ⟨v2, rfl, pv⟩ := p2.one
      rw [pv.int_inv]
      have ex : xs = ns.map V.int := rx.of_ints
      refine ⟨a, ns.map V.int, .int k', j, .int k', rfl, rfl, .inl (.inl (by rw [← ex]; exact r2.sub _ _ (u2 _ _ hF))), rfl, List.all_eq_true.mpr fun z hz => ?_, by rw [List.getElem?_map, e3]; rfl, by simp [eqV], fun i z hi hz => ?_, k _ _ F2 _ env2 n2 r2 (u1.trans u2) (.int _) q3⟩
      · obtain ⟨y, _, rfl⟩ := List.mem_map.mp hz
        rfl
      · rw [List.getElem?_map] at hz
        obtain ⟨y, hy, rfl⟩ := Option.map_eq_some_iff.mp hz
        have := e4 i y hi hy
        simpa [eqV] using this
end
def tabAm (am : Am) (Ps : List Addr) : Am where
  sp b := am.sp b ∨ b ∈ Ps
  ok n F H := am.ok n F H ∧ ∀ P ∈ Ps, GxR.TabG H P
  trk := fun {n F H b} ⟨h1, h2⟩ hb z => by
    rcases hb with hb | hb
    · exact am.trk h1 hb z
    · obtain ⟨ps, e, _⟩ := h2 b hb
      rw [e] at z; cases z
  ntp := fun {n F H b xs} ⟨h1, h2⟩ hb z => by
    rcases hb with hb | hb
    · exact am.ntp h1 hb z
    · obtain ⟨ps, e, _⟩ := h2 b hb
      rw [e] at z; cases z
  mono := fun {n F F' H H'} ⟨h1, h2⟩ e c uF => ⟨am.mono h1 (fun b hb => e b (.inl hb)) c uF, fun P hP => by
    obtain ⟨ps, h3, h4⟩ := h2 P hP
    exact ⟨ps, by rw [e P (.inr hP)]; exact h3, h4⟩⟩
theorem plain_tab {am : Am} {Ps : List Addr} (h : Plain am) : Plain (tabAm am Ps) := ⟨fun q => ⟨h.pl q.1, q.2⟩⟩
theorem tab_in {am : Am} {P : Addr} {Ps : List Addr} (no : ∀ {n F H b}, am.ok n F H → am.sp b → ∀ ps, H b ≠ some (.tbl ps)) (hP : P ∈ Ps) : TabIn (tabAm am Ps) P where
  sp := .inr hP
  rd := fun {n F H} h => h.2 P hP
  wr := fun {n F H H'} h t => ⟨am.mono h.1 (fun b hb => t.2 b fun z => by
    obtain ⟨ps, e, _⟩ := h.2 P hP
    exact no h.1 hb ps (by rw [z]; exact e)) (fun b oc x e2 => t.2 b fun z => by
    obtain ⟨ps, e, _⟩ := h.2 P hP
    rw [z, e] at e2
    cases e2) (Up.refl F), fun P' hP' => by
    by_cases z : P' = P
    · rw [z]; exact t.1
    · obtain ⟨ps, e1, e2⟩ := h.2 P' hP'
      exact ⟨ps, by rw [t.2 P' z]; exact e1, e2⟩⟩
def spLawT (K : PySem.W.Frag) (Ps : List Addr) : Sp := fun vs H Q _ => ∃ (a : Addr) (ns : List Int), vs = [.ref a] ∧ Scr K H a ns ∧ ns.length ≤ 63 ∧ (∀ P ∈ Ps, GxR.TabG H P) ∧ ∀ H', Q (.bl true) H'
end VL
namespace VL
open PySem PySem.Spec PyProof.Rows L2 HM
theorem pl_tn1 (l : List Nat) : pl (.tup (nsD l)) = true := pls_map (fun _ => rfl) l
section
variable {n : Nat} {m : Nat → Nat → Nat} {P : List Nat}
theorem Led.iff (h : Hse n m) (s : Sub n m P) {g : Nat} (hg : g < n) {l : List Nat} (L : Led n m P g l) (y : Nat) : y ∈ l ↔ y < n ∧ cls m P g (m g y) := by
  obtain ⟨b, hb, e1, e2, mem⟩ := L.ex
  rw [mem y]
  constructor
  · rintro ⟨x, hx, rfl⟩
    have hx' := s.lt x hx
    have hbx := h.lt b x hb hx'
    refine ⟨h.lt _ _ hbx hg, x, hx, ?_⟩
    rw [← h.as g (m b x) g hg hbx hg, ← h.as g b x hg hb hx', e1, h.zl x hx']
  · rintro ⟨hy, x, hx, e⟩
    have hx' := s.lt x hx
    refine ⟨x, hx, ?_⟩
    rw [h.as b x g hb hx' hg, e, ← h.as b g y hb hg hy, e2, h.zl y hy]
theorem Led.cls_eq (h : Hse n m) (s : Sub n m P) {g k : Nat} (hg : g < n) (c : cls m P g k) {l l' : List Nat} (L : Led n m P g l) (L' : Led n m P k l') : l = l' := by
  have hk := s.lt2 h hg c
  refine rising_eq L.up L'.up fun y => ?_
  rw [L.iff h s hg y, L'.iff h s hk y]
  refine and_congr_right fun hy => ?_
  have hgy := h.lt g y hg hy
  have c2 : cls m P (m g y) (m k y) := by
    obtain ⟨z, hz, rfl⟩ := id c
    exact ⟨z, hz, (h.as z g y (s.lt z hz) hg hy).symm⟩
  exact ⟨fun d => s.trans h hk (s.symm h hg c) (s.trans h hg d c2), fun d => s.trans h hg c (s.trans h hk d (s.symm h hgy c2))⟩
theorem Led.uniq (h : Hse n m) (s : Sub n m P) {g : Nat} (hg : g < n) {l l' : List Nat} (L : Led n m P g l) (L' : Led n m P g l') : l = l' := L.cls_eq h s hg (s.refl h hg) L'
theorem led_ex (h : Hse n m) (s : Sub n m P) {g : Nat} (hg : g < n) : ∃ l, Led n m P g l := by
  obtain ⟨b, hb, e1, e2⟩ := h.inv2 hg
  refine ⟨(List.range n).filter fun y => decide (y ∈ P.map fun x => m (m b x) g), List.Pairwise.filter _ List.pairwise_lt_range, b, hb, e1, e2, fun y => ?_⟩
  rw [List.mem_filter, List.mem_range, decide_eq_true_iff, List.mem_map]
  exact ⟨fun z => z.2, fun ⟨x, hx, e⟩ => ⟨by rw [← e]; exact h.lt _ _ (h.lt b x hb (s.lt x hx)) hg, x, hx, e⟩⟩
theorem lst_mul (h : Hse n m) (s : Sub n m P) : (lst m P n).length * P.length = n := by
  have := mk_mul (O := []) h s (fun _ z => by cases z)
  unfold mkN PhiN at this
  rw [List.filter_eq_self.mpr (show ∀ g ∈ lst m P n, phi m P [] g = true from fun g _ => rfl), List.filter_eq_self.mpr (show ∀ g ∈ List.range n, phi m P [] g = true from fun g _ => rfl), List.length_range] at this
  exact this
theorem lst_plc {s : Nat} {g : Nat} : ∀ {j : Nat}, (lst m P j)[s]? = some g → g < j ∧ plc m P g = s
  | 0, e => by simp [lst] at e
  | j + 1, e => by
    rw [lst_succ] at e
    by_cases hs : s < (lst m P j).length
    · rw [List.getElem?_append_left hs] at e
      have := lst_plc (j := j) e
      exact ⟨by omega, this.2⟩
    · rw [List.getElem?_append_right (by omega)] at e
      by_cases z : isL m P j = true
      · rw [if_pos z] at e
        have hz : s - (lst m P j).length = 0 := by
          have := (List.getElem?_eq_some_iff.mp e).1
          rw [List.length_singleton] at this
          omega
        rw [hz] at e
        cases e
        have hr : rp m P g = g := of_decide_eq_true z
        refine ⟨by omega, ?_⟩
        unfold plc
        rw [hr]
        omega
      · rw [if_neg z] at e
        simp at e
end
end VL
namespace VL
open PySem PySem.Spec PyProof.Rows L2 HM
end VL
namespace VL
open PySem PySem.Spec PyProof.Rows L2 HM
theorem Sub.zero {n : Nat} {m : Nat → Nat → Nat} {P : List Nat} (s : Sub n m P) : P[0]? = some 0 := by
  cases P with
  | nil => cases s.ze
  | cons a l =>
    have : a = 0 := by
      rcases List.mem_cons.mp s.ze with z | z
      · exact z.symm
      · have := (List.pairwise_cons.mp s.up).1 0 z
        omega
    rw [this]
    rfl
theorem mem_ints {L : List Nat} {i : Nat} : ((i : Nat) : Int) ∈ (L.map fun i : Nat => (i : Int)) ↔ i ∈ L := by
  rw [List.mem_map]
  exact ⟨fun ⟨a, ha, ea⟩ => by have : a = i := Int.ofNat_inj.mp ea; rw [← this]; exact ha, fun z => ⟨i, z, rfl⟩⟩
end VL
namespace VL
open PySem PySem.Spec PyProof.Rows L2 HM
section
variable {n : Nat} {m : Nat → Nat → Nat} {P : List Nat}
theorem led_zero (h : Hse n m) (s : Sub n m P) : Led n m P 0 P := ⟨s.up, 0, h.pos, h.zl 0 h.pos, h.zl 0 h.pos, fun y => by
  constructor
  · intro hy
    exact ⟨y, hy, by rw [h.zl y (s.lt y hy), h.zr y (s.lt y hy)]⟩
  · rintro ⟨x, hx, e⟩
    rw [h.zl x (s.lt x hx), h.zr x (s.lt x hx)] at e
    rw [← e]
    exact hx⟩
/-- by one, then by another -/
theorem Led.then_ (h : Hse n m) (s : Sub n m P) {a b : Nat} (ha : a < n) (hb : b < n) {l l2 : List Nat} (L : Led n m P a l) (L2 : Led n m l b l2) : Led n m P (m a b) l2 := by
  have hab := h.lt a b ha hb
  obtain ⟨l3, L3⟩ := led_ex h s hab
  have sl := L.sub h s ha
  have e : l3 = l2 := rising_eq L3.up L2.up fun y => by
    rw [L3.iff h s hab y, L2.iff h sl hb y]
    refine and_congr_right fun hy => ?_
    constructor
    · rintro ⟨z, hz, e⟩
      have hz' := s.lt z hz
      obtain ⟨c, hc, e1, e2⟩ := h.inv2 hb
      have hby := h.lt b y hb hy
      have hx := h.lt _ c hby hc
      have ex : m (m (m b y) c) b = m b y := by rw [h.as (m b y) c b hby hc hb, e2, h.zr _ hby]
      refine ⟨m (m b y) c, (L.iff h s ha _).mpr ⟨hx, z, hz, ?_⟩, ex⟩
      refine h.rc (h.lt z a hz' ha) (h.lt a _ ha hx) hb ?_
      rw [h.as z a b hz' ha hb, e, h.as a _ b ha hx hb, ex, h.as a b y ha hb hy]
    · rintro ⟨x, hx, e⟩
      obtain ⟨hxn, z, hz, e1⟩ := (L.iff h s ha x).mp hx
      have hz' := s.lt z hz
      exact ⟨z, hz, by rw [← h.as z a b hz' ha hb, e1, h.as a x b ha hxn hb, e, h.as a b y ha hb hy]⟩
  rw [← e]
  exact L3
theorem stay_sub (h : Hse n m) (s : Sub n m P) {S : List Nat} (up : S.Pairwise (· < ·)) (mem : ∀ g, g ∈ S ↔ g < n ∧ Led n m P g P) : Sub n m S :=
  ⟨up, fun x hx => ((mem x).mp hx).1, (mem 0).mpr ⟨h.pos, led_zero h s⟩, fun x hx y hy => by
    obtain ⟨h1, h2⟩ := (mem x).mp hx
    obtain ⟨h3, h4⟩ := (mem y).mp hy
    exact (mem _).mpr ⟨h.lt x y h1 h3, h2.then_ h s h1 h3 h4⟩⟩
end
end VL
namespace HM
open PySem PySem.Spec PyProof.Rows L2
end HM
namespace VL
open PySem PySem.Spec PyProof.Rows L2 HM
end VL
namespace HM
open PySem PySem.Spec PyProof.Rows L2
end HM
namespace VL
open PySem PySem.Spec PyProof.Rows L2 HM
end VL
namespace VL
open PySem PySem.Spec PyProof.Rows L2 HM
theorem two_ways1 {α : Type} (p : α → Nat → Bool) (H : α) (L : List α) (G : List Nat) : (G.filter (p H)).length + (G.map fun g => (L.filter (p · g)).length).sum = (G.map fun g => ((H :: L).filter (p · g)).length).sum := by
    induction G with
    | nil => rfl
    | cons g G ih =>
      rw [List.map_cons, List.map_cons, List.sum_cons, List.sum_cons, ← ih, List.filter_cons, List.filter_cons]
      by_cases e : p H g = true
      · rw [if_pos e, if_pos e, List.length_cons, List.length_cons]
        omega
      · rw [if_neg e, if_neg e]
        omega
/-- counted two ways -/
theorem two_ways {α : Type} (p : α → Nat → Bool) (G : List Nat) : ∀ L : List α, (L.map fun H => (G.filter (p H)).length).sum = (G.map fun g => (L.filter (p · g)).length).sum
  | [] => by
    rw [List.map_nil, List.sum_nil]
    induction G with
    | nil => rfl
    | cons g G ih => rw [List.map_cons, List.sum_cons, ← ih]; rfl
  | H :: L => by
    rw [List.map_cons, List.sum_cons, two_ways p G L]
    exact two_ways1 p H L G
theorem sum_ge {α : Type} {f : α → Nat} {c : Nat} : ∀ {L : List α}, (∀ x ∈ L, c ≤ f x) → L.length * c ≤ (L.map f).sum
  | [], _ => by simp
  | x :: L, h => by
    have := sum_ge (L := L) fun y hy => h y (List.mem_cons_of_mem _ hy)
    have := h x List.mem_cons_self
    rw [List.map_cons, List.sum_cons, List.length_cons, Nat.succ_mul]
    omega
theorem sum_le {α : Type} {f : α → Nat} {c : Nat} : ∀ {L : List α}, (∀ x ∈ L, f x ≤ c) → (L.map f).sum ≤ L.length * c
  | [], _ => by simp
  | x :: L, h => by
    have := sum_le (L := L) fun y hy => h y (List.mem_cons_of_mem _ hy)
    have := h x List.mem_cons_self
    rw [List.map_cons, List.sum_cons, List.length_cons, Nat.succ_mul]
    omega
def tb (n M : Nat) : Nat → Nat → Nat
  | 0, _ => 0
  | f + 1, k => if M ≤ k then 1 else (n - k) * (((List.range (M + 1)).filter fun j => decide (2 * k ≤ j)).map fun j => tb n M f j).foldr Nat.max 0 / (M - k)
theorem le_foldr_max {x : Nat} : ∀ {l : List Nat}, x ∈ l → x ≤ l.foldr Nat.max 0
  | y :: l, h => by
    rw [List.foldr_cons]
    rcases List.mem_cons.mp h with rfl | h
    · exact Nat.le_max_left _ _
    · exact Nat.le_trans (le_foldr_max h) (Nat.le_max_right _ _)
section
variable {n : Nat} {m : Nat → Nat → Nat} {K : List Nat}
theorem pt_ex (h : Hse n m) {gs : List Nat} (hg : ∀ g ∈ gs, g < n) : ∃ l, IsPt m gs l := by
  classical
  refine ⟨(List.range n).filter fun x => decide (Rch m gs x), List.Pairwise.filter _ List.pairwise_lt_range, fun x => ?_⟩
  rw [List.mem_filter, List.mem_range, decide_eq_true_iff]
  exact ⟨fun z => z.2, fun z => ⟨z.lt h.pos h.lt hg, z⟩⟩
theorem Sub.rch {P gs : List Nat} (s : Sub n m P) (hg : ∀ g ∈ gs, g ∈ P) : ∀ {x : Nat}, Rch m gs x → x ∈ P
  | _, .zero => s.ze
  | _, .step a g => s.mul _ (Sub.rch s hg a) _ (hg _ g)
/-- one gotten of itself -/
theorem rch_one (h : Hse n m) {gs : List Nat} {g : Nat} (hg : g ∈ gs) (hn : g < n) : Rch m gs g := by
  have : Rch m gs (m 0 g) := .step .zero hg
  rwa [h.zl g hn] at this
theorem Sub.twice (h : Hse n m) {P : List Nat} (s : Sub n m K) (s2 : Sub n m P) (hs : ∀ x ∈ K, x ∈ P) {g : Nat} (hg : g ∈ P) (hk : g ∉ K) : 2 * K.length ≤ P.length := by
  have hn := s2.lt g hg
  have := len_le_of_sub (k := K ++ K.map (m · g)) (l := P) (by
    rw [List.nodup_append]
    refine ⟨s.nd, List.pairwise_map.mpr (List.Pairwise.imp_of_mem (fun {a b} ha hb hab e => hab (h.rc (s.lt a ha) (s.lt b hb) hn e)) s.nd), fun a ha b hb e => ?_⟩
    subst e
    obtain ⟨y, hy, e⟩ := List.mem_map.mp hb
    obtain ⟨z, hz, e1, e2⟩ := s.inv h hy
    refine hk ?_
    have : m z (m y g) = g := by rw [← h.as z y g (s.lt z hz) (s.lt y hy) hn, e2, h.zl g hn]
    rw [← this, e]
    exact s.mul z hz a ha) fun x hx => by
    rcases List.mem_append.mp hx with hx | hx
    · exact hs x hx
    · obtain ⟨y, hy, rfl⟩ := List.mem_map.mp hx
      exact s2.mul y (hs y hy) g hg
  rw [List.length_append, List.length_map] at this
  omega
theorem cnt_in (s : Sub n m K) : ((List.range n).filter fun g => decide (g ∉ K)).length = n - K.length := by
  have e := (List.filter_append_perm (fun g => decide (g ∉ K)) (List.range n)).length_eq
  rw [List.length_append] at e
  have e2 : ((List.range n).filter fun g => !decide (g ∉ K)) = K := by
    refine rising_eq (List.Pairwise.filter _ List.pairwise_lt_range) s.up fun x => ?_
    rw [List.mem_filter, List.mem_range]
    constructor
    · rintro ⟨_, z⟩
      simpa using z
    · intro z
      exact ⟨s.lt x z, by simpa using z⟩
  rw [e2, List.length_range] at e
  omega
theorem few_over (h : Hse n m) (h60 : n ≤ 60) {M : Nat} : ∀ (f : Nat) {K : List Nat} {L : List (List Nat)}, Sub n m K → L.Nodup → (∀ H ∈ L, Sub n m H ∧ H.length = M ∧ ∀ x ∈ K, x ∈ H) → 60 < K.length * 2 ^ f → L.length ≤ tb n M f K.length := by
  intro f
  induction f with
  | zero =>
    intro K L s _ _ hb
    have := few_of_nodup s.nd s.lt
    omega
  | succ f ih =>
    intro K L s nd hL hb
    unfold tb
    split
    · rename_i hk
      -- one at most
      have he : ∀ H ∈ L, H = K := fun H hH => by
        obtain ⟨s2, e, hs⟩ := hL H hH
        exact rising_eq s2.up s.up fun x => ⟨fun z => full_of_nodup s.nd hs (by omega) x z, hs x⟩
      match L, nd, he with
      | [], _, _ => exact Nat.zero_le _
      | [_], _, _ => exact Nat.le_refl _
      | a :: b :: _, nd, he =>
        exact absurd (by rw [he a (by simp), he b (by simp)]) (fun z : a = b => (List.nodup_cons.mp nd).1 (by rw [z]; simp))
    · rename_i hk
      have hk : K.length < M := Nat.lt_of_not_le hk
      obtain ⟨B, eB⟩ : ∃ B, B = ((List.filter (fun j => decide (2 * K.length ≤ j)) (List.range (M + 1))).map fun j => tb n M f j).foldr Nat.max 0 := ⟨_, rfl⟩
      rw [← eB, Nat.le_div_iff_mul_le (by omega)]
      obtain ⟨G, eG⟩ : ∃ G, G = (List.range n).filter fun g => decide (g ∉ K) := ⟨_, rfl⟩
      have lG : G.length = n - K.length := by rw [eG, cnt_in s]
      have h1 : L.length * (M - K.length) ≤ (L.map fun H => (G.filter fun g => decide (g ∈ H)).length).sum := sum_ge fun H hH => by
        obtain ⟨s2, e, hs⟩ := hL H hH
        have := len_le_of_sub (k := H) (l := K ++ G.filter fun g => decide (g ∈ H)) s2.nd fun x hx => by
          by_cases z : x ∈ K
          · exact List.mem_append_left _ z
          · refine List.mem_append_right _ (List.mem_filter.mpr ⟨?_, decide_eq_true hx⟩)
            rw [eG]
            exact List.mem_filter.mpr ⟨List.mem_range.mpr (s2.lt x hx), decide_eq_true z⟩
        rw [List.length_append] at this
        omega
      have h2 : (G.map fun g => (L.filter fun H => decide (g ∈ H)).length).sum ≤ G.length * B := sum_le fun g hg => by
        rw [eG] at hg
        obtain ⟨hg1, hg2⟩ := List.mem_filter.mp hg
        have hgn := List.mem_range.mp hg1
        have hgk : g ∉ K := of_decide_eq_true hg2
        obtain ⟨K2, hK2⟩ := pt_ex h (gs := K ++ [g]) (fun x hx => by
          rcases List.mem_append.mp hx with hx | hx
          · exact s.lt x hx
          · rw [List.mem_singleton.mp hx]; exact hgn)
        have hlt : ∀ x ∈ K ++ [g], x < n := fun x hx => by
          rcases List.mem_append.mp hx with hx | hx
          · exact s.lt x hx
          · rw [List.mem_singleton.mp hx]; exact hgn
        have s2 := hK2.sub h hlt
        have hin : ∀ x ∈ K ++ [g], x ∈ K2 := fun x hx => (hK2.mem x).mpr (rch_one h hx (hlt x hx))
        have h2k := s.twice h s2 (fun x hx => hin x (List.mem_append_left _ hx)) (hin g (by simp)) hgk
        have hall : ∀ H ∈ L.filter (fun H => decide (g ∈ H)), Sub n m H ∧ H.length = M ∧ ∀ x ∈ K2, x ∈ H := fun H hH => by
          obtain ⟨z1, z2⟩ := List.mem_filter.mp hH
          obtain ⟨s3, e, hs⟩ := hL H z1
          refine ⟨s3, e, fun x hx => s3.rch (fun y hy => ?_) ((hK2.mem x).mp hx)⟩
          rcases List.mem_append.mp hy with hy | hy
          · exact hs y hy
          · rw [List.mem_singleton.mp hy]; exact of_decide_eq_true z2
        have := ih s2 (nd.sublist List.filter_sublist) hall (by
          have := Nat.mul_le_mul_right (2 ^ f) h2k
          rw [Nat.pow_succ] at hb
          have e9 : K.length * (2 ^ f * 2) = 2 * K.length * 2 ^ f := by
            rw [Nat.mul_comm (2 ^ f) 2, ← Nat.mul_assoc, Nat.mul_comm K.length 2]
          omega)
        cases hcase : L.filter (fun H => decide (g ∈ H)) with
        | nil => exact Nat.zero_le _
        | cons H Hs =>
          rw [hcase] at this hall
          obtain ⟨s3, e, hs⟩ := hall H List.mem_cons_self
          have hle := len_le_of_sub s2.nd hs
          refine Nat.le_trans this ?_
          rw [eB]
          refine le_foldr_max (List.mem_map.mpr ⟨K2.length, List.mem_filter.mpr ⟨List.mem_range.mpr (by omega), decide_eq_true h2k⟩, rfl⟩)
      rw [two_ways (fun H g => decide (g ∈ H)) G L] at h1
      rw [lG] at h2
      exact Nat.le_trans h1 h2
def tots (n : Nat) : Nat := (((List.range (n + 1)).filter fun M => decide (n % M = 0 ∧ 0 < M)).map fun M => tb n M 6 1).sum
theorem tots_le : ∀ n, n < 61 → tots n ≤ 2400 := by decide +kernel
theorem sum_le2 {f g : Nat → Nat} : ∀ {L : List Nat}, (∀ x ∈ L, f x ≤ g x) → (L.map f).sum ≤ (L.map g).sum
  | [], _ => by simp
  | x :: L, h => by
    have := sum_le2 (L := L) fun y hy => h y (List.mem_cons_of_mem _ hy)
    have := h x List.mem_cons_self
    rw [List.map_cons, List.map_cons, List.sum_cons, List.sum_cons]
    omega
/-- a house of at most sixty numbers has at most 2400 parts -/
theorem few_subs (h : Hse n m) (h60 : n ≤ 60) {L : List (List Nat)} (nd : L.Nodup) (hs : ∀ H ∈ L, Sub n m H) : L.length ≤ 2400 := by
  refine Nat.le_trans ?_ (tots_le n (by omega))
  obtain ⟨G, eG⟩ : ∃ G, G = (List.range (n + 1)).filter fun M => decide (n % M = 0 ∧ 0 < M) := ⟨_, rfl⟩
  have h1 : L.length * 1 ≤ (L.map fun H => (G.filter fun M => decide (H.length = M)).length).sum := sum_ge fun H hH => by
    have s := hs H hH
    have e := lst_mul h s
    have hp : 0 < H.length := List.length_pos_of_mem s.ze
    have hle := few_of_nodup s.nd s.lt
    refine List.length_pos_of_mem (a := H.length) (List.mem_filter.mpr ⟨?_, decide_eq_true rfl⟩)
    rw [eG]
    exact List.mem_filter.mpr ⟨List.mem_range.mpr (by omega), decide_eq_true ⟨Nat.mod_eq_zero_of_dvd ⟨_, by rw [Nat.mul_comm]; exact e.symm⟩, hp⟩⟩
  rw [two_ways (fun H M => decide (H.length = M)) G L, Nat.mul_one] at h1
  refine Nat.le_trans h1 ?_
  unfold tots
  rw [← eG]
  refine sum_le2 fun M hM => ?_
  have z : Sub n m [0] := ⟨List.pairwise_singleton .., fun x hx => by rw [List.mem_singleton.mp hx]; exact h.pos, by simp, fun x hx y hy => by
    rw [List.mem_singleton.mp hx, List.mem_singleton.mp hy, h.zl 0 h.pos]
    simp⟩
  exact few_over h h60 6 (K := [0]) z (nd.sublist List.filter_sublist) (fun H hH => by
    obtain ⟨z1, z2⟩ := List.mem_filter.mp hH
    refine ⟨hs H z1, of_decide_eq_true z2, fun x hx => ?_⟩
    rw [List.mem_singleton.mp hx]
    exact (hs H z1).ze) (by decide)
end
end VL
namespace VL
open PySem PySem.Spec PyProof.Rows L2 HM
def addT (ks : List (List Int)) (k : List Int) : List (List Int) := if k ∈ ks then ks else k :: ks
end VL
namespace VL
open PySem PySem.Spec PyProof.Rows L2 HM
end VL
namespace VL
open PySem PySem.Spec PyProof.Rows L2 HM
end VL
namespace VL
open PySem PySem.Spec PyProof.Rows L2 HM
/-- O holds all that H is led to, H first -/
structure Orb (n : Nat) (m : Nat → Nat → Nat) (H : List Nat) (O : List (List Nat)) : Prop where
  hd : O[0]? = some H
  nd : O.Nodup
  mem : ∀ K, K ∈ O ↔ ∃ g, g < n ∧ Led n m H g K
structure Kinds (n : Nat) (m : Nat → Nat → Nat) (T : List (List (List Nat))) : Prop where
  orb : ∀ O ∈ T, ∃ H, Sub n m H ∧ Orb n m H O
  all : ∀ K, Sub n m K → ∃ O ∈ T, K ∈ O
  nd : T.flatten.Nodup
def tnD (L : List (List Nat)) : List Dt := L.map fun K => .tup (nsD K)
def tlD (L : List (List Nat)) : List Dt := L.map fun K => .lst (nsD K)
section
variable {n : Nat} {m : Nat → Nat → Nat} {P K H : List Nat}
theorem Led.back (h : Hse n m) (s : Sub n m P) {a b : Nat} (ha : a < n) (hb : b < n) (e : m a b = 0) {l : List Nat} (L : Led n m P a l) : Led n m l b P := by
  have sl := L.sub h s ha
  obtain ⟨l2, L2⟩ := led_ex h sl hb
  have L3 := L.then_ h s ha hb L2
  rw [e] at L3
  have := L3.uniq h s h.pos (led_zero h s)
  rw [← this]
  exact L2
theorem Led.mono (h : Hse n m) {a : Nat} (s : Sub n m P) (s2 : Sub n m K) (ha : a < n) (hs : ∀ x ∈ P, x ∈ K) {l k : List Nat} (L : Led n m P a l) (L2 : Led n m K a k) : ∀ x ∈ l, x ∈ k := fun x hx => by
  obtain ⟨h1, z, hz, e⟩ := (L.iff h s ha x).mp hx
  exact (L2.iff h s2 ha x).mpr ⟨h1, z, hs z hz, e⟩
theorem Orb.sub (h : Hse n m) (s : Sub n m H) {O : List (List Nat)} (o : Orb n m H O) : ∀ K ∈ O, Sub n m K := fun K hK => by
  obtain ⟨g, hg, L⟩ := (o.mem K).mp hK
  exact L.sub h s hg
theorem Orb.self (o : Orb n m H O) : H ∈ O := List.mem_of_getElem? o.hd
theorem Orb.led (h : Hse n m) (s : Sub n m H) {O : List (List Nat)} (o : Orb n m H O) {K l : List Nat} (hK : K ∈ O) {a : Nat} (ha : a < n) (L : Led n m K a l) : l ∈ O := by
  obtain ⟨g, hg, L1⟩ := (o.mem K).mp hK
  exact (o.mem l).mpr ⟨m g a, h.lt g a hg ha, L1.then_ h s hg ha L⟩
/-- two orbits with one part in common are alike -/
theorem Orb.same (h : Hse n m) {H2 : List Nat} (s : Sub n m H) (s2 : Sub n m H2) {O O2 : List (List Nat)} (o : Orb n m H O) (o2 : Orb n m H2 O2) {K : List Nat} (h1 : K ∈ O) (h2 : K ∈ O2) : ∀ x ∈ O2, x ∈ O := fun x hx => by
  obtain ⟨g, hg, L⟩ := (o2.mem K).mp h2
  obtain ⟨k, hk, Lx⟩ := (o2.mem x).mp hx
  obtain ⟨b, hb, e1, e2⟩ := h.inv2 hg
  have L3 := L.back h s2 hg hb e1
  exact o.led h s (o.led h s h1 hb L3) hk Lx
/-- grown from each kind by each number, all parts are met -/
theorem all_met (h : Hse n m) {S : List (List Nat)} (h0 : [0] ∈ S) (led : ∀ K ∈ S, ∀ a, a < n → ∀ l, Led n m K a l → l ∈ S)
    (gr : ∀ K ∈ S, ∃ H, Sub n m H ∧ (∃ g, g < n ∧ Led n m H g K) ∧ ∀ y, y < n → ∃ l ∈ S, IsPt m (H ++ [y]) l) {K : List Nat} (s : Sub n m K) : K ∈ S := by
  suffices hh : ∀ (d : Nat) (P : List Nat), P ∈ S → Sub n m P → (∀ x ∈ P, x ∈ K) → K.length - P.length ≤ d → K ∈ S by
    have z : Sub n m [0] := ⟨List.pairwise_singleton .., fun x hx => by rw [List.mem_singleton.mp hx]; exact h.pos, by simp, fun x hx y hy => by
      rw [List.mem_singleton.mp hx, List.mem_singleton.mp hy, h.zl 0 h.pos]
      simp⟩
    exact hh _ [0] h0 z (fun x hx => by rw [List.mem_singleton.mp hx]; exact s.ze) (Nat.le_refl _)
  intro d
  induction d with
  | zero =>
    intro P hP sP hs hd
    have : K = P := rising_eq s.up sP.up fun x => ⟨fun z => full_of_nodup sP.nd hs (by omega) x z, hs x⟩
    rw [this]
    exact hP
  | succ d ih =>
    intro P hP sP hs hd
    by_cases hall : ∀ x ∈ K, x ∈ P
    · have : K = P := rising_eq s.up sP.up fun x => ⟨hall x, hs x⟩
      rw [this]
      exact hP
    · simp only [Classical.not_forall] at hall
      obtain ⟨x, hx, hxP⟩ := hall
      obtain ⟨H, sH, ⟨g, hg, L⟩, gr⟩ := gr P hP
      obtain ⟨b, hb, e1, e2⟩ := h.inv2 hg
      obtain ⟨K2, LK⟩ := led_ex h s hb
      have sK2 := LK.sub h s hb
      have LPH := L.back h sH hg hb e1
      have hHK := LPH.mono h sP s hb hs LK
      have hxn := s.lt x hx
      have hgx := h.lt g x hg hxn
      have hy := h.lt (m g x) b hgx hb
      -- y = g x b is in K led by b
      have hyK : m (m g x) b ∈ K2 := (LK.iff h s hb _).mpr ⟨hy, x, hx, by rw [← h.as b (m g x) b hb hgx hb, ← h.as b g x hb hg hxn, e2, h.zl x hxn]⟩
      obtain ⟨l, hl, pl⟩ := gr _ hy
      have hlt : ∀ z ∈ H ++ [m (m g x) b], z < n := fun z hz => by
        rcases List.mem_append.mp hz with hz | hz
        · exact sH.lt z hz
        · rw [List.mem_singleton.mp hz]; exact hy
      have sl := pl.sub h hlt
      have hHl : ∀ z ∈ H ++ [m (m g x) b], z ∈ l := fun z hz => (pl.mem z).mpr (rch_one h hz (hlt z hz))
      have hlK : ∀ z ∈ l, z ∈ K2 := fun z hz => sK2.rch (fun w hw => by
        rcases List.mem_append.mp hw with hw | hw
        · exact hHK w hw
        · rw [List.mem_singleton.mp hw]; exact hyK) ((pl.mem z).mp hz)
      obtain ⟨l2, L2⟩ := led_ex h sl hg
      have hl2 := led l hl g hg l2 L2
      have sl2 := L2.sub h sl hg
      have LK2 := LK.back h s hb hg e2
      have h2K := L2.mono h sl sK2 hg hlK LK2
      refine ih l2 hl2 sl2 h2K ?_
      have hyH : m (m g x) b ∉ H := fun z => hxP ((L.iff h sH hg x).mpr ⟨hxn, m (m g x) b, z, by rw [h.as (m g x) b g hgx hb hg, e2, h.zr _ hgx]⟩)
      have hlen : H.length + 1 ≤ l.length := by
        have := len_le_of_sub (k := m (m g x) b :: H) (l := l) (List.nodup_cons.mpr ⟨hyH, sH.nd⟩) fun z hz => by
          rcases List.mem_cons.mp hz with rfl | hz
          · exact hHl _ (by simp)
          · exact hHl z (List.mem_append_left _ hz)
        rwa [List.length_cons] at this
      rw [L2.len h sl hg]
      rw [L.len h sH hg] at hd
      omega
/-- grown by the least of a share, grown by all of the share -/
theorem grown_cls (h : Hse n m) (s : Sub n m H) {gs l : List Nat} (hgs : ∀ g ∈ gs, g < n) (hH : IsPt m gs H) {y k : Nat} (hy : y < n) (c : cls m H y k) (pl : IsPt m (gs ++ [k]) l) : IsPt m (H ++ [y]) l := by
  have hk := s.lt2 h hy c
  have l1 : ∀ g ∈ gs ++ [k], g < n := fun g hg => by
    rcases List.mem_append.mp hg with hg | hg
    · exact hgs g hg
    · rw [List.mem_singleton.mp hg]; exact hk
  have l2 : ∀ g ∈ H ++ [y], g < n := fun g hg => by
    rcases List.mem_append.mp hg with hg | hg
    · exact s.lt g hg
    · rw [List.mem_singleton.mp hg]; exact hy
  have sl := pl.sub h l1
  obtain ⟨l3, p3⟩ := pt_ex h l2
  have s3 := p3.sub h l2
  have i1 : ∀ g ∈ gs ++ [k], g ∈ l := fun g hg => (pl.mem g).mpr (rch_one h hg (l1 g hg))
  have i2 : ∀ g ∈ H ++ [y], g ∈ l3 := fun g hg => (p3.mem g).mpr (rch_one h hg (l2 g hg))
  have e : l = l3 := rising_eq pl.up p3.up fun x => ⟨fun hx => s3.rch (fun g hg => ?_) ((pl.mem x).mp hx), fun hx => sl.rch (fun g hg => ?_) ((p3.mem x).mp hx)⟩
  · rw [e]; exact p3
  · rcases List.mem_append.mp hg with hg | hg
    · exact i2 g (List.mem_append_left _ ((hH.mem g).mpr (rch_one h hg (hgs g hg))))
    · rw [List.mem_singleton.mp hg]
      obtain ⟨x, hx, rfl⟩ := c
      exact s3.mul x (i2 x (List.mem_append_left _ hx)) y (i2 y (by simp))
  · rcases List.mem_append.mp hg with hg | hg
    · exact sl.rch (fun z hz => i1 z (List.mem_append_left _ hz)) ((hH.mem g).mp hg)
    · rw [List.mem_singleton.mp hg]
      obtain ⟨x, hx, e⟩ := s.symm h hy c
      rw [← e]
      exact sl.mul x (sl.rch (fun z hz => i1 z (List.mem_append_left _ hz)) ((hH.mem x).mp hx)) k (i1 k (by simp))
end
end VL
namespace VL
open PySem PySem.Spec PyProof.Rows L2 HM
def kI (K : List Nat) : List Int := K.map fun i : Nat => (i : Int)
theorem kI_inj : ∀ {a b : List Nat}, kI a = kI b → a = b
  | [], [], _ => rfl
  | [], _ :: _, h => by cases h
  | _ :: _, [], h => by cases h
  | x :: a, y :: b, h => by
    unfold kI at h
    rw [List.map_cons, List.map_cons] at h
    injection h with h1 h2
    have : x = y := by omega
    rw [this, kI_inj h2]
theorem tnD_len (L : List (List Nat)) : (tnD L).length = L.length := by unfold tnD; rw [List.length_map]
theorem tnD_snoc (L : List (List Nat)) (K : List Nat) : tnD L ++ [.tup (nsD K)] = tnD (L ++ [K]) := by unfold tnD; rw [List.map_append]; rfl
/-- a set of keys and a list of the same -/
def Same (ks : List (List Int)) (L : List (List Nat)) : Prop := (∀ K, kI K ∈ ks ↔ K ∈ L) ∧ ks.length = L.length
theorem Same.in_ {ks : List (List Int)} {L : List (List Nat)} (s : Same ks L) (K : List Nat) : decide (kI K ∈ ks) = decide (K ∈ L) := decide_eq_decide.mpr (s.1 K)
theorem Same.add {ks : List (List Int)} {L : List (List Nat)} (s : Same ks L) {K : List Nat} (h : K ∉ L) : Same (addT ks (kI K)) (L ++ [K]) := by
  unfold addT
  rw [if_neg fun z => h ((s.1 K).mp z)]
  refine ⟨fun k => ?_, by rw [List.length_cons, List.length_append, s.2]; rfl⟩
  rw [List.mem_cons, List.mem_append, List.mem_singleton, s.1]
  exact ⟨fun z => z.elim (fun z => .inr (kI_inj z)) .inl, fun z => z.elim .inr fun z => .inl (by rw [z])⟩
end VL
namespace VL
open PySem PySem.Spec PyProof.Rows L2 HM
/-- a set of numbers, listed -/
def SetN (S : Int → Bool) (c : Nat) (W : List Nat) : Prop := (∀ j : Int, S j = true ↔ ∃ i ∈ W, j = (i : Int)) ∧ W.Nodup ∧ c ≤ W.length
theorem SetN.in_ {S : Int → Bool} {c : Nat} {W : List Nat} (h : SetN S c W) (k : Nat) : S (k : Int) = decide (k ∈ W) := by
  rw [Bool.eq_iff_iff, h.1, decide_eq_true_iff]
  exact ⟨fun ⟨i, hi, e⟩ => by have : k = i := by omega
                              rw [this]; exact hi, fun z => ⟨k, z, rfl⟩⟩
theorem SetN.add {S : Int → Bool} {c : Nat} {W : List Nat} (h : SetN S c W) (k : Nat) : ∃ W', SetN (fun j => S j || decide (j = (k : Int))) (if S (k : Int) = true then c else c + 1) W' ∧ ∀ y, y ∈ W' ↔ y ∈ W ∨ y = k := by
  by_cases z : k ∈ W
  · refine ⟨W, ⟨fun j => ?_, h.2.1, ?_⟩, fun y => ⟨.inl, fun q => q.elim id fun q => by rw [q]; exact z⟩⟩
    · rw [Bool.or_eq_true, h.1, decide_eq_true_iff]
      exact ⟨fun q => q.elim id fun q => ⟨k, z, q⟩, .inl⟩
    · rw [h.in_, if_pos (decide_eq_true z)]
      exact h.2.2
  · refine ⟨W ++ [k], ⟨fun j => ?_, ?_, ?_⟩, fun y => by rw [List.mem_append, List.mem_singleton]⟩
    · rw [Bool.or_eq_true, h.1, decide_eq_true_iff]
      constructor
      · rintro (⟨i, hi, e⟩ | e)
        · exact ⟨i, List.mem_append_left _ hi, e⟩
        · exact ⟨k, by simp, e⟩
      · rintro ⟨i, hi, e⟩
        rcases List.mem_append.mp hi with hi | hi
        · exact .inl ⟨i, hi, e⟩
        · rw [List.mem_singleton.mp hi] at e
          exact .inr e
    · rw [List.nodup_append]
      exact ⟨h.2.1, by simp, fun a ha b hb q => z (by rw [List.mem_singleton.mp hb] at q; rw [← q]; exact ha)⟩
    · rw [h.in_, if_neg (by simp [z]), List.length_append]
      exact Nat.succ_le_succ h.2.2
/-- what grows of a part: whole cosets -/
structure Grow (n : Nat) (m : Nat → Nat → Nat) (H hs fs W : List Nat) : Prop where
  rc : ∀ y ∈ W, Rch m hs y
  f0 : 0 ∈ fs
  ndf : fs.Nodup
  fw : ∀ f ∈ fs, f ∈ W
  co : ∀ f ∈ fs, ∀ h ∈ H, m h f ∈ W
  of : ∀ y ∈ W, ∃ f ∈ fs, ∃ h ∈ H, m h f = y
theorem Grow.all {n : Nat} {m : Nat → Nat → Nat} {H hs fs W : List Nat} (h : Hse n m) (s : Sub n m H) (hh : ∀ g ∈ hs, g < n) (G : Grow n m H hs fs W) (cl : ∀ f ∈ fs, ∀ g ∈ hs, m f g ∈ W) (y : Nat) : y ∈ W ↔ Rch m hs y := by
  refine ⟨G.rc y, fun r => ?_⟩
  induction r with
  | zero => exact G.fw 0 G.f0
  | @step a g r hg ih =>
    obtain ⟨f, hf, x, hx, e⟩ := G.of a ih
    have hfn := (G.rc f (G.fw f hf)).lt h.pos h.lt hh
    obtain ⟨f2, hf2, x2, hx2, e2⟩ := G.of _ (cl f hf g hg)
    have hf2n := (G.rc f2 (G.fw f2 hf2)).lt h.pos h.lt hh
    rw [← e, h.as x f g (s.lt x hx) hfn (hh g hg), ← e2, ← h.as x x2 f2 (s.lt x hx) (s.lt x2 hx2) hf2n]
    exact G.co f2 hf2 _ (s.mul x hx x2 hx2)
end VL
namespace VL
open PySem PySem.Spec PyProof.Rows L2 HM
theorem pt_zero (m : Nat → Nat → Nat) : IsPt m [] [0] := ⟨List.pairwise_singleton .., fun x => by
  rw [List.mem_singleton]
  constructor
  · rintro rfl
    exact .zero
  · intro r
    cases r with
    | zero => rfl
    | step _ hg => cases hg⟩
theorem sub_zero {n : Nat} {m : Nat → Nat → Nat} (h : Hse n m) : Sub n m [0] := (pt_zero m).sub h fun g hg => by cases hg
theorem orb_zero {n : Nat} {m : Nat → Nat → Nat} (h : Hse n m) : Orb n m [0] [[0]] := ⟨rfl, by simp, fun K => by
  rw [List.mem_singleton]
  constructor
  · rintro rfl
    exact ⟨0, h.pos, led_zero h (sub_zero h)⟩
  · rintro ⟨g, hg, L⟩
    obtain ⟨b, hb, e1, e2, mem⟩ := L.ex
    refine rising_eq L.up (List.pairwise_singleton ..) fun y => ?_
    rw [mem y, List.mem_singleton]
    constructor
    · rintro ⟨x, hx, e⟩
      rw [List.mem_singleton.mp hx, h.zr b hb, e2] at e
      exact e.symm
    · rintro rfl
      exact ⟨0, by simp, by rw [h.zr b hb]; exact e2⟩⟩
theorem flat_ge : ∀ {T : List (List (List Nat))}, (∀ O ∈ T, O ≠ []) → T.length ≤ T.flatten.length
  | [], _ => Nat.le_refl _
  | O :: T, h => by
    have := flat_ge (T := T) fun O hO => h O (List.mem_cons_of_mem _ hO)
    have : 0 < O.length := List.length_pos_iff.mpr (h O List.mem_cons_self)
    rw [List.flatten_cons, List.length_append, List.length_cons]
    omega
theorem flat_snoc (T : List (List (List Nat))) (O : List (List Nat)) : (T ++ [O]).flatten = T.flatten ++ O := by simp
/-- what the search by kinds knows -/
structure Srch (n : Nat) (m : Nat → Nat → Nat) (T : List (List (List Nat))) (M : List (List Nat)) : Prop where
  nd : T.flatten.Nodup
  ze : [0] ∈ T.flatten
  len : M.length = T.length
  orb : ∀ (i : Nat) (O : List (List Nat)), T[i]? = some O → ∃ H gs, M[i]? = some gs ∧ IsPt m gs H ∧ (∀ g ∈ gs, g < n) ∧ gs.length + 1 ≤ H.length ∧ Orb n m H O
section
variable {n : Nat} {m : Nat → Nat → Nat} {T : List (List (List Nat))} {M : List (List Nat)}
theorem Srch.of_mem (S : Srch n m T M) {O : List (List Nat)} (hO : O ∈ T) : ∃ H gs, IsPt m gs H ∧ (∀ g ∈ gs, g < n) ∧ Orb n m H O := by
  obtain ⟨i, hi, e⟩ := List.getElem_of_mem hO
  obtain ⟨H, gs, _, h1, h2, _, h3⟩ := S.orb i O (by rw [List.getElem?_eq_getElem hi, e])
  exact ⟨H, gs, h1, h2, h3⟩
theorem Srch.few (h : Hse n m) (h60 : n ≤ 60) (S : Srch n m T M) : T.flatten.length ≤ 2400 ∧ T.length ≤ 2400 := by
  have h1 := few_subs h h60 S.nd fun K hK => by
    obtain ⟨O, hO, hK⟩ := List.mem_flatten.mp hK
    obtain ⟨H, gs, hp, hg, o⟩ := S.of_mem hO
    exact o.sub h (hp.sub h hg) K hK
  have h2 := flat_ge (T := T) fun O hO z => by
    obtain ⟨H, gs, hp, hg, o⟩ := S.of_mem hO
    have := o.hd
    rw [z] at this
    cases this
  exact ⟨h1, by omega⟩
theorem Srch.apart (h : Hse n m) (S : Srch n m T M) {l : List Nat} (s : Sub n m l) (hl : l ∉ T.flatten) {O : List (List Nat)} (o : Orb n m l O) : ∀ K ∈ O, K ∉ T.flatten := fun K hK hK2 => by
  obtain ⟨O2, hO2, hK2⟩ := List.mem_flatten.mp hK2
  obtain ⟨H, gs, hp, hg, o2⟩ := S.of_mem hO2
  exact hl (List.mem_flatten.mpr ⟨O2, hO2, o2.same h (hp.sub h hg) s o hK2 hK l o.self⟩)
theorem Srch.add (h : Hse n m) (S : Srch n m T M) {l gs : List Nat} (hp : IsPt m gs l) (hg : ∀ g ∈ gs, g < n) (hlen : gs.length + 1 ≤ l.length) (hl : l ∉ T.flatten) {O : List (List Nat)} (o : Orb n m l O) : Srch n m (T ++ [O]) (M ++ [gs]) := by
  have s := hp.sub h hg
  refine ⟨?_, by rw [flat_snoc]; exact List.mem_append_left _ S.ze, by rw [List.length_append, List.length_append, S.len]; rfl, fun i O2 hi => ?_⟩
  · rw [flat_snoc, List.nodup_append]
    exact ⟨S.nd, o.nd, fun a ha b hb e => S.apart h s hl o b hb (by rw [← e]; exact ha)⟩
  · rcases Nat.lt_or_ge i T.length with z | z
    · rw [List.getElem?_append_left z] at hi
      obtain ⟨H, gs2, h1, h2⟩ := S.orb i O2 hi
      exact ⟨H, gs2, by rw [List.getElem?_append_left (by rw [S.len]; exact z)]; exact h1, h2⟩
    · rw [List.getElem?_append_right z] at hi
      have hz : i - T.length = 0 := by
        have := (List.getElem?_eq_some_iff.mp hi).1
        rw [List.length_singleton] at this
        omega
      rw [hz] at hi
      cases hi
      exact ⟨l, gs, by rw [List.getElem?_append_right (by rw [S.len]; exact z), S.len, hz]; rfl, hp, hg, hlen, o⟩
theorem Srch.all (h : Hse n m) (S : Srch n m T M) (cl : ∀ (i : Nat) (O : List (List Nat)) (H : List Nat), T[i]? = some O → O[0]? = some H → ∀ y, y < n → ∃ l ∈ T.flatten, IsPt m (H ++ [y]) l) : Kinds n m T := by
  refine ⟨fun O hO => ?_, fun K hK => ?_, S.nd⟩
  · obtain ⟨H, gs, hp, hg, o⟩ := S.of_mem hO
    exact ⟨H, hp.sub h hg, o⟩
  · have := all_met h (S := T.flatten) S.ze (fun K hK a ha l L => by
      obtain ⟨O, hO, hK⟩ := List.mem_flatten.mp hK
      obtain ⟨H, gs, hp, hg, o⟩ := S.of_mem hO
      exact List.mem_flatten.mpr ⟨O, hO, o.led h (hp.sub h hg) hK ha L⟩) (fun K hK => by
      obtain ⟨O, hO, hK⟩ := List.mem_flatten.mp hK
      obtain ⟨H, gs, hp, hg, o⟩ := S.of_mem hO
      obtain ⟨i, hi, e⟩ := List.getElem_of_mem hO
      exact ⟨H, hp.sub h hg, (o.mem K).mp hK, cl i O H (by rw [List.getElem?_eq_getElem hi, e]) o.hd⟩) hK
    obtain ⟨O, hO, hK⟩ := List.mem_flatten.mp this
    exact ⟨O, hO, hK⟩
end
end VL
namespace HM
open PySem PySem.Spec PyProof.Rows L2
/-- what a key function of (len(x), x) gives -/
def rankK (b : List Int) : PyData := .tuple [.int b.length, .tuple (b.map .int)]
end HM
namespace HM
open PySem PySem.Spec PyProof.Rows L2 LamX
/-- the table at P: each code object that it tells is known, and bears the name q -/
def TabF (H : Hp) (P : Addr) (q : Str) : Prop := ∃ ps : Array Value, H P = some (.tbl ps) ∧ TriplesOk ps.toList ∧ ∀ (pos : Pos) (cv : Value), codeAmong pos ps.toList = some cv → ∃ c oc vs t, cv = .ref c ∧ H c = some (.frz oc (.own c)) ∧ oc.data = .fields vs ∧ vs[1]? = some (.str q t)
/-- H' is H but for the table at P, and what is new -/
def TabUp (P : Addr) (q : Str) (H H' : Hp) : Prop := TabF H' P q ∧ ∀ b, b ≠ P → H b ≠ none → H' b = H b
theorem TabF.keep {H H' : Hp} {P P' : Addr} {q : Str} (t : TabF H P q) (h : ∀ b, b ≠ P' → H b ≠ none → H' b = H b) (ne : P ≠ P') (hP : ∃ ps, H P' = some (.tbl ps)) : TabF H' P q := by
  obtain ⟨ps, h1, h2, h3⟩ := t
  refine ⟨ps, by rw [h P ne (by rw [h1]; simp)]; exact h1, h2, fun pos cv e => ?_⟩
  obtain ⟨c, oc, vs, t, e1, e2, e3⟩ := h3 pos cv e
  refine ⟨c, oc, vs, t, e1, ?_, e3⟩
  rw [h c (fun z => by obtain ⟨ps', e'⟩ := hP; rw [z, e'] at e2; cases e2) (by rw [e2]; simp)]
  exact e2
/-- by length, then by what stands in it -/
def rkLe (a b : List Int) : Bool := PySem.W.dataLe false rankK a b
theorem alike_rank (a b : List Int) : PySem.W.alike (rankK a) (rankK b) = true := by
  unfold rankK
  rw [PySem.W.alike]
  simp [PySem.W.alikeAll, PySem.W.alike, PySem.W.alike_ints]
theorem depth_rank (a : List Int) : (rankK a).depth ≤ 8 := by
  unfold rankK
  simp [PyData.depth, PyData.depthAll, PySem.W.depth_ints]
/-- sorted(e, key=lambda x: (len(x), x)), e a list of tuples of whole numbers -/
theorem TabUp.rd {P : Addr} {q : Str} {H H1 : Hp} (up : TabUp P q H H1) (hT : TabF H P q) {a : Addr} {u : HO} (hu : ∀ ps, u ≠ .tbl ps) (h : Rd H a u) : Rd H1 a u := by
  obtain ⟨ps, hP, _⟩ := hT
  rcases h with h | ⟨o, h⟩
  · exact .inl (by rw [up.2 a (fun z => by rw [z, hP] at h; cases h; exact hu ps rfl) (by rw [h]; simp)]; exact h)
  · exact .inr ⟨o, by rw [up.2 a (fun z => by rw [z, hP] at h; cases h) (by rw [h]; simp)]; exact h⟩
end HM
namespace VL
open PySem PySem.Spec PyProof.Rows L2 HM
/-- a list in order -/
theorem rk_total : PySem.W.TotalLe rkLe := by
  show PySem.W.TotalLe (PySem.W.dataLe false rankK)
  unfold PySem.W.dataLe
  exact PySem.W.sortLe_total _ _ _
end VL
namespace HM
open PySem PySem.Spec PyProof.Rows L2
end HM
namespace VL
open PySem PySem.Spec PyProof.Rows L2 HM
end VL
namespace VL
open PySem PySem.Spec PyProof.Rows L2 HM
def dMin : RCD := fun ds Q => ∃ ns : List Int, ds = [.lst (ns.map Dt.int)] ∧ 0 < ns.length ∧ ∀ m, m ∈ ns → (∀ y, y ∈ ns → m ≤ y) → Q (.int m)
theorem lft_min {K : PySem.W.Frag} : LftC (rMin K) dMin := fun F H vs ds Q R u rp ⟨ns, h, hl, q⟩ k => by
  subst h
  obtain ⟨v, rfl, p⟩ := rp.one
  obtain ⟨a, xs, rfl, hF, rx⟩ := p.lst_inv
  rw [rx.of_ints] at hF
  exact ⟨a, ns, rfl, .inl (.inl (u _ _ hF)), hl, fun m h1 h2 => k _ _ (.int _) (q m h1 h2)⟩
section
variable {n : Nat} {m : Nat → Nat → Nat} {P : List Nat}
theorem lst_nodup (j : Nat) : (lst m P j).Nodup := List.nodup_range.filter _
end
end VL
namespace HM
open PySem PySem.Spec PyProof.Rows L2
end HM
namespace VL
open PySem PySem.Spec PyProof.Rows L2 HM
/-- the kinds: the least part of each -/
structure IsKinds (n : Nat) (m : Nat → Nat → Nat) (ks : List (List Nat)) : Prop where
  sub : ∀ K ∈ ks, Sub n m K
  least : ∀ K ∈ ks, ∀ g, g < n → ∀ K', Led n m K g K' → ¬ kI K' < kI K
  all : ∀ K, Sub n m K → ∃ k ∈ ks, ∃ g, g < n ∧ Led n m K g k
  one : ∀ k ∈ ks, ∀ k' ∈ ks, ∀ g, g < n → Led n m k g k' → k = k'
  nd : ks.Nodup
  ord : ks.Pairwise fun a b => rkLe (kI a) (kI b) = true
end VL
namespace VL
open PySem PySem.Spec PyProof.Rows L2 HM
theorem Kinds.few {n : Nat} {m : Nat → Nat → Nat} {T : List (List (List Nat))} (h : Hse n m) (h60 : n ≤ 60) (k : Kinds n m T) : (∀ O ∈ T, O ≠ [] ∧ ∀ K ∈ O, Sub n m K) ∧ T.flatten.length ≤ 2400 ∧ T.length ≤ 2400 := by
  have h0 : ∀ O ∈ T, O ≠ [] ∧ ∀ K ∈ O, Sub n m K := fun O hO => by
    obtain ⟨H, s, o⟩ := k.orb O hO
    refine ⟨fun z => ?_, o.sub h s⟩
    have := o.hd
    rw [z] at this
    cases this
  have h1 := few_subs h h60 k.nd fun K hK => by
    obtain ⟨O, hO, hK⟩ := List.mem_flatten.mp hK
    exact (h0 O hO).2 K hK
  have h2 := flat_ge (T := T) fun O hO => (h0 O hO).1
  exact ⟨h0, h1, by omega⟩
end VL
namespace VL
open PySem PySem.Spec PyProof.Rows L2 HM
def BitsOk (b : Nat) (l : List Nat) : Prop := ∀ k, b.testBit k = decide (k ∈ l)
theorem BitsOk.add {b : Nat} {l : List Nat} (h : BitsOk b l) (x : Nat) : BitsOk (b ||| 2 ^ x) (l ++ [x]) := fun k => by
  rw [Nat.testBit_or, h k, Nat.testBit_two_pow]
  by_cases e : x = k
  · subst e; simp
  · have : ¬ k = x := fun z => e z.symm
    simp [e, this]
theorem BitsOk.sub {a b : Nat} {l k : List Nat} (h : BitsOk a l) (h2 : BitsOk b k) : (a &&& b = a) ↔ ∀ x ∈ l, x ∈ k := by
  constructor
  · intro e x hx
    have := congrArg (fun z => Nat.testBit z x) e
    simp only [Nat.testBit_and] at this
    rw [h x, h2 x, decide_eq_true hx, Bool.true_and] at this
    exact of_decide_eq_true this
  · intro hs
    refine Nat.eq_of_testBit_eq fun i => ?_
    rw [Nat.testBit_and, h i, h2 i]
    by_cases e : i ∈ l
    · rw [decide_eq_true e, decide_eq_true (hs i e)]; rfl
    · rw [decide_eq_false e]; rfl
def inc (J K : List Nat) : Bool := decide (∀ x ∈ J, x ∈ K)
/-- a row's number: how often J stands within what K is led to, times the stayers by share -/
def tblN (n : Nat) (K J : List Nat) (O : List (List Nat)) : Nat := n / O.length / K.length * (O.filter (inc J)).length
end VL
namespace VL
open PySem PySem.Spec PyProof.Rows L2 HM
end VL
namespace VL
open PySem PySem.Spec PyProof.Rows L2 HM
section
variable {am : Am} {F0 H0 : Hp} {X : Cx} {e : Expr} {st : Stmt}
theorem rps_key {F : Hp} : ∀ k : List Key, Rps F (k.map kV) (k.map keyD)
  | [] => .nil
  | .inl i :: k => .cons (.int i) (rps_key k)
  | .inr s :: k => .cons (.str s) (rps_key k)
end
end VL
namespace VL
open PySem PySem.Spec PyProof.Rows L2 HM
end VL
namespace VL
open PySem PySem.Spec PyProof.Rows L2 HM
section
variable {n : Nat} {m : Nat → Nat → Nat} {K J S : List Nat} {O : List (List Nat)}
/-- a part within a part: its size divides -/
theorem sub_div (h : Hse n m) (s : Sub n m J) (s2 : Sub n m K) (hs : ∀ x ∈ J, x ∈ K) : K.length % J.length = 0 := by
  have inv : ∀ {g k : Nat}, g < n → cls m J g k → g ∈ K → k ∈ K := fun {g k} hg ⟨x, hx, e⟩ hgK => by
    rw [← e]
    exact s2.mul x (hs x hx) g hgK
  have pm : ((K.filter (isL m J)).flatMap fun g => J.map fun x => m x g).Perm K := by
    refine (List.perm_ext_iff_of_nodup ?_ s2.nd).mpr fun k => ?_
    · refine List.pairwise_flatMap.mpr ⟨fun g hg => ?_, ?_⟩
      · have hg1 := s2.lt g (List.mem_filter.mp hg).1
        exact List.pairwise_map.mpr (List.Pairwise.imp_of_mem (fun {a b} ha hb hab e => hab (h.rc (s.lt a ha) (s.lt b hb) hg1 e)) s.nd)
      · refine List.Pairwise.imp_of_mem (fun {a b} ha hb hab x hx y hy e => hab ?_) (List.Pairwise.filter (isL m J) (show List.Pairwise (· ≠ ·) K from s2.nd))
        obtain ⟨a1, a2⟩ := List.mem_filter.mp ha
        obtain ⟨b1, b2⟩ := List.mem_filter.mp hb
        obtain ⟨p, hp, rfl⟩ := List.mem_map.mp hx
        obtain ⟨q, hq, rfl⟩ := List.mem_map.mp hy
        have c1 := s.rp_eq h (s2.lt a a1) ⟨p, hp, rfl⟩
        have c2 := s.rp_eq h (s2.lt b b1) ⟨q, hq, rfl⟩
        rw [← (of_decide_eq_true a2 : rp m J a = a), ← (of_decide_eq_true b2 : rp m J b = b), c1, c2, e]
    · rw [List.mem_flatMap]
      constructor
      · rintro ⟨g, hg, hk⟩
        obtain ⟨g1, _⟩ := List.mem_filter.mp hg
        obtain ⟨x, hx, rfl⟩ := List.mem_map.mp hk
        exact s2.mul x (hs x hx) g g1
      · intro hk
        have hkn := s2.lt k hk
        have c := s.rp_cls h hkn
        obtain ⟨x, hx, e⟩ := s.symm h hkn c
        exact ⟨rp m J k, List.mem_filter.mpr ⟨inv hkn c hk, decide_eq_true (s.rp_rp h hkn)⟩, List.mem_map.mpr ⟨x, hx, e⟩⟩
  have := pm.length_eq
  rw [len_flat (c := J.length) fun g _ => by rw [List.length_map]] at this
  rw [← this]
  exact Nat.mul_mod_left _ _
/-- how many a part is led to, and how many let it stay -/
theorem orb_stay (h : Hse n m) (s : Sub n m K) (o : Orb n m K O) (up : S.Pairwise (· < ·)) (mem : ∀ g, g ∈ S ↔ g < n ∧ Led n m K g K) : O.length * S.length = n := by
  have sS := stay_sub h s up mem
  have hF : ∀ g : Nat, ∃ l, g < n → Led n m K g l := fun g => by
    by_cases hg : g < n
    · obtain ⟨l, L⟩ := led_ex h s hg
      exact ⟨l, fun _ => L⟩
    · exact ⟨[], fun z => absurd z hg⟩
  let f : Nat → List Nat := fun g => Classical.choose (hF g)
  have hf : ∀ g, g < n → Led n m K g (f g) := fun g => Classical.choose_spec (hF g)
  have ndm : ((lst m S n).map f).Nodup := by
    refine List.pairwise_map.mpr (List.Pairwise.imp_of_mem ?_ (show List.Pairwise (· ≠ ·) (lst m S n) from List.Pairwise.filter _ List.nodup_range))
    intro a b ha hb hab e
    refine hab ?_
    obtain ⟨a1, a2⟩ := lst_mem.mp ha
    obtain ⟨b1, b2⟩ := lst_mem.mp hb
    have La := hf a a1
    have Lb := hf b b1
    rw [e] at La
    obtain ⟨c, hc, e1, e2⟩ := h.inv2 a1
    have Lx := Lb.then_ h s b1 hc (La.back h s a1 hc e1)
    have hx : m b c ∈ S := (mem _).mpr ⟨h.lt b c b1 hc, Lx⟩
    have hcls : cls m S a b := ⟨m b c, hx, by rw [h.as b c a b1 hc a1, e2, h.zr b b1]⟩
    have := sS.rp_eq h a1 hcls
    rw [a2, b2] at this
    exact this
  have pm : ((lst m S n).map f).Perm O := by
    refine (List.perm_ext_iff_of_nodup ndm o.nd).mpr fun k => ?_
    · rw [List.mem_map, o.mem]
      constructor
      · rintro ⟨g, hg, rfl⟩
        exact ⟨g, (lst_mem.mp hg).1, hf g (lst_mem.mp hg).1⟩
      · rintro ⟨g, hg, L⟩
        obtain ⟨x, hx, e⟩ := sS.rp_cls h hg
        have hr := sS.rp_lt h hg
        obtain ⟨hxn, Lx⟩ := (mem x).mp hx
        have L2 := Lx.then_ h s hxn hg L
        rw [e] at L2
        exact ⟨rp m S g, lst_mem.mpr ⟨hr, sS.rp_rp h hg⟩, (hf _ hr).uniq h s hr L2⟩
  have := pm.length_eq
  rw [List.length_map] at this
  rw [← this]
  exact lst_mul h sS
theorem mk_own (h : Hse n m) (s : Sub n m K) (up : S.Pairwise (· < ·)) (mem : ∀ g, g ∈ S ↔ g < n ∧ Led n m K g K) : mkN n m K K * K.length = S.length := by
  rw [mk_mul h s s.lt]
  unfold PhiN
  congr 1
  refine rising_eq (List.Pairwise.filter _ List.pairwise_lt_range) up fun g => ?_
  rw [List.mem_filter, List.mem_range, mem]
  refine and_congr_right fun hg => ?_
  rw [phi_iff h s s.lt hg]
  constructor
  · intro hh
    obtain ⟨l, L⟩ := led_ex h s hg
    have hs : ∀ x ∈ K, x ∈ l := fun x hx => (L.iff h s hg x).mpr ⟨s.lt x hx, hh x hx⟩
    have e : l = K := rising_eq L.up s.up fun x => ⟨fun z => full_of_nodup s.nd hs (by rw [L.len h s hg]; exact Nat.le_refl _) x z, hs x⟩
    rw [← e]
    rw [e] at L ⊢
    exact L
  · intro L k hk
    exact ((L.iff h s hg k).mp hk).2
end
theorem rk_len {a b : List Int} (h : rkLe a b = true) : a.length ≤ b.length := by
  have h2 : (!PySem.W.dataLt (rankK b) (rankK a)) = true := h
  rw [Bool.not_eq_true'] at h2
  unfold rankK at h2
  rw [PySem.W.dataLt_pair (by simp [PySem.W.alike]) (by rw [PySem.W.alike]; exact PySem.W.alike_ints _ _)] at h2
  by_cases e : (b.length : Int) = (a.length : Int)
  · omega
  · have e2 : PyData.eqv (.int (b.length : Int)) (.int (a.length : Int)) = false := by simp [PyData.eqv, e]
    rw [e2, if_neg (by decide), PySem.W.dataLt_int, decide_eq_false_iff_not] at h2
    omega
theorem kinds_first {n : Nat} {m : Nat → Nat → Nat} {ks : List (List Nat)} (h : Hse n m) (k : IsKinds n m ks) : ks[0]? = some [0] := by
  obtain ⟨K, hK, g, hg, L⟩ := k.all [0] (sub_zero h)
  have e : K = [0] := by
    have := ((orb_zero h).mem K).mpr ⟨g, hg, L⟩
    exact List.mem_singleton.mp this
  subst e
  match ks, hK, k with
  | x :: ks, hK, k =>
    rcases List.mem_cons.mp hK with z | z
    · rw [← z]; rfl
    · have h1 := rk_len ((List.pairwise_cons.mp k.ord).1 _ z)
      unfold kI at h1
      rw [List.length_map, List.length_map] at h1
      have sx := k.sub x List.mem_cons_self
      have h2 := sx.ze
      match x, h1, h2 with
      | [y], _, h2 =>
        cases List.mem_singleton.mp h2
        rfl
      | _ :: _ :: _, h1, _ => simp at h1
end VL
namespace VL
open PySem PySem.Spec PyProof.Rows L2 HM
end VL
namespace VL
open PySem PySem.Spec PyProof.Rows L2 HM
end VL
namespace VL
open PySem PySem.Spec PyProof.Rows L2 HM
def tL (ks : List (List Nat)) (j : Nat) : List Nat := ks.getD j []
theorem tL_get {ks : List (List Nat)} {j : Nat} {K : List Nat} (h : ks[j]? = some K) : tL ks j = K := by
  unfold tL
  rw [List.getD_eq_getElem?_getD, h]
  rfl
theorem pl_tnL (ks : List (List Nat)) : pl (.lst (tnD ks)) = true := pls_map (fun K => pl_tn1 K) ks
theorem dep_tnL (ks : List (List Nat)) : dep (.lst (tnD ks)) ≤ 64 := Nat.le_trans (Nat.succ_le_succ (deps_map (f := fun K => Dt.tup (nsD K)) (k := 1) (fun K => Nat.succ_le_succ (deps_map (f := nD) (k := 0) (fun _ => Nat.le_refl 0) K)) ks)) (by decide)
/-- all parts, in order -/
structure IsAll (n : Nat) (m : Nat → Nat → Nat) (L : List (List Nat)) : Prop where
  mem : ∀ K, K ∈ L ↔ Sub n m K
  nd : L.Nodup
  ord : L.Pairwise fun a b => rkLe (kI a) (kI b) = true
def spAllP : VSp := fun ds t Q _ => ∃ (n : Nat) (m : Nat → Nat → Nat), ds = [houD n m] ∧ Hse n m ∧ n ≤ 60 ∧ ∀ L, IsAll n m L → Q (.lst (tnD L)) t
end VL
namespace VL
open PySem PySem.Spec PyProof.Rows L2 HM
theorem len_flat2 {α β : Type} {f : α → List β} {c : Nat} : ∀ {l : List α}, (∀ g ∈ l, (f g).length = c) → (l.flatMap f).length = l.length * c
  | [], _ => by simp
  | g :: l, h => by
    rw [List.flatMap_cons, List.length_append, len_flat2 fun x hx => h x (List.mem_cons_of_mem _ hx), h g List.mem_cons_self, List.length_cons, Nat.succ_mul]
    omega
section
variable {n : Nat} {m : Nat → Nat → Nat} {K J P O : List Nat}
open Classical in
theorem mk_tbl (h : Hse n m) (s : Sub n m K) {Os : List (List Nat)} (o : Orb n m K Os) (sJ : Sub n m J) : mkN n m K J = tblN n K J Os := by
  obtain ⟨S, eS⟩ : ∃ S, S = (List.range n).filter fun g => decide (Led n m K g K) := ⟨_, rfl⟩
  have up : S.Pairwise (· < ·) := by rw [eS]; exact List.Pairwise.filter _ List.pairwise_lt_range
  have mem : ∀ g, g ∈ S ↔ g < n ∧ Led n m K g K := fun g => by rw [eS, List.mem_filter, List.mem_range, decide_eq_true_iff]
  have hos := orb_stay h s o up mem
  have hmk := mk_own h s up mem
  have h1 := mk_mul h s (O := J) sJ.lt
  have ndS : S.Nodup := up.imp fun z => Nat.ne_of_lt z
  have fib : ∀ L ∈ Os.filter (inc J), ((List.range n).filter fun g => decide (Led n m K g L)).length = S.length := fun L hL => by
    obtain ⟨a, ha, La⟩ := (o.mem L).mp (List.mem_filter.mp hL).1
    obtain ⟨b, hb, e1, e2⟩ := h.inv2 ha
    have pm : ((List.range n).filter fun g => decide (Led n m K g L)).Perm (S.map fun x => m x a) := by
      refine (List.perm_ext_iff_of_nodup (List.nodup_range.filter _) ?_).mpr fun g => ?_
      · exact List.pairwise_map.mpr (List.Pairwise.imp_of_mem (fun {x y} hx hy hxy e => hxy (h.rc ((mem x).mp hx).1 ((mem y).mp hy).1 ha e)) ndS)
      rw [List.mem_filter, List.mem_range, decide_eq_true_iff, List.mem_map]
      constructor
      · rintro ⟨hg, LK⟩
        refine ⟨m g b, (mem _).mpr ⟨h.lt g b hg hb, LK.then_ h s hg hb (La.back h s ha hb e1)⟩, ?_⟩
        rw [h.as g b a hg hb ha, e2, h.zr g hg]
      · rintro ⟨x, hx, rfl⟩
        obtain ⟨hxn, Lx⟩ := (mem x).mp hx
        exact ⟨h.lt x a hxn ha, Lx.then_ h s hxn ha La⟩
    rw [pm.length_eq, List.length_map]
  have h2 : PhiN n m K J = (Os.filter (inc J)).length * S.length := by
    have pm : ((Os.filter (inc J)).flatMap fun L => (List.range n).filter fun g => decide (Led n m K g L)).Perm ((List.range n).filter (phi m K J)) := by
      refine (List.perm_ext_iff_of_nodup ?_ (List.nodup_range.filter _)).mpr fun g => ?_
      · refine List.pairwise_flatMap.mpr ⟨fun L _ => List.nodup_range.filter _, ?_⟩
        refine List.Pairwise.imp (fun {A B} hab x hx y hy e => ?_) (List.Pairwise.filter (inc J) (show List.Pairwise (· ≠ ·) Os from o.nd))
        subst e
        obtain ⟨hx1, hx2⟩ := List.mem_filter.mp hx
        obtain ⟨_, hy2⟩ := List.mem_filter.mp hy
        exact hab ((of_decide_eq_true hx2).uniq h s (List.mem_range.mp hx1) (of_decide_eq_true hy2))
      rw [List.mem_flatMap, List.mem_filter, List.mem_range]
      constructor
      · rintro ⟨L, hL, hg⟩
        obtain ⟨hg1, hg2⟩ := List.mem_filter.mp hg
        have hg1 := List.mem_range.mp hg1
        have LK := of_decide_eq_true hg2
        refine ⟨hg1, (phi_iff h s sJ.lt hg1).mpr fun k hk => ((LK.iff h s hg1 k).mp (of_decide_eq_true (List.mem_filter.mp hL).2 k hk)).2⟩
      · rintro ⟨hg, hp⟩
        obtain ⟨L, LK⟩ := led_ex h s hg
        refine ⟨L, List.mem_filter.mpr ⟨(o.mem L).mpr ⟨g, hg, LK⟩, decide_eq_true fun k hk => (LK.iff h s hg k).mpr ⟨sJ.lt k hk, (phi_iff h s sJ.lt hg).mp hp k hk⟩⟩, List.mem_filter.mpr ⟨List.mem_range.mpr hg, decide_eq_true LK⟩⟩
    have := pm.length_eq
    rw [len_flat2 (c := S.length) fib] at this
    exact this.symm
  have hK0 : 0 < K.length := List.length_pos_of_mem s.ze
  have hO0 : 0 < Os.length := List.length_pos_of_mem o.self
  have e3 : n / Os.length = S.length := by rw [← hos, Nat.mul_div_cancel_left _ hO0]
  unfold tblN
  rw [e3, ← hmk, Nat.mul_div_cancel _ hK0]
  have e4 : mkN n m K J * K.length = (mkN n m K K * (Os.filter (inc J)).length) * K.length := by rw [h1, h2, ← hmk, Nat.mul_comm, Nat.mul_right_comm]
  exact Nat.eq_of_mul_eq_mul_right hK0 e4
end
section
variable {n : Nat} {m : Nat → Nat → Nat} {O : List Nat} {N : Nat} {a : Nat → Nat → Nat}
/-- O moves the numbers below N -/
structure Mov (m : Nat → Nat → Nat) (O : List Nat) (N : Nat) (a : Nat → Nat → Nat) : Prop where
  lt : ∀ i g, i < N → g ∈ O → a i g < N
  ze : ∀ i, i < N → a i 0 = i
  mu : ∀ i g k, i < N → g ∈ O → k ∈ O → a (a i g) k = a i (m g k)
theorem Mov.back (h : Hse n m) (s : Sub n m O) (M : Mov m O N a) {x y g : Nat} (hx : x < N) (hg : g ∈ O) (e : a x g = y) : ∃ k ∈ O, a y k = x := by
  obtain ⟨k, hk, e1, e2⟩ := s.inv h hg
  exact ⟨k, hk, by rw [← e, M.mu x g k hx hg hk, e1, M.ze x hx]⟩
/-- all that x is moved to -/
def IsPc (O : List Nat) (a : Nat → Nat → Nat) (N : Nat) (A : List Nat) : Prop := ∃ x, x < N ∧ ∀ y, y ∈ A ↔ ∃ g ∈ O, a x g = y
end
/-- a walk of one piece: what is met, what waits -/
structure Pw (O : List Nat) (a : Nat → Nat → Nat) (N x : Nat) (cur ws : List Nat) : Prop where
  nd : cur.Nodup
  x0 : x ∈ cur
  rc : ∀ y ∈ cur, ∃ g ∈ O, a x g = y
  sb : ∀ y ∈ ws, y ∈ cur
  wn : ws.Nodup
  cl : x ∈ ws ∨ ∀ g ∈ O, a x g ∈ cur
/-- whole pieces, all below j in them -/
structure Pd (O : List Nat) (a : Nat → Nat → Nat) (N j : Nat) (T : List (List Nat)) : Prop where
  nd : T.flatten.Nodup
  pc : ∀ A ∈ T, IsPc O a N A
  all : ∀ i, i < j → i ∈ T.flatten
section
variable {n : Nat} {m : Nat → Nat → Nat} {O : List Nat} {N : Nat} {a : Nat → Nat → Nat}
theorem Pd.lt (M : Mov m O N a) {j : Nat} {T : List (List Nat)} (D : Pd O a N j T) : ∀ y ∈ T.flatten, y < N := fun y hy => by
  obtain ⟨A, hA, hyA⟩ := List.mem_flatten.mp hy
  obtain ⟨x, hx, mem⟩ := D.pc A hA
  obtain ⟨g, hg, e⟩ := (mem y).mp hyA
  rw [← e]
  exact M.lt x g hx hg
/-- what is moved to a met one is met -/
theorem Pd.apart (h : Hse n m) (s : Sub n m O) (M : Mov m O N a) {j x g : Nat} {T : List (List Nat)} (D : Pd O a N j T) (hx : x < N) (hg : g ∈ O) (hn : x ∉ T.flatten) : a x g ∉ T.flatten := fun hy => by
  obtain ⟨A, hA, hyA⟩ := List.mem_flatten.mp hy
  obtain ⟨z, hz, mem⟩ := D.pc A hA
  obtain ⟨k, hk, e⟩ := M.back h s hx hg rfl
  obtain ⟨u, hu, e2⟩ := (mem _).mp hyA
  refine hn (List.mem_flatten.mpr ⟨A, hA, (mem x).mpr ⟨m u k, s.mul u hu k hk, ?_⟩⟩)
  rw [← M.mu z u k hz hu hk, e2, e]
theorem flat_snoc1 (T : List (List Nat)) (A : List Nat) : (T ++ [A]).flatten = T.flatten ++ A := by simp
theorem Pd.add (h : Hse n m) (s : Sub n m O) (M : Mov m O N a) {x : Nat} {T : List (List Nat)} {cur : List Nat} (D : Pd O a N x T) (hx : x < N) (hn : x ∉ T.flatten) (W : Pw O a N x cur []) : Pd O a N (x + 1) (T ++ [cur]) := by
  have cl := W.cl.resolve_left (by simp)
  refine ⟨?_, fun A hA => ?_, fun i hi => ?_⟩
  · rw [flat_snoc1, List.nodup_append]
    exact ⟨D.nd, W.nd, fun y hy z hz e => by
      obtain ⟨g, hg, e2⟩ := W.rc z hz
      exact D.apart h s M hx hg hn (by rw [e2, ← e]; exact hy)⟩
  · rcases List.mem_append.mp hA with z | z
    · exact D.pc A z
    · rw [List.mem_singleton.mp z]
      exact ⟨x, hx, fun y => ⟨W.rc y, fun ⟨g, hg, e⟩ => e ▸ cl g hg⟩⟩
  · rw [flat_snoc1, List.mem_append]
    by_cases z : i = x
    · rw [z]; exact .inr W.x0
    · exact .inl (D.all i (by omega))
theorem Pd.perm (M : Mov m O N a) {T : List (List Nat)} (D : Pd O a N N T) : T.flatten.Perm (List.range N) :=
  (List.perm_ext_iff_of_nodup D.nd List.nodup_range).mpr fun y => ⟨fun hy => List.mem_range.mpr (D.lt M y hy), fun hy => D.all y (List.mem_range.mp hy)⟩
end
end VL
namespace VL
open PySem PySem.Spec PyProof.Rows L2 HM
end VL
namespace HM
open PySem PySem.Spec PyProof.Rows L2
end HM
namespace VL
open PySem PySem.Spec PyProof.Rows L2 HM
section
variable {c : Fc} {X : Cx} {o e o2 : Expr} {te : VTE} {apos cpos pos p : Pos}
/-- list(d), keys tuples -/
def vListDT (i : Nat) : VTN := fun env n Q => ∃ kvs, env[i]? = some (.ow (.dT kvs)) ∧ Q (.lst (kvs.map fun q => tupD q.1)) env n
theorem Rel.addKs {F H : Hp} {σ : L2.St} {env : Ev} {n : Nat} : ∀ {ks : List (List Key × V)} {bs : List Addr}, Rel c F H σ env n → IsKeys H ks bs → ∃ F', Rel c F' H σ env n ∧ Up F F' ∧ Rps F' (bs.map V.ref) (ks.map fun q => tupD q.1)
  | _, _, r, .nil => ⟨F, r, Up.refl F, .nil⟩
  | p :: ks, b :: bs, r, .cons h t => by
    obtain ⟨F1, r1, u1, p1⟩ := Rel.addKs r t
    obtain ⟨r2, u2⟩ := r1.addT h
    exact ⟨_, r2, u1.trans u2, .cons (.tup upd_same (rps_key p.1)) (p1.up u2)⟩
theorem vn_listDT {i : Nat} (hc : X.calm = true) (hg : Gl X "list") (hm : X.mg "list" = none) (ho : PE X o (tVar i)) (he : starEach [o] X.env = (false, eval o X.env) :: starEach [] X.env := by rfl) (hpl : (backTo pos (starEach [] X.env)).any (·.1) = false := by rfl) :
    PE X (.Call (.Name "list" p) [o] [] pos) (nOf c (vListDT i)) := PE.imp (pe_callTy (call_list_dT hc) hg hm (by decide +kernel) (pa_cons ho pa_nil he) (by decide) (by decide) he hpl) fun σ H R ⟨F, env, n, Q, rr, ⟨kvs, e, q⟩, k⟩ => by
  obtain ⟨a, o, g1, g5, ks, rfl, pr⟩ := rr.slotA e
  refine ⟨_, g1, a, ks, rfl, .inl g5, fun p bs np hb => ?_⟩
  obtain ⟨F1, r1, u1, p1⟩ := Rel.addKs rr hb
  have e9 : (ks.map fun q => tupD q.1) = kvs.map fun q => tupD q.1 := by
    have := congrArg (List.map tupD) pr.keys
    rw [List.map_map, List.map_map] at this
    exact this
  exact nOf_new r1 u1 np (kk := .lst (kvs.map fun q => tupD q.1)) ⟨_, rfl, e9 ▸ p1⟩ q k
end
end VL
namespace VL
open PySem PySem.Spec PyProof.Rows L2 HM
theorem toks_inj : ∀ {a b : List Int} {x y : List (Int ⊕ List Nat)}, PySem.W.keyToksAll (a.map PyData.int) ++ x = PySem.W.keyToksAll (b.map PyData.int) ++ y → a = b
  | [], [], _, _, _ => rfl
  | [], j :: b, x, y, h => by
    simp [PySem.W.keyToksAll, PySem.W.keyToks] at h
  | i :: a, [], x, y, h => by
    simp [PySem.W.keyToksAll, PySem.W.keyToks] at h
  | i :: a, j :: b, x, y, h => by
    rw [List.map_cons, List.map_cons] at h
    simp only [PySem.W.keyToksAll, PySem.W.keyToks, List.cons_append, List.nil_append, List.cons.injEq, true_and, Sum.inl.injEq] at h
    rw [h.1, toks_inj h.2]
theorem rk_anti {a b : List Int} (h1 : rkLe a b = true) (h2 : rkLe b a = true) : a = b := by
  have e1 : (!PySem.W.dataLt (rankK b) (rankK a)) = true := h1
  have e2 : (!PySem.W.dataLt (rankK a) (rankK b)) = true := h2
  rw [Bool.not_eq_true'] at e1 e2
  have e := (listOrd itemOrd).total (PySem.W.keyToks (rankK a)) (PySem.W.keyToks (rankK b)) e2 e1
  have e : PySem.W.keyToks (rankK a) = PySem.W.keyToks (rankK b) := e
  unfold rankK at e
  simp only [PySem.W.keyToksAll, PySem.W.keyToks, List.cons_append, List.nil_append, List.cons.injEq, true_and, Sum.inl.injEq] at e
  exact toks_inj e.2
def dctP (L : List (List Nat)) (i : Nat) : List (List Key × Dt) := L.map fun K => (kN K, nD i)
theorem dctP_put (L : List (List Nat)) (K : List Nat) (i : Nat) : putD (dctP L i) (kN K) (nD i) = dctP (if K ∈ L then L else L ++ [K]) i := by
  by_cases z : K ∈ L
  · rw [if_pos z]
    unfold putD
    have hz : ((dctP L i).any fun kv => decide (kv.1 = kN K)) = true := List.any_eq_true.mpr ⟨(kN K, nD i), List.mem_map.mpr ⟨K, z, rfl⟩, by simp⟩
    rw [if_pos hz]
    unfold dctP
    rw [List.map_map]
    refine List.map_congr_left fun x _ => ?_
    show (if kN x = kN K then (kN x, nD i) else (kN x, nD i)) = _
    split <;> rfl
  · rw [if_neg z, putD_new]
    · unfold dctP; rw [List.map_append]; rfl
    · unfold dctP
      rw [List.map_map]
      intro h
      obtain ⟨x, hx, e⟩ := List.mem_map.mp h
      exact z (kN_inj e ▸ hx)
def dctQ (C : List (List Nat × Nat)) : List (List Key × Dt) := C.map fun q => (kN q.1, nD q.2)
theorem dctQ_keys (C : List (List Nat × Nat)) : (dctQ C).map (·.1) = (C.map (·.1)).map kN := by unfold dctQ; rw [List.map_map, List.map_map]; rfl
theorem dctP_Q (L : List (List Nat)) (i : Nat) : dctP L i = dctQ (L.map fun K => (K, i)) := by unfold dctP dctQ; rw [List.map_map]; rfl
theorem dctQ_in {C : List (List Nat × Nat)} {K : List Nat} : (valD (dctQ C) (kN K)).isSome = decide (K ∈ C.map (·.1)) := by
  rw [valD_some, dctQ_keys]
  refine decide_eq_decide.mpr ⟨fun h => ?_, fun h => List.mem_map.mpr ⟨K, h, rfl⟩⟩
  obtain ⟨x, hx, e⟩ := List.mem_map.mp h
  exact kN_inj e ▸ hx
theorem dctQ_val {C : List (List Nat × Nat)} {K : List Nat} {i : Nat} (nd : (C.map (·.1)).Nodup) (h : (K, i) ∈ C) : valD (dctQ C) (kN K) = some (nD i) := by
  unfold valD dctQ
  rw [List.find?_map, Option.map_map]
  have : ∀ {C : List (List Nat × Nat)}, (C.map (·.1)).Nodup → (K, i) ∈ C → C.find? ((fun kv : List Key × Dt => decide (kv.1 = kN K)) ∘ fun q => (kN q.1, nD q.2)) = some (K, i) := by
    intro C
    induction C with
    | nil => intro _ z; cases z
    | cons q C ih =>
      intro nd h
      rw [List.map_cons, List.nodup_cons] at nd
      rcases List.mem_cons.mp h with rfl | h
      · rw [List.find?_cons_of_pos (by simp)]
      · rw [List.find?_cons_of_neg, ih nd.2 h]
        simp only [Function.comp, decide_eq_true_eq]
        intro e
        exact nd.1 (List.mem_map.mpr ⟨(K, i), h, (kN_inj e).symm⟩)
  rw [this nd h]
  rfl
/-- the places of the parts of the first j kinds -/
structure Came (n : Nat) (m : Nat → Nat → Nat) (ks : List (List Nat)) (j : Nat) (C : List (List Nat × Nat)) : Prop where
  nd : (C.map (·.1)).Nodup
  mem : ∀ K i, (K, i) ∈ C ↔ i < j ∧ ∃ K0, ks[i]? = some K0 ∧ ∃ g, g < n ∧ Led n m K0 g K
section
variable {n : Nat} {m : Nat → Nat → Nat} {ks : List (List Nat)} {j : Nat} {C : List (List Nat × Nat)}
theorem Came.sub (h : Hse n m) (k : IsKinds n m ks) (c : Came n m ks j C) {K : List Nat} (hK : K ∈ C.map (·.1)) : Sub n m K := by
  obtain ⟨⟨K', i⟩, hq, rfl⟩ := List.mem_map.mp hK
  obtain ⟨_, K0, h0, g, hg, L⟩ := (c.mem _ _).mp hq
  exact L.sub h (k.sub K0 (List.mem_of_getElem? h0)) hg
/-- a part of one kind is of no other one -/
theorem kind_one (h : Hse n m) (k : IsKinds n m ks) {i1 i2 : Nat} {K1 K2 K : List Nat} {g1 g2 : Nat} (h1 : ks[i1]? = some K1) (h2 : ks[i2]? = some K2) (hg1 : g1 < n) (hg2 : g2 < n) (L1 : Led n m K1 g1 K) (L2 : Led n m K2 g2 K) : i1 = i2 := by
  have s1 := k.sub K1 (List.mem_of_getElem? h1)
  have s2 := k.sub K2 (List.mem_of_getElem? h2)
  obtain ⟨b, hb, e1, e2⟩ := h.inv2 hg2
  have := k.one K1 (List.mem_of_getElem? h1) K2 (List.mem_of_getElem? h2) (m g1 b) (h.lt g1 b hg1 hb) (L1.then_ h s1 hg1 hb (L2.back h s2 hg2 hb e1))
  subst this
  obtain ⟨a1, a2⟩ := List.getElem?_eq_some_iff.mp h1
  obtain ⟨b1, b2⟩ := List.getElem?_eq_some_iff.mp h2
  exact (List.getElem_inj (i := i1) (j := i2) (h₀ := a1) (h₁ := b1) k.nd).mp (by rw [a2, b2])
theorem Came.apart (h : Hse n m) (k : IsKinds n m ks) (c : Came n m ks j C) {K0 K : List Nat} {g : Nat} (h0 : ks[j]? = some K0) (hg : g < n) (L : Led n m K0 g K) : K ∉ C.map (·.1) := fun hK => by
  obtain ⟨⟨K', i⟩, hq, rfl⟩ := List.mem_map.mp hK
  obtain ⟨hi, K1, h1, g1, hg1, L1⟩ := (c.mem _ _).mp hq
  have := kind_one h k h1 h0 hg1 hg L1 L
  omega
theorem Came.add (h : Hse n m) (k : IsKinds n m ks) (c : Came n m ks j C) {K0 : List Nat} {O : List (List Nat)} (h0 : ks[j]? = some K0) (nd : O.Nodup) (mem : ∀ K, K ∈ O ↔ ∃ g, g < n ∧ Led n m K0 g K) : Came n m ks (j + 1) (C ++ O.map fun K => (K, j)) := by
  refine ⟨?_, fun K i => ?_⟩
  · rw [List.map_append, List.map_map]
    have e : (O.map ((fun q : List Nat × Nat => q.1) ∘ fun K => (K, j))) = O := List.map_id' O
    rw [e, List.nodup_append]
    exact ⟨c.nd, nd, fun a ha b hb e => by
      obtain ⟨g, hg, L⟩ := (mem b).mp hb
      exact c.apart h k h0 hg L (e ▸ ha)⟩
  · rw [List.mem_append, c.mem, List.mem_map]
    constructor
    · rintro (⟨h1, h2⟩ | ⟨K', h1, e⟩)
      · exact ⟨by omega, h2⟩
      · injection e with e1 e2
        subst e1 e2
        exact ⟨by omega, K0, h0, (mem K').mp h1⟩
    · rintro ⟨h1, K1, h2, h3⟩
      by_cases z : i = j
      · subst z
        rw [h0] at h2
        cases h2
        exact .inr ⟨K, (mem K).mpr h3, rfl⟩
      · exact .inl ⟨by omega, K1, h2, h3⟩
theorem Came.all (h : Hse n m) (k : IsKinds n m ks) (c : Came n m ks ks.length C) (K : List Nat) : K ∈ C.map (·.1) ↔ Sub n m K := by
  refine ⟨c.sub h k, fun s => ?_⟩
  obtain ⟨k1, hk1, g, hg, L⟩ := k.all K s
  obtain ⟨b, hb, e1, e2⟩ := h.inv2 hg
  obtain ⟨i, hi, e⟩ := List.getElem_of_mem hk1
  exact List.mem_map.mpr ⟨(K, i), (c.mem K i).mpr ⟨hi, k1, by rw [List.getElem?_eq_getElem hi, e], b, hb, L.back h s hg hb e1⟩, rfl⟩
end
theorem orb_of {n : Nat} {m : Nat → Nat → Nat} {K : List Nat} {Ls : List (List Nat)} (h : Hse n m) (s : Sub n m K) (nd : Ls.Nodup) (mem : ∀ x, x ∈ Ls ↔ ∃ g, g < n ∧ Led n m K g x) : ∃ O, Orb n m K O ∧ O.Perm Ls := by
  have hK : K ∈ Ls := (mem K).mpr ⟨0, h.pos, led_zero h s⟩
  have pm := List.perm_cons_erase hK
  exact ⟨K :: Ls.erase K, ⟨rfl, pm.nodup_iff.mp nd, fun x => by rw [← pm.mem_iff]; exact mem x⟩, pm.symm⟩
end VL
namespace HM
open PySem PySem.Spec PyProof.Rows L2
end HM
namespace VL
open PySem PySem.Spec PyProof.Rows L2 HM
section
variable {c : Fc} {X : Cx} {o e f : Expr} {pos apos cpos : Pos}
theorem PrK.ints {F : Hp} : ∀ {ks : List (Key × V)} {kvs : List (Key × Dt)} {is : List Int}, PrK F ks kvs → kvs.map (·.2) = is.map Dt.int → ks.map (·.2) = is.map V.int
  | _, _, [], .nil, _ => rfl
  | _, _, _ :: _, .nil, e => by cases e
  | _, _, [], .cons _ _, e => by cases e
  | _, _, i :: is, .cons h t, e => by
    rw [List.map_cons, List.map_cons] at e
    injection e with e1 e2
    have h2 := h.2
    rw [e1] at h2
    rw [List.map_cons, List.map_cons, h2.int_inv, PrK.ints t e2]
end
end VL
namespace VL
open PySem PySem.Spec PyProof.Rows L2 HM
end VL
namespace VL
open PySem PySem.Spec PyProof.Rows L2 HM
/-- a is a new list of numbers, not still -/
structure NewL (am : Am) (H F' H' : Hp) (a : Addr) (x : List Int) : Prop where
  f : F' a = none
  h : H a = none
  s : ¬ am.sp a
  o : H' a = some (.lst (x.map V.int))
structure VEnP where
  nx : Ev → Nat → Prop
  rt : List Int → List Int → Nat → Prop
abbrev VTP := VEnP → Ev → Nat → Prop
structure EnP (c : Fc) (F : Hp) (V : VEnP) (D : Ends) : Prop where
  nx : ∀ F' H' σ' env' n', Rel c F' H' σ' env' n' → Up F F' → V.nx env' n' → D.nx σ' H'
  rt : ∀ F' H' σ' env' n' t a b x y, Rel c F' H' σ' env' n' → Up F F' → F' t = some (.tup [.ref a, .ref b]) → a ≠ b → NewL c.am c.H0 F' H' a x → NewL c.am c.H0 F' H' b y → V.rt x y n' → D.rt (.ref t) H'
def sP (c : Fc) (ts : VTP) : TS := fun D σ H => ∃ F env n V, Rel c F H σ env n ∧ ts V env n ∧ EnP c F V D
section
variable {c : Fc} {X : Cx} {st : Stmt} {rest body : List Stmt} {pos : Pos} {t u : VTP}
theorem EnP.up {F F' : Hp} {V : VEnP} {D : Ends} (h : EnP c F V D) (w : Up F F') : EnP c F' V D :=
  ⟨fun F2 H' σ' env' n' r z => h.nx F2 H' σ' env' n' r (w.trans z), fun F2 H' σ' env' n' t a b x y r z => h.rt F2 H' σ' env' n' t a b x y r (w.trans z)⟩
end
section
variable {c : Fc} {X : Cx} {F H : Hp} {σ : L2.St} {env : Ev} {n : Nat} {a : Addr} {x : List Int}
theorem Rel.notOwn (r : Rel c F H σ env n) (h : H a = none) : ∀ (j : Nat) k', env[j]? = some (.ow k') → σ[j]? ≠ some (some (.ref a)) := fun j k' e z => by
  obtain ⟨a2, o2, g1, _, _, _, g5, _⟩ := r.sl j _ e
  rw [g1] at z
  cases z
  rw [g5] at h
  cases h
theorem Rel.H0none (r : Rel c F H σ env n) (h : H a = none) (hs : ¬ c.am.sp a) : c.H0 a = none := by
  cases e : c.H0 a with
  | none => rfl
  | some o => rw [r.keep0 a o e hs] at h; cases h
variable {CX : CXT} {E : XK} {p pos : Pos} {e : Expr} {es : List Expr} {tas : VTA} {f : Addr} {fd : FuncData} {ps : List Str} {k : Nat} {fn : Str} {gd : Around → Prop}
end
def two (x y : List Int) : Nat → List Int := fun i => if i = 0 then x else y
end VL
namespace VL
open PySem PySem.Spec PyProof.Rows L2 HM
section
variable {c : Fc} {X : Cx} {a b e : Expr} {es : List Expr} {ta tb te : VTE} {tas : VTA} {pos : Pos} {F H : Hp} {σ : L2.St} {env : Ev} {n : Nat}
/-- row i stands beside -/
structure MatAt (c : Fc) (i : Nat) (l : List Int) (q : Addr) : Prop where
  ex : ∃ Hb m A r, c.H0 = mat Hb m A r ∧ MatOk c.am c.F0 Hb m A ∧ i < m ∧ r i = l ∧ A i = q
theorem MatAt.at {i : Nat} {l : List Int} {q : Addr} (h : MatAt c i l q) (r : Rel c F H σ env n) : H q = some (.lst (l.map V.int)) ∧ F q = none ∧ ¬ c.am.sp q := by
  obtain ⟨Hb, m, A, rr, e, mo, hi, rfl, rfl⟩ := h.ex
  have h1 : c.H0 (A i) = some (.lst ((rr i).map V.int)) := by rw [e]; exact mat_at mo.inj hi
  exact ⟨r.keep0 _ _ h1 (mo.ns i hi), r.out0 _ _ h1 (fun _ z => by cases z) (mo.f0 i hi), mo.ns i hi⟩
end
end VL
namespace VL
open PySem PySem.Spec PyProof.Rows L2 HM
section
variable {am : Am} {F0 H0 H1 F H : Hp} {σ : L2.St} {env : Ev} {n : Nat} {X : Cx} {body : List Stmt} {t : XTS}
theorem MatOk.up {m : Nat} {A : Nat → Addr} {r : Nat → List Int} (mo : MatOk am F0 H0 m A) : Up H0 (mat H0 m A r) := fun a o e => by
  rw [mat_out fun i hi z => by rw [← z, mo.h0 i hi] at e; cases e]
  exact e
end
end VL
namespace VL
open PySem PySem.Spec PyProof.Rows L2 HM
structure VEnN where
  nx : Ev → Nat → Prop
  rt : Con → Nat → Prop
abbrev VTNs := VEnN → Ev → Nat → Prop
structure EnN (c : Fc) (F : Hp) (V : VEnN) (D : Ends) : Prop where
  nx : ∀ F' H' σ' env' n', Rel c F' H' σ' env' n' → Up F F' → V.nx env' n' → D.nx σ' H'
  rt : ∀ F' H' σ' env' n' a o k, Rel c F' H' σ' env' n' → Up F F' → F' a = none → c.H0 a = none → ¬ c.am.sp a → H' a = some o → OwOk F' a o k → V.rt k n' → D.rt (.ref a) H'
def sN (c : Fc) (ts : VTNs) : TS := fun D σ H => ∃ F env n V, Rel c F H σ env n ∧ ts V env n ∧ EnN c F V D
section
variable {c : Fc} {X : Cx} {st : Stmt} {rest body : List Stmt} {pos : Pos} {t u : VTNs} {e : Expr} {tn : VTN}
theorem EnN.up {F F' : Hp} {V : VEnN} {D : Ends} (h : EnN c F V D) (w : Up F F') : EnN c F' V D :=
  ⟨fun F2 H' σ' env' n' r z => h.nx F2 H' σ' env' n' r (w.trans z), fun F2 H' σ' env' n' a o k r z => h.rt F2 H' σ' env' n' a o k r (w.trans z)⟩
def nLift (ts : VTS) : VTNs := fun V env n => ts { nx := V.nx, rt := fun _ _ => False } env n
theorem ps_liftN {ts : VTS} (h : PS X st (sOf c ts)) : PS X st (sN c (nLift ts)) := PS.imp h fun D σ H ⟨F, env, n, V, r, q, k⟩ => ⟨F, env, n, _, r, q, ⟨k.nx, fun _ _ _ _ _ _ _ _ _ _ z => z.elim, fun _ _ _ _ _ _ _ z => z.elim, fun _ _ _ _ _ _ _ z => z.elim⟩⟩
def nSeq (A B : VTNs) : VTNs := fun V env n => A { V with nx := B V } env n
theorem pssN_cons (h1 : PS X st (sN c t)) (h2 : PSs X rest (sN c u)) : PSs X (st :: rest) (sN c (nSeq t u)) := PSs.imp (pss_cons h1 h2) fun D σ H ⟨F, env, n, V, r, q, k⟩ =>
  ⟨F, env, n, _, r, q, ⟨fun F' H' σ' env' n' r' w q' => ⟨F', env', n', V, r', q', k.up w⟩, k.rt⟩⟩
theorem pssN_one (h1 : PS X st (sN c t)) : PSs X [st] (sN c t) := pss_one h1
/-- return x, x a thing of one's own -/
def vRetO (i : Nat) : VTNs := fun V env n => ∃ k, env[i]? = some (.ow k) ∧ V.rt k n
theorem ps_retO {i : Nat} (h : PE X e (tVar i)) : PS X (.Return (some e) pos) (sN c (vRetO i)) := PS.imp (ps_ret h) fun D σ H ⟨F, env, n, V, rr, ⟨kk, ei, q⟩, k⟩ => by
  obtain ⟨a, o, g1, g2, g3, g4, g5, g6⟩ := rr.sl i _ ei
  exact ⟨_, g1, k.rt F H σ env n a o kk rr (Up.refl F) g2 g3 g4 g5 g6 q⟩
end
def hid (env : Ev) : Ev := env.map fun s => match s with
  | .ow _ => .no
  | s => s
theorem hid_get {env : Ev} {i : Nat} {s : Sl} (h : (hid env)[i]? = some s) : (∃ k, s = .no ∧ env[i]? = some (.ow k)) ∨ (env[i]? = some s ∧ ∀ k, s ≠ .ow k) := by
  unfold hid at h
  rw [List.getElem?_map] at h
  obtain ⟨s0, h0, rfl⟩ := Option.map_eq_some_iff.mp h
  cases s0 with
  | no => exact .inr ⟨h0, no_ow⟩
  | fz d => exact .inr ⟨h0, fz_ow d⟩
  | ow k => exact .inl ⟨k, rfl, h0⟩
theorem hid_len (env : Ev) : (hid env).length = env.length := by unfold hid; rw [List.length_map]
section
variable {am : Am} {F0 H0 : Hp} {F H : Hp} {σ : L2.St} {env : Ev} {n i : Nat} {ds : List Dt}
/-- in: what stood is all that stands -/
theorem Rel.intoS (r : Rel ⟨am, F0, H0⟩ F H σ env n) (e : env[i]? = some (.ow (.lst ds))) : ∃ a xs, H a = some (.lst xs) ∧ F a = none ∧ σ[i]? = some (some (.ref a)) ∧ Up F (upd F a (.lst xs)) ∧ Rel ⟨am, upd F a (.lst xs), H⟩ (upd F a (.lst xs)) H σ ((hid env).set i (.fz (.lst ds))) n := by
  obtain ⟨a, o, g1, g2, g3, g4, g5, xs, rfl, rx⟩ := r.sl i _ e
  have hi : i < env.length := (List.getElem?_eq_some_iff.mp e).1
  have up : Up F (upd F a (.lst xs)) := up_lay g2
  refine ⟨a, xs, g5, g2, g1, up, fun b u z => ?_, fun b hb => ?_, r.ambU up, Up.refl _, fun _ _ _ _ z => z, fun _ _ z _ => z, by rw [List.length_set, hid_len]; exact r.len, fun j s z => ?_, fun j l b k1 k2 hjl z1 => ?_⟩
  · by_cases h : b = a
    · subst h; rw [upd_same] at z; cases z; exact g5
    · rw [upd_ne h] at z; exact r.sub b u z
  · rw [upd_ne (fun h : b = a => g4 (h ▸ hb))]; exact r.spf b hb
  · by_cases h : j = i
    · subst h
      rw [List.getElem?_set_self (by rw [hid_len]; exact hi)] at z
      cases z
      exact ⟨_, g1, .lst upd_same (rx.up up)⟩
    · rw [List.getElem?_set_ne (Ne.symm h)] at z
      rcases hid_get z with ⟨k, rfl, _⟩ | ⟨z2, hk⟩
      · trivial
      · have q := r.sl j s z2
        cases s with
        | no => trivial
        | fz d => exact let ⟨v, h1, h2⟩ := q; ⟨v, h1, h2.up up⟩
        | ow k => exact absurd rfl (hk k)
  · by_cases h : j = i
    · subst h
      rw [List.getElem?_set_self (by rw [hid_len]; exact hi)] at z1
      cases z1
    · rw [List.getElem?_set_ne (Ne.symm h)] at z1
      rcases hid_get z1 with ⟨k, z2, _⟩ | ⟨_, hk⟩
      · cases z2
      · exact absurd rfl (hk k1)
/-- of what is still the tuples alone, and what was still -/
def onlyT (F F2 : Hp) : Hp := fun b => match F2 b with
  | some (.tup xs) => some (.tup xs)
  | _ => F b
theorem onlyT_inv {F F2 : Hp} {a : Addr} {o : HO} (h : onlyT F F2 a = some o) : (∃ xs, o = .tup xs ∧ F2 a = some (.tup xs)) ∨ F a = some o := by
  simp only [onlyT] at h
  split at h
  · rename_i xs e2
    exact .inl ⟨xs, (Option.some.inj h).symm, e2⟩
  · exact .inr h
theorem onlyT_up {F F2 : Hp} (u : Up F F2) : Up F (onlyT F F2) := fun a o e => by
  have e2 := u _ _ e
  simp only [onlyT]
  split
  · rename_i xs e3
    rw [e3] at e2
    exact e2
  · exact e
/-- out: what stood still stands -/
theorem Rel.outS (hP : Plain am) (r : Rel ⟨am, F0, H0⟩ F H σ env n) {F1 F2 H2 : Hp} {env2 : Ev} {n2 : Nat} (u1 : Up F F1) (h1 : ∀ b xs, F1 b = some (.tup xs) → F b = some (.tup xs)) (how : ∀ (j : Nat) k b, env[j]? = some (.ow k) → σ[j]? = some (some (.ref b)) → F2 b = none ∨ ∃ xs, F2 b = some (.lst xs)) (u2 : Up F1 F2) (r2 : Rel ⟨am, F1, H⟩ F2 H2 σ env2 n2) : Rel ⟨am, F0, H0⟩ (onlyT F F2) H2 σ env n2 := by
  have up := onlyT_up (u1.trans u2)
  refine ⟨fun b o e => ?_, fun b hb => ?_, hP.pl r2.amb, r.up0.trans up, fun b o e1 nt e2 => ?_, fun b o e ns => r2.keep0 b o (r.keep0 b o e ns) ns, r.len, fun j s e => ?_, r.apart⟩
  · rcases onlyT_inv e with ⟨xs, rfl, e2⟩ | e2
    · exact r2.sub _ _ e2
    · exact r2.sub _ _ ((u1.trans u2) _ _ e2)
  · cases e : onlyT F F2 b with
    | none => rfl
    | some o =>
      rcases onlyT_inv e with ⟨xs, rfl, e2⟩ | e2
      · rw [r2.spf b hb] at e2; cases e2
      · rw [r.spf b hb] at e2; cases e2
  · have hF := r.out0 b o e1 nt e2
    cases e : onlyT F F2 b with
    | none => rfl
    | some ob =>
      rcases onlyT_inv e with ⟨xs, rfl, e3⟩ | e3
      · by_cases hs : am.sp b
        · rw [r2.spf b hs] at e3; cases e3
        · have hb := r2.keep0 b o (r.keep0 b o e1 hs) hs
          rw [r2.sub _ _ e3] at hb
          cases hb
          exact absurd rfl (nt xs)
      · rw [hF] at e3; cases e3
  · have q := r.sl j s e
    cases s with
    | no => trivial
    | fz d => exact let ⟨v, g1, g2⟩ := q; ⟨v, g1, g2.up up⟩
    | ow k =>
      obtain ⟨b, o, g1, g2, g3, g4, g5, g6⟩ := q
      refine ⟨b, o, g1, ?_, g3, g4, r2.keep0 b o g5 g4, g6.up up⟩
      cases e9 : onlyT F F2 b with
      | none => rfl
      | some ob =>
        rcases onlyT_inv e9 with ⟨xs, rfl, e3⟩ | e3
        · rcases how j k b e g1 with z | ⟨ys, z⟩
          · rw [z] at e3; cases e3
          · rw [z] at e3; cases e3
        · rw [g2] at e3; cases e3
variable {X : Cx} {e : Expr} {te : VTE} {tn : VTN}
theorem own_still {F1 F2 H2 : Hp} {env2 : Ev} {n2 : Nat} (r : Rel ⟨am, F0, H0⟩ F H σ env n) {a : Addr} {xs : List V} (e1 : F1 = upd F a (.lst xs)) (u2 : Up F1 F2) (r2 : Rel ⟨am, F1, H⟩ F2 H2 σ env2 n2) : ∀ (j : Nat) k b, env[j]? = some (.ow k) → σ[j]? = some (some (.ref b)) → F2 b = none ∨ ∃ xs, F2 b = some (.lst xs) := fun j k b ej eb => by
  obtain ⟨b', o, g1, g2, g3, g4, g5, g6⟩ := r.sl j _ ej
  rw [eb] at g1
  cases g1
  by_cases h : b = a
  · subst h
    exact .inr ⟨xs, u2 _ _ (by rw [e1]; exact upd_same)⟩
  · exact .inl (r2.out0 b o g5 g6.nt (by show F1 b = none; rw [e1, upd_ne h]; exact g2))
end
end VL
namespace HM
open PySem PySem.Spec PyProof.Rows L2
end HM
namespace VL
open PySem PySem.Spec PyProof.Rows L2 HM
end VL
namespace VL
open PySem PySem.Spec PyProof.Rows L2 HM
end VL
namespace VL
open PySem PySem.Spec PyProof.Rows L2 HM
/-- (len(part), part) -/
def rkD (K : List Nat) : Dt := .tup [nD K.length, .tup (nsD K)]
theorem pys_ns : ∀ K : List Nat, pys (nsD K) = (kI K).map PyData.int
  | [] => by unfold nsD kI; rw [List.map_nil, pys]; rfl
  | x :: K => by
    have ih := pys_ns K
    unfold nsD kI at ih ⊢
    rw [List.map_cons, pys, ih, List.map_cons, List.map_cons]
    congr 1
theorem py_rk (K : List Nat) : py (rkD K) = rankK (kI K) := by
  unfold rkD rankK
  rw [py, pys, pys, pys, show py (nD K.length) = .int (K.length : Int) from by (show py (.int _) = _; rw [py]; all_goals (intros; contradiction)), show py (.tup (nsD K)) = .tuple (pys (nsD K)) from by rw [py]; all_goals (intros; contradiction), pys_ns]
  · unfold kI; rw [List.length_map]
  all_goals (intros; contradiction)
theorem isPy_rk (K : List Nat) : isPy (rkD K) = true := by
  have : isPys (nsD K) = true := by
    induction K with
    | nil => rfl
    | cons x K ih => show (isPy (nD x) && isPys (nsD K)) = true; rw [ih]; rfl
  show (isPy (nD K.length) && (isPy (.tup (nsD K)) && true)) = true
  rw [show isPy (.tup (nsD K)) = true from this]
  rfl
section
variable {n : Nat} {m : Nat → Nat → Nat} {gs L H : List Nat}
theorem rch_in (s : Sub n m L) (hg : ∀ g ∈ gs, g ∈ L) : ∀ {x : Nat}, Rch m gs x → x ∈ L
  | _, .zero => s.ze
  | _, .step a g => s.mul _ (rch_in s hg a) _ (hg _ g)
theorem IsPt.zero (m : Nat → Nat → Nat) : IsPt m [] [0] := ⟨by simp, fun x => ⟨fun h => by rw [List.mem_singleton.mp h]; exact .zero, fun h => by
  cases h with
  | zero => simp
  | step _ g => cases g⟩⟩
/-- few numbers on the way through a part -/
structure FewOn (m : Nat → Nat → Nat) (L : List Nat) (j : Nat) (gs H : List Nat) : Prop where
  few : gs.length ≤ j
  sub : ∀ g ∈ gs, g ∈ L
  pt : IsPt m gs H
  got : ∀ x ∈ L.take j, x ∈ H
theorem FewOn.start (m : Nat → Nat → Nat) (L : List Nat) : FewOn m L 0 [] [0] := ⟨Nat.zero_le _, fun g h => (by cases h), IsPt.zero m, fun x h => by rw [List.take_zero] at h; cases h⟩
theorem FewOn.same {j x : Nat} (F : FewOn m L j gs H) (hx : L[j]? = some x) (h : x ∈ H) : FewOn m L (j + 1) gs H := ⟨Nat.le_succ_of_le F.few, F.sub, F.pt, fun y hy => by
  rw [take_snoc' hx] at hy
  rcases List.mem_append.mp hy with hy | hy
  · exact F.got y hy
  · rw [List.mem_singleton.mp hy]; exact h⟩
theorem FewOn.all (s : Sub n m L) (F : FewOn m L L.length gs H) : IsPt m gs L := by
  have : H = L := rising_eq F.pt.up s.up fun x => ⟨fun hx => rch_in s F.sub ((F.pt.mem x).mp hx), fun hx => F.got x (by rw [List.take_length]; exact hx)⟩
  rw [← this]
  exact F.pt
end
end VL
namespace VL
open PySem PySem.Spec PyProof.Rows L2 HM
section
variable {am : Am} {F0 H0 : Hp} {X : Cx} {e : Expr} {tt : VTT}
/-- a test, slot i held still while it is made -/
def vFrzT (i : Nat) (tt : VTT) : VTT := fun env n Q => ∃ ds, env[i]? = some (.ow (.lst ds)) ∧ tt ((hid env).set i (.fz (.lst ds))) n fun b env2 n2 => env2 = (hid env).set i (.fz (.lst ds)) ∧ Q b env n2
theorem vt_frz {i : Nat} (h : ∀ F0 H0, PT X e (cOf ⟨am, F0, H0⟩ tt)) (hP : Plain am := by assumption) : PT X e (cOf ⟨am, F0, H0⟩ (vFrzT i tt)) :=
  PT.imp (t := fun σ H R => ∃ F0 H0, cOf ⟨am, F0, H0⟩ tt σ H R) ⟨fun pins s σ H Q I ⟨F0, H0, q⟩ => (h F0 H0).run pins s σ H Q I q⟩ fun σ H R ⟨F, env, n, Q, r, ⟨ds, ei, q⟩, k⟩ => by
    obtain ⟨a, xs, hH, hF, hσ, up, r1⟩ := r.intoS ei
    refine ⟨_, H, _, _, n, _, r1, q, fun b H2 F2 env2 n2 r2 u2 q2 => ?_⟩
    obtain ⟨_, q2⟩ := q2
    exact k b H2 _ env n2 (r.outS hP up (fun b ys z => by
      by_cases w : b = a
      · subst w; rw [upd_same] at z; cases z
      · rw [upd_ne w] at z; exact z) (own_still r rfl u2 r2) u2 r2) (onlyT_up (up.trans u2)) q2
end
end VL
namespace VL
open PySem PySem.Spec PyProof.Rows L2 HM
def m1 : Nat → Nat → Nat := fun _ _ => 0
def m2 : Nat → Nat → Nat := fun a b => (a + b) % 2
theorem hse1 : Hse 1 m1 := ⟨by omega, fun _ _ _ _ => by show 0 < 1; omega, fun a ha => by show 0 = a; omega, fun a ha => by show 0 = a; omega, fun _ _ _ _ _ _ => rfl, fun a b c _ hb hc _ => by omega⟩
theorem hse2 : Hse 2 m2 := ⟨by omega, fun a b _ _ => by unfold m2; omega, fun a ha => by unfold m2; omega, fun a ha => by unfold m2; omega, fun a b c _ _ _ => by unfold m2; omega, fun a b c _ hb hc h => by unfold m2 at h; omega⟩
end VL
namespace HM
open PySem PySem.Spec PyProof.Rows L2
section
variable {X : Cx}
theorem pairsT_of {pins : List (Addr × Obj)} {σ : L2.St} {H : Hp} {s : Shared} (I : Inv X pins σ H s) : ∀ (L : List (Addr × List Key × Addr × V)), (∀ q ∈ L, SqT X.K H q.1 [V.ref q.2.2.1, q.2.2.2]) →
    ∃ us : List Value, us.length = L.length ∧ ∀ (j : Nat) q, L[j]? = some q → ∃ u, us[j]? = some u ∧ RelV q.2.2.2 u ∧ IsTup s.heap q.1 #[.ref q.2.2.1, u]
  | [], _ => ⟨[], rfl, fun j q e => by simp at e⟩
  | p :: L, h => by
    obtain ⟨us, hl, hu⟩ := pairsT_of I L fun q hq => h q (List.mem_cons_of_mem _ hq)
    obtain ⟨its, rv, ht, _⟩ := I.tuple (h p List.mem_cons_self)
    obtain ⟨u, y, ei, ru, ry⟩ := vals2 rv
    subst ei
    cases (show u = Value.ref p.2.2.1 from ru)
    refine ⟨y :: us, by rw [List.length_cons, List.length_cons, hl], fun j q e => ?_⟩
    cases j with
    | zero =>
      have e' : p = q := Option.some.inj e
      subst e'
      exact ⟨y, rfl, ry, ht⟩
    | succ j =>
      obtain ⟨u', e1, e2, e3⟩ := hu j q (by simpa using e)
      exact ⟨u', by simpa using e1, e2, e3⟩
theorem kt_all {H : Hp} : ∀ (L : List (List Key × Addr × V)) (us : List Value) {kvs : List (List Key × V)} {xs : List (List Key × Addr × Value)}, KT H kvs xs → us.length = L.length → (∀ (j : Nat) q, L[j]? = some q → H q.2.1 = some (.tup (q.1.map kV)) ∧ ∃ u, us[j]? = some u ∧ RelV q.2.2 u) →
    KT H (L.foldl (fun acc q => putK acc q.1 q.2.2) kvs) ((L.zip us).foldl (fun acc q => storedH acc q.1.1 q.1.2.1 q.2) xs)
  | [], [], _, _, r, _, _ => r
  | [], _ :: _, _, _, _, hl, _ => by cases hl
  | _ :: _, [], _, _, _, hl, _ => by cases hl
  | q :: L, u :: us, kvs, xs, r, hl, h => by
    obtain ⟨h1, u', e, h2⟩ := h 0 q rfl
    cases (show u = u' from Option.some.inj e)
    exact kt_all L us (r.put q.1 h1 h2) (Nat.succ.inj hl) fun j z hz => h (j + 1) z (by simpa using hz)
theorem put_all : ∀ (L : List (List Key × Addr × V)) (acc : List (List Key × V)), ((acc.map (·.1)) ++ L.map (·.1)).Nodup → L.foldl (fun acc q => putK acc q.1 q.2.2) acc = acc ++ L.map fun q => (q.1, q.2.2)
  | [], acc, _ => by simp
  | q :: L, acc, nd => by
    have hq : ¬ (acc.any fun kv => decide (kv.1 = q.1)) = true := fun z => by
      obtain ⟨x, hx, e⟩ := List.any_eq_true.mp z
      rw [List.nodup_append] at nd
      exact nd.2.2 q.1 (List.mem_map.mpr ⟨x, hx, of_decide_eq_true e⟩) q.1 (by simp) rfl
    show L.foldl _ (putK acc q.1 q.2.2) = _
    have e : putK acc q.1 q.2.2 = acc ++ [(q.1, q.2.2)] := by unfold putK; rw [if_neg hq]
    rw [e, put_all L _ (by rw [List.map_append, List.append_assoc]; exact nd), List.append_assoc]
    rfl
theorem call_dictPT (hcalm : X.calm = true) (hu : X.A.units + 8 < cLine) : CallR X (.type "dict") (fun xs H Q => ∃ (a : Addr) (L : List (Addr × List Key × Addr × V)), xs = [.ref a] ∧ SqL X.K H a (L.map fun q => V.ref q.1) ∧ (∀ q ∈ L, SqT X.K H q.1 [V.ref q.2.2.1, q.2.2.2]) ∧ (∀ q ∈ L, H q.2.2.1 = some (.tup (q.2.1.map kV))) ∧ (L.map fun q => q.2.1).Nodup ∧
    ∀ p, H p = none → Q (.ref p) (upd H p (.dT (L.map fun q => (q.2.1, q.2.2.2))))) := by
  intro pins s σ H xs us Q I r q
  obtain ⟨a, L, ex, hq, hp, hk, nd, q⟩ := q
  subst ex
  obtain ⟨u, eu, rx⟩ := vals1 r
  subst eu
  cases rx
  obtain ⟨its, rv, pl, hz⟩ := I.list hq
  have ei : its = (L.map fun q => q.1).map Value.ref := refs_at (by rw [List.map_map]; exact rv)
  subst ei
  obtain ⟨ws, hl, hw⟩ := pairsT_of I L hp
  obtain ⟨o, n, ho, hc, hd, hdat⟩ := pl
  have hws : ∀ (j : Nat) (h : j < L.length), ws[j]? = some (ws.getD j .none) := fun j h => by rw [List.getD_eq_getElem?_getD, List.getElem?_eq_getElem (by omega)]; rfl
  let ps : List (List Key × Addr × Value) := ((L.map (·.2)).zip ws).map fun q => (q.1.1, q.1.2.1, q.2)
  have hps : ∀ (j : Nat) q, L[j]? = some q → ∃ u, ws[j]? = some u ∧ ps[j]? = some (q.2.1, q.2.2.1, u) := fun j q e => by
    obtain ⟨u, e1, _, _⟩ := hw j q e
    refine ⟨u, e1, ?_⟩
    show (((L.map (·.2)).zip ws).map fun q => (q.1.1, q.1.2.1, q.2))[j]? = _
    have hz1 : (L.map (·.2))[j]? = some q.2 := by rw [List.getElem?_map, e]; rfl
    have hz2 : ((L.map (·.2)).zip ws)[j]? = some (q.2, u) := List.getElem?_zip_eq_some.mpr ⟨hz1, e1⟩
    rw [List.getElem?_map, hz2]
    rfl
  have hpl : ps.length = L.length := by
    show (((L.map (·.2)).zip ws).map _).length = _
    rw [List.length_map, List.length_zip, List.length_map, hl, Nat.min_self]
  have hz : L.length ≤ sizeLine := by
    have := hz
    simp only [List.length_map] at this
    exact this
  let prs : List (Value × Value) := ps.map fun x => (Value.ref x.2.1, x.2.2)
  let Ts : Nat → Addr := fun j => match L[j]? with
    | some q => q.1
    | none => 0
  have hprl : prs.length = L.length := by show (ps.map _).length = _; rw [List.length_map, hpl]
  have back : ∀ (j : Nat) (k v : Value), prs[j]? = some (k, v) → ∃ q : Addr × List Key × Addr × V, L[j]? = some q ∧ k = Value.ref q.2.2.1 ∧ ws[j]? = some v ∧ ps[j]? = some (q.2.1, q.2.2.1, v) := fun j k v e => by
    have hj : j < L.length := by rw [← hprl]; exact (List.getElem?_eq_some_iff.mp e).1
    obtain ⟨q, hq⟩ : ∃ q, L[j]? = some q := ⟨_, List.getElem?_eq_getElem hj⟩
    obtain ⟨u, e1, e2⟩ := hps j q hq
    have e : (ps.map fun x : List Key × Addr × Value => (Value.ref x.2.1, x.2.2))[j]? = some (k, v) := e
    rw [List.getElem?_map, e2] at e
    cases e
    exact ⟨q, hq, rfl, e1, e2⟩
  have P := PairArg.list (prog := X.prog) (w := X.w) a ((L.map fun q => q.1).map Value.ref).toArray Ts prs
  have hsz : (Heap.objs s.heap).size = s.heap.objs.size := rfl
  refine call_dict_pairsH (knd := tupleKind (mixKind X.prog X.w)) (ps := ps) P (I.ok.hd hcalm) (tupleKind_room_in1 (by simp only [Around.in1_units]; omega)) ⟨⟨o, n, ho, hc, hd, hdat⟩, ?_, ?_⟩ ⟨by rw [hpl, hprl], fun i key v e => ?_⟩ (fun h' hk' x hx => ?_) (by rw [hprl]; exact hz) fun h' tk hd' k => ?_
  · simp [hprl]
  · intro j k v e
    obtain ⟨q2, hq2, rfl, e1, e2⟩ := back j k v e
    obtain ⟨u, e3, _, ht⟩ := hw j q2 hq2
    rw [e1] at e3
    cases e3
    have eT : Ts j = q2.1 := by show (match L[j]? with | some q => q.1 | none => 0) = _; rw [hq2]
    rw [eT]
    exact ⟨by simp [hq2], .inl ht⟩
  · obtain ⟨q2, hq2, rfl, e1, e2⟩ := back i key v e
    exact ⟨_, _, e2, rfl⟩
  · obtain ⟨j, hj⟩ := List.getElem?_of_mem hx
    have hjl : j < L.length := by rw [← hpl]; exact (List.getElem?_eq_some_iff.mp hj).1
    obtain ⟨q2, hq2⟩ : ∃ q, L[j]? = some q := ⟨_, List.getElem?_eq_getElem hjl⟩
    obtain ⟨u, e1, e2⟩ := hps j q2 hq2
    rw [hj] at e2
    cases e2
    obtain ⟨_, its, r, ob, h1, h2, nn, h3⟩ := (show ObjOk X.prog X.w H s.heap q2.2.2.1 (.tup (q2.2.1.map kV)) from I.hok _ _ (hk q2 (List.mem_of_getElem? hq2)))
    exact ⟨ob, its.toArray, nn, hk' _ _ (Nat.ne_of_lt (Heap.lt_size h1)) (List.not_mem_nil) h1, h2, h3, by simpa using items_are r⟩
  · have hm : (s.heap.objs.size == sysModules) = false := beq_eq_false_iff_ne.mpr (Nat.ne_of_gt I.big)
    have KT1 := kt_all (H := H) (L.map (·.2)) ws (kvs := []) (xs := []) .nil (by rw [hl, List.length_map]) fun j q e => by
      rw [List.getElem?_map] at e
      obtain ⟨q2, hq2, rfl⟩ := Option.map_eq_some_iff.mp e
      obtain ⟨u, e1, e2, _⟩ := hw j q2 hq2
      exact ⟨hk q2 (List.mem_of_getElem? hq2), u, e1, e2⟩
    have ekv : (L.map (·.2)).foldl (fun acc q => putK acc q.1 q.2.2) [] = L.map fun q => (q.2.1, q.2.2.2) := by
      rw [put_all _ _ (by rw [List.map_map]; exact nd), List.nil_append, List.map_map]
      rfl
    have exs : ((L.map (·.2)).zip ws).foldl (fun acc q => storedH acc q.1.1 q.1.2.1 q.2) [] = storedAllH [] ps := by
      show _ = (((L.map (·.2)).zip ws).map fun q => (q.1.1, q.1.2.1, q.2)).foldl (fun acc p => storedH acc p.1 p.2.1 p.2.2) []
      rw [List.foldl_map]
    rw [ekv, exs] at KT1
    have hn := I.hok.fresh (Nat.le_refl s.heap.objs.size)
    obtain ⟨qo, es, ep, hqo, h2, h3, h4, _, h5⟩ := hd'
    refine ⟨.ref s.heap.objs.size, upd H s.heap.objs.size (.dT (L.map fun q => (q.2.1, q.2.2.2))), I.laid (t' := tk) (fun b u e => k b u List.not_mem_nil e) (Nat.le_refl _) (show ObjOk X.prog X.w _ _ _ (.dT _) from ⟨by rw [List.length_map]; exact hz, hm, _, KT1.keeps fun c ys ec => ?_, qo, es, ep, hqo, h2, h3, h4, h5⟩), rfl, q _ hn⟩
    rw [upd_ne (ne_of_none ec hn)]
    exact ec
end
end HM
namespace VL
open PySem PySem.Spec PyProof.Rows L2 HM
theorem pairs_rp {F : Hp} : ∀ {xs : List V} {kvs : List (List Key × Dt)}, Rps F xs (kvs.map fun q => Dt.tup [tupD q.1, q.2]) → ∃ L : List (Addr × List Key × Addr × V), xs = L.map (fun q => V.ref q.1) ∧ kvs.map (·.1) = L.map (fun q => q.2.1) ∧ (∀ q ∈ L, F q.1 = some (.tup [.ref q.2.2.1, q.2.2.2]) ∧ F q.2.2.1 = some (.tup (q.2.1.map kV))) ∧ PrK F (L.map fun q => (q.2.1, q.2.2.2)) kvs
  | [], [], _ => ⟨[], rfl, rfl, fun q hq => (by cases hq), .nil⟩
  | _ :: _, [], h => by cases h
  | [], _ :: _, h => by cases h
  | x :: xs, q :: kvs, h => by
    cases h with
    | cons h1 h2 =>
      obtain ⟨L, e1, e2, e3, e4⟩ := pairs_rp h2
      obtain ⟨a, ys, rfl, hF, ry⟩ := h1.tup_inv
      cases ry with
      | cons r1 r2 =>
        cases r2 with
        | cons r3 r4 =>
          cases r4
          obtain ⟨b, rfl, hb⟩ := r1.tupk
          exact ⟨(a, q.1, b, _) :: L, by rw [e1]; rfl, by rw [List.map_cons, e2]; rfl, fun p hp => by
            rcases List.mem_cons.mp hp with rfl | hp
            · exact ⟨hF, hb⟩
            · exact e3 p hp, .cons ⟨rfl, r3⟩ e4⟩
section
variable {c : Fc} {X : Cx} {e : Expr} {tb : VTE}
/-- dict(pairs), the keys unlike tuples -/
def vDictT (te : VTE) : VTN := fun env n Q => te env n fun d env1 n1 => ∃ kvs : List (List Key × Dt), d = .lst (kvs.map fun q => Dt.tup [tupD q.1, q.2]) ∧ (kvs.map (·.1)).Nodup ∧ Q (.dT kvs) env1 n1
theorem vn_dictT {p pos : Pos} (hu : X.A.units + 64 < cLine) (hc : X.calm = true) (hg : Gl X "dict") (hm : X.mg "dict" = none) (ha : PE X e (tOf c tb))
    (na : starEach [e] X.env = (false, eval e X.env) :: starEach [] X.env := by rfl) (hpl : (backTo pos (starEach [] X.env)).any (·.1) = false := by rfl) : PE X (.Call (.Name "dict" p) [e] [] pos) (nOf c (vDictT tb)) :=
  PE.imp (pe_callTy (call_dictPT hc (by omega)) hg hm (by decide +kernel) (va_cons ha va_nil na) (by decide) (by decide) na hpl) fun σ H R ⟨F, env, n, Q, rr, h, k⟩ => by
    refine ⟨F, env, n, fun ds env1 n1 => match ds with | [d] => (∃ kvs : List (List Key × Dt), d = .lst (kvs.map fun q => Dt.tup [tupD q.1, q.2]) ∧ (kvs.map (·.1)).Nodup ∧ Q (.dT kvs) env1 n1) | _ => False, rr, h, fun vs H1 F1 ds env1 n1 r1 u1 p1 q1 => ?_⟩
    match ds, q1 with
    | [d], ⟨kvs, e1, nd, q1⟩ =>
      subst e1
      obtain ⟨v, rfl, pv⟩ := p1.one
      obtain ⟨a, xs, rfl, hF, rx⟩ := pv.lst_inv
      obtain ⟨L, rfl, e2, e3, e4⟩ := pairs_rp rx
      refine ⟨a, L, rfl, .inl (.inl (r1.sub _ _ hF)), fun q hq => .inl (.inl (r1.sub _ _ (e3 q hq).1)), fun q hq => r1.sub _ _ (e3 q hq).2, by rw [← e2]; exact nd, fun p' np => ?_⟩
      exact nOf_new r1 u1 np (kk := .dT kvs) ⟨_, rfl, e4⟩ q1 k
end
end VL
namespace VL
open PySem PySem.Spec PyProof.Rows L2 HM
end VL
namespace HG
open PySem PySem.Spec PyProof.Rows L2 HM GenW
end HG
namespace HG
open PySem PySem.Spec PyProof.Rows L2 HM GenW
end HG
namespace VL
open PySem PySem.Spec PyProof.Rows L2 HM HG
end VL
namespace VL
open PySem PySem.Spec PyProof.Rows L2 HM
def pk3 (b : Addr) (t l : Int) : List (Key × V) := [(.inr "cells", .ref b), (.inr "at", .int t), (.inr "left", .int l)]
theorem k_ca : ¬ (Sum.inr ("cells" : Str) : Key) = Sum.inr ("at" : Str) := by decide +kernel
theorem k_cl : ¬ (Sum.inr ("cells" : Str) : Key) = Sum.inr ("left" : Str) := by decide +kernel
theorem k_atl : ¬ (Sum.inr ("at" : Str) : Key) = Sum.inr ("left" : Str) := by decide +kernel
theorem q_ca : ¬ (("cells" : Str) = "at") := by decide +kernel
theorem q_cl : ¬ (("cells" : Str) = "left") := by decide +kernel
theorem q_atl : ¬ (("at" : Str) = "left") := by decide +kernel
theorem q_lat : ¬ (("left" : Str) = "at") := by decide +kernel
theorem pk3_cells (b : Addr) (t l : Int) : valV (pk3 b t l) (.inr "cells") = some (.ref b) := rfl
theorem pk3_at (b : Addr) (t l : Int) : valV (pk3 b t l) (.inr "at") = some (.int t) := by
  unfold valV pk3
  rw [List.find?_cons_of_neg (by simpa using k_ca), List.find?_cons_of_pos (by simp)]
  rfl
theorem pk3_left (b : Addr) (t l : Int) : valV (pk3 b t l) (.inr "left") = some (.int l) := by
  unfold valV pk3
  rw [List.find?_cons_of_neg (by simpa using k_cl), List.find?_cons_of_neg (by simpa using k_atl), List.find?_cons_of_pos (by simp)]
  rfl
theorem pk3_put_at (b : Addr) (t l t' : Int) : putK (pk3 b t l) (.inr "at") (.int t') = pk3 b t' l := by
  unfold putK pk3
  simp [q_ca, q_lat]
theorem pk3_put_left (b : Addr) (t l l' : Int) : putK (pk3 b t l) (.inr "left") (.int l') = pk3 b t l' := by
  unfold putK pk3
  simp [q_cl, q_atl]
theorem pk3_merge (b : Addr) (t l : Int) : mergeK [] (pk3 b t l) = pk3 b t l := by
  unfold mergeK pk3
  simp [putK, q_ca, q_cl, q_atl]
structure PenB (K : PySem.W.Frag) (am : Am) (p : Addr) : Prop where
  pl : Plain am
  sp : am.sp p
  rd : ∀ {n F H}, am.ok n F H → ∃ (b : Addr) (ns : List Int) (t l : Int), H p = some (.dK (pk3 b t l)) ∧ H b = some (.lst (ns.map V.int)) ∧ ns.length ≤ 63 ∧ 0 ≤ t ∧ 0 ≤ l
  wr : ∀ {n F H b t l}, am.ok n F H → H p = some (.dK (pk3 b t l)) → ∀ (t' l' : Int), 0 ≤ t' → 0 ≤ l' → am.ok n F (upd H p (.dK (pk3 b t' l')))
theorem PenB.out {K : PySem.W.Frag} {am : Am} {p b : Addr} (h : PenB K am p) {F H : Hp} {n : Nat} {t l : Int} (u : Up F H) (hs : ∀ a, am.sp a → F a = none) (ha : am.ok n F H) (hp : H p = some (.dK (pk3 b t l))) {t' l' : Int} (h1 : 0 ≤ t') (h2 : 0 ≤ l') :
    Out am F H F (upd H p (.dK (pk3 b t' l'))) n :=
  ⟨Up.refl F, fun c o e => by rw [upd_ne (fun (z : c = p) => by rw [z, hs p h.sp] at e; cases e)]; exact u c o e, hs, fun _ _ _ _ e => e, fun c o e nb => by rw [upd_ne (fun (z : c = p) => nb (by rw [z]; exact h.sp))]; exact e, h.wr ha hp t' l' h1 h2⟩
theorem PenB.outG {K : PySem.W.Frag} {am : Am} {p b : Addr} (h : PenB K am p) {F H H' : Hp} {n : Nat} {t l : Int} (u : Up F H) (hs : ∀ a, am.sp a → F a = none) (ha : am.ok n F H) (hp : H p = some (.dK (pk3 b t l))) {t' l' : Int} (h1 : 0 ≤ t') (h2 : 0 ≤ l') (e1 : H' p = some (.dK (pk3 b t' l'))) (e2 : ∀ c o, c ≠ p → H c = some o → H' c = some o) : Out am F H F H' n := by
  have hFp : F p = none := hs p h.sp
  refine ⟨Up.refl F, fun c o e => ?_, hs, fun _ _ _ _ e => e, fun c o e nb => e2 c o (fun z => nb (by rw [z]; exact h.sp)) e, am.mono (h.wr ha hp t' l' h1 h2) (fun c hc => ?_) (fun c oc x e => ?_) (Up.refl F)⟩
  · exact e2 c o (fun z => by rw [z, hFp] at e; cases e) (u c o e)
  · by_cases z : c = p
    · rw [z, upd_same, e1]
    · rw [upd_ne z]
      cases e : H c with
      | none => exact absurd e (am.trk ha hc)
      | some o => rw [e2 c o z e]
  · by_cases z : c = p
    · rw [z, upd_same] at e; cases e
    · rw [upd_ne z] at e
      rw [upd_ne z, e]
      exact e2 c _ z e
def penAmB (p b : Addr) (ns : List Int) : Am where
  sp c := c = p ∨ c = b
  ok _ _ H := (∃ t l, H p = some (.dK (pk3 b t l)) ∧ 0 ≤ t ∧ 0 ≤ l) ∧ H b = some (.lst (ns.map V.int))
  trk := fun {n F H c} ⟨⟨t, l, h, _⟩, h2⟩ hb z => by
    rcases hb with rfl | rfl
    · rw [h] at z; cases z
    · rw [h2] at z; cases z
  ntp := fun {n F H c xs} ⟨⟨t, l, h, _⟩, h2⟩ hb z => by
    rcases hb with rfl | rfl
    · rw [h] at z; cases z
    · rw [h2] at z; cases z
  mono := fun {n F F' H H'} ⟨⟨t, l, h, h0⟩, h2⟩ e _ uF => ⟨⟨t, l, by rw [e p (.inl rfl)]; exact h, h0⟩, by rw [e b (.inr rfl)]; exact h2⟩
theorem plain_penB {p b : Addr} {ns : List Int} : Plain (penAmB p b ns) := ⟨fun h => h⟩
theorem penB_in {K : PySem.W.Frag} {p b : Addr} {ns : List Int} (hl : ns.length ≤ 63) : PenB K (penAmB p b ns) p where
  pl := plain_penB
  sp := .inl rfl
  rd := fun {n F H} ⟨⟨t, l, h, h1, h2⟩, h3⟩ => ⟨b, ns, t, l, h, h3, hl, h1, h2⟩
  wr := fun {n F H b' t l} ⟨⟨t1, l1, h, _⟩, h3⟩ hp t' l' h1 h2 => by
    rw [h] at hp
    have ea : b = b' := by
      have : pk3 b t1 l1 = pk3 b' t l := by injection (Option.some.inj hp)
      injection this with e1
      injection e1 with _ e2
      injection e2
    refine ⟨⟨t', l', by rw [upd_same, ea], h1, h2⟩, ?_⟩
    rw [upd_ne fun z => by rw [z, h] at h3; cases h3]
    exact h3
def spPenB (K : PySem.W.Frag) : Sp := fun vs H Q _ => ∃ (a : Addr) (ns : List Int), vs = [.ref a] ∧ Scr K H a ns ∧ ns.length ≤ 63 ∧ ∀ p b H', Up H H' → H p = none → H b = none → p ≠ b → H' p = some (.dK (pk3 b 0 0)) → H' b = some (.lst (ns.map V.int)) → Q (.ref p) H'
def spTakeB (p : Addr) : VSp := fun ds t Q _ => ∃ m : Nat, ds = [.obj p, nD m] ∧ 0 < m ∧ m ≤ 10000 ∧ ∀ r : Nat, r < m → Q (nD r) t
end VL
namespace VL
open PySem PySem.Spec PyProof.Rows L2 HM
/-- all turns that come of some, or none where they are too many -/
def spClosedB : VSp := fun ds t Q _ => ∃ (m : Nat) (ts : List (List Nat)) (most : Nat), ds = [nD m, .lst (tnsD ts), nD most] ∧ 1 ≤ m ∧ m ≤ 7 ∧ ts.length ≤ 4 ∧ most ≤ 60 ∧ (∀ g ∈ ts, Tn m g) ∧ (∀ gl, IsGr m gl → Q (.lst (tnsD gl)) t) ∧ ((∀ l : List (List Nat), l.Nodup → (∀ x ∈ l, GR m ts x) → l.length ≤ most) ∨ Q .non t)
def rInsV : V → List V → Hp → VK → Prop := fun x vs H Q => ∃ (l : Addr) (xs : List V) (i : Int) (y : V), x = .ref l ∧ vs = [.int i, y] ∧ H l = some (.lst xs) ∧ xs.length < sizeLine ∧ 0 ≤ i ∧ i < 2 ^ 63 ∧
    Q .non (upd H l (.lst (xs.take i.toNat ++ [y] ++ xs.drop i.toNat)))
theorem mt_insV {X : Cx} : MtR X "list.insert" rInsV := mt_insert
def mInsert : RMD := fun ds as Q => ∃ (j : Nat) (y : Dt), as = [.int (j : Int), y] ∧ ds.length ≤ 4000 ∧ j ≤ 5000 ∧ Q .non (ds.take j ++ [y] ++ ds.drop j)
theorem rps_take {F : Hp} : ∀ {xs : List V} {ds : List Dt} (j : Nat), Rps F xs ds → Rps F (xs.take j) (ds.take j)
  | _, _, 0, _ => by rw [List.take_zero, List.take_zero]; exact .nil
  | _, _, _ + 1, .nil => .nil
  | _, _, j + 1, .cons h t => .cons h (rps_take j t)
theorem rps_drop {F : Hp} : ∀ {xs : List V} {ds : List Dt} (j : Nat), Rps F xs ds → Rps F (xs.drop j) (ds.drop j)
  | _, _, 0, h => h
  | _, _, _ + 1, .nil => .nil
  | _, _, j + 1, .cons _ t => rps_drop j t
theorem lft_insert : LftM rInsV mInsert := fun F H a xs ds vs as Q R u hF hH rx ra ⟨j, y, e, hl, hj, q⟩ k => by
  subst e
  obtain ⟨v, w, rfl, p1, p2⟩ := ra.two
  rw [p1.int_inv]
  refine ⟨a, xs, (j : Int), w, rfl, rfl, hH, small1000 (by rw [rx.len]; omega), by omega, by omega, ?_⟩
  rw [Int.toNat_natCast]
  exact k _ _ _ _ .non (((rps_take j rx).append (.cons p2 .nil)).append (rps_drop j rx)) q
end VL
namespace VL
open PySem PySem.Spec PyProof.Rows L2 HM
def mB (k : Nat) (m1 m2 : Nat → Nat → Nat) : Nat → Nat → Nat := fun x y => m1 (x / k) (y / k) * k + m2 (x % k) (y % k)
section
variable {n k : Nat} {m1 m2 : Nat → Nat → Nat}
theorem mB_div {q r : Nat} (hr : r < k) : (q * k + r) / k = q ∧ (q * k + r) % k = r := by
  have hk : 0 < k := by omega
  rw [Nat.mul_comm q k]
  exact ⟨by rw [Nat.mul_add_div hk, Nat.div_eq_of_lt hr, Nat.add_zero], by rw [Nat.mul_add_mod, Nat.mod_eq_of_lt hr]⟩
theorem pair_lt2 {q r : Nat} (hq : q < n) (hr : r < k) : q * k + r < n * k := by
  have : (q + 1) * k ≤ n * k := Nat.mul_le_mul_right k hq
  rw [Nat.succ_mul] at this
  omega
theorem div_lt2 {x : Nat} (h : x < n * k) : x / k < n ∧ x % k < k := by
  have hk : 0 < k := Nat.pos_of_ne_zero fun z => by rw [z, Nat.mul_zero] at h; omega
  exact ⟨(Nat.div_lt_iff_lt_mul hk).mpr h, Nat.mod_lt _ hk⟩
theorem hse_both (h1 : Hse n m1) (h2 : Hse k m2) : Hse (n * k) (mB k m1 m2) := by
  have hk := h2.pos
  have split : ∀ x : Nat, x / k * k + x % k = x := fun x => by rw [Nat.mul_comm]; exact Nat.div_add_mod x k
  refine ⟨Nat.mul_pos h1.pos h2.pos, fun a b ha hb => ?_, fun a ha => ?_, fun a ha => ?_, fun a b c ha hb hc => ?_, fun a b c ha hb hc e => ?_⟩
  · obtain ⟨a1, a2⟩ := div_lt2 ha
    obtain ⟨b1, b2⟩ := div_lt2 hb
    exact pair_lt2 (h1.lt _ _ a1 b1) (h2.lt _ _ a2 b2)
  · obtain ⟨a1, a2⟩ := div_lt2 ha
    unfold mB
    rw [Nat.zero_div, Nat.zero_mod, h1.zl _ a1, h2.zl _ a2, split]
  · obtain ⟨a1, a2⟩ := div_lt2 ha
    unfold mB
    rw [Nat.zero_div, Nat.zero_mod, h1.zr _ a1, h2.zr _ a2, split]
  · obtain ⟨a1, a2⟩ := div_lt2 ha
    obtain ⟨b1, b2⟩ := div_lt2 hb
    obtain ⟨c1, c2⟩ := div_lt2 hc
    unfold mB
    rw [(mB_div (h2.lt _ _ a2 b2)).1, (mB_div (h2.lt _ _ a2 b2)).2, (mB_div (h2.lt _ _ b2 c2)).1, (mB_div (h2.lt _ _ b2 c2)).2, h1.as _ _ _ a1 b1 c1, h2.as _ _ _ a2 b2 c2]
  · obtain ⟨a1, a2⟩ := div_lt2 ha
    obtain ⟨b1, b2⟩ := div_lt2 hb
    obtain ⟨c1, c2⟩ := div_lt2 hc
    have e1 := congrArg (· / k) e
    have e2 := congrArg (· % k) e
    simp only [mB] at e1 e2
    rw [(mB_div (h2.lt _ _ a2 b2)).1, (mB_div (h2.lt _ _ a2 c2)).1] at e1
    rw [(mB_div (h2.lt _ _ a2 b2)).2, (mB_div (h2.lt _ _ a2 c2)).2] at e2
    rw [← split b, ← split c, h1.cn _ _ _ a1 b1 c1 e1, h2.cn _ _ _ a2 b2 c2 e2]
theorem row_more (x1 x2 i : Nat) (hx2 : x2 < k) : (List.range ((i + 1) * k)).map (mB k m1 m2 (x1 * k + x2)) = (List.range (i * k)).map (mB k m1 m2 (x1 * k + x2)) ++ (List.range k).map fun j => m1 x1 i * k + m2 x2 j := by
  rw [Nat.succ_mul, List.range_add, List.map_append, List.map_map]
  congr 1
  refine List.map_congr_left fun j hj => ?_
  have hj := List.mem_range.mp hj
  show mB k m1 m2 (x1 * k + x2) (i * k + j) = _
  unfold mB
  rw [(mB_div hx2).1, (mB_div hx2).2, (mB_div hj).1, (mB_div hj).2]
end
def spBoth : VSp := fun ds t Q _ => ∃ (n k : Nat) (m1 m2 : Nat → Nat → Nat), ds = [houD n m1, houD k m2] ∧ Hse n m1 ∧ Hse k m2 ∧ n * k ≤ 64 ∧ n ≤ 64 ∧ k ≤ 64 ∧ Q (houD (n * k) (mB k m1 m2)) t
end VL
namespace VL
open PySem PySem.Spec PyProof.Rows L2 HM
/-- all that comes of some, breadth first, at most so many steps -/
def grow (ts : List (List Nat)) : Nat → List (List Nat) → List (List Nat)
  | 0, l => l
  | k + 1, l => grow ts k (ts.foldl (fun acc g => l.foldl (fun acc x => if (thn x g) ∈ acc then acc else acc ++ [thn x g]) acc) l)
def closedB (m : Nat) (ts : List (List Nat)) (L : List (List Nat)) : Bool := decide (stay m ∈ L) && L.all fun x => ts.all fun g => decide (thn x g ∈ L)
theorem few_by {m : Nat} {ts L : List (List Nat)} (h : closedB m ts L = true) : ∀ l : List (List Nat), l.Nodup → (∀ x ∈ l, GR m ts x) → l.length ≤ L.length := fun l nd hl => by
  unfold closedB at h
  rw [Bool.and_eq_true, decide_eq_true_iff, List.all_eq_true] at h
  have all : ∀ x, GR m ts x → x ∈ L := fun x g => by
    induction g with
    | stay => exact h.1
    | step _ hg ih => exact of_decide_eq_true (List.all_eq_true.mp (h.2 _ ih) _ hg)
  exact List.Nodup.length_le_of_subset nd fun x hx => all x (hl x hx)
def gr1 : List (List Nat) := [[1, 2, 3, 0, 4, 5, 6], [2, 1, 0, 3, 4, 5, 6], [0, 1, 2, 3, 5, 6, 4], [0, 1, 2, 3, 5, 4, 6]]
def gr2 : List (List Nat) := [[1, 2, 3, 0, 4, 5], [1, 0, 2, 3, 4, 5], [0, 1, 2, 3, 5, 4]]
def gr3 : List (List Nat) := [[1, 2, 3, 4, 0], [1, 2, 0, 3, 4]]
def gr4 : List (List Nat) := [[1, 2, 0, 3, 4, 5], [1, 0, 2, 3, 4, 5], [0, 1, 2, 4, 5, 3], [0, 1, 2, 4, 3, 5]]
theorem few1 : closedB 7 gr1 (grow gr1 12 [stay 7]) = true ∧ (grow gr1 12 [stay 7]).length ≤ 60 := by decide +kernel
theorem few2 : closedB 6 gr2 (grow gr2 12 [stay 6]) = true ∧ (grow gr2 12 [stay 6]).length ≤ 60 := by decide +kernel
theorem few3 : closedB 5 gr3 (grow gr3 12 [stay 5]) = true ∧ (grow gr3 12 [stay 5]).length ≤ 60 := by decide +kernel
theorem few4 : closedB 6 gr4 (grow gr4 12 [stay 6]) = true ∧ (grow gr4 12 [stay 6]).length ≤ 60 := by decide +kernel
def spGreat : VSp := fun ds t Q _ => ∃ j : Nat, ds = [nD j] ∧ j < 4 ∧ ∀ (m : Nat) (gl : List (List Nat)), m ≤ 7 → IsGr m gl → Q (.lst (tnsD gl)) t
def spDrawn : Addr → VSp := fun p ds t Q _ => ds = [.obj p] ∧ ∀ (m : Nat) (gl : List (List Nat)), m ≤ 7 → IsGr m gl → Q (.lst (tnsD gl)) t
end VL
namespace VL
open PySem PySem.Spec PyProof.Rows L2 HM
def v8 (a b : Int) : Int :=
  if a / 2 = 0 ∨ b / 2 = 0 then 2 * (a / 2 + b / 2) + (a + b) % 2
  else if a / 2 = b / 2 then 2 * 0 + (1 - (a + b) % 2)
  else if (b / 2 - a / 2) % 3 = 2 then 2 * (6 - a / 2 - b / 2) + (1 - (a + b) % 2)
  else 2 * (6 - a / 2 - b / 2) + (a + b) % 2
def m8 (a b : Nat) : Nat := (v8 a b).toNat
theorem v8_nat : ∀ a, a < 8 → ∀ b, b < 8 → v8 (a : Nat) (b : Nat) = ((m8 a b : Nat) : Int) := by decide +kernel
theorem m8_lt : ∀ a, a < 8 → ∀ b, b < 8 → m8 a b < 8 := by decide +kernel
theorem m8_z : ∀ a, a < 8 → m8 0 a = a ∧ m8 a 0 = a := by decide +kernel
theorem m8_as : ∀ a, a < 8 → ∀ b, b < 8 → ∀ c, c < 8 → m8 (m8 a b) c = m8 a (m8 b c) := by decide +kernel
theorem m8_cn : ∀ a, a < 8 → ∀ b, b < 8 → ∀ c, c < 8 → m8 a b = m8 a c → b = c := by decide +kernel
theorem hse8 : Hse 8 m8 := ⟨by decide, fun a b ha hb => m8_lt a ha b hb, fun a ha => (m8_z a ha).1, fun a ha => (m8_z a ha).2, fun a b c ha hb hc => m8_as a ha b hb c hc, fun a b c ha hb hc => m8_cn a ha b hb c hc⟩
/-- a, b = x, y -/
def vPar (i j : Nat) (ta : VTA) : VTS := fun V env n => ta env n fun ds env1 n1 => ∃ d e, ds = [d, e] ∧ V.nx ((env1.set i (.fz d)).set j (.fz e)) n1
theorem vs_par {c : Fc} {X : Cx} {i j : Nat} {x y : Str} {a b : Expr} {ta : VTA} {px py pt pos : Pos} {kt k2 pt2} (hc : X.calm = true) (hN : X.N.Nodup) (hi : X.N[i]? = some x) (hj : X.N[j]? = some y) (hij : i ≠ j)
    (hx : X.env.scope.names.lookup x = some .local) (hy : X.env.scope.names.lookup y = some .local) (ha : PA X [a, b] (aOf c ta))
    (hw : swappedStores [.Tuple [.Name x px, .Name y py] kt pt] (.Tuple [a, b] k2 pt2) X.env = pure (some [x, y]) := by rfl)
    (hs : swapsWithSole [.Tuple [.Name x px, .Name y py] kt pt] (.Tuple [a, b] k2 pt2) pos.line X.env = pure false := by rfl) :
    PS X (.Assign [.Tuple [.Name x px, .Name y py] kt pt] (.Tuple [a, b] k2 pt2) pos) (sOf c (vPar i j ta)) := PS.imp (ps_par hc hN hi hj hij hx hy ha hw hs) fun D σ H ⟨F, env, n, V, r, q, k⟩ => by
  refine ⟨F, env, n, _, r, q, fun vs H1 F1 ds env1 n1 r1 u1 p1 q1 => ?_⟩
  obtain ⟨d, e, rfl, q1⟩ := q1
  obtain ⟨v, w, rfl, pv, pw⟩ := p1.two
  exact ⟨v, w, rfl, k.nx F1 H1 _ _ n1 ((r1.setF pv).setF pw) u1 q1⟩
def spEight : VSp := fun ds t Q _ => ds = [] ∧ Q (houD 8 m8) t
end VL
namespace VL
open PySem PySem.Spec PyProof.Rows L2 HM
/-- the numbers below n move the things below N -/
structure Act (n : Nat) (m : Nat → Nat → Nat) (N : Nat) (a : Nat → Nat → Nat) : Prop where
  lt : ∀ x g, x < N → g < n → a x g < N
  ze : ∀ x, x < N → a x 0 = x
  mu : ∀ x g k, x < N → g < n → k < n → a (a x g) k = a x (m g k)
def orb (n N : Nat) (a : Nat → Nat → Nat) (x : Nat) : List Nat := (List.range N).filter fun y => (List.range n).any fun g => decide (a x g = y)
section
variable {n : Nat} {m : Nat → Nat → Nat} {N : Nat} {a : Nat → Nat → Nat}
theorem Act.back (h : Hse n m) (A : Act n m N a) {x g : Nat} (hx : x < N) (hg : g < n) : ∃ k, k < n ∧ m g k = 0 ∧ m k g = 0 ∧ a (a x g) k = x := by
  obtain ⟨k, hk, e1, e2⟩ := h.inv2 hg
  exact ⟨k, hk, e1, e2, by rw [A.mu x g k hx hg hk, e1, A.ze x hx]⟩
end
section
variable {n : Nat} {m : Nat → Nat → Nat} {N : Nat} {a : Nat → Nat → Nat} {ks : List (List Nat)} {L K : List Nat}
open Classical in
/-- the number of a part's kind -/
noncomputable def kdx (n : Nat) (m : Nat → Nat → Nat) (ks : List (List Nat)) (L : List Nat) : Nat := ks.findIdx fun K => decide (∃ g, g < n ∧ Led n m L g K)
theorem kdx_is (h : Hse n m) (k : IsKinds n m ks) (s : Sub n m L) : ∃ K, ks[kdx n m ks L]? = some K ∧ ∃ g, g < n ∧ Led n m L g K := by
  classical
  obtain ⟨K, hK, g, hg, e⟩ := k.all L s
  have hl : kdx n m ks L < ks.length := List.findIdx_lt_length_of_exists ⟨K, hK, decide_eq_true ⟨g, hg, e⟩⟩
  refine ⟨ks[kdx n m ks L], List.getElem?_eq_getElem hl, ?_⟩
  have := List.findIdx_getElem (xs := ks) (p := fun K => decide (∃ g, g < n ∧ Led n m L g K)) (w := hl)
  exact of_decide_eq_true this
theorem kdx_eq (h : Hse n m) (k : IsKinds n m ks) (s : Sub n m L) {i : Nat} (hi : ks[i]? = some K) {g : Nat} (hg : g < n) (e : Led n m L g K) : kdx n m ks L = i := by
  obtain ⟨K2, h2, g2, hg2, e2⟩ := kdx_is h k s
  obtain ⟨b, hb, e3, e4⟩ := h.inv2 hg
  have hK := List.mem_of_getElem? hi
  have l1 : Led n m K b L := Led.back h s hg hb e3 e
  have l2 := Led.then_ h (k.sub K hK) hb hg2 l1 e2
  have := k.one K hK K2 (List.mem_of_getElem? h2) _ (h.lt b g2 hb hg2) l2
  subst this
  obtain ⟨i1, i2⟩ := List.getElem?_eq_some_iff.mp hi
  obtain ⟨j1, j2⟩ := List.getElem?_eq_some_iff.mp h2
  exact (List.getElem_inj (h₀ := j1) (h₁ := i1) k.nd).mp (j2.trans i2.symm)
theorem tL_some {j : Nat} (h : j < ks.length) : ks[j]? = some (tL ks j) := by
  unfold tL
  rw [List.getD_eq_getElem?_getD, List.getElem?_eq_getElem h]
  rfl
end
end VL
namespace VL
open PySem PySem.Spec PyProof.Rows L2 HM
theorem lt_toks : ∀ {a b : List Int}, a.length = b.length → a < b → PyProof.Rows.lexLt PyProof.Rows.itemOrd (PySem.W.keyToksAll (a.map PyData.int)) (PySem.W.keyToksAll (b.map PyData.int)) = true
  | [], [], _, h => absurd h (List.lt_irrefl _)
  | [], _ :: _, e, _ => by cases e
  | _ :: _, [], e, _ => by cases e
  | x :: a, y :: b, e, h => by
    rw [List.map_cons, List.map_cons, PySem.W.dataLt_cons (by simp [PySem.W.alike])]
    have e2 : a.length = b.length := by simpa using e
    rcases List.cons_lt_cons_iff.mp h with z | ⟨z, w⟩
    · have : PyData.eqv (.int x) (.int y) = false := by simp [PyData.eqv]; omega
      rw [this, if_neg (by decide), PySem.W.dataLt_int, decide_eq_true z]
    · subst z
      have : PyData.eqv (.int x) (.int x) = true := by simp [PyData.eqv]
      rw [this, if_pos rfl]
      exact lt_toks e2 w
theorem rk_lt {a b : List Int} (h : rkLe a b = true) (e : a.length = b.length) : ¬ b < a := fun z => by
  have h2 : (!PySem.W.dataLt (rankK b) (rankK a)) = true := h
  rw [Bool.not_eq_true'] at h2
  unfold rankK at h2
  rw [PySem.W.dataLt_pair (by simp [PySem.W.alike]) (by rw [PySem.W.alike]; exact PySem.W.alike_ints _ _)] at h2
  have e2 : PyData.eqv (.int (b.length : Int)) (.int (a.length : Int)) = true := by simp [PyData.eqv, e]
  have e3 : ¬ PyData.eqv (.tuple (b.map PyData.int)) (.tuple (a.map PyData.int)) = true := fun w => by
    have pi : ∀ l : List Int, pys (l.map Dt.int) = l.map PyData.int := fun l => by
      induction l with
      | nil => rfl
      | cons x l ih => show py (.int x) :: pys (l.map Dt.int) = _; rw [ih]; rfl
    have := (pl_eqv (d := .tup (b.map Dt.int)) (e := .tup (a.map Dt.int)) (pls_map (fun _ => rfl) b) (pls_map (fun _ => rfl) a)).mp (by
      show PyData.eqv (.tuple (pys (b.map Dt.int))) (.tuple (pys (a.map Dt.int))) = true
      rw [pi, pi]
      exact w)
    injection this with this
    have : b = a := by
      have inj : ∀ {x y : List Int}, x.map Dt.int = y.map Dt.int → x = y := fun {x} => by
        induction x with
        | nil => intro y h; cases y with | nil => rfl | cons _ _ => cases h
        | cons u x ih => intro y h; cases y with
          | nil => cases h
          | cons v y =>
            rw [List.map_cons, List.map_cons] at h
            injection h with h1 h2
            injection h1 with h1
            rw [h1, ih h2]
      exact inj this
    rw [this] at z
    exact absurd z (List.lt_irrefl _)
  rw [if_pos e2, if_neg e3, PySem.W.dataLt_tuple, lt_toks e.symm z] at h2
  cases h2
/-- the first of its kind -/
noncomputable def isRep (n : Nat) (m : Nat → Nat → Nat) (K : List Nat) : Bool := @decide (∀ g, g < n → ∀ L, Led n m K g L → rkLe (kI K) (kI L) = true) (Classical.propDecidable _)
theorem isRep_iff {n : Nat} {m : Nat → Nat → Nat} {K : List Nat} : isRep n m K = true ↔ ∀ g, g < n → ∀ L, Led n m K g L → rkLe (kI K) (kI L) = true := by
  unfold isRep
  exact @decide_eq_true_iff _ (Classical.propDecidable _)
section
variable {n : Nat} {m : Nat → Nat → Nat} {A ks : List (List Nat)} {j : Nat} {K : List Nat} {C : List (List Nat × Nat)}
theorem rk_refl (a : List Int) : rkLe a a = true := by
  rcases rk_total.2 a a with h | h <;> exact h
theorem ord_at {a b : List Nat} {i j : Nat} (ord : A.Pairwise fun a b => rkLe (kI a) (kI b) = true) (h1 : A[i]? = some a) (h2 : A[j]? = some b) (hij : i ≤ j) : rkLe (kI a) (kI b) = true := by
  obtain ⟨i1, e1⟩ := List.getElem?_eq_some_iff.mp h1
  obtain ⟨j1, e2⟩ := List.getElem?_eq_some_iff.mp h2
  by_cases z : i = j
  · subst z
    rw [← e1, ← e2]
    exact rk_refl _
  · have := List.pairwise_iff_getElem.mp ord i j i1 j1 (by omega)
    rw [e1, e2] at this
    exact this
theorem rep_ex (h : Hse n m) (a : IsAll n m A) (s : Sub n m K) : ∃ k, isRep n m k = true ∧ k ∈ A ∧ ∃ g, g < n ∧ Led n m K g k := by
  classical
  obtain ⟨k, hk⟩ : ∃ k, A.find? (fun L => decide (∃ g, g < n ∧ Led n m K g L)) = some k := by
    cases e : A.find? (fun L => decide (∃ g, g < n ∧ Led n m K g L)) with
    | some k => exact ⟨k, rfl⟩
    | none =>
      have := List.find?_eq_none.mp e K ((a.mem K).mpr s)
      exact absurd (decide_eq_true ⟨0, h.pos, led_zero h s⟩) this
  obtain ⟨g, hg, L⟩ : ∃ g, g < n ∧ Led n m K g k := by
    have := List.find?_some hk
    exact of_decide_eq_true this
  have hkA := List.mem_of_find?_eq_some hk
  refine ⟨k, isRep_iff.mpr fun g2 hg2 L2 l2 => ?_, hkA, g, hg, L⟩
  obtain ⟨p1, as, bs, e3, e4⟩ := List.find?_eq_some_iff_append.mp hk
  have hL2 : L2 ∈ A := (a.mem L2).mpr (l2.sub h (L.sub h s hg) hg2)
  have c2 : ∃ g, g < n ∧ Led n m K g L2 := ⟨m g g2, h.lt g g2 hg hg2, L.then_ h s hg hg2 l2⟩
  rw [e3] at hL2
  have ord := a.ord
  rw [e3] at ord
  rcases List.mem_append.mp hL2 with z | z
  · have := e4 L2 z
    rw [Bool.not_eq_true', decide_eq_false_iff_not] at this
    exact absurd c2 this
  · rcases List.mem_cons.mp z with rfl | z
    · exact rk_refl _
    · exact (List.pairwise_cons.mp (List.pairwise_append.mp ord).2.1).1 L2 z
theorem kinds_of (h : Hse n m) (a : IsAll n m A) : IsKinds n m (A.filter (isRep n m)) := by
  have sub : ∀ K ∈ A.filter (isRep n m), Sub n m K := fun K hK => (a.mem K).mp (List.mem_filter.mp hK).1
  refine ⟨sub, fun K hK g hg K' L => ?_, fun K s => ?_, fun k hk k' hk' g hg L => ?_, a.nd.filter _, a.ord.filter _⟩
  · refine rk_lt (isRep_iff.mp (List.mem_filter.mp hK).2 g hg K' L) ?_
    have := L.len h (sub K hK) hg
    unfold kI
    rw [List.length_map, List.length_map, this]
  · obtain ⟨k, h1, h2, h3⟩ := rep_ex h a s
    exact ⟨k, List.mem_filter.mpr ⟨h2, h1⟩, h3⟩
  · have h1 := isRep_iff.mp (List.mem_filter.mp hk).2 g hg k' L
    obtain ⟨b, hb, e1, e2⟩ := h.inv2 hg
    have h2 := isRep_iff.mp (List.mem_filter.mp hk').2 b hb k (L.back h (sub k hk) hg hb e1)
    exact kI_inj (rk_anti h1 h2)
/-- the kinds that the first j parts have -/
noncomputable def kTo (n : Nat) (m : Nat → Nat → Nat) (A : List (List Nat)) (j : Nat) : List (List Nat) := (A.take j).filter (isRep n m)
theorem kTo_succ (hj : A[j]? = some K) : kTo n m A (j + 1) = kTo n m A j ++ if isRep n m K = true then [K] else [] := by
  unfold kTo
  rw [take_snoc' hj, List.filter_append]
  congr 1
  rw [List.filter_cons]
  split <;> rfl
theorem kTo_at (hj : A[j]? = some K) (r : isRep n m K = true) : (A.filter (isRep n m))[(kTo n m A j).length]? = some K := by
  have e : A = A.take j ++ (A.drop j) := (List.take_append_drop j A).symm
  have e2 : A.drop j = K :: A.drop (j + 1) := by
    obtain ⟨hl, hv⟩ := List.getElem?_eq_some_iff.mp hj
    rw [List.drop_eq_getElem_cons hl, hv]
  have e3 : A.filter (isRep n m) = kTo n m A j ++ K :: (A.drop (j + 1)).filter (isRep n m) := by
    conv => lhs; rw [e, e2]
    rw [List.filter_append, List.filter_cons, if_pos r]
    rfl
  rw [e3, List.getElem?_append_right (Nat.le_refl _), Nat.sub_self]
  rfl
/-- a part is met just where it isn't the first of its kind -/
theorem kTo_met (h : Hse n m) (a : IsAll n m A) (hj : A[j]? = some K) (c : Came n m (A.filter (isRep n m)) (kTo n m A j).length C) : K ∈ C.map (·.1) ↔ ¬ isRep n m K = true := by
  have kk := kinds_of h a
  have s := (a.mem K).mp (List.mem_of_getElem? hj)
  have pre : ∀ {i : Nat} {x : List Nat}, i < (kTo n m A j).length → (A.filter (isRep n m))[i]? = some x → x ∈ A.take j := fun {i x} hi hx => by
    have e : A.filter (isRep n m) = kTo n m A j ++ (A.drop j).filter (isRep n m) := by
      conv => lhs; rw [← List.take_append_drop j A]
      rw [List.filter_append]
      rfl
    rw [e, List.getElem?_append_left hi] at hx
    exact (List.mem_filter.mp (List.mem_of_getElem? hx)).1
  constructor
  · intro hm r
    exact c.apart h kk (kTo_at hj r) h.pos (led_zero h s) hm
  · intro r
    obtain ⟨k, h1, h2, g, hg, L⟩ := rep_ex h a s
    have hk : k ∈ A.filter (isRep n m) := List.mem_filter.mpr ⟨h2, h1⟩
    obtain ⟨b, hb, e1, e2⟩ := h.inv2 hg
    have Lb := L.back h s hg hb e1
    have hle := isRep_iff.mp h1 b hb K Lb
    obtain ⟨p, hp, ep⟩ := List.getElem_of_mem h2
    have ep2 : A[p]? = some k := by rw [List.getElem?_eq_getElem hp, ep]
    have hpj : p < j := Nat.lt_of_not_le fun z => r (by
      have := rk_anti hle (ord_at a.ord hj ep2 z)
      rw [← kI_inj this]
      exact h1)
    have hkt : k ∈ kTo n m A j := List.mem_filter.mpr ⟨List.mem_of_getElem? (by rw [List.getElem?_take_of_lt hpj]; exact ep2), h1⟩
    obtain ⟨i, hi, ei⟩ := List.getElem_of_mem hkt
    refine List.mem_map.mpr ⟨(K, i), (c.mem K i).mpr ⟨hi, k, ?_, b, hb, Lb⟩, rfl⟩
    have e : A.filter (isRep n m) = kTo n m A j ++ (A.drop j).filter (isRep n m) := by
      conv => lhs; rw [← List.take_append_drop j A]
      rw [List.filter_append]
      rfl
    rw [e, List.getElem?_append_left hi, List.getElem?_eq_getElem hi, ei]
theorem came_start : Came n m ks 0 [] := ⟨by simp, fun K i => ⟨fun z => (by cases z), fun z => absurd z.1 (Nat.not_lt_zero _)⟩⟩
theorem Came.one (h : Hse n m) (k : IsKinds n m ks) (c : Came n m ks ks.length C) {i : Nat} (hi : (K, i) ∈ C) : i = VL.kdx n m ks K := by
  obtain ⟨_, K0, h0, g, hg, L⟩ := (c.mem K i).mp hi
  have s0 := k.sub K0 (List.mem_of_getElem? h0)
  obtain ⟨b, hb, e1, e2⟩ := h.inv2 hg
  exact (kdx_eq h k (L.sub h s0 hg) h0 hb (L.back h s0 hg hb e1)).symm
end
end VL
namespace HM
open PySem PySem.Spec PyProof.Rows L2
section
variable {X : Cx}
/-- from here on the thing at d is that very object -/
def tPin (t : TE) : TE := fun σ H Q => t σ H fun v H1 => ∃ d u, H1 d = some u ∧ Mut (some u) ∧ ∀ od, Q v (upd H1 d (.frz od u))
theorem pe_pin {e : Expr} {t : TE} (h : PE X e t) : PE X e (tPin t) := by
  refine ⟨fun pins s σ H Q I hw => ?_⟩
  refine thn (h.run pins s σ H _ I hw) fun v s1 ⟨x, H1, I1, r, d, u, hd, mu, q⟩ => ?_
  obtain ⟨od, I2⟩ := I1.lock hd mu
  exact ⟨x, _, I2, r, q od⟩
end
end HM
namespace VL
open PySem PySem.Spec PyProof.Rows L2 HM
def dicD (kvs : List (List Key × Dt)) : Dt := .dic (kvs.map (·.1)) (kvs.map (·.2))
theorem PrK.vals {κ : Type} {F : Hp} {a : List (κ × V)} {b : List (κ × Dt)} (h : PrK F a b) : Rps F (a.map (·.2)) (b.map (·.2)) := by
  induction h with
  | nil => exact .nil
  | cons h t ih => exact .cons h.2 ih
theorem prk_of {κ : Type} {F : Hp} : ∀ {a : List (κ × V)} {b : List (κ × Dt)}, a.map (·.1) = b.map (·.1) → Rps F (a.map (·.2)) (b.map (·.2)) → PrK F a b
  | [], [], _, _ => .nil
  | x :: a, y :: b, e, h => by
    rw [List.map_cons, List.map_cons] at e
    injection e with e1 e2
    rw [List.map_cons, List.map_cons] at h
    cases h with | cons h t => exact .cons ⟨e1, h⟩ (prk_of e2 t)
  | [], _ :: _, e, _ => by cases e
  | _ :: _, [], e, _ => by cases e
theorem Rp.dic_inv {F : Hp} {v : V} {kvs : List (List Key × Dt)} (h : Rp F v (dicD kvs)) : ∃ a od ks, v = .ref a ∧ F a = some (.frz od (.dT ks)) ∧ PrK F ks kvs := by
  unfold dicD at h
  cases h with | dic h e t => exact ⟨_, _, _, rfl, h, prk_of e t⟩
section
variable {c : Fc} {F H : Hp} {σ : L2.St} {env : Ev} {n i : Nat}
theorem Rel.freezeD {kvs : List (List Key × Dt)} (r : Rel c F H σ env n) (hi : env[i]? = some (.ow (.dT kvs))) :
    ∃ a ks, σ[i]? = some (some (.ref a)) ∧ H a = some (.dT ks) ∧ ∀ od, ∃ F', Up F F' ∧ Rp F' (.ref a) (dicD kvs) ∧ Rel c F' (upd H a (.frz od (.dT ks))) σ (env.set i (.fz (dicD kvs))) n := by
  obtain ⟨a, o, e1, hF, h0, ns, hH, ks, rfl, pr⟩ := r.sl i _ hi
  refine ⟨a, ks, e1, hH, fun od => ?_⟩
  have hrp : Rp (upd F a (.frz od (.dT ks))) (.ref a) (dicD kvs) := .dic upd_same pr.keys ((PrK.vals pr).up (up_lay hF))
  refine ⟨upd F a (.frz od (.dT ks)), up_lay hF, hrp, ?_⟩
  refine ⟨fun b u e => ?_, fun b hb => ?_, c.am.mono r.amb (fun b hb => upd_ne fun (z : b = a) => ns (z ▸ hb)) (codeK_upd fun oc x z => by rw [hH] at z; cases z) (up_lay hF), r.up0.trans (up_lay hF), fun b ob h1 nt h2 => ?_, fun b u e nb => ?_, by rw [List.length_set]; exact r.len, fun j s e => ?_, fun j l b k1 k2 hjl e1 e2 e3 => ?_⟩
  · by_cases z : b = a
    · subst z; rw [upd_same] at e ⊢; exact e
    · rw [upd_ne z] at e ⊢; exact r.sub b u e
  · rw [upd_ne (fun (z : b = _) => ns (by rw [← z]; exact hb))]; exact r.spf b hb
  · rw [upd_ne (fun (z : b = _) => by rw [z, h0] at h1; cases h1)]; exact r.out0 b ob h1 nt h2
  · rw [upd_ne (fun (z : b = _) => by rw [z, h0] at e; cases e)]; exact r.keep0 b u e nb
  · by_cases z : j = i
    · subst z
      rw [List.getElem?_set_self (List.getElem?_eq_some_iff.mp hi).1] at e
      cases e
      exact ⟨_, e1, hrp⟩
    · rw [List.getElem?_set_ne (Ne.symm z)] at e
      have q := r.sl j s e
      cases s with
      | no => trivial
      | fz d => exact let ⟨v, g1, g2⟩ := q; ⟨v, g1, g2.up (up_lay hF)⟩
      | ow kk =>
        obtain ⟨a2, o2, g1, g2, g3, g4, g5, g6⟩ := q
        have ne : a2 ≠ a := fun z2 => r.apart i j a _ kk (Ne.symm z) hi e e1 (by rw [g1, z2])
        exact ⟨a2, o2, g1, by rw [upd_ne ne]; exact g2, g3, g4, by rw [upd_ne ne]; exact g5, g6.up (up_lay hF)⟩
  · have f : ∀ {j : Nat} {k1 : Con}, (env.set i (.fz (dicD kvs)))[j]? = some (.ow k1) → env[j]? = some (.ow k1) := fun {j k1} e => by
      by_cases z : j = i
      · subst z
        rw [List.getElem?_set_self (List.getElem?_eq_some_iff.mp hi).1] at e
        cases e
      · rw [List.getElem?_set_ne (Ne.symm z)] at e
        exact e
    exact r.apart j l b k1 k2 hjl (f e1) (f e2) e3
end
section
variable {c : Fc} {X : Cx} {a b e o : Expr} {te ta tb : VTE} {pos apos p : Pos}
/-- a dict of one's own, still from now on -/
def vMvD (i : Nat) : VTE := fun env n Q => ∃ kvs, env[i]? = some (.ow (.dT kvs)) ∧ Q (dicD kvs) (env.set i (.fz (dicD kvs))) n
theorem ve_mvD {i : Nat} {x : Str} (h : PE X (.Name x pos) (tVar i)) : PE X (.Name x pos) (tOf c (vMvD i)) := PE.imp (pe_pin h) fun σ H R ⟨F, env, n, Q, r, ⟨kvs, e, q⟩, k⟩ => by
  obtain ⟨a, ks, e1, hH, f⟩ := r.freezeD e
  refine ⟨_, e1, a, .dT ks, hH, trivial, fun od => ?_⟩
  obtain ⟨F', u, rp, r'⟩ := f od
  exact k _ _ F' _ _ n r' u rp q
/-- slot i holds a still dict: what stands at k -/
def hasF (env : Ev) (i : Nat) (d : Dt) (r : Option Dt) : Prop := ∃ kvs k, env[i]? = some (.fz (dicD kvs)) ∧ d = tupD k ∧ r = valD kvs k
theorem hasF.get {F H : Hp} {σ : L2.St} {env : Ev} {n i : Nat} {y : V} {d : Dt} {r : Option Dt} (rr : Rel c F H σ env n) (ry : Rp F y d) (h : hasF env i d r) : ∃ a v, σ[i]? = some (some (.ref a)) ∧ DGet H a y v ∧ ((v = none ∧ r = none) ∨ ∃ x z, v = some x ∧ r = some z ∧ Rp F x z) := by
  obtain ⟨kvs, k, e, rfl, rfl⟩ := h
  obtain ⟨v, g1, rv⟩ := rr.sl i _ e
  obtain ⟨a, od, ks, rfl, hF, pr⟩ := rv.dic_inv
  obtain ⟨bb, rfl, hb⟩ := ry.tupk
  refine ⟨a, valV ks k, g1, .inr ⟨ks, k, bb, .inr ⟨od, rr.sub _ _ hF⟩, rfl, rr.sub _ _ hb, rfl⟩, ?_⟩
  rcases pr.val (k := k) with ⟨h1, h2⟩ | ⟨x, z, h1, h2, h3⟩
  · exact .inl ⟨h1, h2⟩
  · exact .inr ⟨x, z, h1, h2, h3⟩
/-- d[k], d still -/
def vFGet (i : Nat) (te : VTE) : VTE := fun env n Q => (∃ kvs, env[i]? = some (.fz (dicD kvs))) ∧ te env n fun d env1 n1 => ∃ z, hasF env1 i d (some z) ∧ Q z env1 n1
theorem ve_fget {i : Nat} (hu : X.A.units + 1 < cLine) (ho : PE X o (tVar i)) (hi : PE X e (tOf c te)) (hs : NoSl e) : PE X (.Subscript o e pos) (tOf c (vFGet i te)) := PE.imp (pe_dget hu ho hi hs) fun σ H R ⟨F, env, n, Q, rr, ⟨⟨kvs, h0⟩, h⟩, k⟩ => by
  obtain ⟨v0, ea, rv0⟩ := rr.sl i _ h0
  obtain ⟨a, od, ks, rfl, hF, pr⟩ := rv0.dic_inv
  refine ⟨_, ea, F, env, n, _, rr, h, fun y H1 F1 d env1 n1 r1 u1 p1 q1 => ?_⟩
  obtain ⟨z, hd, q1⟩ := q1
  obtain ⟨a2, v, e1, g, hv⟩ := hd.get r1 p1
  rw [ea] at e1
  cases e1
  rcases hv with ⟨_, z2⟩ | ⟨x, z2, rfl, e2, rz⟩
  · cases z2
  · cases e2
    exact ⟨a, x, rfl, g, k _ H1 F1 _ env1 n1 r1 u1 rz q1⟩
/-- for k in d, d still -/
def viDic (i : Nat) : VTI := fun env n Q => ∃ kvs, env[i]? = some (.fz (dicD kvs)) ∧ Q (kvs.map fun q => .tup (q.1.map keyD)) env n
theorem wk_dic {am : Am} {F : Hp} {d : Addr} {od : Obj} {ks : List (List Key × V)} {kvs : List (List Key × Dt)} (hF : F d = some (.frz od (.dT ks))) (pr : PrK F ks kvs) : Wk am (Itkt d od ks) F (kvs.map fun q => .tup (q.1.map keyD)) := fun c hc F1 H σ env n r u i => by
  have hl : (kvs.map fun q => Dt.tup (q.1.map keyD)).length = ks.length := by rw [List.length_map, pr.len]
  have hd : H d = some (.frz od (.dT ks)) := r.sub _ _ (u _ _ hF)
  refine ⟨fun hi => ?_, fun hi => ⟨hd, by omega⟩⟩
  refine ⟨⟨hd, by omega⟩, fun x H' y => ?_⟩
  obtain ⟨rfl, k, v, q, ek, rfl, hq⟩ := y
  obtain ⟨p, h1, h2⟩ := pr.get ek
  have h3 : p.1 = k := by
    have hh : ∀ {a : List (List Key × V)} {b : List (List Key × Dt)} {i : Nat}, PrK F a b → a[i]? = some (k, v) → b[i]? = some p → p.1 = k := fun {a b i} pr => by
      induction pr generalizing i with
      | nil => intro z; simp at z
      | cons h t ih =>
        intro z1 z2
        cases i with
        | zero => simp at z1 z2; rw [← z2, ← h.1, z1]
        | succ i => exact ih (by simpa using z1) (by simpa using z2)
    exact hh pr ek h1
  obtain ⟨r2, up⟩ := r.addT hq
  exact ⟨_, _, r2, up, by rw [List.getElem?_map, h1]; rfl, .tup upd_same (by rw [h3]; exact rps_key k)⟩
theorem vi_dic {tg : Expr} {i : Nat} (he : PE X e (tVar i)) : PI X tg e (iOf c (viDic i)) := PI.imp (pi_keys he) fun σ H R ⟨F, env, n, Q, r, ⟨kvs, ei, q⟩, k⟩ => by
  obtain ⟨v, e2, rp⟩ := r.sl i _ ei
  obtain ⟨a, od, ks, rfl, hF, pr⟩ := rp.dic_inv
  exact ⟨_, e2, a, od, rfl, .inr ⟨ks, r.sub _ _ hF, k _ H F _ env n r (Up.refl F) (wk_dic hF pr) q⟩⟩
end
end VL
namespace HM
open PySem PySem.Spec PyProof.Rows L2 VL
section
variable {X : Cx} {pins : List (Addr × Obj)} {σ : L2.St} {H : Hp} {s : Shared}
theorem each_vs : ∀ {L : List (V × List Int)} {vs : List Value}, Vals (L.map (·.1)) vs → PySem.W.EachIs (fun v (p : V × List Int) => RelV p.1 v) vs L
  | [], _, .nil => .nil
  | p :: L, _, .cons r t => .cons r (each_vs t)
theorem vs_each : ∀ {L : List (V × List Int)} {vs : List Value}, PySem.W.EachIs (fun v (p : V × List Int) => RelV p.1 v) vs L → Vals (L.map (·.1)) vs
  | [], _, .nil => .nil
  | p :: L, _, .cons r t => .cons r (vs_each t)
theorem each_rd (I : Inv X pins σ H s) : ∀ {L : List (V × List Int)} {vs : List Value}, Vals (L.map (·.1)) vs → (∀ p ∈ L, Dp X.K H p.1 (rankK p.2)) → PySem.W.EachIs (fun v (p : V × List Int) => ∃ as, Reads s.heap v (rankK p.2) as) vs L
  | [], _, .nil, _ => .nil
  | p :: L, _, .cons r t, h => .cons (Dp.reads I _ _ _ (h p List.mem_cons_self) r) (each_rd I t fun q hq => h q (List.mem_cons_of_mem _ hq))
def rSortRk (K : PySem.W.Frag) : List V → Hp → VK → Prop := fun vs H Q => ∃ (a : Addr) (L : List (V × List Int)), vs = [V.ref a] ∧ SqL K H a (L.map (·.1)) ∧ (∀ p ∈ L, Dp K H p.1 (rankK p.2)) ∧ L.length ≤ 5000 ∧
  ∀ p, H p = none → ∀ L' : List (V × List Int), L'.Perm L → L'.Pairwise (fun a b => rkLe a.2 b.2 = true) → Q (.ref p) (upd H p (.lst (L'.map (·.1))))
theorem cr_sortRk (hu : X.A.units + 64 < cLine) : CallR X (.builtin "sorted") (rSortRk X.K) := by
  intro pins s σ H vs us Q I r h
  obtain ⟨a, L, rfl, hs, hd, hlen, q⟩ := h
  obtain ⟨its, rv, pl, hz⟩ := I.list hs
  rw [Vals.ref1 r]
  have hlL : L.length ≤ sizeLine := Nat.le_of_lt (VL.small1000 hlen)
  refine PySem.W.sorted_data (R := fun v (p : V × List Int) => RelV p.1 v) (enc := fun p : V × List Int => rankK p.2) (bs := L) pl.isList (each_vs rv) (each_rd I rv hd) (PySem.W.AllAlike.of fun a b => alike_rank a.2 b.2) (PySem.W.Sortable.tuples fun b => ⟨_, _, rfl⟩) hlL (fun p _ => by have := depth_rank p.2; omega) fun out hlo e3 => ?_
  obtain ⟨ep, he'⟩ := PyProof.Rows.sortedAll_at s.heap its (List.toArray out)
  have pm : (L.mergeSort (PySem.W.dataLe false fun p : V × List Int => rankK p.2)).Perm L := List.mergeSort_perm _ _
  have hps := PySem.W.sort_pairwise (le := PySem.W.dataLe false fun p : V × List Int => rankK p.2) (by unfold PySem.W.dataLe; exact PySem.W.sortLe_total _ _ _) L
  have hl2 : ((L.mergeSort (PySem.W.dataLe false fun p : V × List Int => rankK p.2)).map (·.1)).length ≤ sizeLine := by rw [List.length_map, pm.length_eq]; exact hlL
  exact ⟨.ref _, upd H (s.heap.objs.size + 1) (.lst ((L.mergeSort (PySem.W.dataLe false fun p : V × List Int => rankK p.2)).map (·.1))), I.laid (t' := s.toks) (fun _ _ => PyProof.Rows.sortedAll_old) (Nat.le_succ _) ⟨hl2, out, ep, vs_each e3, he'⟩, rfl, q _ (I.hok.fresh (Nat.le_succ _)) _ pm hps⟩
end
end HM
namespace VL
open PySem PySem.Spec PyProof.Rows L2 HM
def dSortRk : RCN := fun ds Q => ∃ L : List (List Nat), ds = [.lst (L.map rkD)] ∧ L.length ≤ 5000 ∧ ∀ L' : List (List Nat), L'.Perm L → L'.Pairwise (fun a b => rkLe (kI a) (kI b) = true) → Q (.lst (L'.map rkD))
theorem rk_vs {K : PySem.W.Frag} {F H : Hp} (u : Up F H) : ∀ {xs : List V} {L : List (List Nat)}, Rps F xs (L.map rkD) → ∃ Lp : List (V × List Nat), Lp.map (·.1) = xs ∧ Lp.map (·.2) = L ∧ ∀ p ∈ Lp, Rp F p.1 (rkD p.2) ∧ Dp K H p.1 (rankK (kI p.2))
  | _, [], .nil => ⟨[], rfl, rfl, fun p hp => by cases hp⟩
  | _, K0 :: L, .cons h t => by
    obtain ⟨Lp, e1, e2, h2⟩ := rk_vs (K := K) u t
    refine ⟨(_, K0) :: Lp, by rw [List.map_cons, e1], by rw [List.map_cons, e2], fun p hp => ?_⟩
    rcases List.mem_cons.mp hp with rfl | hp
    · have := Rp.dp (K := K) u h (isPy_rk K0)
      rw [py_rk] at this
      exact ⟨h, this⟩
    · exact h2 p hp
theorem lft_sortRk {K : PySem.W.Frag} : LftN (rSortRk K) dSortRk := fun F H vs ds Q R u rp ⟨L, e, hl, q⟩ k => by
  subst e
  obtain ⟨v, rfl, p⟩ := rp.one
  obtain ⟨a, xs, rfl, hF, rx⟩ := p.lst_inv
  obtain ⟨Lp, rfl, rfl, h2⟩ := rk_vs (K := K) u rx
  refine ⟨a, Lp.map fun p => (p.1, kI p.2), rfl, .inl (.inl (u _ _ (by rw [List.map_map]; exact hF))), fun p hp => ?_, by rw [List.length_map]; rw [List.length_map] at hl; exact hl, fun p np L' pm ps => ?_⟩
  · obtain ⟨p', hp', rfl⟩ := List.mem_map.mp hp
    exact (h2 p' hp').2
  · obtain ⟨M, pm2, rfl⟩ := permInv pm
    have h9 : ∀ {M : List (V × List Nat)}, (∀ p ∈ M, Rp F p.1 (rkD p.2)) → Rps F (M.map (·.1)) ((M.map (·.2)).map rkD) := fun {M} h => by
      induction M with
      | nil => exact .nil
      | cons x M ih => exact .cons (h x List.mem_cons_self) (ih fun p hp => h p (List.mem_cons_of_mem _ hp))
    have h8 := h9 fun p hp => (h2 p (pm2.mem_iff.mp hp)).1
    have e8 : (M.map fun p => (p.1, kI p.2)).map (·.1) = M.map (·.1) := by rw [List.map_map]; rfl
    refine k p (.lst ((M.map fun p => (p.1, kI p.2)).map (·.1))) (.lst ((M.map (·.2)).map rkD)) np ⟨_, rfl, by rw [e8]; exact h8⟩ (q (M.map (·.2)) (pm2.map _) ?_)
    rw [List.pairwise_map] at ps ⊢
    exact ps
section
variable {c : Fc} {X : Cx} {a b e o : Expr} {te ta tb : VTE} {pos apos p : Pos}
/-- for k in d, d one's own, still from now on -/
def viMvD (i : Nat) : VTI := fun env n Q => ∃ kvs, env[i]? = some (.ow (.dT kvs)) ∧ Q (kvs.map fun q => .tup (q.1.map keyD)) (env.set i (.fz (dicD kvs))) n
theorem vi_mvD {tg : Expr} {i : Nat} (he : PE X e (tVar i)) : PI X tg e (iOf c (viMvD i)) := PI.imp (pi_keys (pe_pin he)) fun σ H R ⟨F, env, n, Q, r, ⟨kvs, ei, q⟩, k⟩ => by
  obtain ⟨a, o, g1, hF, h0, ns, g5, ks, rfl, pr0⟩ := r.sl i _ ei
  refine ⟨_, g1, a, .dT ks, g5, trivial, fun od => ?_⟩
  obtain ⟨a2, ks2, e1, hH, f⟩ := r.freezeD ei
  rw [g1] at e1
  cases e1
  rw [g5] at hH
  cases hH
  obtain ⟨F', u, rp, r'⟩ := f od
  obtain ⟨a3, od3, ks3, e3, hF3, pr⟩ := rp.dic_inv
  cases e3
  have := r'.sub _ _ hF3
  rw [upd_same] at this
  cases this
  exact ⟨a, od, rfl, .inr ⟨ks, upd_same, k _ _ F' _ _ n r' u (wk_dic hF3 pr) q⟩⟩
end
end VL
namespace HM
open PySem PySem.Spec PyProof.Rows L2
theorem pe_callP0 {X : Cx} {gd : Around → Prop} {CX : CXT} {k : Nat} {f : Addr} {fd : FuncData} {ps : List Str} {sp : Sp} {E : XK} {x : Str} {p pos : Pos} (G : PFn gd X.prog X.w X.K X.mg X.base CX k f fd ps sp) (hgd : gd X.A) (hr : Room k X.A) (hg : Gl X x) (hm : X.mg x = some (.ref f))
    (hk : PySem.W.keepIn X.K (.ref f) = true) (hb : Binds X.K fd ps []) (hx : Passes CX X E) (hdb : (x == ("__debug__" : Str)) = false := by decide) : PE X (.Call (.Name x p) [] [] pos) (fun σ H Q => sp [] H Q E) := by
  refine ⟨fun pins s σ H Q I q => ?_⟩
  refine wpAny_Call_Name_kw (ld_glob I hg hm ?_ hdb)
  refine PySem.W.callWith_K0 I.kIn hk ?_
  have hl : ([] : List Value).length = ps.length := G.len [] _ _ _ q
  have hbs := hb s [] I.kIn (by rw [List.append_nil]; exact hl)
  rw [List.append_nil] at hbs
  refine wpAny_call (codeAny_mono (G.go X.A X.stack s H ⟨[], []⟩ [] [] Q E hgd hr I.env0 hbs .nil q) fun r s' hq => ?_)
  match r, hq with
  | .error e, hq => exact hx pins σ H s e s' I hq
  | .ok (.ret u), hq => exact I.after hq
  | .ok .next, hq => exact hq.elim
  | .ok .brk, hq => exact hq.elim
  | .ok .cont, hq => exact hq.elim
end HM
namespace VL
open PySem PySem.Spec PyProof.Rows L2 HM
section
variable {c : Fc} {X : Cx} {gd : Around → Prop} {CX : CXT} {k : Nat} {f : Addr} {fd : FuncData} {ps : List Str} {sp : VSp} {x : Str} {p pos : Pos}
theorem ve_call0 (G : VFn gd X.prog X.w X.K X.mg X.base CX k f fd ps c.am sp) (hgd : gd X.A) (hr : Room k X.A) (hg : Gl X x) (hm : X.mg x = some (.ref f)) (hk : PySem.W.keepIn X.K (.ref f) = true) (hb : Binds X.K fd ps []) (hx : Passes CX X (fun _ _ _ => False)) (hdb : (x == ("__debug__" : Str)) = false := by decide) :
    PE X (.Call (.Name x p) [] [] pos) (tOf c (vCall sp vNil)) := PE.imp (pe_callP0 G hgd hr hg hm hk hb hx hdb) fun σ H R q => by
  obtain ⟨F, env, n, Q, rr, q, k⟩ := call_of q
  exact k [] H F [] env n rr (Up.refl F) .nil q
end
end VL
namespace VL
open PySem PySem.Spec PyProof.Rows L2 HM
def dctG (F : List (List Nat × List Nat)) : List (List Key × Dt) := F.map fun q => (kN q.1, .lst (nsD q.2))
theorem dctG_keys (F : List (List Nat × List Nat)) : (dctG F).map (·.1) = (F.map (·.1)).map kN := by unfold dctG; rw [List.map_map, List.map_map]; rfl
theorem dctG_len (F : List (List Nat × List Nat)) : (dctG F).length = F.length := by unfold dctG; rw [List.length_map]
theorem dctG_in {F : List (List Nat × List Nat)} {K : List Nat} : (valD (dctG F) (kN K)).isSome = decide (K ∈ F.map (·.1)) := by
  rw [valD_some, dctG_keys]
  refine decide_eq_decide.mpr ⟨fun h => ?_, fun h => List.mem_map.mpr ⟨K, h, rfl⟩⟩
  obtain ⟨x, hx, e⟩ := List.mem_map.mp h
  exact kN_inj e ▸ hx
theorem dctG_val {F : List (List Nat × List Nat)} {K gs : List Nat} (nd : (F.map (·.1)).Nodup) (h : (K, gs) ∈ F) : valD (dctG F) (kN K) = some (.lst (nsD gs)) := by
  unfold valD dctG
  rw [List.find?_map, Option.map_map]
  have : ∀ {C : List (List Nat × List Nat)}, (C.map (·.1)).Nodup → (K, gs) ∈ C → C.find? ((fun kv : List Key × Dt => decide (kv.1 = kN K)) ∘ fun q => (kN q.1, Dt.lst (nsD q.2))) = some (K, gs) := by
    intro C
    induction C with
    | nil => intro _ z; cases z
    | cons q C ih =>
      intro nd h
      rw [List.map_cons, List.nodup_cons] at nd
      rcases List.mem_cons.mp h with rfl | h
      · rw [List.find?_cons_of_pos (by simp)]
      · rw [List.find?_cons_of_neg, ih nd.2 h]
        simp only [Function.comp, decide_eq_true_eq]
        intro e
        exact nd.1 (List.mem_map.mpr ⟨(K, gs), h, (kN_inj e).symm⟩)
  rw [this nd h]
  rfl
theorem dctG_put {F : List (List Nat × List Nat)} {K gs : List Nat} (h : K ∉ F.map (·.1)) : putD (dctG F) (kN K) (.lst (nsD gs)) = dctG (F ++ [(K, gs)]) := by
  rw [putD_new]
  · unfold dctG; rw [List.map_append]; rfl
  · rw [dctG_keys]
    intro z
    obtain ⟨x, hx, e⟩ := List.mem_map.mp z
    exact h (kN_inj e ▸ hx)
section
variable {n : Nat} {m : Nat → Nat → Nat} {F : List (List Nat × List Nat)} {ws S : List (List Nat)} {K L gs : List Nat} {j : Nat}
/-- parts found, with numbers that they come of; ws wait, K is looked at, its numbers below j are done -/
structure PSr (n : Nat) (m : Nat → Nat → Nat) (F : List (List Nat × List Nat)) (ws : List (List Nat)) : Prop where
  nd : (F.map (·.1)).Nodup
  g : ∀ q ∈ F, IsPt m q.2 q.1 ∧ (∀ g ∈ q.2, g < n) ∧ q.2.length + 1 ≤ q.1.length
  ze : [0] ∈ F.map (·.1)
  wn : ws.Nodup
  sb : ∀ K ∈ ws, K ∈ F.map (·.1)
theorem PSr.subs (h : Hse n m) (P : PSr n m F ws) : ∀ K ∈ F.map (·.1), Sub n m K := fun K hK => by
  obtain ⟨q, hq, rfl⟩ := List.mem_map.mp hK
  obtain ⟨h1, h2, _⟩ := P.g q hq
  exact h1.sub h h2
theorem PSr.few (h : Hse n m) (h60 : n ≤ 60) (P : PSr n m F ws) : F.length ≤ 2400 ∧ ws.length ≤ 2400 := by
  have h1 := few_subs h h60 P.nd (P.subs h)
  have h2 := List.Nodup.length_le_of_subset P.wn fun x hx => P.sb x hx
  rw [List.length_map] at h1 h2
  omega
theorem psr_start (h : Hse n m) : PSr n m [([0], [])] [[0]] := ⟨by simp, fun q hq => by
  rw [List.mem_singleton.mp hq]
  exact ⟨IsPt.zero m, fun g hg => (by cases hg), Nat.le_refl _⟩, by simp, by simp, by simp⟩
theorem PSr.pop (P : PSr n m F (ws ++ [K])) : PSr n m F ws := ⟨P.nd, P.g, P.ze, (List.nodup_append.mp P.wn).1, fun x hx => P.sb x (List.mem_append_left _ hx)⟩
theorem PSr.add (h : Hse n m) (P : PSr n m F ws) (hK : (K, gs) ∈ F) {y : Nat} (hy : y < n) (hn : y ∉ K) (pl : IsPt m (gs ++ [y]) L) (hL : L ∉ F.map (·.1)) : PSr n m (F ++ [(L, gs ++ [y])]) (ws ++ [L]) := by
  obtain ⟨p1, p2, p3⟩ := P.g _ hK
  have hgs : ∀ g ∈ gs ++ [y], g < n := fun g hg => by
    rcases List.mem_append.mp hg with hg | hg
    · exact p2 g hg
    · rw [List.mem_singleton.mp hg]; exact hy
  have sK := p1.sub h p2
  have sub : ∀ x ∈ K, x ∈ L := fun x hx => (pl.mem x).mpr (((p1.mem x).mp hx).mono fun g hg => List.mem_append_left _ hg)
  have hyL : y ∈ L := (pl.mem y).mpr (rch_one h (by simp) hy)
  have hlen : K.length + 1 ≤ L.length := by
    have := len_le_of_sub (k := y :: K) (l := L) (List.nodup_cons.mpr ⟨hn, sK.nd⟩) fun x hx => by
      rcases List.mem_cons.mp hx with rfl | hx
      · exact hyL
      · exact sub x hx
    rwa [List.length_cons] at this
  refine ⟨?_, fun q hq => ?_, by rw [List.map_append]; exact List.mem_append_left _ P.ze, ?_, fun x hx => ?_⟩
  · rw [List.map_append, List.nodup_append]
    exact ⟨P.nd, by simp, fun a ha b hb e => hL (by rw [List.map_cons, List.map_nil, List.mem_singleton] at hb; have hb : b = L := hb; rw [← hb, ← e]; exact ha)⟩
  · rcases List.mem_append.mp hq with hq | hq
    · exact P.g q hq
    · rw [List.mem_singleton.mp hq]
      exact ⟨pl, hgs, by show (gs ++ [y]).length + 1 ≤ L.length; rw [List.length_append, List.length_singleton]; have p3 : gs.length + 1 ≤ K.length := p3; omega⟩
  · rw [List.nodup_append]
    exact ⟨P.wn, by simp, fun a ha b hb e => hL (by rw [List.mem_singleton] at hb; rw [← hb, ← e]; exact P.sb a ha)⟩
  · rw [List.map_append]
    rcases List.mem_append.mp hx with hx | hx
    · exact List.mem_append_left _ (P.sb x hx)
    · rw [List.mem_singleton.mp hx]; simp
theorem map_tL {α : Type} (f : List Nat → α) (L : List (List Nat)) : (List.range L.length).map (fun j => f (tL L j)) = L.map f := by
  refine List.ext_getElem? fun j => ?_
  rw [List.getElem?_map, List.getElem?_map]
  by_cases hj : j < L.length
  · rw [List.getElem?_range hj, tL_some hj]; rfl
  · rw [List.getElem?_eq_none (by rw [List.length_range]; omega), List.getElem?_eq_none (by omega)]; rfl
theorem pt_self (h : Hse n m) (s : Sub n m K) : IsPt m K K := ⟨s.up, fun x => ⟨fun hx => rch_one h hx (s.lt x hx), fun r => s.rch (fun g hg => hg) r⟩⟩
theorem pt_in (h : Hse n m) (s : Sub n m K) {y : Nat} (hy : y ∈ K) : IsPt m (K ++ [y]) K := ⟨s.up, fun x => ⟨fun hx => rch_one h (List.mem_append_left _ hx) (s.lt x hx), fun r => s.rch (fun g hg => by
  rcases List.mem_append.mp hg with hg | hg
  · exact hg
  · rw [List.mem_singleton.mp hg]; exact hy) r⟩⟩
theorem all_grown (h : Hse n m) (h0 : [0] ∈ S) (cl : ∀ K ∈ S, ∀ y, y < n → ∃ L ∈ S, IsPt m (K ++ [y]) L) (sub : ∀ K ∈ S, Sub n m K) (s : Sub n m K) : K ∈ S := by
  have go : ∀ i, i ≤ K.length → ∃ H ∈ S, IsPt m (K.take i) H := fun i => by
    induction i with
    | zero => intro _; exact ⟨[0], h0, by rw [List.take_zero]; exact IsPt.zero m⟩
    | succ i ih =>
      intro hi
      obtain ⟨H, hH, p⟩ := ih (by omega)
      have hy := List.getElem?_eq_getElem (l := K) (i := i) (by omega)
      have hyn := s.lt _ (List.getElem_mem (l := K) (n := i) (by omega))
      obtain ⟨L, hL, pL⟩ := cl H hH _ hyn
      have ht : ∀ g ∈ K.take i, g < n := fun g hg => s.lt g (List.mem_of_mem_take hg)
      have sH := sub H hH
      obtain ⟨l, pl⟩ := pt_ex h (gs := K.take i ++ [K[i]]) fun g hg => by
        rcases List.mem_append.mp hg with hg | hg
        · exact ht g hg
        · rw [List.mem_singleton.mp hg]; exact hyn
      have e := IsPt.eq (grown_cls h sH ht p hyn (sH.refl h hyn) pl) pL fun _ => Iff.rfl
      refine ⟨L, hL, ?_⟩
      rw [take_snoc' hy, ← e]
      exact pl
  obtain ⟨H, hH, p⟩ := go K.length (Nat.le_refl _)
  rw [List.take_of_length_le (Nat.le_refl _)] at p
  rw [(pt_self h s).eq p fun _ => Iff.rfl]
  exact hH
end
end VL
namespace VL
open PySem PySem.Spec PyProof.Rows L2 HM
theorem putD_app {κ : Type} [DecidableEq κ] {a b : List (κ × Dt)} {k : κ} {v : Dt} (h : k ∉ a.map (·.1)) : putD (a ++ b) k v = a ++ putD b k v := by
  have ha : (a.any fun kv => decide (kv.1 = k)) = false := List.any_eq_false.mpr fun x hx e => h (List.mem_map.mpr ⟨x, hx, of_decide_eq_true e⟩)
  have hm : (a.map fun kv => if kv.1 = k then (kv.1, v) else kv) = a := by
    refine (List.map_congr_left fun x hx => ?_).trans (List.map_id' a)
    rw [if_neg fun e => h (List.mem_map.mpr ⟨x, hx, e⟩)]
  unfold putD
  rw [List.any_append, ha, Bool.false_or]
  split
  · rw [List.map_append]
    congr 1
  · rw [List.append_assoc]
theorem dctQ_put {C : List (List Nat × Nat)} {O : List (List Nat)} {L : List Nat} {c : Nat} (h : L ∉ C.map (·.1)) : putD (dctQ (C ++ O.map fun K => (K, c))) (kN L) (nD c) = dctQ (C ++ (if L ∈ O then O else O ++ [L]).map fun K => (K, c)) := by
  have e : ∀ A B : List (List Nat × Nat), dctQ (A ++ B) = dctQ A ++ dctQ B := fun A B => List.map_append
  rw [e, e, putD_app, ← dctP_Q, ← dctP_Q, dctP_put]
  rw [dctQ_keys]
  intro z
  obtain ⟨x, hx, e⟩ := List.mem_map.mp z
  exact h (kN_inj e ▸ hx)
/-- the kinds; of each part its kind's number -/
def spKindsP : VSp := fun ds t Q _ => ∃ (n : Nat) (m : Nat → Nat → Nat), ds = [houD n m] ∧ Hse n m ∧ n ≤ 60 ∧ ∀ ks C, IsKinds n m ks → Came n m ks ks.length C → Q (.tup [.lst (tnD ks), dicD (dctQ C)]) t
end VL
namespace VL
open PySem PySem.Spec PyProof.Rows L2 HM
section
variable {c : Fc} {X : Cx} {st : Stmt} {e : Expr} {ts : VTS} {te : VTE} {tn : VTN}
def vFzS (i : Nat) (ts : VTS) : VTS := fun V env n => ∃ ds, env[i]? = some (.ow (.lst ds)) ∧ ts V (env.set i (.fz (.lst ds))) n
theorem vs_fz {i : Nat} (h : PS X st (sOf c ts)) : PS X st (sOf c (vFzS i ts)) := PS.imp h fun D σ H ⟨F, env, n, V, r, ⟨ds, ei, q⟩, k⟩ => by
  obtain ⟨a, F', e1, u, rp, r'⟩ := r.freeze ei
  exact ⟨F', _, n, V, r', q, k.up u⟩
end
end VL
namespace VL
open PySem PySem.Spec PyProof.Rows L2 HM
end VL
namespace VL
open PySem PySem.Spec PyProof.Rows L2 HM
end VL
namespace HM
open PySem PySem.Spec PyProof.Rows L2 PpSet
end HM
namespace VL
open PySem PySem.Spec PyProof.Rows L2 HM
end VL
namespace VL
open PySem PySem.Spec PyProof.Rows L2 HM
end VL
namespace VL
open PySem PySem.Spec PyProof.Rows L2 HM
theorem row_get {N : Nat} {f : Nat → Nat} {x : Nat} {d : Dt} (h : (nsD ((List.range N).map f))[x]? = some d) : x < N ∧ d = nD (f x) := by
  unfold nsD at h
  rw [List.getElem?_map, List.getElem?_map] at h
  obtain ⟨y1, hy1, rfl⟩ := Option.map_eq_some_iff.mp h
  obtain ⟨y2, hy2, rfl⟩ := Option.map_eq_some_iff.mp hy1
  have hx : x < N := by have := (List.getElem?_eq_some_iff.mp hy2).1; rwa [List.length_range] at this
  rw [List.getElem?_range hx] at hy2
  cases hy2
  exact ⟨hx, rfl⟩
end VL
namespace HM
open PySem PySem.Spec PyProof.Rows L2
end HM
namespace VL
open PySem PySem.Spec PyProof.Rows L2 HM
end VL
namespace VL
open PySem PySem.Spec PyProof.Rows L2 HM
end VL
namespace VL
open PySem PySem.Spec PyProof.Rows L2 HM
end VL
namespace VL
open PySem PySem.Spec PyProof.Rows L2 HM
end VL
namespace VL
open PySem PySem.Spec PyProof.Rows L2 HM
/-- [e for x in xs if t], by places -/
theorem lc_filter1 {tt : VTT} {te : VTE} {vs : List Nat} {xs : List Dt} {env1 : Ev} {n1 : Nat} {Q : Con → Ev → Nat → Prop} {i : Nat} (p : Nat → Bool) (f : Nat → Dt) (hi : i ∈ vs) (no : ∀ i ∈ vs, ∀ k, env1[i]? ≠ some (.ow k)) (hl : xs.length ≤ 5000)
    (h : ∀ (j : Nat) (x : Dt), xs[j]? = some x → (∀ R : Bool → Ev → Nat → Prop, R (p j) ((wipeE env1 vs).set i (.fz x)) n1 → tt ((wipeE env1 vs).set i (.fz x)) n1 R) ∧
      (p j = true → ∀ R : Dt → Ev → Nat → Prop, R (f j) ((wipeE env1 vs).set i (.fz x)) n1 → te ((wipeE env1 vs).set i (.fz x)) n1 R))
    (q : Q (.lst (((List.range xs.length).filter p).map f)) env1 n1) : LcBody (vgName i) tt te vs xs env1 n1 Q := by
  refine ⟨no, hl, fun j acc env n => acc = ((List.range j).filter p).map f ∧ env = wipeE env1 vs ∧ n = n1, ⟨rfl, rfl, rfl⟩, fun j x acc env n hx hP => ?_, fun acc env n _ hP => ?_⟩
  · obtain ⟨rfl, rfl, rfl⟩ := hP
    obtain ⟨h1, h2⟩ := h j x hx
    refine h1 _ ?_
    have es : List.range (j + 1) = List.range j ++ [j] := List.range_succ
    cases hp : p j with
    | true =>
      rw [if_pos rfl]
      refine h2 hp _ ⟨?_, by rw [wipeE_set hi, wipeE_idem], rfl⟩
      rw [es, List.filter_append, List.map_append]
      simp [hp]
    | false =>
      rw [if_neg (by simp)]
      refine ⟨?_, by rw [wipeE_set hi, wipeE_idem], rfl⟩
      rw [es, List.filter_append, List.map_append]
      simp [hp]
  · obtain ⟨rfl, rfl, rfl⟩ := hP
    rw [rest_wipe]
    exact q
theorem all_idx (P : List Nat) (p : Nat → Bool) : ((List.range P.length).map fun j => p (tA P j)).all id = P.all p := by
  have e : P = (List.range P.length).map (tA P) := List.ext_getElem? fun j => by
    rw [List.getElem?_map]
    by_cases hj : j < P.length
    · rw [List.getElem?_range hj, tA_get hj]; rfl
    · rw [List.getElem?_eq_none (by omega), List.getElem?_eq_none (by rw [List.length_range]; omega)]; rfl
  conv => rhs; rw [e, List.all_map]
  rw [List.all_map]
  rfl
end VL
namespace VL
open PySem PySem.Spec PyProof.Rows L2 HM
section
variable {n : Nat} {m : Nat → Nat → Nat} {N : Nat} {a : Nat → Nat → Nat} {ks : List (List Nat)} {L K : List Nat} {C : List (List Nat × Nat)}
theorem idx_countL (l : List (List Nat)) (p : List Nat → Bool) : ((List.range l.length).filter fun j => p (tL l j)).length = (l.filter p).length := by
  have e : l = (List.range l.length).map (tL l) := List.ext_getElem? fun j => by
    rw [List.getElem?_map]
    by_cases hj : j < l.length
    · rw [List.getElem?_range hj, tL_some hj]; rfl
    · rw [List.getElem?_eq_none (by omega), List.getElem?_eq_none (by rw [List.length_range]; omega)]; rfl
  conv => rhs; rw [e, List.filter_map, List.length_map]
  rfl
end
end VL
namespace VL
open PySem PySem.Spec PyProof.Rows L2 HM
end VL
namespace VL
open PySem PySem.Spec PyProof.Rows L2 HM
def pl3 (a : Addr) (t l : Int) : List V := [.ref a, .int t, .int l]
structure PenL (K : PySem.W.Frag) (am : Am) (p : Addr) : Prop where
  pl : Plain am
  sp : am.sp p
  rd : ∀ {n F H}, am.ok n F H → ∃ a ns t l, H p = some (.lst (pl3 a t l)) ∧ Scr K H a ns ∧ ns.length ≤ 63 ∧ 0 ≤ t ∧ 0 ≤ l
  wr : ∀ {n F H a t l}, am.ok n F H → H p = some (.lst (pl3 a t l)) → ∀ (t' l' : Int), 0 ≤ t' → 0 ≤ l' → am.ok n F (upd H p (.lst (pl3 a t' l')))
theorem PenL.out {K : PySem.W.Frag} {am : Am} {p a : Addr} (h : PenL K am p) {F H : Hp} {n : Nat} {t l : Int} (u : Up F H) (hs : ∀ a, am.sp a → F a = none) (ha : am.ok n F H) (hp : H p = some (.lst (pl3 a t l))) {t' l' : Int} (h1 : 0 ≤ t') (h2 : 0 ≤ l') :
    Out am F H F (upd H p (.lst (pl3 a t' l'))) n :=
  ⟨Up.refl F, fun b o e => by rw [upd_ne (fun (z : b = p) => by rw [z, hs p h.sp] at e; cases e)]; exact u b o e, hs, fun _ _ _ _ e => e, fun b o e nb => by rw [upd_ne (fun (z : b = p) => nb (by rw [z]; exact h.sp))]; exact e, h.wr ha hp t' l' h1 h2⟩
end VL
namespace VL
open PySem PySem.Spec PyProof.Rows L2 HM
mutual
theorem py_flat : ∀ d : Dt, (py d).hasDict = false
  | .non => by simp [py, PyData.hasDict]
  | .bl b => by simp [py, PyData.hasDict]
  | .int b => by simp [py, PyData.hasDict]
  | .str b => by simp [py, PyData.hasDict]
  | .ty b => by simp [py, PyData.hasDict]
  | .obj b => by simp [py, PyData.hasDict]
  | .dic a b => by simp [py, PyData.hasDict]
  | .dik a b => by simp [py, PyData.hasDict]
  | .tuP ds => by
    have := pys_flat ds
    simpa [py, PyData.hasDict] using this
  | .lst ds => by
    have := pys_flat ds
    simpa [py, PyData.hasDict] using this
  | .tup ds => by
    have := pys_flat ds
    simpa [py, PyData.hasDict] using this
theorem pys_flat : ∀ ds : List Dt, PyData.hasDictAll (pys ds) = false
  | [] => rfl
  | d :: ds => by
    show ((py d).hasDict || PyData.hasDictAll (pys ds)) = false
    rw [py_flat d, pys_flat ds]
    rfl
end
/-- x is None -/
def isNonD : Dt → Bool
  | .non => true
  | _ => false
def dIsN : R2D := fun x y Q => y = .non ∧ Q (.bl (isNonD x))
theorem lft_isN : Lft2 (fun x y H Q => y = V.non ∧ Q (.bl (decide (x = .non))) H) dIsN := fun F H x y d1 d2 Q R u p1 p2 ⟨e, q⟩ k => by
  subst e
  refine ⟨p2.non_inv, ?_⟩
  have : decide (x = V.non) = isNonD d1 := by
    cases p1 with
    | non => rfl
    | _ => exact decide_eq_false fun z => by cases z
  rw [this]
  exact k _ _ (.bl _) q
end VL
namespace HM
open PySem PySem.Spec PyProof.Rows L2
section
variable {X : Cx}
theorem flat_ints (ys : List Int) : (ys.map V.int).all flatV = true := by
  rw [List.all_eq_true]
  intro v hv
  obtain ⟨i, _, rfl⟩ := List.mem_map.mp hv
  rfl
end
end HM
namespace VL
open PySem PySem.Spec PyProof.Rows L2 HM
end VL
namespace VL
open PySem PySem.Spec PyProof.Rows L2 HM
mutual
def sml (e : Nat) : Dt → Bool
  | .int i => decide (i.natAbs < 10 ^ e)
  | .lst ds => smls e ds
  | .tup ds => smls e ds
  | _ => false
def smls (e : Nat) : List Dt → Bool
  | [] => true
  | d :: ds => sml e d && smls e ds
end
mutual
def csz (e : Nat) : Dt → Nat
  | .lst ds => cszs e ds + 2
  | .tup ds => cszs e ds + 2
  | _ => e + 1
def cszs (e : Nat) : List Dt → Nat
  | [] => 0
  | d :: ds => csz e d + 2 + cszs e ds
end
theorem int_text {i : Int} {e : Nat} (h0 : 0 < e) (h : i.natAbs < 10 ^ e) : (PyData.int i).shown.length ≤ e + 1 := by
  have := int_text_length_le10 h0 h
  show (Str.ofString (toString i)).length ≤ e + 1
  rw [PySem.ofString_length]; exact this
mutual
theorem sml_shown {e : Nat} (h0 : 0 < e) : ∀ d : Dt, sml e d = true → (py d).shown.length ≤ csz e d
  | .int i, h => by
    have h' : decide (i.natAbs < 10 ^ e) = true := h
    have := int_text h0 (of_decide_eq_true h')
    have e2 : py (.int i) = .int i := by rw [py]
    rw [e2]
    exact this
  | .lst ds, h => by
    have h2 := smls_shown h0 ds h
    have h3 := listText_up (PyData.shownAll (pys ds))
    have e2 : py (.lst ds) = .list (pys ds) := by rw [py]
    rw [e2]
    show (listText (PyData.shownAll (pys ds))).length ≤ cszs e ds + 2
    omega
  | .tup ds, h => by
    have h2 := smls_shown h0 ds h
    have h3 := fmt_text (PyData.shownAll (pys ds))
    have e2 : py (.tup ds) = .tuple (pys ds) := by rw [py]
    rw [e2]
    show (tupleText (PyData.shownAll (pys ds))).length ≤ cszs e ds + 2
    omega
  | .non, h => by cases h
  | .bl _, h => by cases h
  | .str _, h => by cases h
  | .ty _, h => by cases h
  | .obj _, h => by cases h
  | .dic _ _, h => by cases h
  | .dik _ _, h => by cases h
  | .tuP _, h => by cases h
theorem smls_shown {e : Nat} (h0 : 0 < e) : ∀ ds : List Dt, smls e ds = true → piled (PyData.shownAll (pys ds)) ≤ cszs e ds
  | [], _ => Nat.le_refl _
  | d :: ds, h => by
    have h' : (sml e d && smls e ds) = true := h
    rw [Bool.and_eq_true] at h'
    have h2 := sml_shown h0 d h'.1
    have h3 := smls_shown h0 ds h'.2
    show piled ((py d).shown :: PyData.shownAll (pys ds)) ≤ csz e d + 2 + cszs e ds
    rw [piled_cons]
    omega
end
mutual
theorem sml_pl {e : Nat} : ∀ d : Dt, sml e d = true → pl d = true
  | .int _, _ => rfl
  | .lst ds, h => smls_pl ds h
  | .tup ds, h => smls_pl ds h
  | .non, h => by cases h
  | .bl _, h => by cases h
  | .str _, h => by cases h
  | .ty _, h => by cases h
  | .obj _, h => by cases h
  | .dic _ _, h => by cases h
  | .dik _ _, h => by cases h
  | .tuP _, h => by cases h
theorem smls_pl {e : Nat} : ∀ ds : List Dt, smls e ds = true → pls ds = true
  | [], _ => rfl
  | d :: ds, h => by
    have h' : (sml e d && smls e ds) = true := h
    rw [Bool.and_eq_true] at h'
    show (pl d && pls ds) = true
    rw [sml_pl d h'.1, smls_pl ds h'.2]
    rfl
end
mutual
theorem sml_showable {e : Nat} (h1 : e ≤ 480) : ∀ d : Dt, sml e d = true → (py d).showable = true
  | .int i, h => by
    have h' : decide (i.natAbs < 10 ^ e) = true := h
    have e2 : py (.int i) = .int i := by rw [py]
    rw [e2]
    have : i.natAbs.log2 < 1920 := by
      rcases Nat.eq_zero_or_pos i.natAbs with z | z
      · rw [z]; decide
      · refine (Nat.log2_lt (by omega)).mpr (Nat.lt_of_lt_of_le (of_decide_eq_true h') ?_)
        refine Nat.le_trans (Nat.pow_le_pow_right (by decide) h1) ?_
        refine Nat.le_trans (Nat.pow_le_pow_left (show 10 ≤ 2 ^ 3 * 2 by decide) 480) ?_
        rw [show (2 ^ 3 * 2 : Nat) = 2 ^ 4 from rfl, ← Nat.pow_mul]
        exact Nat.pow_le_pow_right (by decide) (by decide)
    simpa [PyData.showable] using this
  | .lst ds, h => by
    have e2 : py (.lst ds) = .list (pys ds) := by rw [py]
    rw [e2]
    have := smls_showable h1 ds h
    simpa [PyData.showable] using this
  | .tup ds, h => by
    have e2 : py (.tup ds) = .tuple (pys ds) := by rw [py]
    rw [e2]
    have := smls_showable h1 ds h
    simpa [PyData.showable] using this
  | .non, h => by cases h
  | .bl _, h => by cases h
  | .str _, h => by cases h
  | .ty _, h => by cases h
  | .obj _, h => by cases h
  | .dic _ _, h => by cases h
  | .dik _ _, h => by cases h
  | .tuP _, h => by cases h
theorem smls_showable {e : Nat} (h1 : e ≤ 480) : ∀ ds : List Dt, smls e ds = true → PyData.showableAll (pys ds) = true
  | [], _ => rfl
  | d :: ds, h => by
    have h' : (sml e d && smls e ds) = true := h
    rw [Bool.and_eq_true] at h'
    have g1 := sml_showable h1 d h'.1
    have g2 := smls_showable h1 ds h'.2
    show PyData.showableAll (py d :: pys ds) = true
    simp only [PyData.showableAll, g1, g2, Bool.and_self]
end
mutual
theorem py_depth : ∀ d : Dt, (py d).depth ≤ dep d + 1
  | .int i => by rw [show py (.int i) = .int i by rw [py]]; simp [PyData.depth]
  | .lst ds => by
    rw [show py (.lst ds) = .list (pys ds) by rw [py]]
    have := pys_depth ds
    show PyData.depth (.list (pys ds)) ≤ deps ds + 1 + 1
    simp only [PyData.depth]
    omega
  | .tup ds => by
    rw [show py (.tup ds) = .tuple (pys ds) by rw [py]]
    have := pys_depth ds
    show PyData.depth (.tuple (pys ds)) ≤ deps ds + 1 + 1
    simp only [PyData.depth]
    omega
  | .non => by simp [py, PyData.depth]
  | .bl _ => by simp [py, PyData.depth]
  | .str _ => by simp [py, PyData.depth]
  | .ty _ => by simp [py, PyData.depth]
  | .obj _ => by simp [py, PyData.depth]
  | .dic _ _ => by simp [py, PyData.depth]
  | .dik _ _ => by simp [py, PyData.depth]
  | .tuP ds => by
    rw [show py (.tuP ds) = .tuple (pys ds) by rw [py]]
    have := pys_depth ds
    show PyData.depth (.tuple (pys ds)) ≤ deps ds + 1 + 1
    simp only [PyData.depth]
    omega
theorem pys_depth : ∀ ds : List Dt, PyData.depthAll (pys ds) ≤ deps ds + 1
  | [] => by simp [pys, PyData.depthAll]
  | d :: ds => by
    have h1 := py_depth d
    have h2 := pys_depth ds
    show PyData.depthAll (py d :: pys ds) ≤ max (dep d) (deps ds) + 1
    simp only [PyData.depthAll]
    omega
end
def Sm (e k c : Nat) (d : Dt) : Prop := sml e d = true ∧ dep d ≤ k ∧ csz e d ≤ c
section
variable {e k c : Nat} {d : Dt}
theorem Sm.int {i : Int} (h : i.natAbs < 10 ^ e) : Sm e 0 (e + 1) (.int i) := ⟨decide_eq_true h, Nat.le_refl _, Nat.le_refl _⟩
theorem Sm.nat {i : Nat} (h : i < 10 ^ e) : Sm e 0 (e + 1) (nD i) := Sm.int (by omega)
theorem Sm.mono {k' c' : Nat} (h : Sm e k c d) (hk : k ≤ k') (hc : c ≤ c') : Sm e k' c' d := ⟨h.1, Nat.le_trans h.2.1 hk, Nat.le_trans h.2.2 hc⟩
theorem Sm.all : ∀ {ds : List Dt}, (∀ d ∈ ds, Sm e k c d) → smls e ds = true ∧ deps ds ≤ k ∧ cszs e ds ≤ ds.length * (c + 2)
  | [], _ => ⟨rfl, Nat.zero_le _, Nat.zero_le _⟩
  | d :: ds, h => by
    obtain ⟨h1, h2, h3⟩ := h d List.mem_cons_self
    obtain ⟨g1, g2, g3⟩ := Sm.all (ds := ds) fun x hx => h x (List.mem_cons_of_mem _ hx)
    refine ⟨?_, Nat.max_le.mpr ⟨h2, g2⟩, ?_⟩
    · show (sml e d && smls e ds) = true
      rw [h1, g1]; rfl
    · show csz e d + 2 + cszs e ds ≤ (ds.length + 1) * (c + 2)
      rw [Nat.succ_mul]
      omega
theorem Sm.lst {l : Nat} {ds : List Dt} (h : ∀ d ∈ ds, Sm e k c d) (hl : ds.length ≤ l) : Sm e (k + 1) (l * (c + 2) + 2) (.lst ds) := by
  obtain ⟨g1, g2, g3⟩ := Sm.all h
  refine ⟨g1, Nat.succ_le_succ g2, ?_⟩
  show cszs e ds + 2 ≤ _
  have := Nat.mul_le_mul_right (c + 2) hl
  omega
theorem Sm.tup {l : Nat} {ds : List Dt} (h : ∀ d ∈ ds, Sm e k c d) (hl : ds.length ≤ l) : Sm e (k + 1) (l * (c + 2) + 2) (.tup ds) := by
  obtain ⟨g1, g2, g3⟩ := Sm.all h
  refine ⟨g1, Nat.succ_le_succ g2, ?_⟩
  show cszs e ds + 2 ≤ _
  have := Nat.mul_le_mul_right (c + 2) hl
  omega
theorem sm_ns {l : List Nat} (h : ∀ x ∈ l, x < 10 ^ e) (hl : l.length ≤ c) : Sm e 1 (c * (e + 3) + 2) (.lst (nsD l)) := Sm.lst (k := 0) (c := e + 1) (fun d hd => by
  obtain ⟨x, hx, rfl⟩ := List.mem_map.mp hd
  exact Sm.nat (h x hx)) (by rw [nsD_len]; exact hl)
end
/-- what repr may be asked of -/
def rpS (d : Dt) : Prop := isPy d = true ∧ (py d).showable = true ∧ (py d).depth ≤ 40 ∧ (py d).shown.length ≤ sizeLine
theorem Sm.rp {e k c : Nat} {d : Dt} (h : Sm e k c d) (h0 : 0 < e) (h1 : e ≤ 480) (hk : k ≤ 30) (hc : c ≤ 16777216) : rpS d :=
  ⟨pl_isPy (sml_pl d h.1), sml_showable h1 d h.1, by have := py_depth d; have := h.2.1; omega, Nat.le_trans (sml_shown h0 d h.1) (Nat.le_trans h.2.2 hc)⟩
/-- its text -/
def shD (d : Dt) : Dt := .str (py d).shown
def dReprS : RCD := fun ds Q => ∃ d, ds = [d] ∧ rpS d ∧ Q (shD d)
theorem lft_reprS {K : PySem.W.Frag} : LftC (rRepr K) dReprS := fun F H vs ds Q R u rp ⟨d, e, h, q⟩ k => by
  subst e
  obtain ⟨v, rfl, p⟩ := rp.one
  exact ⟨v, py d, rfl, .flat (p.dp u h.1) (py_flat d), h.2.1, h.2.2.1, h.2.2.2, k _ _ (.str _) q⟩
/-- == of texts -/
def dEqS : R2D := fun x y Q => ∃ s t, x = .str s ∧ y = .str t ∧ Q (.bl (decide (s = t)))
def dNeS : R2D := fun x y Q => ∃ s t, x = .str s ∧ y = .str t ∧ Q (.bl (!decide (s = t)))
theorem dec_str (i j : Str) : decide (V.str i = V.str j) = decide (i = j) := by
  by_cases e : i = j
  · subst e; simp
  · rw [decide_eq_false e, decide_eq_false fun z => e (V.str.inj z)]
theorem lft_eqS : Lft2 rEq dEqS := fun F H x y d1 d2 Q R u p1 p2 ⟨s, t, e1, e2, h⟩ k => by
  subst e1 e2
  cases p1
  cases p2
  exact ⟨rfl, by rw [dec_str]; exact k _ _ (.bl _) h⟩
theorem lft_neS : Lft2 rNe dNeS := fun F H x y d1 d2 Q R u p1 p2 ⟨s, t, e1, e2, h⟩ k => by
  subst e1 e2
  cases p1
  cases p2
  exact ⟨rfl, by rw [dec_str]; exact k _ _ (.bl _) h⟩
theorem dEq_sh {d : Dt} {Q : Dt → Prop} (q : Q (.bl true)) : dEqS (shD d) (shD d) Q := ⟨_, _, rfl, rfl, by rw [decide_eq_true rfl]; exact q⟩
theorem dNe_sh {d : Dt} {Q : Dt → Prop} (q : Q (.bl false)) : dNeS (shD d) (shD d) Q := ⟨_, _, rfl, rfl, by rw [decide_eq_true rfl]; exact q⟩
end VL
namespace VL
open PySem PySem.Spec PyProof.Rows L2 HM
end VL
namespace VL
open PySem PySem.Spec PyProof.Rows L2 HM
def stpD (lo d : Int) (n : Nat) : List Dt := (List.range n).map fun i : Nat => Dt.int (lo + (i : Int) * d)
theorem stpD_len (lo d : Int) (n : Nat) : (stpD lo d n).length = n := by unfold stpD; rw [List.length_map, List.length_range]
section
variable {c : Fc} {X : Cx} {e : Expr}
theorem wk_step {F : Hp} {lo d : Int} {n : Nat} : Wk c.am (Itc lo d n) F (stpD lo d n) := fun c _ F1 H σ env m r u i => by
  refine ⟨fun hi => ?_, fun hi => by rw [stpD_len] at hi; exact hi⟩
  rw [stpD_len] at hi
  refine ⟨hi, fun x H' y => ?_⟩
  obtain ⟨rfl, rfl⟩ := y
  exact ⟨F1, .int (lo + (i : Int) * d), r, Up.refl F1, by simp [stpD, hi], .int _⟩
def viRev (tr : VRG) : VTI := fun env n Q => tr env n fun a b env1 n1 => (-1000000 ≤ a ∧ a ≤ 1000000 ∧ -1000000 ≤ b ∧ b ≤ 1000000) ∧ Q (stpD (a + (((b - a).toNat : Nat) : Int) - 1) (-1) (b - a).toNat) env1 n1
theorem vi_revR {tg : Expr} {p pos : Pos} {tr : VRG} (hg : Gl X "reversed") (hm : X.mg "reversed" = none) (he : PRg X e (rgOf c tr)) (hs : starEach [e] X.env = (false, eval e X.env) :: starEach [] X.env := by rfl) : PI X tg (.Call (.Name "reversed" p) [e] [] pos) (iOf c (viRev tr)) := PI.imp (pi_revR hg hm he hs) fun σ H R ⟨F, env, n, Q, r, q, k⟩ =>
  ⟨F, env, n, _, r, q, fun a b H' F' env' n' r' w qd => by
    obtain ⟨hb, qd⟩ := qd
    exact ⟨by omega, by omega, by omega, by omega, k _ H' F' _ env' n' r' w wk_step qd⟩⟩
end
theorem rev_get {N i : Nat} {d : Dt} (h : (stpD (0 + ((((N : Int) - 0).toNat : Nat) : Int) - 1) (-1) ((N : Int) - 0).toNat)[i]? = some d) : i < N ∧ d = nD (N - 1 - i) := by
  unfold stpD at h
  rw [Int.sub_zero, Int.toNat_natCast, List.getElem?_map] at h
  obtain ⟨j, hj, rfl⟩ := Option.map_eq_some_iff.mp h
  have hl := (List.getElem?_eq_some_iff.mp hj).1
  rw [List.length_range] at hl
  rw [List.getElem?_range hl] at hj
  cases hj
  refine ⟨hl, congrArg Dt.int ?_⟩
  omega
theorem rev_len (N : Nat) : (stpD (0 + ((((N : Int) - 0).toNat : Nat) : Int) - 1) (-1) ((N : Int) - 0).toNat).length = N := by rw [stpD_len, Int.sub_zero, Int.toNat_natCast]
def isD (l : List Int) : List Dt := l.map Dt.int
theorem isD_len (l : List Int) : (isD l).length = l.length := List.length_map _
theorem isD_at {r : Nat} {f : Nat → Int} {i : Nat} (h : i < r) : atI (isD ((List.range r).map f)) (i : Int) = some (.int (f i)) := atI_nat (by unfold isD; rw [List.getElem?_map, List.getElem?_map, List.getElem?_range h]; rfl)
theorem isD_get {r : Nat} {f : Nat → Int} {i : Nat} {d : Dt} (h : (isD ((List.range r).map f))[i]? = some d) : i < r ∧ d = .int (f i) := by
  unfold isD at h
  rw [List.getElem?_map, List.getElem?_map] at h
  obtain ⟨z, hz, rfl⟩ := Option.map_eq_some_iff.mp h
  obtain ⟨j, hj, rfl⟩ := Option.map_eq_some_iff.mp hz
  have hl := (List.getElem?_eq_some_iff.mp hj).1
  rw [List.length_range] at hl
  rw [List.getElem?_range hl] at hj
  cases hj
  exact ⟨hl, rfl⟩
/-- the sum over the first b kinds -/
def pm (T : Nat → Nat → Nat) (cs : Nat → Int) : Nat → Nat → Int
  | 0, _ => 0
  | b + 1, j => pm T cs b j + cs b * (T b j : Int)
structure Tri (r : Nat) (T : Nat → Nat → Nat) : Prop where
  pos : ∀ i, i < r → 0 < T i i
  le : ∀ i j, i < r → j < r → T i j ≤ 60
  up : ∀ i j, i < j → j < r → T i j = 0
section
variable {r : Nat} {T : Nat → Nat → Nat} {cs ds : Nat → Int}
theorem pm_zero (t : Tri r T) {j : Nat} (hj : j < r) : ∀ b, b ≤ j → pm T cs b j = 0
  | 0, _ => rfl
  | b + 1, h => by
    show pm T cs b j + cs b * (T b j : Int) = 0
    rw [pm_zero t hj b (by omega), t.up b j (by omega) hj]
    simp
theorem pm_own (t : Tri r T) {j : Nat} (hj : j < r) : pm T cs (j + 1) j = cs j * (T j j : Int) := by
  show pm T cs j j + cs j * (T j j : Int) = _
  rw [pm_zero t hj j (Nat.le_refl j), Int.zero_add]
theorem pm_one (t : Tri r T) : ∀ b, b ≤ r → (∀ j, j < r → pm T cs b j = pm T ds b j) → ∀ i, i < b → cs i = ds i
  | 0, _, _, i, hi => absurd hi (Nat.not_lt_zero i)
  | b + 1, hb, h, i, hi => by
    have hbr : b < r := by omega
    have e := h b hbr
    rw [pm_own t hbr, pm_own t hbr] at e
    have eb : cs b = ds b := Int.eq_of_mul_eq_mul_right (by have := t.pos b hbr; omega) e
    by_cases z : i = b
    · rw [z]; exact eb
    · refine pm_one t b (by omega) (fun j hj => ?_) i (by omega)
      have := h j hj
      show pm T cs b j = pm T ds b j
      have e2 : pm T cs b j + cs b * (T b j : Int) = pm T ds b j + ds b * (T b j : Int) := this
      rw [eb] at e2
      omega
theorem pm_congr : ∀ b j, (∀ i, i < b → cs i = ds i) → pm T cs b j = pm T ds b j
  | 0, _, _ => rfl
  | b + 1, j, h => by
    show pm T cs b j + cs b * (T b j : Int) = pm T ds b j + ds b * (T b j : Int)
    rw [pm_congr b j fun i hi => h i (by omega), h b (by omega)]
theorem pm_add : ∀ b j, pm T (fun i => cs i + ds i) b j = pm T cs b j + pm T ds b j
  | 0, _ => rfl
  | b + 1, j => by
    show pm T (fun i => cs i + ds i) b j + (cs b + ds b) * (T b j : Int) = (pm T cs b j + cs b * (T b j : Int)) + (pm T ds b j + ds b * (T b j : Int))
    rw [pm_add b j, Int.add_mul]
    omega
theorem pm_sub : ∀ b j, pm T (fun i => cs i - ds i) b j = pm T cs b j - pm T ds b j
  | 0, _ => rfl
  | b + 1, j => by
    show pm T (fun i => cs i - ds i) b j + (cs b - ds b) * (T b j : Int) = (pm T cs b j + cs b * (T b j : Int)) - (pm T ds b j + ds b * (T b j : Int))
    rw [pm_sub b j, Int.sub_mul]
    omega
theorem pm_scale (c : Int) : ∀ b j, pm T (fun i => c * cs i) b j = c * pm T cs b j
  | 0, _ => (Int.mul_zero c).symm
  | b + 1, j => by
    show pm T (fun i => c * cs i) b j + c * cs b * (T b j : Int) = c * (pm T cs b j + cs b * (T b j : Int))
    rw [pm_scale c b j, Int.mul_add, Int.mul_assoc]
theorem pm_none : ∀ b j, pm T (fun _ => 0) b j = 0
  | 0, _ => rfl
  | b + 1, j => by
    show pm T (fun _ => 0) b j + 0 * (T b j : Int) = 0
    rw [pm_none b j]; simp
end
def tabM (n : Nat) (m : Nat → Nat → Nat) (ks : List (List Nat)) (i j : Nat) : Nat := mkN n m (tL ks i) (tL ks j)
section
variable {n : Nat} {m : Nat → Nat → Nat} {ks : List (List Nat)} {N : Nat} {a : Nat → Nat → Nat}
theorem mkN_le (P O : List Nat) : mkN n m P O ≤ n := by
  unfold mkN lst
  exact Nat.le_trans (List.length_filter_le _ _) (Nat.le_trans (List.length_filter_le _ _) (by rw [List.length_range]; exact Nat.le_refl n))
theorem mkN_in (h : Hse n m) {P O : List Nat} (s : Sub n m P) (t : Sub n m O) (hz : mkN n m P O ≠ 0) : ∃ g l, g < n ∧ Led n m P g l ∧ ∀ x ∈ O, x ∈ l := by
  have : (lst m P n).filter (phi m P O) ≠ [] := fun e => hz (by unfold mkN; rw [e]; rfl)
  obtain ⟨g, hg⟩ := List.exists_mem_of_ne_nil _ this
  obtain ⟨h1, h2⟩ := List.mem_filter.mp hg
  have hgn := (lst_mem.mp h1).1
  obtain ⟨l, L⟩ := led_ex h s hgn
  exact ⟨g, l, hgn, L, fun x hx => (L.iff h s hgn x).mpr ⟨t.lt x hx, (phi_iff h s t.lt hgn).mp h2 x hx⟩⟩
theorem tri_kinds (h : Hse n m) (hn : n ≤ 60) (k : IsKinds n m ks) : Tri ks.length (tabM n m ks) := by
  classical
  refine ⟨fun i hi => ?_, fun i j _ _ => Nat.le_trans (mkN_le _ _) hn, fun i j hij hj => ?_⟩
  · have s := k.sub _ (List.mem_of_getElem? (tL_some hi))
    have hS : ∀ g, g ∈ (List.range n).filter (fun g => decide (Led n m (tL ks i) g (tL ks i))) ↔ g < n ∧ Led n m (tL ks i) g (tL ks i) := fun g => by
      rw [List.mem_filter, List.mem_range, decide_eq_true_iff]
    have e := mk_own h s (List.Pairwise.filter _ List.pairwise_lt_range) hS
    refine Nat.pos_of_ne_zero fun z => ?_
    have z : mkN n m (tL ks i) (tL ks i) = 0 := z
    rw [z, Nat.zero_mul] at e
    have h0 : (0 : Nat) ∈ (List.range n).filter (fun g => decide (Led n m (tL ks i) g (tL ks i))) := (hS 0).mpr ⟨h.pos, led_zero h s⟩
    rw [List.length_eq_zero_iff.mp e.symm] at h0
    cases h0
  · have hi : i < ks.length := by omega
    have si := k.sub _ (List.mem_of_getElem? (tL_some hi))
    have sj := k.sub _ (List.mem_of_getElem? (tL_some hj))
    refine Classical.byContradiction fun hz => ?_
    obtain ⟨g, l, hg, L, hin⟩ := mkN_in h si sj hz
    have e1 := L.len h si hg
    have sl := L.sub h si hg
    have le1 := len_le_of_sub sj.nd hin
    have od := List.pairwise_iff_getElem.mp k.ord i j hi hj hij
    have le2 := rk_len od
    unfold kI at le2
    rw [List.length_map, List.length_map] at le2
    have g1 : ks[i] = tL ks i := by have := tL_some hi; rw [List.getElem?_eq_getElem hi] at this; exact Option.some.inj this
    have g2 : ks[j] = tL ks j := by have := tL_some hj; rw [List.getElem?_eq_getElem hj] at this; exact Option.some.inj this
    rw [g1, g2] at le2
    have e2 : tL ks j = l := by
      refine rising_eq sj.up sl.up fun x => ⟨hin x, fun hx => ?_⟩
      exact full_of_nodup sj.nd hin (by omega) x hx
    rw [← e2] at L
    have e3 := k.one _ (List.mem_of_getElem? (tL_some hi)) _ (List.mem_of_getElem? (tL_some hj)) g hg L
    have : i = j := (List.getElem?_inj hi k.nd).mp (by rw [tL_some hi, tL_some hj, e3])
    omega
end
def spLTable : VSp := fun ds t Q _ => ∃ (n : Nat) (m : Nat → Nat → Nat) (ks : List (List Nat)) (C : List (List Nat × Nat)), ds = [houD n m, .lst (tnD ks), dicD (dctQ C)] ∧ Hse n m ∧ n ≤ 60 ∧ IsKinds n m ks ∧ Came n m ks ks.length C ∧ Q (houD ks.length (tabM n m ks)) t
theorem tbl_perm {n : Nat} {K J : List Nat} {O A : List (List Nat)} (pm : O.Perm A) : tblN n K J A = tblN n K J O := by
  unfold tblN
  rw [pm.length_eq, (pm.filter _).length_eq]
theorem all_inc (J A : List Nat) : (J.all fun k => decide (k ∈ A)) = inc J A := by
  unfold inc
  rw [Bool.eq_iff_iff, List.all_eq_true, decide_eq_true_iff]
  exact forall_congr' fun x => forall_congr' fun _ => decide_eq_true_iff
theorem al_list (C : List (List Nat × Nat)) (p : Nat → Bool) : ((List.range C.length).filter fun j => p (tA (C.map (·.2)) j)).map (fun j => Dt.tup (List.map keyD (kN (tL (C.map (·.1)) j)))) = tnD ((C.filter fun q => p q.2).map (·.1)) := by
  have e : C = (List.range C.length).map fun j => (tL (C.map (·.1)) j, tA (C.map (·.2)) j) := List.ext_getElem? fun j => by
    rw [List.getElem?_map]
    by_cases hj : j < C.length
    · rw [List.getElem?_range hj, List.getElem?_eq_getElem hj]
      show some C[j] = some (tL (C.map (·.1)) j, tA (C.map (·.2)) j)
      rw [tL_get (ks := C.map (·.1)) (j := j) (K := C[j].1) (by rw [List.getElem?_map, List.getElem?_eq_getElem hj]; rfl)]
      unfold tA
      rw [List.getD_eq_getElem?_getD, List.getElem?_map, List.getElem?_eq_getElem hj]
      rfl
    · rw [List.getElem?_eq_none (by omega), List.getElem?_eq_none (by rw [List.length_range]; omega)]; rfl
  conv => rhs; rw [e, List.filter_map, List.map_map]
  unfold tnD
  rw [List.map_map]
  exact List.map_congr_left fun j _ => (tup_key _).symm
end VL
namespace VL
open PySem PySem.Spec PyProof.Rows L2 HM
def tb2 (n M : Nat) : Nat → Nat → Nat
  | 0, _ => 0
  | f + 1, k => if M ≤ k then 1 else (n - k) * (((List.range (M + 1)).filter fun j => decide (2 * k ≤ j ∧ j % k = 0 ∧ M % j = 0)).map fun j => tb2 n M f j).foldr Nat.max 0 / (M - k)
section
variable {n : Nat} {m : Nat → Nat → Nat} {K : List Nat}
theorem few_over2 (h : Hse n m) (h60 : n ≤ 60) {M : Nat} : ∀ (f : Nat) {K : List Nat} {L : List (List Nat)}, Sub n m K → L.Nodup → (∀ H ∈ L, Sub n m H ∧ H.length = M ∧ ∀ x ∈ K, x ∈ H) → 60 < K.length * 2 ^ f → L.length ≤ tb2 n M f K.length := by
  intro f
  induction f with
  | zero =>
    intro K L s _ _ hb
    have := few_of_nodup s.nd s.lt
    omega
  | succ f ih =>
    intro K L s nd hL hb
    unfold tb2
    split
    · rename_i hk
      -- one at most
      have he : ∀ H ∈ L, H = K := fun H hH => by
        obtain ⟨s2, e, hs⟩ := hL H hH
        exact rising_eq s2.up s.up fun x => ⟨fun z => full_of_nodup s.nd hs (by omega) x z, hs x⟩
      match L, nd, he with
      | [], _, _ => exact Nat.zero_le _
      | [_], _, _ => exact Nat.le_refl _
      | a :: b :: _, nd, he =>
        exact absurd (by rw [he a (by simp), he b (by simp)]) (fun z : a = b => (List.nodup_cons.mp nd).1 (by rw [z]; simp))
    · rename_i hk
      have hk : K.length < M := Nat.lt_of_not_le hk
      obtain ⟨B, eB⟩ : ∃ B, B = ((List.filter (fun j => decide (2 * K.length ≤ j ∧ j % K.length = 0 ∧ M % j = 0)) (List.range (M + 1))).map fun j => tb2 n M f j).foldr Nat.max 0 := ⟨_, rfl⟩
      rw [← eB, Nat.le_div_iff_mul_le (by omega)]
      obtain ⟨G, eG⟩ : ∃ G, G = (List.range n).filter fun g => decide (g ∉ K) := ⟨_, rfl⟩
      have lG : G.length = n - K.length := by rw [eG, cnt_in s]
      have h1 : L.length * (M - K.length) ≤ (L.map fun H => (G.filter fun g => decide (g ∈ H)).length).sum := sum_ge fun H hH => by
        obtain ⟨s2, e, hs⟩ := hL H hH
        have := len_le_of_sub (k := H) (l := K ++ G.filter fun g => decide (g ∈ H)) s2.nd fun x hx => by
          by_cases z : x ∈ K
          · exact List.mem_append_left _ z
          · refine List.mem_append_right _ (List.mem_filter.mpr ⟨?_, decide_eq_true hx⟩)
            rw [eG]
            exact List.mem_filter.mpr ⟨List.mem_range.mpr (s2.lt x hx), decide_eq_true z⟩
        rw [List.length_append] at this
        omega
      have h2 : (G.map fun g => (L.filter fun H => decide (g ∈ H)).length).sum ≤ G.length * B := sum_le fun g hg => by
        rw [eG] at hg
        obtain ⟨hg1, hg2⟩ := List.mem_filter.mp hg
        have hgn := List.mem_range.mp hg1
        have hgk : g ∉ K := of_decide_eq_true hg2
        obtain ⟨K2, hK2⟩ := pt_ex h (gs := K ++ [g]) (fun x hx => by
          rcases List.mem_append.mp hx with hx | hx
          · exact s.lt x hx
          · rw [List.mem_singleton.mp hx]; exact hgn)
        have hlt : ∀ x ∈ K ++ [g], x < n := fun x hx => by
          rcases List.mem_append.mp hx with hx | hx
          · exact s.lt x hx
          · rw [List.mem_singleton.mp hx]; exact hgn
        have s2 := hK2.sub h hlt
        have hin : ∀ x ∈ K ++ [g], x ∈ K2 := fun x hx => (hK2.mem x).mpr (rch_one h hx (hlt x hx))
        have h2k := s.twice h s2 (fun x hx => hin x (List.mem_append_left _ hx)) (hin g (by simp)) hgk
        have hall : ∀ H ∈ L.filter (fun H => decide (g ∈ H)), Sub n m H ∧ H.length = M ∧ ∀ x ∈ K2, x ∈ H := fun H hH => by
          obtain ⟨z1, z2⟩ := List.mem_filter.mp hH
          obtain ⟨s3, e, hs⟩ := hL H z1
          refine ⟨s3, e, fun x hx => s3.rch (fun y hy => ?_) ((hK2.mem x).mp hx)⟩
          rcases List.mem_append.mp hy with hy | hy
          · exact hs y hy
          · rw [List.mem_singleton.mp hy]; exact of_decide_eq_true z2
        have := ih s2 (nd.sublist List.filter_sublist) hall (by
          have := Nat.mul_le_mul_right (2 ^ f) h2k
          rw [Nat.pow_succ] at hb
          have e9 : K.length * (2 ^ f * 2) = 2 * K.length * 2 ^ f := by
            rw [Nat.mul_comm (2 ^ f) 2, ← Nat.mul_assoc, Nat.mul_comm K.length 2]
          omega)
        cases hcase : L.filter (fun H => decide (g ∈ H)) with
        | nil => exact Nat.zero_le _
        | cons H Hs =>
          rw [hcase] at this hall
          obtain ⟨s3, e, hs⟩ := hall H List.mem_cons_self
          have hle := len_le_of_sub s2.nd hs
          refine Nat.le_trans this ?_
          rw [eB]
          refine le_foldr_max (List.mem_map.mpr ⟨K2.length, List.mem_filter.mpr ⟨List.mem_range.mpr (by omega), decide_eq_true ⟨h2k, sub_div h s s2 (fun x hx => hin x (List.mem_append_left _ hx)), by rw [← e]; exact sub_div h s2 s3 hs⟩⟩, rfl⟩)
      rw [two_ways (fun H g => decide (g ∈ H)) G L] at h1
      rw [lG] at h2
      exact Nat.le_trans h1 h2
def tots2 (n : Nat) : Nat := (((List.range (n + 1)).filter fun M => decide (n % M = 0 ∧ 0 < M)).map fun M => tb2 n M 6 1).sum
theorem tots2_le : ∀ n, n < 61 → tots2 n ≤ 1523 := by decide +kernel
/-- a house of at most sixty numbers has at most 1523 parts -/
theorem few_subs2 (h : Hse n m) (h60 : n ≤ 60) {L : List (List Nat)} (nd : L.Nodup) (hs : ∀ H ∈ L, Sub n m H) : L.length ≤ 1523 := by
  refine Nat.le_trans ?_ (tots2_le n (by omega))
  obtain ⟨G, eG⟩ : ∃ G, G = (List.range (n + 1)).filter fun M => decide (n % M = 0 ∧ 0 < M) := ⟨_, rfl⟩
  have h1 : L.length * 1 ≤ (L.map fun H => (G.filter fun M => decide (H.length = M)).length).sum := sum_ge fun H hH => by
    have s := hs H hH
    have e := lst_mul h s
    have hp : 0 < H.length := List.length_pos_of_mem s.ze
    have hle := few_of_nodup s.nd s.lt
    refine List.length_pos_of_mem (a := H.length) (List.mem_filter.mpr ⟨?_, decide_eq_true rfl⟩)
    rw [eG]
    exact List.mem_filter.mpr ⟨List.mem_range.mpr (by omega), decide_eq_true ⟨Nat.mod_eq_zero_of_dvd ⟨_, by rw [Nat.mul_comm]; exact e.symm⟩, hp⟩⟩
  rw [two_ways (fun H M => decide (H.length = M)) G L, Nat.mul_one] at h1
  refine Nat.le_trans h1 ?_
  unfold tots2
  rw [← eG]
  refine sum_le2 fun M hM => ?_
  have z : Sub n m [0] := ⟨List.pairwise_singleton .., fun x hx => by rw [List.mem_singleton.mp hx]; exact h.pos, by simp, fun x hx y hy => by
    rw [List.mem_singleton.mp hx, List.mem_singleton.mp hy, h.zl 0 h.pos]
    simp⟩
  exact few_over2 h h60 6 (K := [0]) z (nd.sublist List.filter_sublist) (fun H hH => by
    obtain ⟨z1, z2⟩ := List.mem_filter.mp hH
    refine ⟨hs H z1, of_decide_eq_true z2, fun x hx => ?_⟩
    rw [List.mem_singleton.mp hx]
    exact (hs H z1).ze) (by decide)
end
end VL
namespace VL
open PySem PySem.Spec PyProof.Rows L2 HM HG
def spTakeG (p : Addr) : VSp := fun ds t Q _ => ∃ m : Nat, ds = [.obj p, nD m] ∧ 0 < m ∧ m ≤ 1000000000 ∧ ∀ r : Nat, r < m → Q (nD r) t
def spLMarksBy : VSp := fun ds t Q _ => ∃ (r : Nat) (T : Nat → Nat → Nat) (cs : Nat → Int), ds = [houD r T, .lst (isD ((List.range r).map cs))] ∧ r ≤ 2400 ∧ Tri r T ∧ Q (.lst (isD ((List.range r).map (pm T cs r)))) t
def spLNumber (p : Addr) : VSp := fun ds t Q _ => ds = [.obj p] ∧ ∀ z : Int, z.natAbs ≤ 10 ^ 30 → Q (.int z) t
theorem rp_tab {r : Nat} {T : Nat → Nat → Nat} (t : Tri r T) (hr : r ≤ 1523) : rpS (houD r T) :=
  (Sm.lst (e := 2) (k := 1) (c := 7617) (l := 1523) (fun d hd => by
    obtain ⟨g, hg, rfl⟩ := List.mem_map.mp hd
    refine sm_ns (c := 1523) (fun x hx => ?_) (by rw [List.length_map, List.length_range]; exact hr)
    obtain ⟨y, hy, rfl⟩ := List.mem_map.mp hx
    have := t.le g y (List.mem_range.mp hg) (List.mem_range.mp hy)
    show T g y < 100
    omega) (by rw [List.length_map, List.length_range]; exact hr)).rp (by decide) (by decide) (by decide) (by decide)
end VL
namespace K39
open PySem PySem.Spec PyProof.Rows L2 HM VL
def topS (i : Nat) : Stmt := PySem.Challenge.pw_heldmarks_k39_marks_that_no_set_has.main.body.getD i (.Pass ⟨0, 0, 0, 0⟩)
abbrev bn : List Str := ["isinstance", "int", "bool", "len", "abs", "list", "range", "tuple", "set", "all", "sorted", "zip", "sum", "min", "enumerate", "dict", "reversed", "repr", "ValueError", "max"]
end K39
namespace K39
open PySem PySem.Spec PyProof.Rows L2 HM VL
abbrev s_l_pen : Stmt := topS 17
abbrev s_l_take : Stmt := topS 18
section
variable {P : Program} {w : World} {K : PySem.W.Frag} {mg : Str → Option Value} {base : Heap}
theorem emodb3 (x : Int) : -(2 ^ 64) < x % 2147483647 ∧ x % 2147483647 < 2 ^ 64 := ⟨by have := Int.emod_nonneg x (b := 2147483647) (by decide); omega, by have := Int.emod_lt_of_pos x (b := 2147483647) (by decide); omega⟩
theorem sc_l_pen : FnScope ["_law_script"] ["_law_script"] (defScope s_l_pen) := ⟨rfl, rfl, rfl, by decide +kernel, rfl, by decide +kernel, by decide +kernel⟩
theorem ok_penB {gd : Around → Prop} {f : Addr} {fd : FuncData} {k : Nat} (F : Fun K "_law_pen" "_law_pen" s_l_pen f fd) (mz : ∀ x ∈ bn, mg x = none) : PFn gd P w K mg base CX0 (k + 1) f fd ["_law_script"] (spPenB K) := by
  refine pfn_of F sc_l_pen (fun vs H Q E h => ?_) (fun cdv A outer s H vs Q E hcd hgd hr h => ?_)
  · obtain ⟨a, ns, rfl, _⟩ := h
    rfl
  · obtain ⟨a, ns, rfl, hS, hl, q⟩ := h
    have ml := mz "list" (by decide)
    refine ⟨_, pss_one (ps_ret (pe_disp (pps_cons pe_str (pe_callTy call_list_of (by rfl) ml (by decide +kernel) (pa_cons (pe_slice sl_list (pv 0) po_none (po_some pe_int)) pa_nil) (by decide) (by decide)) (pps_cons pe_str pe_int (pps_cons pe_str pe_int pps_nil))) rfl rfl (by simp) (by decide))), ?_⟩
    intro p np
    refine ⟨.ref a, rfl, 63, rfl, a, ns.map V.int, rfl, (hS.up fun b ob e z => by rw [upd_ne (ne_of_none z np)]; exact z).sq, fun s sn => ⟨s, _, rfl, .inl (.inl (.inl upd_same)), fun b bn => ?_⟩⟩
    have hsp : s ≠ p := fun z => by rw [z, upd_same] at sn; cases sn
    have hbs : b ≠ s := fun z => by rw [z, upd_same] at bn; cases bn
    have hbp : b ≠ p := fun z => by rw [z, upd_ne (Ne.symm hsp), upd_same] at bn; cases bn
    have nb : H b = none := by rw [upd_ne hbs, upd_ne hbp] at bn; exact bn
    have ns' : H s = none := by rw [upd_ne hsp] at sn; exact sn
    have ec : cutV (ns.map V.int) none (some 63) = ns.map V.int := by
      have : (ns.map V.int).length ≤ 63 := by rw [List.length_map]; exact hl
      generalize ns.map V.int = xs at this
      unfold cutV
      have e1 : HT.sIx xs.length xs.length (some 63) = xs.length := by
        rw [show (63 : Int) = ((63 : Nat) : Int) from rfl, HT.sIx_nat]
        omega
      rw [e1, HT.sIx_none, List.drop_zero, Nat.sub_zero, List.take_length]
    rw [ec]
    refine ⟨by rw [upd_ne (Ne.symm hbp), upd_ne (Ne.symm hsp), upd_same], pk3 b 0 0, rfl, (by show 3 ≤ 15; decide), ?_⟩
    rw [pk3_merge]
    refine q p b _ (fun c o e => ?_) np nb (Ne.symm hbp) upd_same (by rw [upd_ne hbp, upd_same])
    rw [upd_ne (ne_of_none e np), upd_ne (ne_of_none e nb), upd_ne (ne_of_none e ns'), upd_ne (ne_of_none e np)]
    exact e
theorem sc_l_take : FnScope ["_law_pen_here", "_law_many", "_law_digit", "_law_at", "_law_cell", "_law_number_here"] ["_law_pen_here", "_law_many"] (defScope s_l_take) := ⟨rfl, rfl, rfl, by decide +kernel, rfl, by decide +kernel, by decide +kernel⟩
theorem ok_takeG {gd : Around → Prop} {am : Am} {p f : Addr} {fd : FuncData} {k : Nat} (PI : PenB K am p) (F : Fun K "_law_take" "_law_take" s_l_take f fd) (mz : ∀ x ∈ bn, mg x = none) : VFn gd P w K mg base CX0 (k + 1) f fd ["_law_pen_here", "_law_many"] am (spTakeG p) := by
  refine pfn_of F sc_l_take (fun vs H Q E h => ?_) (fun cdv A outer s H vs Q E hcd hgd hr h => ?_)
  · obtain ⟨F0, ds, n, Q', E', _, _, _, r, ⟨m, rfl, _⟩, _⟩ := h
    rw [r.len]
    rfl
  · obtain ⟨F0, ds, n, Q', E', u, hs, ha, r, ⟨m, rfl, hm0, hm1, q⟩, kq, ke⟩ := h
    obtain ⟨b, ns, t, l, hp, hS, hlen, ht, hl⟩ := PI.rd ha
    cases r with | cons r1 r =>
    cases r with | cons r2 r =>
    cases r
    cases r1
    cases r2
    have hu := hu_of hr
    have ml := mz "len" (by decide)
    have ma := mz "abs" (by decide)
    refine ⟨_, pss_cons (ps_if (pt_cmpR op_gt (pe_dget hu (pv 0) pe_str (fun _ _ => rfl)) pe_int (nomark _))
        (pss_cons (ps_set (i := 2) sc_l_take.nd rfl (.inl rfl) (pe_op op_mod (pe_dget hu (pv 0) pe_str (fun _ _ => rfl)) (pv 1)))
        (pss_cons (ps_dput hu (pv 0) pe_str (pe_op op_fdiv (pe_dget hu (pv 0) pe_str (fun _ _ => rfl)) (pv 1)) rfl)
        (pss_one (ps_ret (pv 2))))) pss_nil)
      (pss_cons (ps_set (i := 3) sc_l_take.nd rfl (.inl rfl) (pe_dget hu (pv 0) pe_str (fun _ _ => rfl)))
      (pss_cons (ps_dput hu (pv 0) pe_str (pe_op op_add (pv 3) pe_int) rfl)
      (pss_cons (ps_set (i := 4) sc_l_take.nd rfl (.inl rfl) (pe_op op_add (pe_op op_mul pe_int (pv 3)) pe_int))
      (pss_cons (ps_if (pt_cmpR (op_neD hr.units) (pe_dget hu (pv 0) pe_str (fun _ _ => rfl)) (pe_lst pa_nil) (nomark _))
        (pss_one (ps_set (i := 4) sc_l_take.nd rfl (.inl rfl) (pe_ix ix_list (pe_dget hu (pv 0) pe_str (fun _ _ => rfl)) (pe_op op_mod (pv 3) (pe_callB call_len_seq (by rfl) ml PySem.boot_len (pa_cons (pe_dget hu (pv 0) pe_str (fun _ _ => rfl)) pa_nil))) (fun _ _ => rfl)))) pss_nil)
      (pss_cons (ps_if (pw_and (pt_cmpR op_lt (pv 3) (pe_callB call_len_seq (by rfl) ml PySem.boot_len (pa_cons (pe_dget hu (pv 0) pe_str (fun _ _ => rfl)) pa_nil)) (nomark _)) (pw_and1 (pt_cmpR op_ge (pe_callB call_abs (by rfl) ma (by decide +kernel) (pa_cons (pv 4) pa_nil)) (pe_op op_pow pe_int pe_int) (nomark _)))).pt
        (pss_cons (ps_dput hu (pv 0) pe_str (pe_op op_fdiv (pe_callB call_abs (by rfl) ma (by decide +kernel) (pa_cons (pv 4) pa_nil)) (pv 1)) rfl)
        (pss_one (ps_ret (pe_op op_mod (pe_callB call_abs (by rfl) ma (by decide +kernel) (pa_cons (pv 4) pa_nil)) (pv 1))))) pss_nil)
      (pss_cons (ps_set (i := 5) sc_l_take.nd rfl (.inl rfl) (pe_op op_mod (pe_op op_mul (pe_op op_add (pe_op op_add (pe_op op_mod (pv 4) pe_int) (pe_op op_mul pe_int (pv 3))) pe_int) pe_int) pe_int))
      (pss_cons (ps_set (i := 5) sc_l_take.nd rfl (.inl rfl) (pe_op op_mod (pe_op op_add (pe_op op_add (pe_op op_mul (pv 5) (pv 5)) (pe_op op_mul pe_int (pv 5))) (pv 3)) pe_int))
      (pss_one (ps_ret (pe_op op_mod (pe_op op_fdiv (pv 5) pe_int) (pv 1))))))))))), ?_⟩
    have gS : ∀ {H' : Hp} {t' l' : Int}, H' p = some (.dK (pk3 b t' l')) → DGet H' p (.str "cells") (some (.ref b)) := fun {H' t' l'} e => pk3_cells b t' l' ▸ DGet.k (k := Sum.inr "cells") e
    have gA : ∀ {H' : Hp} {t' l' : Int}, H' p = some (.dK (pk3 b t' l')) → DGet H' p (.str "at") (some (.int t')) := fun {H' t' l'} e => pk3_at b t' l' ▸ DGet.k (k := Sum.inr "at") e
    have gL : ∀ {H' : Hp} {t' l' : Int}, H' p = some (.dK (pk3 b t' l')) → DGet H' p (.str "left") (some (.int l')) := fun {H' t' l'} e => pk3_left b t' l' ▸ DGet.k (k := Sum.inr "left") e
    have pA : ∀ {H' : Hp} {t' l' v : Int}, H' p = some (.dK (pk3 b t' l')) → DPut H' p (.str "at") (.int v) (upd H' p (.dK (pk3 b v l'))) := fun {H' t' l' v} e => pk3_put_at b t' l' v ▸ DPut.k (k := Sum.inr "at") e (by show 3 < sizeLine; decide)
    have pL : ∀ {H' : Hp} {t' l' v : Int}, H' p = some (.dK (pk3 b t' l')) → DPut H' p (.str "left") (.int v) (upd H' p (.dK (pk3 b t' v))) := fun {H' t' l' v} e => pk3_put_left b t' l' v ▸ DPut.k (k := Sum.inr "left") e (by show 3 < sizeLine; decide)
    have hbp : b ≠ p := fun z => by rw [z, hp] at hS; cases hS
    have mi : (0 : Int) < (m : Int) := by omega
    have fin : ∀ (x t' l' : Int) (H' : Hp), H' p = some (.dK (pk3 b t' l')) → (∀ c o, c ≠ p → H c = some o → H' c = some o) → 0 ≤ t' → 0 ≤ l' → Q (.int (x % (m : Int))) H' := fun x t' l' H' e1 e2 h1 h2 => by
      have e0 := Int.emod_nonneg x (b := (m : Int)) (by omega)
      have e1' := Int.emod_lt_of_pos x mi
      obtain ⟨y, hy⟩ : ∃ y : Nat, x % (m : Int) = (y : Int) := ⟨(x % (m : Int)).toNat, by omega⟩
      rw [hy]
      rw [hy] at e1'
      exact kq _ F0 _ (nD y) n (PI.outG u hs ha hp h1 h2 e1 e2) (.int _) (q y (by omega))
    have hne : ∀ (c : Int), 0 ≤ (if c < 0 then -c else c) := fun c => by split <;> omega
    have k1 : ∀ {o : HO} (c : Addr) (oo : HO), c ≠ p → H c = some oo → upd H p o c = some oo := fun c oo hc e => by rw [upd_ne hc]; exact e
    refine ⟨.ref p, rfl, p, _, rfl, gL hp, _, _, rfl, rfl, _, rfl, ite2 (fun e => ?_) (fun e => ?_)⟩
    · refine ⟨.ref p, rfl, p, _, rfl, gL hp, .int m, rfl, _, _, rfl, rfl, mi, .ref p, rfl, p, _, rfl, gL hp, .int m, rfl, _, _, rfl, rfl, ⟨mi, by omega⟩, .ref p, rfl, p, _, rfl, pL hp, _, rfl, ?_⟩
      exact fin _ t _ _ upd_same k1 ht (Int.ediv_nonneg hl (by omega))
    refine ⟨.ref p, rfl, p, _, rfl, gA hp, .int t, rfl, t, 1, rfl, rfl, .ref p, rfl, p, _, rfl, pA hp, .int t, rfl, _, _, rfl, rfl, .inl ⟨by decide, by decide⟩, _, _, rfl, rfl, .ref p, rfl, p, _, rfl, gS upd_same, by show 0 ≤ sizeLine; decide, fun z nz => ?_⟩
    obtain ⟨H2, eH2⟩ : ∃ H2, H2 = upd (upd H p (.dK (pk3 b (t + 1) l))) z (.lst []) := ⟨_, rfl⟩
    have hzp : z ≠ p := fun e => by rw [e, upd_same] at nz; cases nz
    have nz0 : H z = none := by rw [upd_ne hzp] at nz; exact nz
    have hzb : b ≠ z := fun e => by rw [e, nz0] at hS; cases hS
    have e2p : H2 p = some (.dK (pk3 b (t + 1) l)) := by rw [eH2, upd_ne (Ne.symm hzp), upd_same]
    have e2b : H2 b = some (.lst (ns.map V.int)) := by rw [eH2, upd_ne hzb, upd_ne hbp]; exact hS
    have e2z : H2 z = some (.lst []) := by rw [eH2, upd_same]
    have k2 : ∀ (c : Addr) (o : HO), c ≠ p → H c = some o → H2 c = some o := fun c o hc e => by rw [eH2, upd_ne (ne_of_none e nz0), upd_ne hc]; exact e
    have sqb : SqL K H2 b (ns.map V.int) := .inl (.inl e2b)
    have hD : dNeD (.lst (ns.map Dt.int)) (.lst []) (fun d => ∃ bb, d = .bl bb ∧ (bb = true ↔ ns ≠ [])) := dNeD_pl (pls_map (fun _ => rfl) ns) rfl (Nat.le_trans (Nat.succ_le_succ (deps_map (f := Dt.int) (k := 0) (fun _ => Nat.le_refl 0) ns)) (by decide)) (by decide) fun bb hb => ⟨bb, rfl, hb.trans ⟨fun h e => h (by rw [e]; rfl), fun h e => h (List.map_eq_nil_iff.mp (Dt.lst.inj e))⟩⟩
    obtain ⟨i1, i2, s1, s2, bb, ebb, hbb⟩ := hD
    have ebb : (!PyData.eqv (py (.lst (ns.map Dt.int))) (py (.lst []))) = bb := by injection ebb
    rw [← eH2]
    refine ⟨_, _, Rp.dp (F := upd (fun _ => none) b (.lst (ns.map V.int))) (fun c o e => ?_) (.lst upd_same (Rps.ints ns)) i1, Rp.dp (F := upd (fun _ => none) z (.lst [])) (fun c o e => ?_) (.lst upd_same .nil) i2, s1, s2, _, rfl, ?_⟩
    · by_cases hc : c = b
      · subst hc; rw [upd_same] at e; cases e; exact e2b
      · rw [upd_ne hc] at e; cases e
    · by_cases hc : c = z
      · subst hc; rw [upd_same] at e; cases e; exact e2z
      · rw [upd_ne hc] at e; cases e
    rw [ebb]
    refine ite2 (fun e1 => ?_) (fun e1 => ?_)
    · have hpos : (0 : Int) < ((ns.map V.int).length : Int) := by
        have := List.length_pos_iff.mpr (hbb.mp e1)
        rw [List.length_map]
        omega
      have hb0 : 0 ≤ t % ((ns.map V.int).length : Int) := Int.emod_nonneg _ (by omega)
      have hb1 : t % ((ns.map V.int).length : Int) < ((ns.map V.int).length : Int) := Int.emod_lt_of_pos _ hpos
      have hj : (t % ((ns.map V.int).length : Int)).toNat < ns.length := by
        rw [List.length_map] at hb0 hb1 ⊢
        omega
      have hat : atI (ns.map V.int) (t % ((ns.map V.int).length : Int)) = some (.int (ns[(t % ((ns.map V.int).length : Int)).toNat]'hj)) := by
        refine at_of (j := (t % ((ns.map V.int).length : Int)).toNat) (by omega) ?_
        rw [List.getElem?_map, List.getElem?_eq_getElem hj]
        rfl
      refine ⟨.ref p, rfl, p, _, rfl, gS e2p, .int t, rfl, .ref p, rfl, p, _, rfl, gS e2p, b, _, rfl, .inl sqb, _, _, rfl, rfl, hpos, b, _, _, _, rfl, rfl, sqb, hat, ?_⟩
      generalize (ns[(t % ((ns.map V.int).length : Int)).toNat]'hj) = c
      refine ⟨.int t, rfl, .ref p, rfl, p, _, rfl, gS e2p, b, _, rfl, .inl sqb, _, _, rfl, rfl, _, rfl, ite2 (fun e3 => ?_) (fun e3 => ite2 (fun e => by cases e) fun _ => ?_)⟩
      · refine ⟨.int c, rfl, c, rfl, 10, 18, rfl, rfl, ⟨by decide, by decide, by decide⟩, _, _, rfl, rfl, _, rfl, ite2 (fun e4 => ?_) (fun e4 => ?_)⟩
        · refine ⟨.int c, rfl, c, rfl, .int (m : Int), rfl, _, _, rfl, rfl, ⟨mi, by omega⟩, .ref p, rfl, p, _, rfl, pL e2p, ?_⟩
          refine ⟨.int c, rfl, c, rfl, .int (m : Int), rfl, _, _, rfl, rfl, mi, ?_⟩
          exact fin _ (t + 1) _ _ upd_same (fun d o hd e => by rw [upd_ne hd]; exact k2 d o hd e) (by omega) (Int.ediv_nonneg (hne c) (by omega))
        · refine ⟨.int _, rfl, _, _, rfl, rfl, (by show (0 : Int) < _; decide), .int t, rfl, _, _, rfl, rfl, .inl ⟨by decide, by decide⟩, _, _, rfl, rfl, _, _, rfl, rfl, _, _, rfl, rfl, .inr ⟨by decide, by decide⟩, _, _, rfl, rfl, (by show (0 : Int) < _; decide), ?_⟩
          refine ⟨.int _, rfl, .int _, rfl, _, _, rfl, rfl, .inl (emodb3 _), .int _, rfl, _, _, rfl, rfl, .inl ⟨by decide, by decide⟩, _, _, rfl, rfl, .int t, rfl, _, _, rfl, rfl, _, _, rfl, rfl, (by show (0 : Int) < _; decide), ?_⟩
          refine ⟨.int _, rfl, _, _, rfl, rfl, ⟨by decide, by decide⟩, .int (m : Int), rfl, _, _, rfl, rfl, mi, ?_⟩
          exact fin _ (t + 1) l _ e2p k2 (by omega) hl
      · refine ⟨.int _, rfl, _, _, rfl, rfl, (by show (0 : Int) < _; decide), .int t, rfl, _, _, rfl, rfl, .inl ⟨by decide, by decide⟩, _, _, rfl, rfl, _, _, rfl, rfl, _, _, rfl, rfl, .inr ⟨by decide, by decide⟩, _, _, rfl, rfl, (by show (0 : Int) < _; decide), ?_⟩
        refine ⟨.int _, rfl, .int _, rfl, _, _, rfl, rfl, .inl (emodb3 _), .int _, rfl, _, _, rfl, rfl, .inl ⟨by decide, by decide⟩, _, _, rfl, rfl, .int t, rfl, _, _, rfl, rfl, _, _, rfl, rfl, (by show (0 : Int) < _; decide), ?_⟩
        refine ⟨.int _, rfl, _, _, rfl, rfl, ⟨by decide, by decide⟩, .int (m : Int), rfl, _, _, rfl, rfl, mi, ?_⟩
        exact fin _ (t + 1) l _ e2p k2 (by omega) hl
    · refine ⟨.int t, rfl, .ref p, rfl, p, _, rfl, gS e2p, b, _, rfl, .inl sqb, _, _, rfl, rfl, _, rfl, ite2 (fun e3 => ?_) (fun e3 => ite2 (fun e => by cases e) fun _ => ?_)⟩
      · refine ⟨.int (3 * t + 7), rfl, 3 * t + 7, rfl, 10, 18, rfl, rfl, ⟨by decide, by decide, by decide⟩, _, _, rfl, rfl, _, rfl, ite2 (fun e4 => ?_) (fun e4 => ?_)⟩
        · refine ⟨.int (3 * t + 7), rfl, 3 * t + 7, rfl, .int (m : Int), rfl, _, _, rfl, rfl, ⟨mi, by omega⟩, .ref p, rfl, p, _, rfl, pL e2p, ?_⟩
          refine ⟨.int (3 * t + 7), rfl, 3 * t + 7, rfl, .int (m : Int), rfl, _, _, rfl, rfl, mi, ?_⟩
          exact fin _ (t + 1) _ _ upd_same (fun d o hd e => by rw [upd_ne hd]; exact k2 d o hd e) (by omega) (Int.ediv_nonneg (hne (3 * t + 7)) (by omega))
        · refine ⟨.int _, rfl, _, _, rfl, rfl, (by show (0 : Int) < _; decide), .int t, rfl, _, _, rfl, rfl, .inl ⟨by decide, by decide⟩, _, _, rfl, rfl, _, _, rfl, rfl, _, _, rfl, rfl, .inr ⟨by decide, by decide⟩, _, _, rfl, rfl, (by show (0 : Int) < _; decide), ?_⟩
          refine ⟨.int _, rfl, .int _, rfl, _, _, rfl, rfl, .inl (emodb3 _), .int _, rfl, _, _, rfl, rfl, .inl ⟨by decide, by decide⟩, _, _, rfl, rfl, .int t, rfl, _, _, rfl, rfl, _, _, rfl, rfl, (by show (0 : Int) < _; decide), ?_⟩
          refine ⟨.int _, rfl, _, _, rfl, rfl, ⟨by decide, by decide⟩, .int (m : Int), rfl, _, _, rfl, rfl, mi, ?_⟩
          exact fin _ (t + 1) l _ e2p k2 (by omega) hl
      · refine ⟨.int _, rfl, _, _, rfl, rfl, (by show (0 : Int) < _; decide), .int t, rfl, _, _, rfl, rfl, .inl ⟨by decide, by decide⟩, _, _, rfl, rfl, _, _, rfl, rfl, _, _, rfl, rfl, .inr ⟨by decide, by decide⟩, _, _, rfl, rfl, (by show (0 : Int) < _; decide), ?_⟩
        refine ⟨.int _, rfl, .int _, rfl, _, _, rfl, rfl, .inl (emodb3 _), .int _, rfl, _, _, rfl, rfl, .inl ⟨by decide, by decide⟩, _, _, rfl, rfl, .int t, rfl, _, _, rfl, rfl, _, _, rfl, rfl, (by show (0 : Int) < _; decide), ?_⟩
        refine ⟨.int _, rfl, _, _, rfl, rfl, ⟨by decide, by decide⟩, .int (m : Int), rfl, _, _, rfl, rfl, mi, ?_⟩
        exact fin _ (t + 1) l _ e2p k2 (by omega) hl
theorem ok_takeB {gd : Around → Prop} {am : Am} {p f : Addr} {fd : FuncData} {k : Nat} (PI : PenB K am p) (F : Fun K "_law_take" "_law_take" s_l_take f fd) (mz : ∀ x ∈ bn, mg x = none) : VFn gd P w K mg base CX0 (k + 1) f fd ["_law_pen_here", "_law_many"] am (spTakeB p) := by
  refine (ok_takeG (k := k) PI F mz).imp fun ds t Q E h => ?_
  obtain ⟨m, e, h0, h1, q⟩ := h
  exact ⟨m, e, h0, by omega, q⟩
end
end K39
namespace K39
open PySem PySem.Spec PyProof.Rows L2 HM VL
abbrev s_l_closed : Stmt := topS 19
theorem sc_l_closed : FnScope ["_law_many", "_law_turns", "_law_most", "_law_found", "_law_left", "_law_here", "_law_turn_here", "_law_k", "_law_there"] ["_law_many", "_law_turns", "_law_most"] (defScope s_l_closed) := ⟨rfl, rfl, rfl, by decide +kernel, rfl, by decide +kernel, by decide +kernel⟩
section
variable {P : Program} {w : World} {K : PySem.W.Frag} {mg : Str → Option Value} {base : Heap} {am : Am} {gd : Around → Prop} {k : Nat}
theorem ok_closedB {f : Addr} {fd : FuncData} (F : Fun K "_law_closed" "_law_closed" s_l_closed f fd) (mz : ∀ x ∈ bn, mg x = none) : VFn gd P w K mg base CX0 (k + 2) f fd ["_law_many", "_law_turns", "_law_most"] am spClosedB := by
  refine vfn_of F sc_l_closed (fun ds n Q E h => ?_) ⟨_, fun cdv A out s H E F0 H0 hcd hgd hr =>
    (vss_cons (vs_setN (i := 3) sc_l_closed.nd rfl (.inl rfl) (vn_dispT (hu_of hr) (fun F0 H0 => (ve_tupRg rfl (by rfl) (mz "tuple" (by decide)) (vrg_1 (by rfl) (mz "range" (by decide)) (ve_var (pv 0))))) (fun F0 H0 => ve_bl)))
      (vss_cons (vs_setN (i := 4) sc_l_closed.nd rfl (.inl rfl) (vn_listDT rfl (by rfl) (mz "list" (by decide)) (pv 3)))
      (vss_cons (vs_while PassesOwn.never (vt_cmpN (op_neD hr.units) lft_neD (pv 4) (vr_of (ve_new (vn_lst va_nil))) (nomark _))
        (vss_cons (vs_set (i := 5) sc_l_closed.nd rfl (.inl rfl) (ve_m0 (pe_bm0 PySem.F.plainAttrs_list PySem.F.slot_list_pop PySem.F.type_list_pop mt_pop (pv 4)) lft_pop))
        (vss_cons (vs_for PassesOwn.never rfl (vi_list (ve_var (pv 1))) (vg_name (pg_name (i := 6) sc_l_closed.nd rfl (.inr rfl)))
          (vss_cons (vs_set (i := 8) sc_l_closed.nd rfl (.inl rfl) (ve_tyTR call_tuple_of lft_tupleOf (by rfl) (mz "tuple" (by decide)) (by decide +kernel) (vb_cons (ve_new (vn_lc (own := [("_law_k", 7)]) rfl sc_l_closed.nd (vi_tup (ve_var (pv 5))) (blkOk_by (own := [("_law_k", 7)]) (N := ["_law_many", "_law_turns", "_law_most", "_law_found", "_law_left", "_law_here", "_law_turn_here", "_law_k", "_law_there"]) (sc := defScope s_l_closed) (by decide +kernel)) (tg_name (by simp)) (fun _ _ _ _ _ => (pg_name (i := 7) sc_l_closed.nd rfl (.inl rfl))) (fun _ _ _ _ _ _ _ => vts_nil) (fun _ _ _ _ _ _ _ => (ve_ix ix_tup lft_ixT (ve_var (pv 6)) (ve_var (pv 7)) (fun _ _ => rfl))))) vb_nil)))
          (vss_one (vs_if (vt_dnotin (hu_of hr) (ve_var (pv 8)) (pv 3))
            (vss_cons (vs_dput (hu_of hr) (pv 3) (ve_var (pv 8)) ve_bl rfl)
            (vss_one (vs_expr (ve_m (pe_bm PySem.F.plainAttrs_list PySem.F.slot_list_append PySem.F.type_list_append mt_append (pv 4) (va_cons (ve_var (pv 8)) va_nil)) lft_append))))
            vss_nil))))
        (vss_one (vs_if (vt_cmp op_gt lft_B0 (ve_dlenT (by rfl) (mz "len" (by decide)) (pv 3)) (ve_var (pv 2)) (nomark _))
          (vss_one (vs_ret ve_non))
          vss_nil)))))
      (vss_one (vs_ret (ve_new (vn_dsortT rfl (by rfl) (mz "sorted" (by decide)) (pv 3)))))))), fun ds t Q E h => ?_⟩
  · obtain ⟨n, ts, mo, rfl, _⟩ := h
    rfl
  · obtain ⟨m, ts, most, rfl, h1, h7, h4, hm60, hT, q, qn⟩ := h
    obtain ⟨td, etd⟩ : ∃ td, td = Dt.lst (tnsD ts) := ⟨_, rfl⟩
    rw [← etd]
    have hgr : ∀ {x : List Nat}, GR m ts x → Tn m x := fun h => h.tn hT
    refine vseq_setN ⟨_, rfl, _, rfl, ⟨by omega, by omega, by omega, by omega⟩, ?_⟩
    rw [show ((m : Int) - 0).toNat = m by omega, rg_stay]
    refine ⟨kN (stay m), tup_key _, ?_⟩
    refine ⟨_, rfl, ?_⟩
    have e0 : ([(kN (stay m), Dt.bl true)].map fun q : List Key × Dt => tupD q.1) = tnsD [stay m] := by
      show [tupD (kN (stay m))] = [Dt.tup (nsD (stay m))]
      rw [← tup_key]
    rw [e0]
    let I : List (List Nat) → List (List Nat) → Sl → Ev → Prop := fun fs ws s5 env => ∃ kvs s6 s8, env = [.fz (nD m), .fz td, .fz (nD most), .ow (.dT kvs), .ow (.lst (tnsD ws)), s5, s6, .no, s8] ∧ kvs.map (·.1) = fs.map kN
    refine ⟨fun mm env t' => ∃ fs ws, mm = 2 * (61 - fs.length) + ws.length ∧ t' = t ∧ (∃ s5, I fs ws s5 env) ∧ GWt m ts fs ws ∧ fs.length ≤ 60, ⟨_, [stay m], [stay m], rfl, rfl, ⟨.no, _, .no, .no, rfl, rfl⟩, ⟨by simp, fun x hx => by rw [List.mem_singleton.mp hx]; exact .stay, by simp, fun x hx => hx, by simp, fun x hx hn => absurd hx hn⟩, (by decide : 1 ≤ 60)⟩, fun mm env t' hW => ?_⟩
    obtain ⟨fs, ws, rfl, rfl, ⟨s5, kvs, s6, s8, rfl, hk⟩, hW, hf60⟩ := hW
    refine ⟨⟨_, .inr ⟨_, rfl, rfl⟩⟩, by decide, _, rfl, _, .inr ⟨_, rfl, rfl⟩, dNeD_pl (pl_tns ws) rfl (dep_tns ws) (by decide) fun b hb => ⟨rfl, b, rfl, iteB (fun e => ?_) (fun e => ?_)⟩⟩
    · have hne : ws ≠ [] := fun z => (hb.mp e) (tnsD_nil.mpr z)
      obtain ⟨ws', x0, rfl⟩ : ∃ l x, ws = l ++ [x] := ⟨_, _, (List.dropLast_concat_getLast hne).symm⟩
      have hx0 : x0 ∈ fs := hW.sb x0 (by simp)
      have hx0n : Tn m x0 := hgr (hW.rc x0 hx0)
      have hwn := hW.wn
      rw [List.nodup_append] at hwn
      have hx0w : x0 ∉ ws' := fun z => hwn.2.2 x0 z x0 (by simp) rfl
      refine vseq_set ⟨⟨_, rfl⟩, _, rfl, .tup (nsD x0), rfl, tnsD_last, ?_⟩
      rw [tnsD_dropLast]
      refine vcut (fun env t3 => t3 = t' ∧ ∃ ext, ext.length ≤ 4 ∧ I (fs ++ ext) (ws' ++ ext) (.fz (.tup (nsD x0))) env ∧ (fs ++ ext).Nodup ∧ (∀ x ∈ fs ++ ext, GR m ts x) ∧ ∀ g ∈ ts, thn x0 g ∈ fs ++ ext) (fun N hN => ?_) (fun env t3 hP => ?_)
      · refine ⟨_, rfl, tnsD ts, etd, fun j env t3 => t3 = t' ∧ ∃ ext, ext.length ≤ j ∧ I (fs ++ ext) (ws' ++ ext) (.fz (.tup (nsD x0))) env ∧ (fs ++ ext).Nodup ∧ (∀ x ∈ fs ++ ext, GR m ts x) ∧ ∀ g ∈ ts.take j, thn x0 g ∈ fs ++ ext, ⟨rfl, [], Nat.le_refl 0, ⟨kvs, s6, s8, by rw [List.append_nil]; rfl, by rw [List.append_nil]; exact hk⟩, by rw [List.append_nil]; exact hW.nd, by rw [List.append_nil]; exact hW.rc, fun g hg => by rw [List.take_zero] at hg; cases hg⟩, fun j x env t3 hx hP => ?_, fun env t3 hP => ?_⟩
        · obtain ⟨rfl, ext, hel, ⟨kvs, s6, s8, rfl, hk⟩, hnd, hrc, hcl⟩ := hP
          unfold tnsD at hx
          rw [List.getElem?_map] at hx
          obtain ⟨g, hg1, rfl⟩ := Option.map_eq_some_iff.mp hx
          have hgm := List.mem_of_getElem? hg1
          have hj : j < ts.length := (List.getElem?_eq_some_iff.mp hg1).1
          have hgT := hT g hgm
          have hkl : kvs.length = (fs ++ ext).length := by
            have := congrArg List.length hk
            rw [List.length_map, List.length_map] at this
            exact this
          have hfl : (fs ++ ext).length ≤ 64 := by rw [List.length_append]; omega
          have htk : ∀ g2 ∈ ts.take (j + 1), g2 ∈ ts.take j ∨ g2 = g := fun g2 h => by
            rw [take_snoc' hg1] at h
            rcases List.mem_append.mp h with h | h
            · exact .inl h
            · exact .inr (List.mem_singleton.mp h)
          have hmem : (valD kvs (kN (thn x0 g))).isSome = decide (thn x0 g ∈ fs ++ ext) := by
            rw [valD_some, hk]
            exact decide_eq_decide.mpr kN_mem
          refine vseq_set ⟨_, rfl, _, rfl, ?_⟩
          refine lc_map (i := 7) (fun j => nD (tA g (tA x0 j))) (.head _) (noOw1 rfl no_ow) (by rw [nsD_len, hx0n.len]; omega) (fun i y hy R q => ?_) ?_
          · unfold nsD at hy
            rw [List.getElem?_map] at hy
            obtain ⟨y0, hy1, rfl⟩ := Option.map_eq_some_iff.mp hy
            have hil := (List.getElem?_eq_some_iff.mp hy1).1
            have e3 : y0 = tA x0 i := Option.some.inj (hy1.symm.trans (tA_get hil))
            rw [← e3] at q
            exact ⟨_, rfl, _, rfl, _, _, _, rfl, rfl, nsD_tA (by rw [hgT.len]; exact hx0n.lt (List.mem_of_getElem? hy1)), q⟩
          rw [thn_lc]
          refine ⟨_, rfl, _, rfl, flats_ns _, ?_⟩
          refine ⟨_, rfl, _, .inr ⟨kvs, kN (thn x0 g), rfl, tup_key _, rfl⟩, _, rfl, iteB (fun e2 => ?_) (fun e2 => ?_)⟩
          · have hnin : thn x0 g ∉ fs ++ ext := by
              have e3 : (!(valD kvs (kN (thn x0 g))).isSome) = true := e2
              rw [hmem, Bool.not_eq_true', decide_eq_false_iff_not] at e3
              exact e3
            have hnk : kN (thn x0 g) ∉ kvs.map (·.1) := by rw [hk, kN_mem]; exact hnin
            refine ⟨.inr ⟨_, rfl⟩, _, rfl, .inr ⟨kvs, kN (thn x0 g), rfl, tup_key _, by omega, ⟨_, rfl⟩, _, rfl, _, rfl, _, rfl, ?_, rfl, ext ++ [thn x0 g], by rw [List.length_append, List.length_singleton]; omega, ⟨putD kvs (kN (thn x0 g)) (.bl true), .fz (.tup (nsD g)), .fz (.tup (nsD (thn x0 g))), ?_, ?_⟩, ?_, fun x hx => ?_, fun g2 hg2 => ?_⟩⟩
            · rw [tnsD_len, List.length_append]
              have h1 := List.Nodup.length_le_of_subset hwn.1 fun x hx => hW.sb x (List.mem_append_left _ hx)
              omega
            · rw [tnsD_app, ← List.append_assoc]
              rfl
            · rw [putD_new hnk, List.map_append, hk, ← List.append_assoc, List.map_append (l₁ := fs ++ ext)]
              rfl
            · rw [← List.append_assoc, List.nodup_append]
              exact ⟨hnd, by simp, fun a ha b hb z => hnin (by rw [List.mem_singleton.mp hb] at z; rw [← z]; exact ha)⟩
            · rw [← List.append_assoc] at hx
              rcases List.mem_append.mp hx with hx | hx
              · exact hrc x hx
              · rw [List.mem_singleton.mp hx]
                exact .step (hW.rc x0 hx0) hgm
            · rw [← List.append_assoc]
              rcases htk g2 hg2 with h | rfl
              · exact List.mem_append_left _ (hcl g2 h)
              · exact List.mem_append_right _ (List.mem_singleton.mpr rfl)
          · have hin : thn x0 g ∈ fs ++ ext := by
              have e3 : (!(valD kvs (kN (thn x0 g))).isSome) = false := e2
              rw [hmem, Bool.not_eq_false', decide_eq_true_iff] at e3
              exact e3
            refine ⟨rfl, ext, by omega, ⟨kvs, _, _, rfl, hk⟩, hnd, hrc, fun g2 hg2 => ?_⟩
            rcases htk g2 hg2 with h | rfl
            · exact hcl g2 h
            · exact hin
        · obtain ⟨rfl, ext, hel, hI, hnd, hrc, hcl⟩ := hP
          rw [tnsD_len] at hel
          rw [tnsD_len, List.take_of_length_le (Nat.le_refl _)] at hcl
          exact hN _ _ ⟨rfl, ext, by omega, hI, hnd, hrc, hcl⟩
      · obtain ⟨rfl, ext, hel, ⟨kvs, s6, s8, rfl, hk⟩, hnd, hrc, hcl⟩ := hP
        have hkl : kvs.length = (fs ++ ext).length := by
          have := congrArg List.length hk
          rw [List.length_map, List.length_map] at this
          exact this
        refine ⟨_, rfl, _, rfl, _, _, rfl, rfl, _, rfl, iteB (fun e2 => ?_) (fun e2 => ?_)⟩
        · have hbig : most < (fs ++ ext).length := by
            have : (most : Int) < (kvs.length : Int) := of_decide_eq_true e2
            omega
          rcases qn with z | z
          · have := z _ hnd hrc
            omega
          · exact z
        · have hsm : (fs ++ ext).length ≤ 60 := by
            have : ¬ (most : Int) < (kvs.length : Int) := of_decide_eq_false e2
            omega
          have hl := hsm
          rw [List.length_append] at hl
          rw [List.nodup_append] at hnd
          refine ⟨_, by rw [List.length_append, List.length_append, List.length_append, List.length_singleton]; omega, fs ++ ext, ws' ++ ext, rfl, rfl, ⟨_, kvs, s6, s8, rfl, hk⟩, ⟨List.nodup_append.mpr hnd, hrc, List.mem_append_left _ hW.ze, fun x hx => ?_, ?_, fun x hx hnx g hg => ?_⟩, hsm⟩
          · rcases List.mem_append.mp hx with hx | hx
            · exact List.mem_append_left _ (hW.sb x (List.mem_append_left _ hx))
            · exact List.mem_append_right _ hx
          · rw [List.nodup_append]
            exact ⟨hwn.1, hnd.2.1, fun a ha b hb => hnd.2.2 a (hW.sb a (List.mem_append_left _ ha)) b hb⟩
          · rw [List.mem_append, not_or] at hnx
            rcases List.mem_append.mp hx with hx | hx
            · by_cases z : x = x0
              · rw [z]
                exact hcl g hg
              · exact List.mem_append_left _ (hW.cl x hx (by rw [List.mem_append, List.mem_singleton, not_or]; exact ⟨hnx.1, z⟩) g hg)
            · exact absurd hx hnx.2
    · have hnil : ws = [] := Classical.byContradiction fun z => by
        have := hb.mpr fun h => z (tnsD_nil.mp h)
        rw [this] at e
        cases e
      subst hnil
      refine ⟨kvs, fs.map iN, m, (m : Int), rfl, ?_, by rw [List.length_map]; omega, h1, fun k hk => ?_, fun ls hp hs => ⟨_, rfl, ?_⟩⟩
      · rw [hk, List.map_map]
        exact List.map_congr_left fun l _ => (kN_ikey l).symm
      · obtain ⟨l, hl, rfl⟩ := List.mem_map.mp hk
        have := hgr (hW.rc l hl)
        exact ⟨by unfold iN; rw [List.length_map, this.len], bd_tn this⟩
      · obtain ⟨gl, hg, rfl⟩ := permInv hp
        rw [tns_int]
        have hm : ∀ x, x ∈ gl ↔ GR m ts x := fun x => by rw [hg.mem_iff, hW.all]
        exact q gl ⟨by rw [hg.length_eq]; exact hf60, hg.nodup_iff.mpr hW.nd, fun a ha => hgr ((hm a).mp ha), fun a ha b hb => (hm _).mpr (GR.mul hT ((hm a).mp ha) ((hm b).mp hb)), stay_first (fun a ha => hgr ((hm a).mp ha)) ((hm _).mpr .stay) hs⟩
end
end K39
namespace K39
open PySem PySem.Spec PyProof.Rows L2 HM VL
abbrev s_l_turn : Stmt := topS 20
theorem sc_l_turn : FnScope ["_law_pen_here", "_law_many", "_law_found", "_law_k"] ["_law_pen_here", "_law_many"] (defScope s_l_turn) := ⟨rfl, rfl, rfl, by decide +kernel, rfl, by decide +kernel, by decide +kernel⟩
section
variable {P : Program} {w : World} {K : PySem.W.Frag} {mg : Str → Option Value} {base : Heap} {am : Am} {gd : Around → Prop} {k : Nat}
theorem ok_turnB {p : Addr} {f f_l_take : Addr} {fd fd_l_take : FuncData} (F : Fun K "_law_turn" "_law_turn" s_l_turn f fd) (G_l_take : VFn anyA P w K mg base CX0 (k + 1) f_l_take fd_l_take ["_law_pen_here", "_law_many"] am (spTakeB p)) (g_l_take : mg "_law_take" = some (.ref f_l_take)) (k_l_take : PySem.W.keepIn K (.ref f_l_take) = true) (b_l_take : Binds K fd_l_take ["_law_pen_here", "_law_many"] [])
    (mz : ∀ x ∈ bn, mg x = none) : VFn gd P w K mg base CX0 (k + 2) f fd ["_law_pen_here", "_law_many"] am (spTurn p) := by
  refine vfn_of F sc_l_turn (fun ds n Q E h => ?_) ⟨_, fun cdv A out s H E F0 H0 hcd hgd hr =>
    (vss_cons (vs_setN (i := 2) sc_l_turn.nd rfl (.inl rfl) (vn_lst va_nil))
      (vss_cons (vs_for PassesOwn.never rfl (vi_range1 (by rfl) (mz "range" (by decide)) (vb_cons (ve_var (pv 1)) vb_nil)) (vg_name (pg_name (i := 3) sc_l_turn.nd rfl (.inl rfl)))
        (vss_one (vs_expr (ve_m (pe_bm PySem.F.plainAttrs_list PySem.F.slot_list_insert PySem.F.type_list_insert mt_insV (pv 2) (va_cons (ve_call G_l_take trivial (hr.mono (by omega)) (by rfl) g_l_take k_l_take b_l_take pass0 (va_cons (ve_var (pv 0)) (va_cons (ve_op op_add lft_I0 (ve_var (pv 3)) ve_int) va_nil))) (va_cons (ve_var (pv 3)) va_nil))) lft_insert))))
      (vss_one (vs_ret (ve_tyTR call_tuple_of lft_tupleOf (by rfl) (mz "tuple" (by decide)) (by decide +kernel) (vb_rd (pv 2) vb_nil)))))), fun ds t Q E h => ?_⟩
  · obtain ⟨n, rfl, _⟩ := h
    rfl
  · obtain ⟨m, rfl, hm, q⟩ := h
    refine ⟨Nat.zero_le _, _, rfl, _, rfl, ⟨by omega, by omega⟩, fun j env t' => t' = t ∧ ∃ fs s3, env = [.fz (.obj p), .fz (nD m), .ow (.lst (nsD fs)), s3] ∧ fs.Perm (List.range j), ⟨rfl, [], .no, rfl, List.Perm.refl _⟩, fun j x env t' hx hP => ?_, fun env t' hP => ?_⟩
    · obtain ⟨rfl, fs, s3, rfl, hpm⟩ := hP
      obtain ⟨rfl, hj⟩ := rngD_get0 hx
      have hj : j < m := hj
      have hfl := hpm.length_eq
      rw [List.length_range] at hfl
      refine ⟨⟨_, rfl⟩, _, rfl, _, rfl, _, _, rfl, rfl, j + 1, ?_, by omega, by omega, fun r hr => ?_⟩
      · rfl
      refine ⟨_, rfl, _, rfl, r, nD j, rfl, by rw [nsD_len]; omega, by omega, rfl, fs.take r ++ [j] ++ fs.drop r, .fz (nD j), ?_, ?_⟩
      · unfold nsD
        rw [List.map_append, List.map_append, List.map_take, List.map_drop]
        rfl
      · rw [List.range_succ]
        have h1 : (fs.take r ++ [j] ++ fs.drop r).Perm ((fs.take r ++ fs.drop r) ++ [j]) := by
          rw [List.append_assoc, List.append_assoc]
          exact List.Perm.append_left _ List.perm_append_comm
        rw [List.take_append_drop] at h1
        exact h1.trans (hpm.append_right _)
    · obtain ⟨rfl, fs, s3, rfl, hpm⟩ := hP
      rw [rngD_len, show (m : Int).toNat = m by omega] at hpm
      exact ⟨⟨_, .inr ⟨_, rfl, rfl⟩⟩, _, .inr ⟨_, rfl, rfl⟩, _, rfl, flats_ns fs, q fs hpm⟩
end
end K39
namespace K39
open PySem PySem.Spec PyProof.Rows L2 HM VL
abbrev s_l_house_by : Stmt := topS 23
theorem sc_l_house_by : FnScope ["_law_group", "_law_k", "_law_turn_here", "_law_number_here", "_law_found", "_law_one", "_law_other"] ["_law_group"] (defScope s_l_house_by) := ⟨rfl, rfl, rfl, by decide +kernel, rfl, by decide +kernel, by decide +kernel⟩
section
variable {P : Program} {w : World} {K : PySem.W.Frag} {mg : Str → Option Value} {base : Heap} {am : Am} {gd : Around → Prop} {k : Nat}
theorem ok_houseby {f : Addr} {fd : FuncData} (F : Fun K "_law_house_by" "_law_house_by" s_l_house_by f fd) (mz : ∀ x ∈ bn, mg x = none) : VFn gd P w K mg base CX0 (k + 1) f fd ["_law_group"] am spTable := by
  refine vfn_of F sc_l_house_by (fun ds n Q E h => ?_) ⟨_, fun cdv A out s H E F0 H0 hcd hgd hr =>
    (vss_cons (vs_setN (i := 3) sc_l_house_by.nd rfl (.inr rfl) (vn_dictT hr.units rfl (by rfl) (mz "dict" (by decide)) (ve_new (vn_lc (own := [("_law_k", 1), ("_law_turn_here", 2)]) rfl sc_l_house_by.nd (vi_enum (by rfl) (mz "enumerate" (by decide)) (va_cons (ve_var (pv 0)) va_nil)) (blkOk_by (own := [("_law_k", 1), ("_law_turn_here", 2)]) (N := ["_law_group", "_law_k", "_law_turn_here", "_law_number_here", "_law_found", "_law_one", "_law_other"]) (sc := defScope s_l_house_by) (by decide +kernel)) (tg_two (by simp) (by simp)) (fun _ _ _ _ _ => pg_tup rfl (pgs_cons (pg_name (i := 1) sc_l_house_by.nd rfl (.inl rfl)) (pgs_cons (pg_name (i := 2) sc_l_house_by.nd rfl (.inl rfl)) pgs_nil))) (fun _ _ _ _ _ _ _ => vts_nil) (fun _ _ _ _ _ _ _ => (ve_tup (va_cons (ve_var (pv 2)) (va_cons (ve_var (pv 1)) va_nil))))))))
      (vss_cons (vs_setN (i := 4) sc_l_house_by.nd rfl (.inl rfl) (vn_lst va_nil))
      (vss_cons (vs_for PassesOwn.never rfl (vi_list (ve_var (pv 0))) (vg_name (pg_name (i := 5) sc_l_house_by.nd rfl (.inr rfl)))
        (vss_one (vs_expr (ve_m (pe_bm PySem.F.plainAttrs_list PySem.F.slot_list_append PySem.F.type_list_append mt_append (pv 4) (va_cons (ve_new (vn_lc (own := [("_law_other", 6)]) rfl sc_l_house_by.nd (vi_list (ve_var (pv 0))) (blkOk_by (own := [("_law_other", 6)]) (N := ["_law_group", "_law_k", "_law_turn_here", "_law_number_here", "_law_found", "_law_one", "_law_other"]) (sc := defScope s_l_house_by) (by decide +kernel)) (tg_name (by simp)) (fun _ _ _ _ _ => (pg_name (i := 6) sc_l_house_by.nd rfl (.inr rfl))) (fun _ _ _ _ _ _ _ => vts_nil) (fun _ _ _ _ _ _ _ => (ve_dget (hu_of hr) (pv 3) (ve_tyTR call_tuple_of lft_tupleOf (by rfl) (mz "tuple" (by decide)) (by decide +kernel) (vb_cons (ve_new (vn_lc (own := [("_law_k", 1)]) rfl sc_l_house_by.nd (vi_tup (ve_var (pv 5))) (blkOk_by (own := [("_law_k", 1)]) (by rfl)) (tg_name (by simp)) (fun _ _ _ _ _ => (pg_name (i := 1) sc_l_house_by.nd rfl (.inl rfl))) (fun _ _ _ _ _ _ _ => vts_nil) (fun _ _ _ _ _ _ _ => (ve_ix ix_tup lft_ixT (ve_var (pv 6)) (ve_var (pv 1)) (fun _ _ => rfl))))) vb_nil)) (fun _ _ => rfl))))) va_nil)) lft_append))))
      (vss_one (vs_ret (ve_mv (pv 4))))))), fun ds t Q E h => ?_⟩
  · obtain ⟨n, ts, rfl, _⟩ := h
    rfl
  · obtain ⟨m, gl, rfl, h7, hG, q⟩ := h
    obtain ⟨td, etd⟩ : ∃ td, td = Dt.lst (tnsD gl) := ⟨_, rfl⟩
    rw [← etd]
    have hn := hG.few
    have hkn : ((numK gl gl.length).map (·.1)).Nodup := by
      unfold numK
      rw [List.map_map]
      refine List.pairwise_map.mpr (List.Pairwise.imp_of_mem (fun {x y} hx hy hxy e => ?_) (List.pairwise_lt_range (n := gl.length)))
      have hx := List.mem_range.mp hx
      have hy := List.mem_range.mp hy
      have e : glA gl x = glA gl y := kN_inj e
      have : x = y := by
        have h1 := glA_get hx
        have h2 := glA_get hy
        rw [e, ← h2] at h1
        obtain ⟨a1, a2⟩ := List.getElem?_eq_some_iff.mp (h1.trans h2)
        obtain ⟨b1, b2⟩ := List.getElem?_eq_some_iff.mp h2
        exact (List.getElem_inj (i := x) (j := y) (h₀ := a1) (h₁ := b1) hG.nd).mp (by rw [a2, b2])
      omega
    refine ⟨_, rfl, tnsD gl, by rw [etd], lc_map2 (i := 1) (i2 := 2) (fun j => Dt.tup [tupD (kN (glA gl j)), nD j]) (.head _) (.tail _ (.head _)) (noOw2 (s := .no) (s2 := .no) rfl rfl no_ow no_ow) (by rw [enD_len, tnsD_len]; omega) (fun j z hz => ?_) ?_⟩
    · obtain ⟨x, hx, rfl⟩ := enD_get hz
      obtain ⟨rfl, hj⟩ := tns_get hx
      refine ⟨_, _, rfl, fun R hR => ⟨_, rfl, _, rfl, (by decide : 2 ≤ 5000), ?_⟩⟩
      rw [← tup_key] at hR
      exact hR
    have eL : (List.range (enD (tnsD gl)).length).map (fun j => Dt.tup [tupD (kN (glA gl j)), nD j]) = (numK gl gl.length).map fun q => Dt.tup [tupD q.1, q.2] := by
      rw [enD_len, tnsD_len]
      unfold numK
      rw [List.map_map]
      rfl
    refine ⟨_, rfl, numK gl gl.length, by rw [eL], hkn, ?_⟩
    refine ⟨Nat.zero_le _, ?_⟩
    refine ⟨_, rfl, _, etd, fun j env t2 => t2 = t ∧ ∃ s4, env = [.fz td, .no, .no, .ow (.dT (numK gl gl.length)), .ow (.lst ((List.range j).map fun a => rowD gl.length (tblM gl a))), s4, .no], ⟨rfl, .no, rfl⟩, fun j x env t2 hx hP => ?_, fun env t2 hP => ?_⟩
    · obtain ⟨rfl, s4, rfl⟩ := hP
      obtain ⟨rfl, hj⟩ := tns_get hx
      have hjT := hG.tn _ (glA_mem hj)
      refine ⟨⟨_, rfl⟩, _, rfl, _, etd, ?_⟩
      refine lc_map (i := 6) (fun k => nD (tblM gl j k)) (.head _) (noOw1 rfl no_ow) (by rw [tnsD_len]; omega) (fun k x hx R q => ?_) ?_
      · obtain ⟨rfl, hk⟩ := tns_get hx
        have hkT := hG.tn _ (glA_mem hk)
        refine ⟨.inr ⟨_, rfl⟩, _, rfl, _, rfl, ?_⟩
        refine lc_map (i := 1) (fun i => nD (tA (glA gl k) (tA (glA gl j) i))) (.head _) (noOw1 rfl no_ow) (by rw [nsD_len, hjT.len]; omega) (fun i y hy R q => ?_) ?_
        · unfold nsD at hy
          rw [List.getElem?_map] at hy
          obtain ⟨y0, hy1, rfl⟩ := Option.map_eq_some_iff.mp hy
          have hil := (List.getElem?_eq_some_iff.mp hy1).1
          have e3 : y0 = tA (glA gl j) i := Option.some.inj (hy1.symm.trans (tA_get hil))
          rw [← e3] at q
          exact ⟨_, rfl, _, rfl, _, _, _, rfl, rfl, nsD_tA (by rw [hkT.len]; exact hjT.lt (List.mem_of_getElem? hy1)), q⟩
        rw [thn_lc]
        have hin := hG.mul _ (glA_mem hj) _ (glA_mem hk)
        refine ⟨_, rfl, _, rfl, flats_ns _, nD (tblM gl j k), .inr ⟨_, kN (thn (glA gl j) (glA gl k)), rfl, tup_key _, ?_⟩, q⟩
        have e4 := numK_val hG.nd (Nat.le_refl gl.length) (List.idxOf_lt_length_of_mem hin)
        rw [glA_idx hin] at e4
        exact e4.symm
      · rw [tnsD_len]
        refine ⟨_, rfl, _, rfl, _, rfl, by rw [List.length_map, List.length_range]; omega, rfl, .fz (.tup (nsD (glA gl j))), ?_⟩
        rw [List.range_succ (n := j), List.map_append]
        rw [show (List.range gl.length).map (fun k => nD (tblM gl j k)) = nsD ((List.range gl.length).map (tblM gl j)) by unfold nsD; rw [List.map_map]; rfl]
        rfl
    · obtain ⟨rfl, s4, rfl⟩ := hP
      rw [tnsD_len]
      exact ⟨_, rfl, q⟩
end
end K39
namespace K39
open PySem PySem.Spec PyProof.Rows L2 HM VL
abbrev s_l_both : Stmt := topS 26
theorem sc_l_both : FnScope ["_law_one", "_law_other", "_law_found", "_law_row", "_law_more", "_law_both_here", "_law_a", "_law_b"] ["_law_one", "_law_other"] (defScope s_l_both) := ⟨rfl, rfl, rfl, by decide +kernel, rfl, by decide +kernel, by decide +kernel⟩
section
variable {P : Program} {w : World} {K : PySem.W.Frag} {mg : Str → Option Value} {base : Heap} {am : Am} {gd : Around → Prop} {k : Nat}
theorem ok_both {f : Addr} {fd : FuncData} (F : Fun K "_law_both" "_law_both" s_l_both f fd) (mz : ∀ x ∈ bn, mg x = none) : VFn gd P w K mg base CX0 (k + 1) f fd ["_law_one", "_law_other"] am spBoth := by
  refine vfn_of F sc_l_both (fun ds n Q E h => ?_) ⟨_, fun cdv A out s H E F0 H0 hcd hgd hr =>
    (vss_cons (vs_setN (i := 2) sc_l_both.nd rfl (.inl rfl) (vn_lst va_nil))
      (vss_cons (vs_for PassesOwn.never rfl (vi_list (ve_var (pv 0))) (vg_name (pg_name (i := 3) sc_l_both.nd rfl (.inl rfl)))
        (vss_one (vs_for PassesOwn.never rfl (vi_list (ve_var (pv 1))) (vg_name (pg_name (i := 4) sc_l_both.nd rfl (.inl rfl)))
          (vss_cons (vs_setN (i := 5) sc_l_both.nd rfl (.inl rfl) (vn_lst va_nil))
          (vss_cons (vs_for PassesOwn.never rfl (vi_list (ve_var (pv 3))) (vg_name (pg_name (i := 6) sc_l_both.nd rfl (.inr rfl)))
            (vss_one (vs_expr (ve_m (pe_bm PySem.F.plainAttrs_list PySem.F.slot_list_extend PySem.F.type_list_extend mt_extend (pv 5) (va_cons (ve_new (vn_lc (own := [("_law_b", 7)]) rfl sc_l_both.nd (vi_list (ve_var (pv 4))) (blkOk_by (own := [("_law_b", 7)]) (N := ["_law_one", "_law_other", "_law_found", "_law_row", "_law_more", "_law_both_here", "_law_a", "_law_b"]) (sc := defScope s_l_both) (by decide +kernel)) (tg_name (by simp)) (fun _ _ _ _ _ => (pg_name (i := 7) sc_l_both.nd rfl (.inl rfl))) (fun _ _ _ _ _ _ _ => vts_nil) (fun _ _ _ _ _ _ _ => (ve_op op_add lft_I0 (ve_op op_mul lft_I (ve_var (pv 6)) (ve_cbR call_len_seq lft_len (by rfl) (mz "len" (by decide)) PySem.boot_len (vb_rd (pv 1) vb_nil))) (ve_var (pv 7)))))) va_nil)) lft_extend))))
          (vss_one (vs_expr (ve_m (pe_bm PySem.F.plainAttrs_list PySem.F.slot_list_append PySem.F.type_list_append mt_append (pv 2) (va_cons (ve_mv (pv 5)) va_nil)) lft_append))))))))
      (vss_one (vs_ret (ve_mv (pv 2)))))), fun ds t Q E h => ?_⟩
  · obtain ⟨n, k, m1, m2, rfl, _⟩ := h
    rfl
  · obtain ⟨n, n2, m1, m2, rfl, hH1, hH2, hnk, hn, hk, q⟩ := h
    obtain ⟨h2, eh2⟩ : ∃ h2, h2 = (List.range n2).map fun a => rowD n2 (m2 a) := ⟨_, rfl⟩
    have eho : houD n2 m2 = .lst h2 := by rw [eh2]; rfl
    have hl2 : h2.length = n2 := by rw [eh2, List.length_map, List.length_range]
    rw [eho]
    refine ⟨Nat.zero_le _, ?_⟩
    refine ⟨_, rfl, _, rfl, fun x1 env t' => t' = t ∧ ∃ s3 s4 s5 s6, env = [.fz (houD n m1), .fz (.lst h2), .ow (.lst ((List.range (x1 * n2)).map fun a => rowD (n * n2) (mB n2 m1 m2 a))), s3, s4, s5, s6, .no], ⟨rfl, .no, .no, .no, .no, by rw [Nat.zero_mul]; rfl⟩, fun x1 x env t' hx hP => ?_, fun env t' hP => ?_⟩
    · obtain ⟨rfl, s3, s4, s5, s6, rfl⟩ := hP
      rw [List.getElem?_map] at hx
      obtain ⟨y1, hy1, rfl⟩ := Option.map_eq_some_iff.mp hx
      have hx1 : x1 < n := by have := (List.getElem?_eq_some_iff.mp hy1).1; rwa [List.length_range] at this
      rw [List.getElem?_range hx1] at hy1
      cases hy1
      refine ⟨_, rfl, _, rfl, fun x2 env t2 => t2 = t' ∧ ∃ s4 s5 s6, env = [.fz (houD n m1), .fz (.lst h2), .ow (.lst ((List.range (x1 * n2 + x2)).map fun a => rowD (n * n2) (mB n2 m1 m2 a))), .fz (rowD n (m1 x1)), s4, s5, s6, .no], ⟨rfl, _, _, _, rfl⟩, fun x2 x env t2 hx hP => ?_, fun env t2 hP => ?_⟩
      · obtain ⟨rfl, s4, s5, s6, rfl⟩ := hP
        rw [eh2, List.getElem?_map] at hx
        obtain ⟨y2, hy2, rfl⟩ := Option.map_eq_some_iff.mp hx
        have hx2 : x2 < n2 := by have := (List.getElem?_eq_some_iff.mp hy2).1; rwa [List.length_range] at this
        rw [List.getElem?_range hx2] at hy2
        cases hy2
        have hrow : x1 * n2 + x2 < n * n2 := pair_lt2 hx1 hx2
        refine ⟨Nat.zero_le _, ?_⟩
        refine ⟨_, rfl, _, rfl, fun i env t3 => t3 = t2 ∧ ∃ s6, env = [.fz (houD n m1), .fz (.lst h2), .ow (.lst ((List.range (x1 * n2 + x2)).map fun a => rowD (n * n2) (mB n2 m1 m2 a))), .fz (rowD n (m1 x1)), .fz (rowD n2 (m2 x2)), .ow (.lst (nsD ((List.range (i * n2)).map (mB n2 m1 m2 (x1 * n2 + x2))))), s6, .no], ⟨rfl, _, by rw [Nat.zero_mul]; rfl⟩, fun i x env t3 hx hP => ?_, fun env t3 hP => ?_⟩
        · obtain ⟨rfl, s6, rfl⟩ := hP
          unfold nsD at hx
          rw [List.getElem?_map, List.getElem?_map] at hx
          obtain ⟨y3, hy3, rfl⟩ := Option.map_eq_some_iff.mp hx
          obtain ⟨y4, hy4, rfl⟩ := Option.map_eq_some_iff.mp hy3
          have hi : i < n := by have := (List.getElem?_eq_some_iff.mp hy4).1; rwa [List.length_range] at this
          rw [List.getElem?_range hi] at hy4
          cases hy4
          have hin : i * n2 ≤ n * n2 := Nat.mul_le_mul_right _ (by omega)
          refine ⟨⟨_, rfl⟩, _, rfl, _, rfl, lc_map (i := 7) (fun j => nD (m1 x1 i * n2 + m2 x2 j)) (.head _) (noOw1 rfl no_ow) (by rw [nsD_len, List.length_map, List.length_range]; omega) (fun j x hx R hR => ?_) ?_⟩
          · unfold nsD at hx
            rw [List.getElem?_map, List.getElem?_map] at hx
            obtain ⟨z3, hz3, rfl⟩ := Option.map_eq_some_iff.mp hx
            obtain ⟨z4, hz4, rfl⟩ := Option.map_eq_some_iff.mp hz3
            have hj : j < n2 := by have := (List.getElem?_eq_some_iff.mp hz4).1; rwa [List.length_range] at this
            rw [List.getElem?_range hj] at hz4
            cases hz4
            refine ⟨_, rfl, ⟨_, .inl rfl⟩, _, .inl rfl, _, .inl rfl, rfl, _, _, rfl, rfl, .inr ⟨by omega, by omega⟩, _, rfl, _, _, rfl, rfl, ?_⟩
            have e : ((m1 x1 i : Nat) : Int) * ((h2.length : Nat) : Int) + ((m2 x2 j : Nat) : Int) = ((m1 x1 i * n2 + m2 x2 j : Nat) : Int) := by rw [hl2]; push_cast; rfl
            show R (.int (((m1 x1 i : Nat) : Int) * ((h2.length : Nat) : Int) + ((m2 x2 j : Nat) : Int))) _ _
            rw [e]
            exact hR
          · refine ⟨_, rfl, _, rfl, _, rfl, ?_, rfl, .fz (nD (m1 x1 i)), ?_⟩
            · rw [nsD_len, List.length_map, List.length_range, List.length_map, List.length_range, nsD_len, List.length_map, List.length_range]
              omega
            · rw [row_more x1 x2 i hx2, nsD_len, List.length_map, List.length_range]
              have e : (List.range n2).map (fun j => nD (m1 x1 i * n2 + m2 x2 j)) = nsD ((List.range n2).map fun j => m1 x1 i * n2 + m2 x2 j) := by unfold nsD; rw [List.map_map]; rfl
              rw [e, show ∀ a b : List Nat, nsD (a ++ b) = nsD a ++ nsD b from fun a b => List.map_append]
              rfl
        · obtain ⟨rfl, s6, rfl⟩ := hP
          rw [nsD_len, List.length_map, List.length_range]
          refine ⟨⟨_, rfl⟩, _, rfl, _, rfl, _, rfl, ?_, rfl, ?_⟩
          · rw [List.length_map, List.length_range]
            omega
          refine ⟨.fz (rowD n2 (m2 x2)), .fz (rowD (n * n2) (mB n2 m1 m2 (x1 * n2 + x2))), s6, ?_⟩
          rw [show x1 * n2 + (x2 + 1) = (x1 * n2 + x2) + 1 from rfl, List.range_succ (n := x1 * n2 + x2), List.map_append]
          rfl
      · obtain ⟨rfl, s4, s5, s6, rfl⟩ := hP
        rw [hl2]
        exact ⟨rfl, _, _, _, _, by rw [Nat.succ_mul]⟩
    · obtain ⟨rfl, s3, s4, s5, s6, rfl⟩ := hP
      rw [List.length_map, List.length_range]
      exact ⟨_, rfl, q⟩
end
end K39
namespace K39
open PySem PySem.Spec PyProof.Rows L2 HM VL
abbrev s_l_great_group : Stmt := topS 22
theorem sc_l_great_group : FnScope ["_law_which", "_law_some"] ["_law_which"] (defScope s_l_great_group) := ⟨rfl, rfl, rfl, by decide +kernel, rfl, by decide +kernel, by decide +kernel⟩
section
variable {P : Program} {w : World} {K : PySem.W.Frag} {mg : Str → Option Value} {base : Heap} {am : Am} {gd : Around → Prop} {k : Nat}
theorem ok_great {f f_l_closed : Addr} {fd fd_l_closed : FuncData} (F : Fun K "_law_great_group" "_law_great_group" s_l_great_group f fd)
    (G_l_closed : VFn anyA P w K mg base CX0 (k + 2) f_l_closed fd_l_closed ["_law_many", "_law_turns", "_law_most"] am spClosedB) (g_l_closed : mg "_law_closed" = some (.ref f_l_closed)) (k_l_closed : PySem.W.keepIn K (.ref f_l_closed) = true) (b_l_closed : Binds K fd_l_closed ["_law_many", "_law_turns", "_law_most"] [])
    (mz : ∀ x ∈ bn, mg x = none) : VFn gd P w K mg base CX0 (k + 3) f fd ["_law_which"] am spGreat := by
  refine vfn_of F sc_l_great_group (fun ds n Q E h => ?_) ⟨_, fun cdv A out s H E F0 H0 hcd hgd hr =>
    (vss_cons (vs_setN (i := 1) sc_l_great_group.nd rfl (.inl rfl) (vn_lst (va_cons (ve_tupK (ka_cons ve_int (ka_cons (ve_lstK (ka_cons (ve_tupK (ka_cons ve_int (ka_cons ve_int (ka_cons ve_int (ka_cons ve_int (ka_cons ve_int (ka_cons ve_int (ka_cons ve_int ka_nil))))))) (by decide)) (ka_cons (ve_tupK (ka_cons ve_int (ka_cons ve_int (ka_cons ve_int (ka_cons ve_int (ka_cons ve_int (ka_cons ve_int (ka_cons ve_int ka_nil))))))) (by decide)) (ka_cons (ve_tupK (ka_cons ve_int (ka_cons ve_int (ka_cons ve_int (ka_cons ve_int (ka_cons ve_int (ka_cons ve_int (ka_cons ve_int ka_nil))))))) (by decide)) (ka_cons (ve_tupK (ka_cons ve_int (ka_cons ve_int (ka_cons ve_int (ka_cons ve_int (ka_cons ve_int (ka_cons ve_int (ka_cons ve_int ka_nil))))))) (by decide)) ka_nil)))) (by decide)) ka_nil)) (by decide)) va_nil)))
      (vss_cons (vs_expr (ve_m (pe_bm PySem.F.plainAttrs_list PySem.F.slot_list_append PySem.F.type_list_append mt_append (pv 1) (va_cons (ve_tupK (ka_cons ve_int (ka_cons (ve_lstK (ka_cons (ve_tupK (ka_cons ve_int (ka_cons ve_int (ka_cons ve_int (ka_cons ve_int (ka_cons ve_int (ka_cons ve_int ka_nil)))))) (by decide)) (ka_cons (ve_tupK (ka_cons ve_int (ka_cons ve_int (ka_cons ve_int (ka_cons ve_int (ka_cons ve_int (ka_cons ve_int ka_nil)))))) (by decide)) (ka_cons (ve_tupK (ka_cons ve_int (ka_cons ve_int (ka_cons ve_int (ka_cons ve_int (ka_cons ve_int (ka_cons ve_int ka_nil)))))) (by decide)) ka_nil))) (by decide)) ka_nil)) (by decide)) va_nil)) lft_append))
      (vss_cons (vs_expr (ve_m (pe_bm PySem.F.plainAttrs_list PySem.F.slot_list_append PySem.F.type_list_append mt_append (pv 1) (va_cons (ve_tupK (ka_cons ve_int (ka_cons (ve_lstK (ka_cons (ve_tupK (ka_cons ve_int (ka_cons ve_int (ka_cons ve_int (ka_cons ve_int (ka_cons ve_int ka_nil))))) (by decide)) (ka_cons (ve_tupK (ka_cons ve_int (ka_cons ve_int (ka_cons ve_int (ka_cons ve_int (ka_cons ve_int ka_nil))))) (by decide)) ka_nil)) (by decide)) ka_nil)) (by decide)) va_nil)) lft_append))
      (vss_cons (vs_expr (ve_m (pe_bm PySem.F.plainAttrs_list PySem.F.slot_list_append PySem.F.type_list_append mt_append (pv 1) (va_cons (ve_tupK (ka_cons ve_int (ka_cons (ve_lstK (ka_cons (ve_tupK (ka_cons ve_int (ka_cons ve_int (ka_cons ve_int (ka_cons ve_int (ka_cons ve_int (ka_cons ve_int ka_nil)))))) (by decide)) (ka_cons (ve_tupK (ka_cons ve_int (ka_cons ve_int (ka_cons ve_int (ka_cons ve_int (ka_cons ve_int (ka_cons ve_int ka_nil)))))) (by decide)) (ka_cons (ve_tupK (ka_cons ve_int (ka_cons ve_int (ka_cons ve_int (ka_cons ve_int (ka_cons ve_int (ka_cons ve_int ka_nil)))))) (by decide)) (ka_cons (ve_tupK (ka_cons ve_int (ka_cons ve_int (ka_cons ve_int (ka_cons ve_int (ka_cons ve_int (ka_cons ve_int ka_nil)))))) (by decide)) ka_nil)))) (by decide)) ka_nil)) (by decide)) va_nil)) lft_append))
      (vss_one (vs_ret (ve_call G_l_closed trivial (hr.mono (by omega)) (by rfl) g_l_closed k_l_closed b_l_closed pass0 (va_cons (ve_ix ix_tup lft_ixT (ve_ixO (pv 1) (ve_var (pv 0)) (fun _ _ => rfl)) ve_int (fun _ _ => rfl)) (va_cons (ve_ix ix_tup lft_ixT (ve_ixO (pv 1) (ve_var (pv 0)) (fun _ _ => rfl)) ve_int (fun _ _ => rfl)) (va_cons ve_int va_nil)))))))))), fun ds t Q E h => ?_⟩
  · obtain ⟨j, rfl, _⟩ := h
    rfl
  · obtain ⟨j, rfl, hj, q⟩ := h
    refine ⟨(by decide : 1 ≤ 5000), ⟨_, rfl⟩, _, rfl, _, rfl, by decide, ⟨_, rfl⟩, _, rfl, _, rfl, by decide, ⟨_, rfl⟩, _, rfl, _, rfl, by decide, ?_⟩
    have go : ∀ (m : Nat) (ts L : List (List Nat)), 1 ≤ m → m ≤ 7 → ts.length ≤ 4 → (ts.all fun g => tnB m g) = true → closedB m ts L = true ∧ L.length ≤ 60 → spClosedB [nD m, .lst (tnsD ts), nD 60] t Q fun _ _ _ => False := fun m ts L h1 h2 h3 h4 h5 =>
      ⟨m, ts, 60, rfl, h1, h2, h3, by decide, fun g hg => tn_B (List.all_eq_true.mp h4 g hg), fun gl hg => q m gl h2 hg, .inl fun l nd hl => Nat.le_trans (few_by h5.1 l nd hl) h5.2⟩
    have hjj : j = 0 ∨ j = 1 ∨ j = 2 ∨ j = 3 := by omega
    rcases hjj with rfl | rfl | rfl | rfl
    · exact ⟨⟨_, .inr ⟨_, rfl, rfl⟩⟩, _, rfl, _, _, _, .inr ⟨_, rfl, rfl⟩, rfl, rfl, _, _, _, rfl, rfl, rfl, ⟨_, .inr ⟨_, rfl, rfl⟩⟩, _, rfl, _, _, _, .inr ⟨_, rfl, rfl⟩, rfl, rfl, _, _, _, rfl, rfl, rfl, go 7 gr1 _ (by decide) (by decide) (by decide) (by decide +kernel) few1⟩
    · exact ⟨⟨_, .inr ⟨_, rfl, rfl⟩⟩, _, rfl, _, _, _, .inr ⟨_, rfl, rfl⟩, rfl, rfl, _, _, _, rfl, rfl, rfl, ⟨_, .inr ⟨_, rfl, rfl⟩⟩, _, rfl, _, _, _, .inr ⟨_, rfl, rfl⟩, rfl, rfl, _, _, _, rfl, rfl, rfl, go 6 gr2 _ (by decide) (by decide) (by decide) (by decide +kernel) few2⟩
    · exact ⟨⟨_, .inr ⟨_, rfl, rfl⟩⟩, _, rfl, _, _, _, .inr ⟨_, rfl, rfl⟩, rfl, rfl, _, _, _, rfl, rfl, rfl, ⟨_, .inr ⟨_, rfl, rfl⟩⟩, _, rfl, _, _, _, .inr ⟨_, rfl, rfl⟩, rfl, rfl, _, _, _, rfl, rfl, rfl, go 5 gr3 _ (by decide) (by decide) (by decide) (by decide +kernel) few3⟩
    · exact ⟨⟨_, .inr ⟨_, rfl, rfl⟩⟩, _, rfl, _, _, _, .inr ⟨_, rfl, rfl⟩, rfl, rfl, _, _, _, rfl, rfl, rfl, ⟨_, .inr ⟨_, rfl, rfl⟩⟩, _, rfl, _, _, _, .inr ⟨_, rfl, rfl⟩, rfl, rfl, _, _, _, rfl, rfl, rfl, go 6 gr4 _ (by decide) (by decide) (by decide) (by decide +kernel) few4⟩
end
end K39
namespace K39
open PySem PySem.Spec PyProof.Rows L2 HM VL
abbrev s_l_drawn_group : Stmt := topS 21
theorem sc_l_drawn_group : FnScope ["_law_pen_here", "_law_many", "_law_k", "_law_turns", "_law_found"] ["_law_pen_here"] (defScope s_l_drawn_group) := ⟨rfl, rfl, rfl, by decide +kernel, rfl, by decide +kernel, by decide +kernel⟩
section
variable {P : Program} {w : World} {K : PySem.W.Frag} {mg : Str → Option Value} {base : Heap} {am : Am} {gd : Around → Prop} {k : Nat}
theorem ok_drawn {p f f_l_take f_l_turn f_l_closed : Addr} {fd fd_l_take fd_l_turn fd_l_closed : FuncData} (F : Fun K "_law_drawn_group" "_law_drawn_group" s_l_drawn_group f fd)
    (G_l_take : VFn anyA P w K mg base CX0 (k + 2) f_l_take fd_l_take ["_law_pen_here", "_law_many"] am (spTakeB p)) (g_l_take : mg "_law_take" = some (.ref f_l_take)) (k_l_take : PySem.W.keepIn K (.ref f_l_take) = true) (b_l_take : Binds K fd_l_take ["_law_pen_here", "_law_many"] [])
    (G_l_turn : VFn anyA P w K mg base CX0 (k + 2) f_l_turn fd_l_turn ["_law_pen_here", "_law_many"] am (spTurn p)) (g_l_turn : mg "_law_turn" = some (.ref f_l_turn)) (k_l_turn : PySem.W.keepIn K (.ref f_l_turn) = true) (b_l_turn : Binds K fd_l_turn ["_law_pen_here", "_law_many"] [])
    (G_l_closed : VFn anyA P w K mg base CX0 (k + 2) f_l_closed fd_l_closed ["_law_many", "_law_turns", "_law_most"] am spClosedB) (g_l_closed : mg "_law_closed" = some (.ref f_l_closed)) (k_l_closed : PySem.W.keepIn K (.ref f_l_closed) = true) (b_l_closed : Binds K fd_l_closed ["_law_many", "_law_turns", "_law_most"] [])
    (mz : ∀ x ∈ bn, mg x = none) : VFn gd P w K mg base CX0 (k + 3) f fd ["_law_pen_here"] am (spDrawn p) := by
  refine vfn_of F sc_l_drawn_group (fun ds n Q E h => ?_) ⟨_, fun cdv A out s H E F0 H0 hcd hgd hr =>
    (vss_cons (vs_set (i := 1) sc_l_drawn_group.nd rfl (.inr rfl) (ve_op op_add lft_I0 ve_int (ve_call G_l_take trivial (hr.mono (by omega)) (by rfl) g_l_take k_l_take b_l_take pass0 (va_cons (ve_var (pv 0)) (va_cons ve_int va_nil)))))
      (vss_cons (vs_setLcF (i := 3) (own := [("_law_k", 2)]) rfl sc_l_drawn_group.nd rfl rfl (sw_true rfl rfl rfl (by decide +kernel)) (vi_range1 (by rfl) (mz "range" (by decide)) (vb_cons (ve_call G_l_take trivial (hr.mono (by omega)) (by rfl) g_l_take k_l_take b_l_take pass0 (va_cons (ve_var (pv 0)) (va_cons ve_int va_nil))) vb_nil)) (blkOk_by (own := [("_law_k", 2)]) (N := ["_law_pen_here", "_law_many", "_law_k", "_law_turns", "_law_found"]) (sc := defScope s_l_drawn_group) (by decide +kernel)) (tg_name (by simp)) (fun _ _ _ _ _ => (pg_name (i := 2) sc_l_drawn_group.nd rfl (.inl rfl))) (fun _ _ _ _ _ _ _ => vts_nil) (fun _ _ _ _ _ _ _ => (ve_call G_l_turn trivial (hr.mono (by omega)) (by rfl) g_l_turn k_l_turn b_l_turn pass0 (va_cons (ve_var (pv 0)) (va_cons (ve_var (pv 1)) va_nil)))))
      (vss_cons (vs_set (i := 4) sc_l_drawn_group.nd rfl (.inl rfl) (ve_call G_l_closed trivial (hr.mono (by omega)) (by rfl) g_l_closed k_l_closed b_l_closed pass0 (va_cons (ve_var (pv 1)) (va_cons (ve_var (pv 3)) (va_cons (ve_ix ix_list lft_ixL (ve_lstK (ka_cons ve_int (ka_cons ve_int ka_nil)) (by decide)) (ve_intB (by rfl) (mz "int" (by decide)) (ve_cmp op_eq lft_eq (ve_call G_l_take trivial (hr.mono (by omega)) (by rfl) g_l_take k_l_take b_l_take pass0 (va_cons (ve_var (pv 0)) (va_cons ve_int va_nil))) ve_int (nomark _))) (fun _ _ => rfl)) va_nil)))))
      (vss_cons (vs_if (vt_cmp op_isN lft_isN (ve_var (pv 4)) ve_non (nomark _))
        (vss_one (vs_set (i := 4) sc_l_drawn_group.nd rfl (.inl rfl) (ve_call G_l_closed trivial (hr.mono (by omega)) (by rfl) g_l_closed k_l_closed b_l_closed pass0 (va_cons (ve_var (pv 1)) (va_cons (ve_new (vn_slL (ve_var (pv 3)) vo_none (vo_some ve_int))) (va_cons ve_int va_nil))))))
        vss_nil)
      (vss_one (vs_ret (ve_var (pv 4)))))))), fun ds t Q E h => ?_⟩
  · obtain ⟨rfl, _⟩ := h
    rfl
  · obtain ⟨rfl, q⟩ := h
    refine ⟨_, rfl, 7, rfl, by decide, by decide, fun r hr => ⟨_, _, rfl, rfl, ?_⟩⟩
    obtain ⟨m, hm, hm1, hm7⟩ : ∃ m : Nat, (1 : Int) + ((r : Nat) : Int) = (m : Nat) ∧ 1 ≤ m ∧ m ≤ 7 := ⟨1 + r, by omega, by omega, by omega⟩
    have ed : Dt.int (1 + ((r : Nat) : Int)) = nD m := by rw [hm]; rfl
    dsimp only
    rw [ed]
    refine ⟨_, rfl, 3, rfl, by decide, by decide, fun r2 hr2 => ⟨_, rfl, ⟨by omega, by omega⟩, ?_⟩⟩
    refine lc_any (i := 2) (fun j acc => ∃ ts, acc = tnsD ts ∧ ts.length = j ∧ ∀ g ∈ ts, Tn m g) (.head _) (noOw1 rfl no_ow) (by rw [rngD_len]; omega) ⟨[], rfl, rfl, fun g hg => by cases hg⟩ (fun j x acc hx hP R hR => ?_) (fun acc hP => ?_)
    · obtain ⟨ts, rfl, htl, hT⟩ := hP
      refine ⟨_, rfl, _, rfl, m, rfl, by omega, fun l hl => hR _ ⟨ts ++ [l], by rw [← tnsD_app], by rw [List.length_append, htl]; rfl, fun g hg => ?_⟩⟩
      rcases List.mem_append.mp hg with hg | hg
      · exact hT g hg
      · rw [List.mem_singleton.mp hg]; exact hl
    obtain ⟨ts, rfl, htl, hT⟩ := hP
    rw [rngD_len] at htl
    refine ⟨_, rfl, ?_⟩
    have hv : ∀ b : Bool, ∃ v : Nat, atI [Dt.int 24, .int 60] (if b = true then 1 else 0) = some (nD v) ∧ v ≤ 60 := fun b => by
      cases b
      · exact ⟨24, rfl, by decide⟩
      · exact ⟨60, rfl, by decide⟩
    refine ⟨_, rfl, _, rfl, _, rfl, 8, rfl, by decide, by decide, fun r3 h3 => .inl ⟨_, _, rfl, rfl, _, rfl, ?_⟩⟩
    obtain ⟨v, hv1, hv2⟩ := hv (decide (((r3 : Nat) : Int) = 7))
    refine ⟨_, _, _, rfl, rfl, hv1, m, ts, v, rfl, hm1, hm7, by omega, hv2, hT, fun gl hg => ⟨_, rfl, rfl, _, rfl, iteB (fun e => by cases e) (fun _ => ⟨_, rfl, q m gl hm7 hg⟩)⟩, .inr ⟨_, rfl, rfl, _, rfl, iteB (fun _ => ?_) (fun e => by cases e)⟩⟩
    refine ⟨_, rfl, _, rfl, _, rfl, _, rfl, _, rfl, m, ts.take 1, 60, ?_, hm1, hm7, by rw [List.length_take]; omega, by decide, fun g hg => hT g (List.mem_of_mem_take hg), fun gl hg => ⟨_, rfl, q m gl hm7 hg⟩, .inl fun l nd hl => ?_⟩
    · rw [cut1]
      rfl
    · exact GR.few (fun g hg => hT g (List.mem_of_mem_take hg)) hm7 (by rw [List.length_take]; omega) nd hl
end
end K39
namespace K39
open PySem PySem.Spec PyProof.Rows L2 HM VL
abbrev s_l_part : Stmt := topS 29
theorem sc_l_part : FnScope ["_law_house_here", "_law_numbers", "_law_found", "_law_left", "_law_here", "_law_number_here", "_law_there"] ["_law_house_here", "_law_numbers"] (defScope s_l_part) := ⟨rfl, rfl, rfl, by decide +kernel, rfl, by decide +kernel, by decide +kernel⟩
section
variable {P : Program} {w : World} {K : PySem.W.Frag} {mg : Str → Option Value} {base : Heap} {am : Am} {gd : Around → Prop} {k : Nat}
theorem ok_partB {f : Addr} {fd : FuncData} (F : Fun K "_law_part" "_law_part" s_l_part f fd) (mz : ∀ x ∈ bn, mg x = none) : VFn gd P w K mg base CX0 (k + 1) f fd ["_law_house_here", "_law_numbers"] am spPart := by
  refine vfn_of F sc_l_part (fun ds n Q E h => ?_) ⟨_, fun cdv A out s H E F0 H0 hcd hgd hr =>
    (vss_cons (vs_setN (i := 2) sc_l_part.nd rfl (.inl rfl) (vn_dispK (fun F0 H0 => ve_int) (fun F0 H0 => ve_bl)))
      (vss_cons (vs_setN (i := 3) sc_l_part.nd rfl (.inl rfl) (vn_lst (va_cons ve_int va_nil)))
      (vss_cons (vs_while PassesOwn.never (vt_cmpN (op_neD hr.units) lft_neD (pv 3) (vr_of (ve_new (vn_lst va_nil))) (nomark _))
        (vss_cons (vs_set (i := 4) sc_l_part.nd rfl (.inl rfl) (ve_m0 (pe_bm0 PySem.F.plainAttrs_list PySem.F.slot_list_pop PySem.F.type_list_pop mt_pop (pv 3)) lft_pop))
        (vss_one (vs_for PassesOwn.never rfl (vi_list (ve_var (pv 1))) (vg_name (pg_name (i := 5) sc_l_part.nd rfl (.inl rfl)))
          (vss_cons (vs_set (i := 6) sc_l_part.nd rfl (.inl rfl) (ve_ix ix_list lft_ixL (ve_ixO (pv 0) (ve_var (pv 4)) (fun _ _ => rfl)) (ve_var (pv 5)) (fun _ _ => rfl)))
          (vss_one (vs_if (vt_dnotin (hu_of hr) (ve_var (pv 6)) (pv 2))
            (vss_cons (vs_dput (hu_of hr) (pv 2) (ve_var (pv 6)) ve_bl rfl)
            (vss_one (vs_expr (ve_m (pe_bm PySem.F.plainAttrs_list PySem.F.slot_list_append PySem.F.type_list_append mt_append (pv 3) (va_cons (ve_var (pv 6)) va_nil)) lft_append))))
            vss_nil)))))))
      (vss_one (vs_ret (ve_tyTR call_tuple_of lft_tupleOf (by rfl) (mz "tuple" (by decide)) (by decide +kernel) (vb_cons (ve_new (vn_dsortK rfl (by rfl) (mz "sorted" (by decide)) (pv 2))) vb_nil))))))), fun ds t Q E h => ?_⟩
  · obtain ⟨n, m, gs, rfl, _⟩ := h
    rfl
  · obtain ⟨n, m, gs, rfl, h0, h60, hgl, hm, hg, q⟩ := h
    obtain ⟨hou, ehou⟩ : ∃ hou, hou = houD n m := ⟨_, rfl⟩
    rw [← ehou]
    refine ⟨.inl 0, rfl, by decide, ?_⟩
    let I : List Nat → List Nat → Sl → Ev → Prop := fun fs ws s4 env => ∃ kvs s5 s6, env = [.fz hou, .fz (.lst (nsD gs)), .ow (.dK kvs), .ow (.lst (nsD ws)), s4, s5, s6] ∧ kvs.map (·.1) = fs.map (fun i : Nat => (Sum.inl (i : Int) : Key))
    have hfew : ∀ {fs ws : List Nat}, Wt m gs fs ws → fs.length ≤ n := fun h => few_of_nodup h.nd fun x hx => (h.rc x hx).lt h0 hm hg
    refine ⟨fun mm env t' => ∃ fs ws, mm = 2 * (61 - fs.length) + ws.length ∧ t' = t ∧ (∃ s4, I fs ws s4 env) ∧ Wt m gs fs ws, ⟨_, [0], [0], rfl, rfl, ⟨.no, _, .no, .no, rfl, rfl⟩, ⟨by simp, fun x hx => by rw [List.mem_singleton.mp hx]; exact .zero, by simp, fun x hx => hx, by simp, fun x hx hn => absurd hx hn⟩⟩, fun mm env t' hW => ?_⟩
    obtain ⟨fs, ws, rfl, rfl, ⟨s4, kvs, s5, s6, rfl, hk⟩, hW⟩ := hW
    refine ⟨⟨_, .inr ⟨_, rfl, rfl⟩⟩, by decide, _, rfl, _, .inr ⟨_, rfl, rfl⟩, dNeD_pl (pl_ns ws) rfl (dep_ns ws) (by decide) fun b hb => ⟨rfl, b, rfl, iteB (fun e => ?_) (fun e => ?_)⟩⟩
    · have hne : ws ≠ [] := fun z => (hb.mp e) (nsD_nil.mpr z)
      obtain ⟨ws', x0, rfl⟩ : ∃ l x, ws = l ++ [x] := ⟨_, _, (List.dropLast_concat_getLast hne).symm⟩
      have hx0 : x0 ∈ fs := hW.sb x0 (by simp)
      have hx0n : x0 < n := (hW.rc x0 hx0).lt h0 hm hg
      have hwn := hW.wn
      rw [List.nodup_append] at hwn
      have hx0w : x0 ∉ ws' := fun z => hwn.2.2 x0 z x0 (by simp) rfl
      have hfn := hfew hW
      refine ⟨⟨_, rfl⟩, _, rfl, nD x0, rfl, nsD_last, ?_⟩
      rw [nsD_dropLast]
      refine ⟨_, rfl, nsD gs, rfl, fun j env t3 => t3 = t' ∧ ∃ ext, I (fs ++ ext) (ws' ++ ext) (.fz (nD x0)) env ∧ (fs ++ ext).Nodup ∧ (∀ x ∈ fs ++ ext, Rch m gs x) ∧ ∀ g ∈ gs.take j, m x0 g ∈ fs ++ ext, ⟨rfl, [], ⟨kvs, s5, s6, by rw [List.append_nil]; rfl, by rw [List.append_nil]; exact hk⟩, by rw [List.append_nil]; exact hW.nd, by rw [List.append_nil]; exact hW.rc, fun g hg => by rw [List.take_zero] at hg; cases hg⟩, fun j x env t3 hx hP => ?_, fun env t3 hP => ?_⟩
      · obtain ⟨rfl, ext, ⟨kvs, s5, s6, rfl, hk⟩, hnd, hrc, hcl⟩ := hP
        unfold nsD at hx
        rw [List.getElem?_map] at hx
        obtain ⟨g, hg1, rfl⟩ := Option.map_eq_some_iff.mp hx
        have hgm := List.mem_of_getElem? hg1
        have hl : (fs ++ ext).length ≤ n := few_of_nodup hnd fun x hx => (hrc x hx).lt h0 hm hg
        have hkl : kvs.length = (fs ++ ext).length := by
          have := congrArg List.length hk
          rw [List.length_map, List.length_map] at this
          exact this
        have htk : ∀ g2 ∈ gs.take (j + 1), g2 ∈ gs.take j ∨ g2 = g := fun g2 h => by
          rw [take_snoc' hg1] at h
          rcases List.mem_append.mp h with h | h
          · exact .inl h
          · exact .inr (List.mem_singleton.mp h)
        have hmem : (valD kvs (Sum.inl ((m x0 g : Nat) : Int) : Key)).isSome = decide (m x0 g ∈ fs ++ ext) := by
          rw [valD_some, hk]
          exact decide_eq_decide.mpr keyN_mem
        refine ⟨⟨_, .inl rfl⟩, _, rfl, _, _, _, .inl (by rw [ehou]; rfl), rfl, hou_at hx0n, _, rfl, _, _, _, rfl, rfl, row_at (hg g hgm), ?_⟩
        refine ⟨_, rfl, _, .inl ⟨kvs, .inl ((m x0 g : Nat) : Int), rfl, rfl, rfl⟩, _, rfl, iteB (fun e2 => ?_) (fun e2 => ?_)⟩
        · have hnin : m x0 g ∉ fs ++ ext := by
            have e3 : (!(valD kvs (Sum.inl ((m x0 g : Nat) : Int) : Key)).isSome) = true := e2
            rw [hmem, Bool.not_eq_true', decide_eq_false_iff_not] at e3
            exact e3
          have hnk : (Sum.inl ((m x0 g : Nat) : Int) : Key) ∉ kvs.map (·.1) := by rw [hk, keyN_mem]; exact hnin
          refine ⟨.inl ⟨_, rfl⟩, _, rfl, .inl ⟨kvs, .inl ((m x0 g : Nat) : Int), rfl, rfl, by omega, ⟨_, rfl⟩, _, rfl, _, rfl, _, rfl, ?_, rfl, ext ++ [m x0 g], ⟨putD kvs (.inl ((m x0 g : Nat) : Int)) (.bl true), .fz (nD g), .fz (nD (m x0 g)), ?_, ?_⟩, ?_, fun x hx => ?_, fun g2 hg2 => ?_⟩⟩
          · have := few_of_nodup (n := n) (l := ws' ++ ext) ?_ fun x hx => ?_
            · rw [nsD_len]; omega
            · rw [List.nodup_append] at hnd ⊢
              exact ⟨hwn.1, hnd.2.1, fun a ha b hb => hnd.2.2 a (hW.sb a (List.mem_append_left _ ha)) b hb⟩
            · rcases List.mem_append.mp hx with hx | hx
              · exact (hW.rc x (hW.sb x (List.mem_append_left _ hx))).lt h0 hm hg
              · exact (hrc x (List.mem_append_right _ hx)).lt h0 hm hg
          · rw [nsD_app, ← List.append_assoc]
            rfl
          · rw [putD_new hnk, List.map_append, hk, ← List.append_assoc, List.map_append (l₁ := fs ++ ext)]
            rfl
          · rw [← List.append_assoc, List.nodup_append]
            exact ⟨hnd, by simp, fun a ha b hb z => hnin (by rw [List.mem_singleton.mp hb] at z; rw [← z]; exact ha)⟩
          · rw [← List.append_assoc] at hx
            rcases List.mem_append.mp hx with hx | hx
            · exact hrc x hx
            · rw [List.mem_singleton.mp hx]
              exact .step (hW.rc x0 hx0) hgm
          · rw [← List.append_assoc]
            rcases htk g2 hg2 with h | rfl
            · exact List.mem_append_left _ (hcl g2 h)
            · exact List.mem_append_right _ (List.mem_singleton.mpr rfl)
        · have hin : m x0 g ∈ fs ++ ext := by
            have e3 : (!(valD kvs (Sum.inl ((m x0 g : Nat) : Int) : Key)).isSome) = false := e2
            rw [hmem, Bool.not_eq_false', decide_eq_true_iff] at e3
            exact e3
          refine ⟨rfl, ext, ⟨kvs, _, _, rfl, hk⟩, hnd, hrc, fun g2 hg2 => ?_⟩
          rcases htk g2 hg2 with h | rfl
          · exact hcl g2 h
          · exact hin
      · obtain ⟨rfl, ext, ⟨kvs, s5, s6, rfl, hk⟩, hnd, hrc, hcl⟩ := hP
        rw [nsD_len, List.take_of_length_le (Nat.le_refl _)] at hcl
        have hl : (fs ++ ext).length ≤ n := few_of_nodup hnd fun x hx => (hrc x hx).lt h0 hm hg
        rw [List.length_append] at hl
        rw [List.nodup_append] at hnd
        refine ⟨_, by rw [List.length_append, List.length_append, List.length_append, List.length_singleton]; omega, fs ++ ext, ws' ++ ext, rfl, rfl, ⟨_, kvs, s5, s6, rfl, hk⟩, ⟨List.nodup_append.mpr hnd, hrc, List.mem_append_left _ hW.ze, fun x hx => ?_, ?_, fun x hx hnx g hg => ?_⟩⟩
        · rcases List.mem_append.mp hx with hx | hx
          · exact List.mem_append_left _ (hW.sb x (List.mem_append_left _ hx))
          · exact List.mem_append_right _ hx
        · rw [List.nodup_append]
          exact ⟨hwn.1, hnd.2.1, fun a ha b hb => hnd.2.2 a (hW.sb a (List.mem_append_left _ ha)) b hb⟩
        · rw [List.mem_append, not_or] at hnx
          rcases List.mem_append.mp hx with hx | hx
          · by_cases z : x = x0
            · rw [z]
              exact hcl g hg
            · exact List.mem_append_left _ (hW.cl x hx (by rw [List.mem_append, List.mem_singleton, not_or]; exact ⟨hnx.1, z⟩) g hg)
          · exact absurd hx hnx.2
    · have hnil : ws = [] := Classical.byContradiction fun z => by
        have := hb.mpr fun h => z (nsD_nil.mp h)
        rw [this] at e
        cases e
      subst hnil
      have hfn := hfew hW
      refine ⟨kvs, fs.map (fun i : Nat => (i : Int)), rfl, by rw [hk, List.map_map]; rfl, by rw [List.length_map]; omega, fun ns h1 h2 => ⟨_, rfl, _, rfl, flats_int ns, ?_⟩⟩
      obtain ⟨l, rfl, hpm⟩ := perm_cast h1
      rw [← nsD_ints]
      refine q l ⟨lt_of_le_nodup' h2 (hpm.nodup_iff.mpr hW.nd), fun x => ?_⟩
      rw [hpm.mem_iff, hW.all]
end
end K39
namespace K39
open PySem PySem.Spec PyProof.Rows L2 HM VL
abbrev s_l_led : Stmt := topS 31
theorem sc_l_led : FnScope ["_law_house_here", "_law_part_here", "_law_number_here", "_law_back", "_law_one"] ["_law_house_here", "_law_part_here", "_law_number_here"] (defScope s_l_led) := ⟨rfl, rfl, rfl, by decide +kernel, rfl, by decide +kernel, by decide +kernel⟩
section
variable {P : Program} {w : World} {K : PySem.W.Frag} {mg : Str → Option Value} {base : Heap} {am : Am} {gd : Around → Prop} {k : Nat}
theorem ok_lledB {f : Addr} {fd : FuncData} (F : Fun K "_law_led" "_law_led" s_l_led f fd) (mz : ∀ x ∈ bn, mg x = none) : VFn gd P w K mg base CX0 (k + 1) f fd ["_law_house_here", "_law_part_here", "_law_number_here"] am spLLed := by
  refine vfn_of F sc_l_led (fun ds n Q E h => ?_) ⟨_, fun cdv A out s H E F0 H0 hcd hgd hr =>
    (vss_cons (vs_set (i := 3) sc_l_led.nd rfl (.inr rfl) (ve_index (ve_ixO (pv 0) (ve_var (pv 2)) (fun _ _ => rfl)) ve_int))
      (vss_one (vs_ret (ve_tyTR call_tuple_of lft_tupleOf (by rfl) (mz "tuple" (by decide)) (by decide +kernel) (vb_cons (ve_new (vn_cbR cr_sorted lft_sorted (by rfl) (mz "sorted" (by decide)) (by decide +kernel) (vb_cons (ve_new (vn_lc (own := [("_law_one", 4)]) rfl sc_l_led.nd (vi_tup (ve_var (pv 1))) (blkOk_by (own := [("_law_one", 4)]) (N := ["_law_house_here", "_law_part_here", "_law_number_here", "_law_back", "_law_one"]) (sc := defScope s_l_led) (by decide +kernel)) (tg_name (by simp)) (fun _ _ _ _ _ => (pg_name (i := 4) sc_l_led.nd rfl (.inl rfl))) (fun _ _ _ _ _ _ _ => vts_nil) (fun _ _ _ _ _ _ _ => (ve_ix ix_list lft_ixL (ve_ixO (pv 0) (ve_ix ix_list lft_ixL (ve_ixO (pv 0) (ve_var (pv 3)) (fun _ _ => rfl)) (ve_var (pv 4)) (fun _ _ => rfl)) (fun _ _ => rfl)) (ve_var (pv 2)) (fun _ _ => rfl))))) vb_nil))) vb_nil))))), fun ds t Q E h => ?_⟩
  · obtain ⟨n, m, L, g, rfl, _⟩ := h
    rfl
  · obtain ⟨n, m, L, g, rfl, hH, hn, hS, hg, q⟩ := h
    have hL : L.length ≤ 60 := Nat.le_trans (few_of_nodup hS.nd hS.lt) hn
    have hlh : ((List.range n).map fun a => rowD n (m a)).length = n := by rw [List.length_map, List.length_range]
    obtain ⟨b, hb, e1, e2⟩ := hH.inv2 hg
    refine ⟨⟨_, .inl rfl⟩, _, rfl, _, _, _, .inl rfl, rfl, hou_at hg, ⟨_, rfl⟩, (List.range n).map fun k => (m g k : Int), 0, b, ?_, rfl, ?_, fun i z hi hz => ?_, ?_⟩
    · unfold rowD nsD
      rw [List.map_map, List.map_map]
      rfl
    · rw [List.getElem?_map, List.getElem?_range hb]
      show some ((m g b : Nat) : Int) = _
      rw [e1]
      rfl
    · rw [List.getElem?_map, List.getElem?_range (by omega)] at hz
      cases hz
      intro z
      have z : ((m g i : Nat) : Int) = 0 := z
      exact absurd (hH.cn g i b hg (by omega) hb (by omega)) (by omega)
    refine ⟨_, rfl, _, rfl, ?_⟩
    refine lc_map (i := 4) (fun j => nD (m (m b (tA L j)) g)) (.head _) (noOw1 rfl no_ow) (by rw [nsD_len]; omega) (fun j x hx R hR => ?_) ?_
    · unfold nsD at hx
      rw [List.getElem?_map] at hx
      obtain ⟨y, hy, rfl⟩ := Option.map_eq_some_iff.mp hx
      have ey : tA L j = y := by
        have := tA_get (List.getElem?_eq_some_iff.mp hy).1
        rw [hy] at this
        exact (Option.some.inj this).symm
      have hyn := hS.lt y (List.mem_of_getElem? hy)
      have hby := hH.lt b y hb hyn
      rw [ey] at hR
      exact ⟨⟨_, .inl rfl⟩, ⟨_, .inl rfl⟩, _, rfl, _, _, _, .inl rfl, rfl, hou_at hb, _, rfl, _, _, _, rfl, rfl, row_at hyn, _, _, _, .inl rfl, rfl, hou_at hby, _, rfl, _, _, _, rfl, rfl, row_at hg, hR⟩
    have nd : (L.map fun x => m (m b x) g).Nodup := List.pairwise_map.mpr (List.Pairwise.imp_of_mem (fun {x y} hx hy hxy e => hxy (hH.cn b x y hb (hS.lt x hx) (hS.lt y hy) (hH.rc (hH.lt b x hb (hS.lt x hx)) (hH.lt b y hb (hS.lt y hy)) hg e))) hS.nd)
    have em : (List.range (nsD L).length).map (fun j => nD (m (m b (tA L j)) g)) = ((L.map fun x => m (m b x) g).map fun i : Nat => (i : Int)).map Dt.int := by
      rw [← nsD_ints, nsD_len]
      unfold nsD
      rw [List.map_map]
      refine List.ext_getElem? fun j => ?_
      rw [List.getElem?_map, List.getElem?_map]
      by_cases hj : j < L.length
      · rw [List.getElem?_range hj, tA_get hj]
        rfl
      · rw [List.getElem?_eq_none (by rw [List.length_range]; omega), List.getElem?_eq_none (by omega)]
        rfl
    rw [em]
    refine ⟨_, rfl, _, rfl, by rw [List.length_map, List.length_map]; omega, fun ns hpm hpw => ?_⟩
    obtain ⟨l, e6, hpl, hup⟩ := sorted_ns nd hpm hpw
    rw [e6]
    refine ⟨flats_ns l, _, rfl, _, rfl, flats_ns l, q l ⟨hup, b, hb, e1, e2, fun y => ?_⟩⟩
    rw [List.Perm.mem_iff hpl, List.mem_map]
end
end K39
namespace K39
open PySem PySem.Spec PyProof.Rows L2 HM VL
abbrev s_l_eight : Stmt := topS 25
theorem sc_l_eight : FnScope ["_law_found", "_law_a", "_law_row", "_law_b", "_law_u", "_law_v", "_law_sign", "_law_w"] [] (defScope s_l_eight) := ⟨rfl, rfl, rfl, by decide +kernel, rfl, by decide +kernel, by decide +kernel⟩
section
variable {P : Program} {w : World} {K : PySem.W.Frag} {mg : Str → Option Value} {base : Heap} {am : Am} {gd : Around → Prop} {k : Nat}
theorem ok_eight {f : Addr} {fd : FuncData} (F : Fun K "_law_eight" "_law_eight" s_l_eight f fd) (mz : ∀ x ∈ bn, mg x = none) : VFn gd P w K mg base CX0 (k + 1) f fd [] am spEight := by
  refine vfn_of F sc_l_eight (fun ds n Q E h => ?_) ⟨_, fun cdv A out s H E F0 H0 hcd hgd hr =>
    (vss_cons (vs_setN (i := 0) sc_l_eight.nd rfl (.inl rfl) (vn_lst va_nil))
      (vss_cons (vs_for PassesOwn.never rfl (vi_range1 (by rfl) (mz "range" (by decide)) (vb_cons ve_int vb_nil)) (vg_name (pg_name (i := 1) sc_l_eight.nd rfl (.inl rfl)))
        (vss_cons (vs_setN (i := 2) sc_l_eight.nd rfl (.inl rfl) (vn_lst va_nil))
        (vss_cons (vs_for PassesOwn.never rfl (vi_range1 (by rfl) (mz "range" (by decide)) (vb_cons ve_int vb_nil)) (vg_name (pg_name (i := 3) sc_l_eight.nd rfl (.inl rfl)))
          (vss_cons (vs_par (i := 4) (j := 5) rfl sc_l_eight.nd rfl rfl (by decide) rfl rfl (va_cons (ve_op op_fdiv lft_I (ve_var (pv 1)) ve_int) (va_cons (ve_op op_fdiv lft_I (ve_var (pv 3)) ve_int) va_nil)))
          (vss_cons (vs_set (i := 6) sc_l_eight.nd rfl (.inl rfl) (ve_op op_mod lft_I (ve_op op_add lft_I0 (ve_var (pv 1)) (ve_var (pv 3))) ve_int))
          (vss_cons (vs_set (i := 7) sc_l_eight.nd rfl (.inl rfl) (ve_op op_sub lft_I0 (ve_op op_sub lft_I0 ve_int (ve_var (pv 4))) (ve_var (pv 5))))
          (vss_cons (vs_if (vt_or (vt_cmp op_eq lft_eq (ve_var (pv 4)) ve_int (nomark _)) (vt_or1 (vt_cmp op_eq lft_eq (ve_var (pv 5)) ve_int (nomark _)))).pt
            (vss_one (vs_set (i := 7) sc_l_eight.nd rfl (.inl rfl) (ve_op op_add lft_I0 (ve_var (pv 4)) (ve_var (pv 5)))))
            (vss_one (vs_if (vt_cmp op_eq lft_eq (ve_var (pv 4)) (ve_var (pv 5)) (nomark _))
              (vss_cons (vs_set (i := 7) sc_l_eight.nd rfl (.inl rfl) ve_int)
              (vss_one (vs_set (i := 6) sc_l_eight.nd rfl (.inl rfl) (ve_op op_sub lft_I0 ve_int (ve_var (pv 6))))))
              (vss_one (vs_if (vt_cmp op_eq lft_eq (ve_op op_mod lft_I (ve_op op_sub lft_I0 (ve_var (pv 5)) (ve_var (pv 4))) ve_int) ve_int (nomark _))
                (vss_one (vs_set (i := 6) sc_l_eight.nd rfl (.inl rfl) (ve_op op_sub lft_I0 ve_int (ve_var (pv 6)))))
                vss_nil)))))
          (vss_one (vs_expr (ve_m (pe_bm PySem.F.plainAttrs_list PySem.F.slot_list_append PySem.F.type_list_append mt_append (pv 2) (va_cons (ve_op op_add lft_I0 (ve_op op_mul lft_I ve_int (ve_var (pv 7))) (ve_var (pv 6))) va_nil)) lft_append))))))))
        (vss_one (vs_expr (ve_m (pe_bm PySem.F.plainAttrs_list PySem.F.slot_list_append PySem.F.type_list_append mt_append (pv 0) (va_cons (ve_mv (pv 2)) va_nil)) lft_append))))))
      (vss_one (vs_ret (ve_mv (pv 0)))))), fun ds t Q E h => ?_⟩
  · obtain ⟨rfl, _⟩ := h
    rfl
  · obtain ⟨rfl, q⟩ := h
    refine ⟨Nat.zero_le _, 8, rfl, ⟨by decide, by decide⟩, fun a env t' => t' = t ∧ ∃ s1 s2 s3 s4 s5 s6 s7, env = [.ow (.lst ((List.range a).map fun a => rowD 8 (m8 a))), s1, s2, s3, s4, s5, s6, s7], ⟨rfl, .no, .no, .no, .no, .no, .no, .no, rfl⟩, fun a x env t' hx hP => ?_, fun env t' hP => ?_⟩
    · obtain ⟨rfl, s1, s2, s3, s4, s5, s6, s7, rfl⟩ := hP
      obtain ⟨rfl, ha⟩ := rngD_get0 hx
      have ha : a < 8 := ha
      refine ⟨Nat.zero_le _, ?_⟩
      refine ⟨8, rfl, ⟨by decide, by decide⟩, fun b env t2 => t2 = t' ∧ ∃ s3 s4 s5 s6 s7, env = [.ow (.lst ((List.range a).map fun a => rowD 8 (m8 a))), .fz (nD a), .ow (.lst (nsD ((List.range b).map (m8 a)))), s3, s4, s5, s6, s7], ⟨rfl, _, _, _, _, _, rfl⟩, fun b x env t2 hx hP => ?_, fun env t2 hP => ?_⟩
      · obtain ⟨rfl, s3, s4, s5, s6, s7, rfl⟩ := hP
        obtain ⟨rfl, hb⟩ := rngD_get0 hx
        have hb : b < 8 := hb
        have fin : ∀ (X : Int), X = ((m8 a b : Nat) : Int) → ∀ (s3 s4 s5 s6 s7 : Sl), [Sl.ow (Con.lst ((List.range a).map fun a => rowD 8 (m8 a))), Sl.fz (nD a), Sl.ow (Con.lst (nsD ((List.range b).map (m8 a)) ++ [Dt.int X])), s3, s4, s5, s6, s7] = [Sl.ow (Con.lst ((List.range a).map fun a => rowD 8 (m8 a))), Sl.fz (nD a), Sl.ow (Con.lst (nsD ((List.range (b + 1)).map (m8 a)))), s3, s4, s5, s6, s7] := fun X hX s3 s4 s5 s6 s7 => by
          rw [hX, List.range_succ, List.map_append, show ∀ a b : List Nat, nsD (a ++ b) = nsD a ++ nsD b from fun a b => List.map_append]
          rfl
        refine ⟨_, rfl, _, _, rfl, rfl, ⟨by decide, by decide⟩, _, rfl, _, _, rfl, rfl, ⟨by decide, by decide⟩, _, _, rfl, ?_⟩
        refine ⟨_, rfl, _, rfl, _, _, rfl, rfl, _, _, rfl, rfl, (by show (0 : Int) < 2; decide), ?_⟩
        refine ⟨_, rfl, _, _, rfl, rfl, _, rfl, _, _, rfl, rfl, ?_⟩
        refine ⟨_, rfl, .inl ⟨_, _, rfl, rfl, _, rfl, iteB (fun e1 => iteB (fun _ => ?_) (fun e => by cases e)) (fun e1 => ⟨_, rfl, .inl ⟨_, _, rfl, rfl, _, rfl, iteB (fun e2 => ?_) (fun e2 => ?_)⟩⟩)⟩⟩
        · have h1 := of_decide_eq_true e1
          refine ⟨_, rfl, _, rfl, _, _, rfl, rfl, ?_⟩
          refine ⟨⟨_, rfl⟩, _, rfl, _, _, rfl, rfl, .inl ⟨by decide, by decide⟩, _, rfl, _, _, rfl, rfl, _, rfl, _, rfl, by rw [nsD_len, List.length_map, List.length_range]; omega, rfl, .fz (nD b), .fz (.int ((a : Int) / 2)), .fz (.int ((b : Int) / 2)), .fz (.int (((a : Int) + (b : Int)) % 2)), .fz (.int ((a : Int) / 2 + (b : Int) / 2)), ?_⟩
          exact fin _ (by rw [← v8_nat a ha b hb]; unfold v8; rw [if_pos (.inl h1)]) _ _ _ _ _
        · have h2 := of_decide_eq_true e2
          refine ⟨_, rfl, _, rfl, _, _, rfl, rfl, ?_⟩
          refine ⟨⟨_, rfl⟩, _, rfl, _, _, rfl, rfl, .inl ⟨by decide, by decide⟩, _, rfl, _, _, rfl, rfl, _, rfl, _, rfl, by rw [nsD_len, List.length_map, List.length_range]; omega, rfl, .fz (nD b), .fz (.int ((a : Int) / 2)), .fz (.int ((b : Int) / 2)), .fz (.int (((a : Int) + (b : Int)) % 2)), .fz (.int ((a : Int) / 2 + (b : Int) / 2)), ?_⟩
          exact fin _ (by rw [← v8_nat a ha b hb]; unfold v8; rw [if_pos (.inr h2)]) _ _ _ _ _
        have h1 := of_decide_eq_false e1
        have h2 := of_decide_eq_false e2
        have hn : ¬ ((a : Int) / 2 = 0 ∨ (b : Int) / 2 = 0) := fun z => z.elim h1 h2
        refine ⟨_, rfl, _, rfl, .inl ⟨_, _, rfl, rfl, _, rfl, iteB (fun e3 => ?_) (fun e3 => ?_)⟩⟩
        · have h3 := of_decide_eq_true e3
          refine ⟨_, rfl, _, _, rfl, rfl, ?_⟩
          refine ⟨⟨_, rfl⟩, _, rfl, _, _, rfl, rfl, .inl ⟨by decide, by decide⟩, _, rfl, _, _, rfl, rfl, _, rfl, _, rfl, by rw [nsD_len, List.length_map, List.length_range]; omega, rfl, .fz (nD b), .fz (.int ((a : Int) / 2)), .fz (.int ((b : Int) / 2)), .fz (.int (1 - (((a : Int) + (b : Int)) % 2))), .fz (.int 0), ?_⟩
          exact fin _ (by rw [← v8_nat a ha b hb]; unfold v8; rw [if_neg hn, if_pos h3]) _ _ _ _ _
        · have h3 := of_decide_eq_false e3
          refine ⟨_, rfl, _, rfl, _, _, rfl, rfl, _, _, rfl, rfl, (by show (0 : Int) < 3; decide), .inl ⟨_, _, rfl, rfl, _, rfl, iteB (fun e4 => ?_) (fun e4 => ?_)⟩⟩
          · have h4 := of_decide_eq_true e4
            refine ⟨_, rfl, _, _, rfl, rfl, ?_⟩
            refine ⟨⟨_, rfl⟩, _, rfl, _, _, rfl, rfl, .inl ⟨by decide, by decide⟩, _, rfl, _, _, rfl, rfl, _, rfl, _, rfl, by rw [nsD_len, List.length_map, List.length_range]; omega, rfl, .fz (nD b), .fz (.int ((a : Int) / 2)), .fz (.int ((b : Int) / 2)), .fz (.int (1 - (((a : Int) + (b : Int)) % 2))), .fz (.int (6 - (a : Int) / 2 - (b : Int) / 2)), ?_⟩
            exact fin _ (by rw [← v8_nat a ha b hb]; unfold v8; rw [if_neg hn, if_neg h3, if_pos h4]) _ _ _ _ _
          · have h4 := of_decide_eq_false e4
            refine ⟨⟨_, rfl⟩, _, rfl, _, _, rfl, rfl, .inl ⟨by decide, by decide⟩, _, rfl, _, _, rfl, rfl, _, rfl, _, rfl, by rw [nsD_len, List.length_map, List.length_range]; omega, rfl, .fz (nD b), .fz (.int ((a : Int) / 2)), .fz (.int ((b : Int) / 2)), .fz (.int (((a : Int) + (b : Int)) % 2)), .fz (.int (6 - (a : Int) / 2 - (b : Int) / 2)), ?_⟩
            exact fin _ (by rw [← v8_nat a ha b hb]; unfold v8; rw [if_neg hn, if_neg h3, if_neg h4]) _ _ _ _ _
      · obtain ⟨rfl, s3, s4, s5, s6, s7, rfl⟩ := hP
        rw [rngD_len]
        refine ⟨⟨_, rfl⟩, _, rfl, _, rfl, _, rfl, by rw [List.length_map, List.length_range]; omega, rfl, .fz (nD a), .fz (rowD 8 (m8 a)), s3, s4, s5, s6, s7, ?_⟩
        rw [List.range_succ (n := a), List.map_append]
        rfl
    · obtain ⟨rfl, s1, s2, s3, s4, s5, s6, s7, rfl⟩ := hP
      exact ⟨_, rfl, q⟩
end
end K39
namespace VL
open PySem PySem.Spec PyProof.Rows L2 HM
def rnd1 : List (Nat × Nat × Nat) := [(7, 3, 2), (5, 4, 2), (3, 4, 2), (4, 4, 3), (8, 2, 3), (3, 8, 2), (9, 2, 8), (6, 4, 5)]
def rnd2 : List (Nat × Nat × Nat) := [(4, 2, 1), (3, 3, 1), (24, 1, 1), (1, 1, 1), (2, 2, 1), (8, 2, 5), (5, 2, 4), (12, 2, 1)]
def rnd3 : List (Nat × Nat × Nat) := [(11, 2, 10), (23, 1, 1), (13, 1, 1), (19, 1, 1), (17, 1, 1)]
def rnD (e : Nat × Nat × Nat) : Dt := .tup [nD e.1, nD e.2.1, nD e.2.2]
def rnB (e : Nat × Nat × Nat) : Bool := decide (0 < e.1) && decide (e.1 ≤ 24) && decide (0 < e.2.1) && decide (e.2.1 ≤ 24) && decide (e.2.2 ≤ 12) && decide (e.1 * e.2.1 ≤ 24) && ((decide (e.1 ≤ 12) && decide (pwB e.1 e.2.2 e.2.1 % e.1 = 1 % e.1)) || (decide (e.2.2 = 1) && decide (1 < e.1)))
def RnOk (x : Dt) : Prop := ∃ s o b, x = .tup [nD s, nD o, nD b] ∧ 0 < s ∧ s ≤ 24 ∧ 0 < o ∧ o ≤ 24 ∧ b ≤ 12 ∧ s * o ≤ 24 ∧ Pws s o (pwB s b)
theorem pw_one {s : Nat} (hs : 1 < s) : ∀ j, pwB s 1 j = 1
  | 0 => rfl
  | j + 1 => by rw [pwB, pw_one hs j, Nat.mul_one, Nat.mod_eq_of_lt hs]
theorem pws_one {s o : Nat} (hs : 1 < s) : Pws s o (pwB s 1) := ⟨fun a => by rw [pw_one hs]; decide, rfl, fun a b _ _ => by rw [pw_one hs, pw_one hs, pw_one hs]⟩
theorem rn_good {e : Nat × Nat × Nat} (h : rnB e = true) : RnOk (rnD e) := by
  unfold rnB at h
  simp only [Bool.and_eq_true, Bool.or_eq_true, decide_eq_true_iff] at h
  obtain ⟨⟨⟨⟨⟨⟨h1, h2⟩, h3⟩, h4⟩, h5⟩, h6⟩, h7⟩ := h
  refine ⟨e.1, e.2.1, e.2.2, rfl, h1, h2, h3, h4, h5, h6, ?_⟩
  rcases h7 with ⟨a, b⟩ | ⟨a, b⟩
  · exact pws_b h1 a b
  · rw [a]; exact pws_one b
theorem rn_all {T : List (Nat × Nat × Nat)} (h : T.all rnB = true) : ∀ x ∈ T.map rnD, RnOk x := fun x hx => by
  obtain ⟨e, he, rfl⟩ := List.mem_map.mp hx
  exact rn_good (List.all_eq_true.mp h e he)
section
variable {V : VEn} {B : VTS} {t : Nat} {env : Ev} {i : Nat} {L : List Dt}
theorem rn_new {ta : VTA} (T : List (Nat × Nat × Nat)) (hl : T.length ≤ 5000) (hta : ∀ Q : List Dt → Ev → Nat → Prop, Q (T.map rnD) env t → ta env t Q) (hT : T.all rnB = true)
    (nx : ∀ L : List Dt, L.length = T.length → (∀ x ∈ L, RnOk x) → B V (env.set i (.fz (.lst L))) t) : vSeq (vSet i (fun env n Q => vLst ta env n fun k env' n' => ∃ ds, k = .lst ds ∧ Q (.lst ds) env' n')) B V env t :=
  hta _ ⟨by rw [List.length_map]; exact hl, _, rfl, nx _ (List.length_map _) (rn_all hT)⟩
theorem rn_cat {te : VTE} (T : List (Nat × Nat × Nat)) (hte : ∀ Q : Dt → Ev → Nat → Prop, Q (.lst (T.map rnD)) env t → te env t Q) (hT : T.all rnB = true) (hi : env[i]? = some (.fz (.lst L))) (hL : ∀ x ∈ L, RnOk x) (hl : L.length + T.length ≤ 5000)
    (nx : ∀ L' : List Dt, L'.length = L.length + T.length → (∀ x ∈ L', RnOk x) → B V (env.set i (.fz (.lst L'))) t) : vSeq (vSet i (fun env n Q => vOpNew dCat (vVar i) te env n fun k env' n' => ∃ ds, k = .lst ds ∧ Q (.lst ds) env' n')) B V env t :=
  ⟨_, hi, hte _ ⟨L, _, rfl, rfl, by rw [List.length_map]; exact hl, _, rfl, nx _ (by rw [List.length_append, List.length_map]) fun x hx => (List.mem_append.mp hx).elim (hL x) (rn_all hT x)⟩⟩
end
theorem rn1 : rnd1.all rnB = true := by decide +kernel
theorem rn2 : rnd2.all rnB = true := by decide +kernel
theorem rn3 : rnd3.all rnB = true := by decide +kernel
theorem prM_at {s o x i y j : Nat} (hi : i < o) (hj : j < o) (pw : Nat → Nat) : prM s o pw (x * o + i) (y * o + j) = (x + pw i * y) % s * o + (i + j) % o := by
  unfold prM
  rw [pr_div hi, pr_div hj, pr_mod hi, pr_mod hj]
theorem pr_more {s o x i y : Nat} (hi : i < o) (pw : Nat → Nat) : (List.range ((y + 1) * o)).map (prM s o pw (x * o + i)) = (List.range (y * o)).map (prM s o pw (x * o + i)) ++ (List.range o).map fun j => (x + pw i * y) % s * o + (i + j) % o := by
  rw [Nat.succ_mul, List.range_add, List.map_append, List.map_map]
  congr 1
  exact List.map_congr_left fun j hj => prM_at hi (List.mem_range.mp hj) pw
def m3 : Nat → Nat → Nat := fun a b => (a + b) % 3
theorem hse3 : Hse 3 m3 := ⟨by omega, fun a b _ _ => by unfold m3; omega, fun a ha => by unfold m3; omega, fun a ha => by unfold m3; omega, fun a b c _ _ _ => by unfold m3; omega, fun a b c _ hb hc h => by unfold m3 at h; omega⟩
theorem tn3 {a : List Nat} (h : Tn 3 a) : a ∈ [[0, 1, 2], [0, 2, 1], [1, 0, 2], [1, 2, 0], [2, 0, 1], [2, 1, 0]] := by
  have hl := h.len
  match a, hl with
  | [x, y, z], _ =>
    have hx := h.lt (x := x) (by simp)
    have hy := h.lt (x := y) (by simp)
    have hz := h.lt (x := z) (by simp)
    have nd := h.nd
    have nd2 : (x ≠ y ∧ x ≠ z) ∧ y ≠ z := by simpa using nd
    have hx : x = 0 ∨ x = 1 ∨ x = 2 := by omega
    have hy : y = 0 ∨ y = 1 ∨ y = 2 := by omega
    have hz : z = 0 ∨ z = 1 ∨ z = 2 := by omega
    rcases hx with rfl | rfl | rfl <;> rcases hy with rfl | rfl | rfl <;> rcases hz with rfl | rfl | rfl <;> first | exact absurd rfl nd2.1.1 | exact absurd rfl nd2.1.2 | exact absurd rfl nd2.2 | simp
theorem few3s {l : List (List Nat)} (nd : l.Nodup) (h : ∀ a ∈ l, Tn 3 a) : l.length ≤ 6 :=
  List.Nodup.length_le_of_subset nd (l₂ := [[0, 1, 2], [0, 2, 1], [1, 0, 2], [1, 2, 0], [2, 0, 1], [2, 1, 0]]) fun x hx => tn3 (h x hx)
theorem nsD_cat (a b : List Nat) : nsD (a ++ b) = nsD a ++ nsD b := List.map_append
end VL
namespace K39
open PySem PySem.Spec PyProof.Rows L2 HM VL
abbrev s_l_rounds : Stmt := topS 24
theorem sc_l_rounds : FnScope ["_law_pen_here", "_law_some", "_law_m", "_law_n", "_law_by", "_law_found", "_law_x", "_law_scale", "_law_i", "_law_row", "_law_y", "_law_j"] ["_law_pen_here"] (defScope s_l_rounds) := ⟨rfl, rfl, rfl, by decide +kernel, rfl, by decide +kernel, by decide +kernel⟩
section
variable {P : Program} {w : World} {K : PySem.W.Frag} {mg : Str → Option Value} {base : Heap} {am : Am} {gd : Around → Prop} {k : Nat}
theorem ok_rounds {p f f_l_take : Addr} {fd fd_l_take : FuncData} (F : Fun K "_law_rounds" "_law_rounds" s_l_rounds f fd)
    (G_l_take : VFn anyA P w K mg base CX0 (k + 1) f_l_take fd_l_take ["_law_pen_here", "_law_many"] am (spTakeB p)) (g_l_take : mg "_law_take" = some (.ref f_l_take)) (k_l_take : PySem.W.keepIn K (.ref f_l_take) = true) (b_l_take : Binds K fd_l_take ["_law_pen_here", "_law_many"] [])
    (mz : ∀ x ∈ bn, mg x = none) : VFn gd P w K mg base CX0 (k + 2) f fd ["_law_pen_here"] am (spHouse p) := by
  refine vfn_of F sc_l_rounds (fun ds n Q E h => ?_) ⟨_, fun cdv A out s H E F0 H0 hcd hgd hr =>
    (vss_cons (vs_set (i := 1) sc_l_rounds.nd rfl (.inl rfl) (ve_new (vn_lst (va_cons (ve_tupK (ka_cons ve_int (ka_cons ve_int (ka_cons ve_int ka_nil))) (by decide)) (va_cons (ve_tupK (ka_cons ve_int (ka_cons ve_int (ka_cons ve_int ka_nil))) (by decide)) (va_cons (ve_tupK (ka_cons ve_int (ka_cons ve_int (ka_cons ve_int ka_nil))) (by decide)) (va_cons (ve_tupK (ka_cons ve_int (ka_cons ve_int (ka_cons ve_int ka_nil))) (by decide)) (va_cons (ve_tupK (ka_cons ve_int (ka_cons ve_int (ka_cons ve_int ka_nil))) (by decide)) (va_cons (ve_tupK (ka_cons ve_int (ka_cons ve_int (ka_cons ve_int ka_nil))) (by decide)) (va_cons (ve_tupK (ka_cons ve_int (ka_cons ve_int (ka_cons ve_int ka_nil))) (by decide)) (va_cons (ve_tupK (ka_cons ve_int (ka_cons ve_int (ka_cons ve_int ka_nil))) (by decide)) va_nil)))))))))))
      (vss_cons (vs_set (i := 1) sc_l_rounds.nd rfl (.inl rfl) (ve_new (vn_op op_cat lft_cat (ve_var (pv 1)) (ve_lstK (ka_cons (ve_tupK (ka_cons ve_int (ka_cons ve_int (ka_cons ve_int ka_nil))) (by decide)) (ka_cons (ve_tupK (ka_cons ve_int (ka_cons ve_int (ka_cons ve_int ka_nil))) (by decide)) (ka_cons (ve_tupK (ka_cons ve_int (ka_cons ve_int (ka_cons ve_int ka_nil))) (by decide)) (ka_cons (ve_tupK (ka_cons ve_int (ka_cons ve_int (ka_cons ve_int ka_nil))) (by decide)) (ka_cons (ve_tupK (ka_cons ve_int (ka_cons ve_int (ka_cons ve_int ka_nil))) (by decide)) (ka_cons (ve_tupK (ka_cons ve_int (ka_cons ve_int (ka_cons ve_int ka_nil))) (by decide)) (ka_cons (ve_tupK (ka_cons ve_int (ka_cons ve_int (ka_cons ve_int ka_nil))) (by decide)) (ka_cons (ve_tupK (ka_cons ve_int (ka_cons ve_int (ka_cons ve_int ka_nil))) (by decide)) ka_nil)))))))) (by decide)))))
      (vss_cons (vs_set (i := 1) sc_l_rounds.nd rfl (.inl rfl) (ve_new (vn_op op_cat lft_cat (ve_var (pv 1)) (ve_lstK (ka_cons (ve_tupK (ka_cons ve_int (ka_cons ve_int (ka_cons ve_int ka_nil))) (by decide)) (ka_cons (ve_tupK (ka_cons ve_int (ka_cons ve_int (ka_cons ve_int ka_nil))) (by decide)) (ka_cons (ve_tupK (ka_cons ve_int (ka_cons ve_int (ka_cons ve_int ka_nil))) (by decide)) (ka_cons (ve_tupK (ka_cons ve_int (ka_cons ve_int (ka_cons ve_int ka_nil))) (by decide)) (ka_cons (ve_tupK (ka_cons ve_int (ka_cons ve_int (ka_cons ve_int ka_nil))) (by decide)) ka_nil))))) (by decide)))))
      (vss_cons (vs_asg (ve_ixO (pv 1) (ve_call G_l_take trivial (hr.mono (by omega)) (by rfl) g_l_take k_l_take b_l_take pass0 (va_cons (ve_var (pv 0)) (va_cons ve_int va_nil))) (fun _ _ => rfl)) (vg_tup (m := 3) rfl (vgs_cons (vg_name (pg_name (i := 2) sc_l_rounds.nd rfl (.inr rfl))) (vgs_cons (vg_name (pg_name (i := 3) sc_l_rounds.nd rfl (.inr rfl))) (vgs_cons (vg_name (pg_name (i := 4) sc_l_rounds.nd rfl (.inl rfl))) vgs_nil)))))
      (vss_cons (vs_setN (i := 5) sc_l_rounds.nd rfl (.inl rfl) (vn_lst va_nil))
      (vss_cons (vs_for PassesOwn.never rfl (vi_range1 (by rfl) (mz "range" (by decide)) (vb_cons (ve_var (pv 2)) vb_nil)) (vg_name (pg_name (i := 6) sc_l_rounds.nd rfl (.inr rfl)))
        (vss_cons (vs_set (i := 7) sc_l_rounds.nd rfl (.inr rfl) ve_int)
        (vss_one (vs_for PassesOwn.never rfl (vi_range1 (by rfl) (mz "range" (by decide)) (vb_cons (ve_var (pv 3)) vb_nil)) (vg_name (pg_name (i := 8) sc_l_rounds.nd rfl (.inr rfl)))
          (vss_cons (vs_setN (i := 9) sc_l_rounds.nd rfl (.inl rfl) (vn_lst va_nil))
          (vss_cons (vs_for PassesOwn.never rfl (vi_range1 (by rfl) (mz "range" (by decide)) (vb_cons (ve_var (pv 2)) vb_nil)) (vg_name (pg_name (i := 10) sc_l_rounds.nd rfl (.inr rfl)))
            (vss_one (vs_expr (ve_m (pe_bm PySem.F.plainAttrs_list PySem.F.slot_list_extend PySem.F.type_list_extend mt_extend (pv 9) (va_cons (ve_new (vn_lc (own := [("_law_j", 11)]) rfl sc_l_rounds.nd (vi_range1 (by rfl) (mz "range" (by decide)) (vb_cons (ve_var (pv 3)) vb_nil)) (blkOk_by (own := [("_law_j", 11)]) (N := ["_law_pen_here", "_law_some", "_law_m", "_law_n", "_law_by", "_law_found", "_law_x", "_law_scale", "_law_i", "_law_row", "_law_y", "_law_j"]) (sc := defScope s_l_rounds) (by decide +kernel)) (tg_name (by simp)) (fun _ _ _ _ _ => (pg_name (i := 11) sc_l_rounds.nd rfl (.inl rfl))) (fun _ _ _ _ _ _ _ => vts_nil) (fun _ _ _ _ _ _ _ => (ve_op op_add lft_I0 (ve_op op_mul lft_I (ve_op op_mod lft_I (ve_op op_add lft_I0 (ve_var (pv 6)) (ve_op op_mul lft_I (ve_var (pv 7)) (ve_var (pv 10)))) (ve_var (pv 2))) (ve_var (pv 3))) (ve_op op_mod lft_I (ve_op op_add lft_I0 (ve_var (pv 8)) (ve_var (pv 11))) (ve_var (pv 3))))))) va_nil)) lft_extend))))
          (vss_cons (vs_expr (ve_m (pe_bm PySem.F.plainAttrs_list PySem.F.slot_list_append PySem.F.type_list_append mt_append (pv 5) (va_cons (ve_mv (pv 9)) va_nil)) lft_append))
          (vss_one (vs_set (i := 7) sc_l_rounds.nd rfl (.inr rfl) (ve_op op_mod lft_I (ve_op op_mul lft_I (ve_var (pv 7)) (ve_var (pv 4))) (ve_var (pv 2))))))))))))
      (vss_one (vs_ret (ve_mv (pv 5)))))))))), fun ds t Q E h => ?_⟩
  · obtain ⟨rfl, _⟩ := h
    rfl
  · obtain ⟨rfl, q⟩ := h
    refine rn_new rnd1 (by decide) (fun Q q => q) rn1 fun L1 hl1 hL1 => ?_
    refine rn_cat rnd2 (fun Q q => q) rn2 rfl hL1 (by rw [hl1]; decide) fun L2 hl2 hL2 => ?_
    rw [hl1] at hl2
    refine rn_cat rnd3 (fun Q q => q) rn3 rfl hL2 (by rw [hl2]; decide) fun L3 hl3 hL3 => ?_
    rw [hl2] at hl3
    have hl3 : L3.length = 21 := hl3
    refine ⟨⟨_, .inl rfl⟩, _, rfl, 21, rfl, by decide, by decide, fun r hr => ?_⟩
    obtain ⟨x, hx⟩ : ∃ x, L3[r]? = some x := ⟨_, List.getElem?_eq_getElem (by rw [hl3]; exact hr)⟩
    obtain ⟨s, o, b, rfl, hs, hs24, ho, ho24, hb, hso, hpw⟩ := hL3 x (List.mem_of_getElem? hx)
    refine ⟨_, _, _, .inl rfl, rfl, atI_nat hx, _, rfl, rfl, _, _, rfl, _, _, rfl, _, _, rfl, rfl, ?_⟩
    obtain ⟨l3, el3⟩ : ∃ l3, l3 = Sl.fz (.lst L3) := ⟨_, rfl⟩
    show vSeq _ _ _ [.fz (.obj p), .fz (.lst L3), .fz (nD s), .fz (nD o), .fz (nD b), .no, .no, .no, .no, .no, .no, .no] t
    rw [← el3]
    refine ⟨Nat.zero_le _, ?_⟩
    refine ⟨_, rfl, s, rfl, ⟨by omega, by omega⟩, fun x env t' => t' = t ∧ ∃ s6 s7 s8 s9 s10, env = [.fz (.obj p), l3, .fz (nD s), .fz (nD o), .fz (nD b), .ow (.lst ((List.range (x * o)).map fun a => rowD (s * o) (prM s o (pwB s b) a))), s6, s7, s8, s9, s10, .no], ⟨rfl, .no, .no, .no, .no, .no, by rw [Nat.zero_mul]; rfl⟩, fun x d env t' hx hP => ?_, fun env t' hP => ?_⟩
    · obtain ⟨rfl, s6, s7, s8, s9, s10, rfl⟩ := hP
      obtain ⟨rfl, hxs⟩ := rngD_get0 hx
      have hxs : x < s := by have : x < ((s : Nat) : Int).toNat := hxs; omega
      refine ⟨_, rfl, o, rfl, ⟨by omega, by omega⟩, fun i env t2 => t2 = t' ∧ ∃ s8 s9 s10, env = [.fz (.obj p), l3, .fz (nD s), .fz (nD o), .fz (nD b), .ow (.lst ((List.range (x * o + i)).map fun a => rowD (s * o) (prM s o (pwB s b) a))), .fz (nD x), .fz (nD (pwB s b i)), s8, s9, s10, .no], ⟨rfl, _, _, _, rfl⟩, fun i d env t2 hx hP => ?_, fun env t2 hP => ?_⟩
      · obtain ⟨rfl, s8, s9, s10, rfl⟩ := hP
        obtain ⟨rfl, hi⟩ := rngD_get0 hx
        have hi : i < o := by have : i < ((o : Nat) : Int).toNat := hi; omega
        have hrow : x * o + i < s * o := pair_lt2 hxs hi
        have hpb := hpw.bd i
        refine ⟨Nat.zero_le _, ?_⟩
        refine ⟨_, rfl, s, rfl, ⟨by omega, by omega⟩, fun y env t3 => t3 = t2 ∧ ∃ s10, env = [.fz (.obj p), l3, .fz (nD s), .fz (nD o), .fz (nD b), .ow (.lst ((List.range (x * o + i)).map fun a => rowD (s * o) (prM s o (pwB s b) a))), .fz (nD x), .fz (nD (pwB s b i)), .fz (nD i), .ow (.lst (nsD ((List.range (y * o)).map (prM s o (pwB s b) (x * o + i))))), s10, .no], ⟨rfl, _, by rw [Nat.zero_mul]; rfl⟩, fun y d env t3 hx hP => ?_, fun env t3 hP => ?_⟩
        · obtain ⟨rfl, s10, rfl⟩ := hP
          obtain ⟨rfl, hy⟩ := rngD_get0 hx
          have hy : y < s := by have : y < ((s : Nat) : Int).toNat := hy; omega
          have hyo : y * o ≤ s * o := Nat.mul_le_mul_right _ (by omega)
          refine ⟨⟨_, rfl⟩, _, rfl, o, rfl, ⟨by omega, by omega⟩, ?_⟩
          refine lc_map (i := 11) (fun j => nD ((x + pwB s b i * y) % s * o + (i + j) % o)) (.head _) (noOw1 rfl no_ow) (by rw [rngD_len]; omega) (fun j d hx R hR => ?_) ?_
          · obtain ⟨rfl, hj⟩ := rngD_get0 hx
            have e : ((((x : Nat) : Int) + ((pwB s b i : Nat) : Int) * ((y : Nat) : Int)) % ((s : Nat) : Int)) * ((o : Nat) : Int) + (((i : Nat) : Int) + ((j : Nat) : Int)) % ((o : Nat) : Int) = (((x + pwB s b i * y) % s * o + (i + j) % o : Nat) : Int) := by push_cast; rfl
            have hms : (((x : Nat) : Int) + ((pwB s b i : Nat) : Int) * ((y : Nat) : Int)) % ((s : Nat) : Int) = (((x + pwB s b i * y) % s : Nat) : Int) := by push_cast; rfl
            have hlt := Nat.mod_lt (x + pwB s b i * y) hs
            refine ⟨_, rfl, _, rfl, _, rfl, _, _, rfl, rfl, .inr ⟨by omega, by omega⟩, _, _, rfl, rfl, _, rfl, _, _, rfl, rfl, (by show (0 : Int) < (s : Nat); omega), _, rfl, _, _, rfl, rfl, .inr ⟨by omega, by omega⟩, _, rfl, _, rfl, _, _, rfl, rfl, _, rfl, _, _, rfl, rfl, (by show (0 : Int) < (o : Nat); omega), _, _, rfl, rfl, ?_⟩
            show R (.int (((((x : Nat) : Int) + ((pwB s b i : Nat) : Int) * ((y : Nat) : Int)) % ((s : Nat) : Int)) * ((o : Nat) : Int) + (((i : Nat) : Int) + ((j : Nat) : Int)) % ((o : Nat) : Int))) _ _
            rw [e]
            exact hR
          · refine ⟨_, rfl, _, rfl, _, rfl, ?_, rfl, .fz (nD y), ?_⟩
            · rw [nsD_len, List.length_map, List.length_range, List.length_map, List.length_range, rngD_len]
              omega
            · rw [pr_more hi, rngD_len, nsD_cat]
              rw [show (List.range ((o : Nat) : Int).toNat).map (fun j => nD ((x + pwB s b i * y) % s * o + (i + j) % o)) = nsD ((List.range o).map fun j => (x + pwB s b i * y) % s * o + (i + j) % o) by unfold nsD; rw [List.map_map, Int.toNat_natCast]; rfl]
              rfl
        · obtain ⟨rfl, s10, rfl⟩ := hP
          rw [rngD_len]
          refine ⟨⟨_, rfl⟩, _, rfl, _, rfl, _, rfl, by rw [List.length_map, List.length_range]; omega, ?_⟩
          refine ⟨_, rfl, _, rfl, _, _, rfl, rfl, .inr ⟨by omega, by omega⟩, _, rfl, _, _, rfl, rfl, (by show (0 : Int) < (s : Nat); omega), ?_⟩
          refine ⟨rfl, .fz (nD i), .fz (rowD (s * o) (prM s o (pwB s b) (x * o + i))), s10, ?_⟩
          rw [show x * o + (i + 1) = (x * o + i) + 1 from rfl, List.range_succ (n := x * o + i), List.map_append, Int.toNat_natCast, show nD (pwB s b (i + 1)) = .int (((pwB s b i : Nat) : Int) * ((b : Nat) : Int) % ((s : Nat) : Int)) by show Dt.int ((pwB s b i * b % s : Nat) : Int) = _; push_cast; rfl]
          rfl
      · obtain ⟨rfl, s8, s9, s10, rfl⟩ := hP
        rw [rngD_len, Int.toNat_natCast]
        exact ⟨rfl, .fz (nD x), _, s8, s9, s10, by rw [Nat.succ_mul]⟩
    · obtain ⟨rfl, s6, s7, s8, s9, s10, rfl⟩ := hP
      rw [rngD_len, Int.toNat_natCast]
      exact ⟨_, rfl, q _ _ (hse_pairs hs ho hpw) (by omega)⟩
end
end K39
namespace K39
open PySem PySem.Spec PyProof.Rows L2 HM VL
abbrev s_l_anew : Stmt := topS 27
theorem sc_l_anew : FnScope ["_law_pen_here", "_law_house_here", "_law_k", "_law_order", "_law_row", "_law_found", "_law_a", "_law_b", "_law_number_here"] ["_law_pen_here", "_law_house_here"] (defScope s_l_anew) := ⟨rfl, rfl, rfl, by decide +kernel, rfl, by decide +kernel, by decide +kernel⟩
section
variable {P : Program} {w : World} {K : PySem.W.Frag} {mg : Str → Option Value} {base : Heap} {am : Am} {gd : Around → Prop} {k : Nat}
theorem ok_anew {p : Addr} {f f_l_turn : Addr} {fd fd_l_turn : FuncData} (F : Fun K "_law_anew" "_law_anew" s_l_anew f fd) (G_l_turn : VFn anyA P w K mg base CX0 (k + 2) f_l_turn fd_l_turn ["_law_pen_here", "_law_many"] am (spTurn p)) (g_l_turn : mg "_law_turn" = some (.ref f_l_turn)) (k_l_turn : PySem.W.keepIn K (.ref f_l_turn) = true) (b_l_turn : Binds K fd_l_turn ["_law_pen_here", "_law_many"] [])
    (mz : ∀ x ∈ bn, mg x = none) : VFn gd P w K mg base CX0 (k + 3) f fd ["_law_pen_here", "_law_house_here"] am (spRen p) := by
  refine vfn_ofX F sc_l_anew (fun ds n Q E h => ?_) ⟨fun F0 H0 => _, fun cdv A out s H E F0 H0 hcd hgd hr =>
    (xss_out (xss_cons (xs_lift fun H0 => (vs_set (i := 3) sc_l_anew.nd rfl (.inl rfl) (ve_new (vn_op op_cat lft_cat (ve_lstK (ka_cons ve_int ka_nil) (by decide)) (ve_new (vn_lc (own := [("_law_k", 2)]) rfl sc_l_anew.nd (vi_tup (ve_call G_l_turn trivial (hr.mono (by omega)) (by rfl) g_l_turn k_l_turn b_l_turn pass0 (va_cons (ve_var (pv 0)) (va_cons (ve_op op_sub lft_I0 (ve_cbR call_len_seq lft_len (by rfl) (mz "len" (by decide)) PySem.boot_len (vb_rd (pv 1) vb_nil)) ve_int) va_nil)))) (blkOk_by (own := [("_law_k", 2)]) (N := ["_law_pen_here", "_law_house_here", "_law_k", "_law_order", "_law_row", "_law_found", "_law_a", "_law_b", "_law_number_here"]) (sc := defScope s_l_anew) (by decide +kernel)) (tg_name (by simp)) (fun _ _ _ _ _ => (pg_name (i := 2) sc_l_anew.nd rfl (.inl rfl))) (fun _ _ _ _ _ _ _ => vts_nil) (fun _ _ _ _ _ _ _ => (ve_op op_add lft_I0 ve_int (ve_var (pv 2))))))))))
      (xss_cons (xs_setLcRows (i := 5) (iv := 4) (own := [("_law_row", 4)]) rfl sc_l_anew.nd rfl rfl (sw_true rfl rfl rfl (by decide +kernel)) (fun H0 => (vi_list (ve_var (pv 1)))) (blkOk_by (own := [("_law_row", 4)]) (N := ["_law_pen_here", "_law_house_here", "_law_k", "_law_order", "_law_row", "_law_found", "_law_a", "_law_b", "_law_number_here"]) (sc := defScope s_l_anew) (by decide +kernel)) (fun _ _ _ _ _ => (pg_name (i := 4) sc_l_anew.nd rfl (.inl rfl))) (fun H0 _ _ _ _ _ => (vn_op op_rep lft_rep (ve_lstK (ka_cons ve_int ka_nil) (by decide)) (ve_cbR call_len_seq lft_len (by rfl) (mz "len" (by decide)) PySem.boot_len (vb_rd (pv 1) vb_nil)))))
      (xss_cons (xs_for PassesOwn.never rfl (fun H0 => (vi_enum (by rfl) (mz "enumerate" (by decide)) (va_cons (ve_var (pv 1)) va_nil))) (fun H0 => (vg_tup (m := 2) rfl (vgs_cons (vg_name (pg_name (i := 6) sc_l_anew.nd rfl (.inl rfl))) (vgs_cons (vg_name (pg_name (i := 4) sc_l_anew.nd rfl (.inl rfl))) vgs_nil))))
        (xss_one (xs_for PassesOwn.never rfl (fun H0 => (vi_enum (by rfl) (mz "enumerate" (by decide)) (va_cons (ve_var (pv 4)) va_nil))) (fun H0 => (vg_tup (m := 2) rfl (vgs_cons (vg_name (pg_name (i := 7) sc_l_anew.nd rfl (.inl rfl))) (vgs_cons (vg_name (pg_name (i := 8) sc_l_anew.nd rfl (.inl rfl))) vgs_nil))))
          (xss_one (xs_row (fun H0 => (ve_ixO (pv 5) (ve_ixO (pv 3) (ve_var (pv 6)) (fun _ _ => rfl)) (fun _ _ => rfl))) (fun H0 => (ve_ixO (pv 3) (ve_var (pv 7)) (fun _ _ => rfl))) (fun H0 => (ve_ixO (pv 3) (ve_var (pv 8)) (fun _ _ => rfl))))))))
      (xss_one (xs_retRows (pv 5))))))), fun F0 H0 ds t Q E h => ?_⟩
  · obtain ⟨n, m, rfl, _⟩ := h
    rfl
  · obtain ⟨n, m, rfl, hH, hn, q⟩ := h
    have hp := hH.pos
    have hlen : ((List.range n).map fun a => rowD n (m a)).length = n := by rw [List.length_map, List.length_range]
    refine ⟨_, rfl, ⟨_, .inl rfl⟩, _, .inl rfl, _, .inl rfl, rfl, _, _, rfl, rfl, n - 1, by rw [hlen]; show [_, Dt.int ((n : Int) - 1)] = [_, Dt.int ((n - 1 : Nat) : Int)]; rw [show ((n : Int) - 1) = ((n - 1 : Nat) : Int) by omega], by omega, fun l hl => ⟨_, rfl, ?_⟩⟩
    have hll := hl.len
    refine lc_map (i := 2) (fun j => nD (1 + tA l j)) (.head _) (noOw1 rfl no_ow) (by rw [nsD_len]; omega) (fun j x hx R hR => ?_) ?_
    · unfold nsD at hx
      rw [List.getElem?_map] at hx
      obtain ⟨y, hy, rfl⟩ := Option.map_eq_some_iff.mp hx
      have ey : tA l j = y := by
        have := tA_get (List.getElem?_eq_some_iff.mp hy).1
        rw [hy] at this
        exact (Option.some.inj this).symm
      rw [ey, show nD (1 + y) = .int (1 + ((y : Nat) : Int)) by show Dt.int ((1 + y : Nat) : Int) = _; push_cast; rfl] at hR
      exact ⟨_, rfl, _, _, rfl, rfl, hR⟩
    rw [show (List.range (nsD l).length).map (fun j => nD (1 + tA l j)) = nsD (l.map (1 + ·)) by
      unfold nsD
      rw [List.length_map, List.map_map]
      refine List.ext_getElem? fun j => ?_
      rw [List.getElem?_map, List.getElem?_map]
      by_cases hj : j < l.length
      · rw [List.getElem?_range hj, tA_get hj]; rfl
      · rw [List.getElem?_eq_none (by rw [List.length_range]; omega), List.getElem?_eq_none (by omega)]; rfl]
    have ho : Tn n (0 :: l.map (1 + ·)) := tn_cons hp (by
      have : (fun x : Nat => 1 + x) = (· + 1) := by funext x; omega
      rw [this]
      exact List.Perm.map _ hl)
    generalize hoe : (0 :: l.map (1 + ·)) = o at ho
    have ho0 : tA o 0 = 0 := by rw [← hoe]; rfl
    refine ⟨_, rfl, _, _, rfl, rfl, by rw [nsD_len, List.length_map]; show 1 + l.length ≤ 5000; omega, _, rfl, ?_⟩
    rw [show [Dt.int 0] ++ nsD (l.map (1 + ·)) = nsD o by rw [← hoe]; rfl]
    refine ⟨_, rfl, _, rfl, noOw1 (s := .no) rfl no_ow, by rw [hlen]; omega, List.mem_cons_self, fun _ => List.replicate n 0, fun i x hx R hR => ?_, ?_⟩
    · refine ⟨⟨_, .inl rfl⟩, _, .inl rfl, _, .inl rfl, rfl, [.int 0], n, rfl, by rw [hlen], by omega, by show 1 * n ≤ 5000; omega, ?_⟩
      rw [rep_ints]
      exact hR
    rw [hlen]
    intro A mo
    refine ⟨_, rfl, _, rfl, fun a H1 env t2 => t2 = t ∧ ∃ r s4 s6 s7 s8, H1 = mat H0 n A r ∧ env = [.fz (.obj p), .fz (houD n m), .no, .fz (.lst (nsD o)), s4, .ow (.lst (objD n A)), s6, s7, s8] ∧ (∀ i, i < n → (r i).length = n) ∧ ∀ a' b', a' < a → b' < n → (r (tA o a'))[tA o b']? = some ((tA o (m a' b') : Nat) : Int), ⟨rfl, _, .no, .no, .no, .no, rfl, rfl, fun i _ => List.length_replicate, fun a' _ h => absurd h (Nat.not_lt_zero _)⟩, fun a x H1 env t2 hx hP => ?_, fun H1 env t2 hP => ?_⟩
    · obtain ⟨rfl, r, s4, s6, s7, s8, rfl, rfl, hl, hr⟩ := hP
      obtain ⟨y, hy, rfl⟩ := enD_get hx
      rw [List.getElem?_map] at hy
      obtain ⟨a0, ha0, rfl⟩ := Option.map_eq_some_iff.mp hy
      have ha : a < n := by have := (List.getElem?_eq_some_iff.mp ha0).1; rwa [List.length_range] at this
      rw [List.getElem?_range ha] at ha0
      cases ha0
      refine ⟨_, rfl, rfl, _, _, rfl, _, _, rfl, rfl, ?_⟩
      refine ⟨_, rfl, _, rfl, fun b H1 env t3 => t3 = t2 ∧ ∃ r s7 s8, H1 = mat H0 n A r ∧ env = [.fz (.obj p), .fz (houD n m), .no, .fz (.lst (nsD o)), .fz (rowD n (m a)), .ow (.lst (objD n A)), .fz (nD a), s7, s8] ∧ (∀ i, i < n → (r i).length = n) ∧ ∀ a' b', (a' < a ∨ (a' = a ∧ b' < b)) → b' < n → (r (tA o a'))[tA o b']? = some ((tA o (m a' b') : Nat) : Int), ⟨rfl, r, s7, s8, rfl, rfl, hl, fun a' b' h hb => hr a' b' (by omega) hb⟩, fun b x H1 env t3 hx hP => ?_, fun H1 env t3 hP => ?_⟩
      · obtain ⟨rfl, r, s7, s8, rfl, rfl, hl, hr⟩ := hP
        obtain ⟨y, hy, rfl⟩ := enD_get hx
        unfold nsD at hy
        rw [List.getElem?_map, List.getElem?_map] at hy
        obtain ⟨y1, hy1, rfl⟩ := Option.map_eq_some_iff.mp hy
        obtain ⟨y2, hy2, rfl⟩ := Option.map_eq_some_iff.mp hy1
        have hb : b < n := by have := (List.getElem?_eq_some_iff.mp hy2).1; rwa [List.length_range] at this
        rw [List.getElem?_range hb] at hy2
        cases hy2
        have hmab := hH.lt a b ha hb
        have hoa := ho.at_lt ha
        have hob := ho.at_lt hb
        refine ⟨_, rfl, rfl, _, _, rfl, _, _, rfl, rfl, ?_⟩
        refine ⟨⟨_, .inl rfl⟩, _, rfl, _, _, _, .inl rfl, rfl, nsD_tA (by rw [ho.len]; exact hmab), ?_⟩
        refine ⟨⟨_, .inr ⟨_, rfl, rfl⟩⟩, ⟨_, .inl rfl⟩, _, rfl, _, _, _, .inl rfl, rfl, nsD_tA (by rw [ho.len]; exact ha), _, _, _, .inr ⟨_, rfl, rfl⟩, rfl, objD_at hoa, ?_⟩
        refine ⟨⟨_, .inl rfl⟩, _, rfl, _, _, _, .inl rfl, rfl, nsD_tA (by rw [ho.len]; exact hb), ?_⟩
        refine ⟨H0, n, A, r, tA o a, tA o b, _, rfl, mo, rfl, hoa, rfl, by rw [hl _ hoa]; exact hob, rfl, rfl, _, _, _, rfl, rfl, fun i hi => ?_, fun a' b' h hb' => ?_⟩
        · by_cases z : i = tA o a
          · rw [if_pos z, List.length_set]; exact hl _ hoa
          · rw [if_neg z]; exact hl i hi
        · by_cases z : a' = a
          · subst z
            rw [if_pos rfl]
            by_cases z2 : b' = b
            · subst z2
              rw [List.getElem?_set_self (by rw [hl _ hoa]; exact hob)]
            · rw [List.getElem?_set_ne fun e => z2 (ho.inj hb' hb e.symm)]
              exact hr a' b' (by omega) hb'
          · have ha' : a' < n := by omega
            rw [if_neg fun e => z (ho.inj ha' ha e)]
            exact hr a' b' (by omega) hb'
      · obtain ⟨rfl, r, s7, s8, rfl, rfl, hl, hr⟩ := hP
        rw [enD_len, nsD_len, List.length_map, List.length_range] at hr
        exact ⟨rfl, r, _, _, s7, s8, rfl, rfl, hl, fun a' b' h hb => hr a' b' (by omega) hb⟩
    · obtain ⟨rfl, r, s4, s6, s7, s8, rfl, rfl, hl, hr⟩ := hP
      rw [enD_len, hlen] at hr
      have hr2 : ∀ i j, i < n → j < n → ∃ k : Nat, (r i)[j]? = some (k : Int) := fun i j hi hj => by
        obtain ⟨a, ha, rfl⟩ := ho.onto hi
        obtain ⟨b, hb, rfl⟩ := ho.onto hj
        exact ⟨_, hr a b (by omega) hb⟩
      refine ⟨H0, n, A, r, rfl, mo, rfl, rfl, ?_⟩
      rw [rows_hou hl hr2]
      refine q _ (hse_ren hH ho ho0 fun a b ha hb => ?_)
      show ((r (tA o a)).getD (tA o b) 0).toNat = _
      rw [List.getD_eq_getElem?_getD, hr a b (by omega) hb]
      rfl
end
end K39
namespace K39
open PySem PySem.Spec PyProof.Rows L2 HM VL
abbrev s_l_house : Stmt := topS 28
theorem sc_l_house : FnScope ["_law_pen_here", "_law_way", "_law_two", "_law_more"] ["_law_pen_here"] (defScope s_l_house) := ⟨rfl, rfl, rfl, by decide +kernel, rfl, by decide +kernel, by decide +kernel⟩
section
variable {P : Program} {w : World} {K : PySem.W.Frag} {mg : Str → Option Value} {base : Heap} {am : Am} {gd : Around → Prop} {k : Nat}
theorem ok_houseB {p f f_l_take f_l_house_by f_l_drawn_group f_l_rounds f_l_anew f_l_both f_l_eight f_l_closed f_l_great_group : Addr} {fd fd_l_take fd_l_house_by fd_l_drawn_group fd_l_rounds fd_l_anew fd_l_both fd_l_eight fd_l_closed fd_l_great_group : FuncData} (F : Fun K "_law_house" "_law_house" s_l_house f fd)
    (G_l_take : VFn anyA P w K mg base CX0 (k + 4) f_l_take fd_l_take ["_law_pen_here", "_law_many"] am (spTakeB p)) (g_l_take : mg "_law_take" = some (.ref f_l_take)) (k_l_take : PySem.W.keepIn K (.ref f_l_take) = true) (b_l_take : Binds K fd_l_take ["_law_pen_here", "_law_many"] [])
    (G_l_house_by : VFn anyA P w K mg base CX0 (k + 4) f_l_house_by fd_l_house_by ["_law_group"] am spTable) (g_l_house_by : mg "_law_house_by" = some (.ref f_l_house_by)) (k_l_house_by : PySem.W.keepIn K (.ref f_l_house_by) = true) (b_l_house_by : Binds K fd_l_house_by ["_law_group"] [])
    (G_l_drawn_group : VFn anyA P w K mg base CX0 (k + 4) f_l_drawn_group fd_l_drawn_group ["_law_pen_here"] am (spDrawn p)) (g_l_drawn_group : mg "_law_drawn_group" = some (.ref f_l_drawn_group)) (k_l_drawn_group : PySem.W.keepIn K (.ref f_l_drawn_group) = true) (b_l_drawn_group : Binds K fd_l_drawn_group ["_law_pen_here"] [])
    (G_l_rounds : VFn anyA P w K mg base CX0 (k + 4) f_l_rounds fd_l_rounds ["_law_pen_here"] am (spHouse p)) (g_l_rounds : mg "_law_rounds" = some (.ref f_l_rounds)) (k_l_rounds : PySem.W.keepIn K (.ref f_l_rounds) = true) (b_l_rounds : Binds K fd_l_rounds ["_law_pen_here"] [])
    (G_l_anew : VFn anyA P w K mg base CX0 (k + 4) f_l_anew fd_l_anew ["_law_pen_here", "_law_house_here"] am (spRen p)) (g_l_anew : mg "_law_anew" = some (.ref f_l_anew)) (k_l_anew : PySem.W.keepIn K (.ref f_l_anew) = true) (b_l_anew : Binds K fd_l_anew ["_law_pen_here", "_law_house_here"] [])
    (G_l_both : VFn anyA P w K mg base CX0 (k + 4) f_l_both fd_l_both ["_law_one", "_law_other"] am spBoth) (g_l_both : mg "_law_both" = some (.ref f_l_both)) (k_l_both : PySem.W.keepIn K (.ref f_l_both) = true) (b_l_both : Binds K fd_l_both ["_law_one", "_law_other"] [])
    (G_l_eight : VFn anyA P w K mg base CX0 (k + 4) f_l_eight fd_l_eight [] am spEight) (g_l_eight : mg "_law_eight" = some (.ref f_l_eight)) (k_l_eight : PySem.W.keepIn K (.ref f_l_eight) = true) (b_l_eight : Binds K fd_l_eight [] [])
    (G_l_closed : VFn anyA P w K mg base CX0 (k + 4) f_l_closed fd_l_closed ["_law_many", "_law_turns", "_law_most"] am spClosedB) (g_l_closed : mg "_law_closed" = some (.ref f_l_closed)) (k_l_closed : PySem.W.keepIn K (.ref f_l_closed) = true) (b_l_closed : Binds K fd_l_closed ["_law_many", "_law_turns", "_law_most"] [])
    (G_l_great_group : VFn anyA P w K mg base CX0 (k + 4) f_l_great_group fd_l_great_group ["_law_which"] am spGreat) (g_l_great_group : mg "_law_great_group" = some (.ref f_l_great_group)) (k_l_great_group : PySem.W.keepIn K (.ref f_l_great_group) = true) (b_l_great_group : Binds K fd_l_great_group ["_law_which"] [])
    (mz : ∀ x ∈ bn, mg x = none) : VFn gd P w K mg base CX0 (k + 5) f fd ["_law_pen_here"] am (spHouse p) := by
  refine vfn_of F sc_l_house (fun ds n Q E h => ?_) ⟨_, fun cdv A out s H E F0 H0 hcd hgd hr =>
    (vss_cons (vs_set (i := 1) sc_l_house.nd rfl (.inl rfl) (ve_call G_l_take trivial (hr.mono (by omega)) (by rfl) g_l_take k_l_take b_l_take pass0 (va_cons (ve_var (pv 0)) (va_cons ve_int va_nil))))
      (vss_cons (vs_set (i := 2) sc_l_house.nd rfl (.inl rfl) (ve_new (vn_lst (va_cons (ve_lstK (ka_cons ve_int (ka_cons ve_int ka_nil)) (by decide)) (va_cons (ve_lstK (ka_cons ve_int (ka_cons ve_int ka_nil)) (by decide)) va_nil)))))
      (vss_cons (vs_if (vt_cmp op_lt lft_B0 (ve_var (pv 1)) ve_int (nomark _))
        (vss_one (vs_ret (ve_call G_l_house_by trivial (hr.mono (by omega)) (by rfl) g_l_house_by k_l_house_by b_l_house_by pass0 (va_cons (ve_call G_l_drawn_group trivial (hr.mono (by omega)) (by rfl) g_l_drawn_group k_l_drawn_group b_l_drawn_group pass0 (va_cons (ve_var (pv 0)) va_nil)) va_nil))))
        vss_nil)
      (vss_cons (vs_if (vt_cmp op_lt lft_B0 (ve_var (pv 1)) ve_int (nomark _))
        (vss_one (vs_ret (ve_ix ix_list lft_ixL (ve_new (vn_lst (va_cons (ve_call G_l_rounds trivial (hr.mono (by omega)) (by rfl) g_l_rounds k_l_rounds b_l_rounds pass0 (va_cons (ve_var (pv 0)) va_nil)) (va_cons (ve_call G_l_anew trivial (hr.mono (by omega)) (by rfl) g_l_anew k_l_anew b_l_anew pass0 (va_cons (ve_var (pv 0)) (va_cons (ve_call G_l_rounds trivial (hr.mono (by omega)) (by rfl) g_l_rounds k_l_rounds b_l_rounds pass0 (va_cons (ve_var (pv 0)) va_nil)) va_nil))) va_nil)))) (ve_call G_l_take trivial (hr.mono (by omega)) (by rfl) g_l_take k_l_take b_l_take pass0 (va_cons (ve_var (pv 0)) (va_cons ve_int va_nil))) (fun _ _ => rfl))))
        vss_nil)
      (vss_cons (vs_if (vt_cmp op_eq lft_eq (ve_var (pv 1)) ve_int (nomark _))
        (vss_cons (vs_set (i := 3) sc_l_house.nd rfl (.inl rfl) (ve_ix ix_list lft_ixL (ve_new (vn_lst (va_cons (ve_lstK (ka_cons (ve_lstK (ka_cons ve_int ka_nil) (by decide)) ka_nil) (by decide)) (va_cons (ve_var (pv 2)) (va_cons (ve_lstK (ka_cons (ve_lstK (ka_cons ve_int (ka_cons ve_int (ka_cons ve_int ka_nil))) (by decide)) (ka_cons (ve_lstK (ka_cons ve_int (ka_cons ve_int (ka_cons ve_int ka_nil))) (by decide)) (ka_cons (ve_lstK (ka_cons ve_int (ka_cons ve_int (ka_cons ve_int ka_nil))) (by decide)) ka_nil))) (by decide)) va_nil))))) (ve_call G_l_take trivial (hr.mono (by omega)) (by rfl) g_l_take k_l_take b_l_take pass0 (va_cons (ve_var (pv 0)) (va_cons ve_int va_nil))) (fun _ _ => rfl)))
        (vss_one (vs_ret (ve_call G_l_anew trivial (hr.mono (by omega)) (by rfl) g_l_anew k_l_anew b_l_anew pass0 (va_cons (ve_var (pv 0)) (va_cons (ve_call G_l_both trivial (hr.mono (by omega)) (by rfl) g_l_both k_l_both b_l_both pass0 (va_cons (ve_call0 G_l_eight trivial (hr.mono (by omega)) (by rfl) g_l_eight k_l_eight b_l_eight pass0) (va_cons (ve_var (pv 3)) va_nil))) va_nil))))))
        vss_nil)
      (vss_cons (vs_if (vt_cmp op_eq lft_eq (ve_var (pv 1)) ve_int (nomark _))
        (vss_one (vs_ret (ve_call G_l_both trivial (hr.mono (by omega)) (by rfl) g_l_both k_l_both b_l_both pass0 (va_cons (ve_call G_l_both trivial (hr.mono (by omega)) (by rfl) g_l_both k_l_both b_l_both pass0 (va_cons (ve_var (pv 2)) (va_cons (ve_var (pv 2)) va_nil))) (va_cons (ve_call G_l_both trivial (hr.mono (by omega)) (by rfl) g_l_both k_l_both b_l_both pass0 (va_cons (ve_var (pv 2)) (va_cons (ve_var (pv 2)) va_nil))) va_nil)))))
        vss_nil)
      (vss_cons (vs_if (vt_cmp op_eq lft_eq (ve_var (pv 1)) ve_int (nomark _))
        (vss_one (vs_ret (ve_call G_l_both trivial (hr.mono (by omega)) (by rfl) g_l_both k_l_both b_l_both pass0 (va_cons (ve_call G_l_house_by trivial (hr.mono (by omega)) (by rfl) g_l_house_by k_l_house_by b_l_house_by pass0 (va_cons (ve_call G_l_closed trivial (hr.mono (by omega)) (by rfl) g_l_closed k_l_closed b_l_closed pass0 (va_cons ve_int (va_cons (ve_lstK (ka_cons (ve_tupK (ka_cons ve_int (ka_cons ve_int (ka_cons ve_int ka_nil))) (by decide)) (ka_cons (ve_tupK (ka_cons ve_int (ka_cons ve_int (ka_cons ve_int ka_nil))) (by decide)) ka_nil)) (by decide)) (va_cons ve_int va_nil)))) va_nil)) (va_cons (ve_call G_l_both trivial (hr.mono (by omega)) (by rfl) g_l_both k_l_both b_l_both pass0 (va_cons (ve_var (pv 2)) (va_cons (ve_var (pv 2)) va_nil))) va_nil)))))
        vss_nil)
      (vss_one (vs_ret (ve_call G_l_house_by trivial (hr.mono (by omega)) (by rfl) g_l_house_by k_l_house_by b_l_house_by pass0 (va_cons (ve_call G_l_great_group trivial (hr.mono (by omega)) (by rfl) g_l_great_group k_l_great_group b_l_great_group pass0 (va_cons (ve_call G_l_take trivial (hr.mono (by omega)) (by rfl) g_l_take k_l_take b_l_take pass0 (va_cons (ve_var (pv 0)) (va_cons ve_int va_nil))) va_nil)) va_nil))))))))))), fun ds t Q E h => ?_⟩
  · obtain ⟨rfl, _⟩ := h
    rfl
  · obtain ⟨rfl, q⟩ := h
    refine ⟨_, rfl, 16, rfl, by decide, by decide, fun r hr => ?_⟩
    refine ⟨(by decide : 2 ≤ 5000), _, rfl, ?_⟩
    change vSeq _ _ _ [.fz (.obj p), .fz (nD r), .fz (houD 2 m2), .no] t
    have h4 := hse_both hse2 hse2
    refine ⟨_, rfl, _, _, rfl, rfl, _, rfl, iteB (fun e => ?_) (fun e => ?_)⟩
    · exact ⟨_, rfl, rfl, fun m gl hm hg => ⟨m, gl, rfl, hm, hg, q _ _ (hse_tbl hg) hg.few⟩⟩
    refine ⟨_, rfl, _, _, rfl, rfl, _, rfl, iteB (fun e => ?_) (fun e => ?_)⟩
    · refine ⟨_, rfl, rfl, fun n1 k1 h1 hn1 => ⟨_, rfl, _, rfl, rfl, fun n2 k2 h2 hn2 => ⟨n2, k2, rfl, h2, hn2, fun k3 h3 => ⟨(by decide : 2 ≤ 5000), _, rfl, _, rfl, 2, rfl, by decide, by decide, fun r2 hr2 => ?_⟩⟩⟩⟩
      obtain ⟨n9, k9, hx, h9, hn9⟩ : ∃ n m, atI [houD n1 k1, houD n2 k3] ((r2 : Nat) : Int) = some (houD n m) ∧ Hse n m ∧ n ≤ 60 := by
        match r2, hr2 with
        | 0, _ => exact ⟨_, _, rfl, h1, hn1⟩
        | 1, _ => exact ⟨_, _, rfl, h3, hn2⟩
      exact ⟨_, _, _, rfl, rfl, hx, q _ _ h9 hn9⟩
    refine ⟨_, rfl, .inl ⟨_, _, rfl, rfl, _, rfl, iteB (fun e => ?_) (fun e => ?_)⟩⟩
    · refine ⟨_, rfl, (by decide : 3 ≤ 5000), _, rfl, _, rfl, 3, rfl, by decide, by decide, fun r2 hr2 => ?_⟩
      obtain ⟨n9, k9, hx, h9, hn9⟩ : ∃ n m, atI [Dt.lst [Dt.lst [Dt.int 0]], houD 2 m2, Dt.lst [Dt.lst [Dt.int 0, Dt.int 1, Dt.int 2], Dt.lst [Dt.int 1, Dt.int 2, Dt.int 0], Dt.lst [Dt.int 2, Dt.int 0, Dt.int 1]]] ((r2 : Nat) : Int) = some (houD n m) ∧ Hse n m ∧ n ≤ 3 := by
        match r2, hr2 with
        | 0, _ => exact ⟨1, m1, rfl, hse1, by decide⟩
        | 1, _ => exact ⟨_, _, rfl, hse2, by decide⟩
        | 2, _ => exact ⟨3, m3, rfl, hse3, by decide⟩
      refine ⟨_, _, _, rfl, rfl, hx, ?_⟩
      exact ⟨_, rfl, rfl, _, rfl, 8, n9, m8, k9, rfl, hse8, h9, by omega, by omega, by omega, 8 * n9, _, rfl, hse_both hse8 h9, by omega, fun m' h' => q _ _ h' (by omega)⟩
    refine ⟨_, rfl, .inl ⟨_, _, rfl, rfl, _, rfl, iteB (fun e => ?_) (fun e => ?_)⟩⟩
    · exact ⟨_, rfl, _, rfl, 2, 2, m2, m2, rfl, hse2, hse2, by decide, by decide, by decide, _, rfl, _, rfl, 2, 2, m2, m2, rfl, hse2, hse2, by decide, by decide, by decide, 4, 4, _, _, rfl, h4, h4, by decide, by decide, by decide, q _ _ (hse_both h4 h4) (by decide)⟩
    refine ⟨_, rfl, .inl ⟨_, _, rfl, rfl, _, rfl, iteB (fun e => ?_) (fun e => ?_)⟩⟩
    · have hT : ∀ g ∈ [[1, 2, 0], [1, 0, 2]], Tn 3 g := fun g hg => tn_B (by
        rcases List.mem_cons.mp hg with rfl | hg
        · decide
        · rw [List.mem_singleton.mp hg]; decide)
      refine ⟨3, [[1, 2, 0], [1, 0, 2]], 60, rfl, by decide, by decide, by decide, by decide, hT, fun gl hg => ⟨3, gl, rfl, by decide, hg, ?_⟩, .inl fun l nd hl => ?_⟩
      · have h6 := few3s hg.nd hg.tn
        exact ⟨_, rfl, _, rfl, 2, 2, m2, m2, rfl, hse2, hse2, by decide, by decide, by decide, gl.length, 4, _, _, rfl, hse_tbl hg, h4, by omega, by omega, by decide, q _ _ (hse_both (hse_tbl hg) h4) (by omega)⟩
      · have := few3s nd fun x hx => (hl x hx).tn hT
        omega
    exact ⟨_, rfl, 4, rfl, by decide, by decide, fun r2 hr2 => ⟨r2, rfl, hr2, fun m gl hm hg => ⟨m, gl, rfl, hm, hg, q _ _ (hse_tbl hg) hg.few⟩⟩⟩
end
end K39
namespace K39
open PySem PySem.Spec PyProof.Rows L2 HM VL
abbrev s_l_parts : Stmt := topS 30
theorem sc_l_parts : FnScope ["_law_house_here", "_law_some", "_law_left", "_law_part_here", "_law_number_here", "_law_more", "_law_one"] ["_law_house_here"] (defScope s_l_parts) := ⟨rfl, rfl, rfl, by decide +kernel, rfl, by decide +kernel, by decide +kernel⟩
section
variable {P : Program} {w : World} {K : PySem.W.Frag} {mg : Str → Option Value} {base : Heap} {am : Am} {gd : Around → Prop} {k : Nat}
theorem ok_partsB {f f_l_part : Addr} {fd fd_l_part : FuncData} (F : Fun K "_law_parts" "_law_parts" s_l_parts f fd)
    (G_l_part : VFn anyA P w K mg base CX0 (k + 1) f_l_part fd_l_part ["_law_house_here", "_law_numbers"] am spPart) (g_l_part : mg "_law_part" = some (.ref f_l_part)) (k_l_part : PySem.W.keepIn K (.ref f_l_part) = true) (b_l_part : Binds K fd_l_part ["_law_house_here", "_law_numbers"] [])
    (mz : ∀ x ∈ bn, mg x = none) : VFn gd P w K mg base CX0 (k + 2) f fd ["_law_house_here"] am spAllP := by
  refine vfn_of F sc_l_parts (fun ds n Q E h => ?_) ⟨_, fun cdv A out s H E F0 H0 hcd hgd hr =>
    (vss_cons (vs_setN (i := 1) sc_l_parts.nd rfl (.inl rfl) (vn_dispT (hu_of hr) (fun F0 H0 => (ve_tupK (ka_cons ve_int ka_nil) (by decide))) (fun F0 H0 => (ve_new (vn_lst va_nil)))))
      (vss_cons (vs_setN (i := 2) sc_l_parts.nd rfl (.inl rfl) (vn_lst (va_cons (ve_tupK (ka_cons ve_int ka_nil) (by decide)) va_nil)))
      (vss_cons (vs_while PassesOwn.never (vt_cmpN (op_neD hr.units) lft_neD (pv 2) (vr_of (ve_new (vn_lst va_nil))) (nomark _))
        (vss_cons (vs_set (i := 3) sc_l_parts.nd rfl (.inl rfl) (ve_m0 (pe_bm0 PySem.F.plainAttrs_list PySem.F.slot_list_pop PySem.F.type_list_pop mt_pop (pv 2)) lft_pop))
        (vss_one (vs_for PassesOwn.never rfl (vi_range1 (by rfl) (mz "range" (by decide)) (vb_cons (ve_cbR call_len_seq lft_len (by rfl) (mz "len" (by decide)) PySem.boot_len (vb_rd (pv 0) vb_nil)) vb_nil)) (vg_name (pg_name (i := 4) sc_l_parts.nd rfl (.inl rfl)))
          (vss_one (vs_if (vt_cmpR op_notIn_seq lft_in (ve_var (pv 4)) (vr_var (pv 3)) (by rfl))
            (vss_cons (vs_set (i := 5) sc_l_parts.nd rfl (.inl rfl) (ve_call G_l_part trivial (hr.mono (by omega)) (by rfl) g_l_part k_l_part b_l_part pass0 (va_cons (ve_var (pv 0)) (va_cons (ve_new (vn_op op_cat lft_cat (ve_dget (hu_of hr) (pv 1) (ve_var (pv 3)) (fun _ _ => rfl)) (ve_new (vn_lst (va_cons (ve_var (pv 4)) va_nil))))) va_nil))))
            (vss_one (vs_if (vt_dnotin (hu_of hr) (ve_var (pv 5)) (pv 1))
              (vss_cons (vs_dput (hu_of hr) (pv 1) (ve_var (pv 5)) (ve_new (vn_op op_cat lft_cat (ve_dget (hu_of hr) (pv 1) (ve_var (pv 3)) (fun _ _ => rfl)) (ve_new (vn_lst (va_cons (ve_var (pv 4)) va_nil))))) rfl)
              (vss_one (vs_expr (ve_m (pe_bm PySem.F.plainAttrs_list PySem.F.slot_list_append PySem.F.type_list_append mt_append (pv 2) (va_cons (ve_var (pv 5)) va_nil)) lft_append))))
              vss_nil)))
            vss_nil))))))
      (vss_one (vs_ret (ve_new (vn_lc (own := [("_law_one", 6)]) rfl sc_l_parts.nd (vi_list (ve_new (vn_cb (cr_sortRk hr.units) lft_sortRk (by rfl) (mz "sorted" (by decide)) (by decide +kernel) (va_cons (ve_new (vn_lc (own := [("_law_part_here", 3)]) rfl sc_l_parts.nd (vi_mvD (pv 1)) (blkOk_by (own := [("_law_part_here", 3)]) (N := ["_law_house_here", "_law_some", "_law_left", "_law_part_here", "_law_number_here", "_law_more", "_law_one"]) (sc := defScope s_l_parts) (by decide +kernel)) (tg_name (by simp)) (fun _ _ _ _ _ => (pg_name (i := 3) sc_l_parts.nd rfl (.inl rfl))) (fun _ _ _ _ _ _ _ => vts_nil) (fun _ _ _ _ _ _ _ => (ve_tup (va_cons (ve_cbR call_len_seq lft_len (by rfl) (mz "len" (by decide)) PySem.boot_len (vb_rd (pv 3) vb_nil)) (va_cons (ve_var (pv 3)) va_nil)))))) va_nil)))) (blkOk_by (own := [("_law_one", 6)]) (N := ["_law_house_here", "_law_some", "_law_left", "_law_part_here", "_law_number_here", "_law_more", "_law_one"]) (sc := defScope s_l_parts) (by decide +kernel)) (tg_name (by simp)) (fun _ _ _ _ _ => (pg_name (i := 6) sc_l_parts.nd rfl (.inl rfl))) (fun _ _ _ _ _ _ _ => vts_nil) (fun _ _ _ _ _ _ _ => (ve_ix ix_tup lft_ixT (ve_var (pv 6)) ve_int (fun _ _ => rfl)))))))))), fun ds t Q E h => ?_⟩
  · obtain ⟨n, m, rfl, _⟩ := h
    rfl
  · obtain ⟨n, m, rfl, hH, hn, q⟩ := h
    have hlen : ((List.range n).map fun a => rowD n (m a)).length = n := by rw [List.length_map, List.length_range]
    obtain ⟨hs, ehs⟩ : ∃ hs, hs = (List.range n).map fun a => rowD n (m a) := ⟨_, rfl⟩
    have eho : houD n m = .lst hs := by rw [ehs]; rfl
    have hhl : hs.length = n := by rw [ehs]; exact hlen
    refine ⟨Nat.zero_le _, _, rfl, kN [0], rfl, (by decide : 1 ≤ 5000), ?_⟩
    change vSeq _ _ _ [.fz (houD n m), .ow (.dT (dctG [([0], [])])), .ow (.lst (tnD [[0]])), .no, .no, .no, .no] t
    rw [eho]
    refine ⟨fun mm env t' => ∃ fs ws s3 s4 s5, mm = 2 * (2401 - fs.length) + ws.length ∧ t' = t ∧ (∀ k, s3 ≠ .ow k) ∧ env = [.fz (.lst hs), .ow (.dT (dctG fs)), .ow (.lst (tnD ws)), s3, s4, s5, .no] ∧ PSr n m fs ws ∧ ∀ J ∈ fs.map (·.1), J ∉ ws → ∀ y, y < n → ∃ L ∈ fs.map (·.1), IsPt m (J ++ [y]) L, ⟨_, _, _, .no, .no, .no, rfl, rfl, no_ow, rfl, psr_start hH, fun J hJ hw => absurd (by simpa using hJ) hw⟩, fun mm env t' hW => ?_⟩
    obtain ⟨fs, ws, s3, s4, s5, rfl, rfl, h3, rfl, hP, hC⟩ := hW
    refine ⟨⟨_, .inr ⟨_, rfl, rfl⟩⟩, by decide, _, rfl, _, .inr ⟨_, rfl, rfl⟩, dNeD_pl (pl_tnL ws) rfl (dep_tnL ws) (by decide) fun b hb => ⟨rfl, b, rfl, iteB (fun e => ?_) (fun e => ?_)⟩⟩
    · have hne : ws ≠ [] := fun z => (hb.mp e) (by rw [z]; rfl)
      obtain ⟨ws', J, rfl⟩ : ∃ l x, ws = l ++ [x] := ⟨_, _, (List.dropLast_concat_getLast hne).symm⟩
      have hJ : J ∈ fs.map (·.1) := hP.sb J (by simp)
      obtain ⟨⟨J', gs⟩, hJF, rfl⟩ := List.mem_map.mp hJ
      have hwn := hP.wn
      rw [List.nodup_append] at hwn
      have hJw : J' ∉ ws' := fun z => hwn.2.2 J' z J' (by simp) rfl
      have sJ := hP.subs hH _ hJ
      refine ⟨⟨_, rfl⟩, _, rfl, .tup (nsD J'), rfl, tnsD_last, ?_⟩
      rw [show (tnD (ws' ++ [(J', gs).fst])).dropLast = tnD ws' from tnsD_dropLast]
      refine ⟨⟨_, .inl rfl⟩, _, .inl rfl, _, .inl rfl, rfl, _, rfl, ⟨by omega, by rw [hhl]; omega⟩, ?_⟩
      rw [hhl]
      have hf0 := hP.few hH hn
      refine ⟨fun j env t2 => t2 = t' ∧ ∃ fs2 ws2 s4 s5, env = [.fz (.lst hs), .ow (.dT (dctG fs2)), .ow (.lst (tnD ws2)), .fz (.tup (nsD J')), s4, s5, .no] ∧ PSr n m fs2 ws2 ∧ (J', gs) ∈ fs2 ∧ J' ∉ ws2 ∧ (∀ J ∈ fs2.map (·.1), J ∉ ws2 → J ≠ J' → ∀ y, y < n → ∃ L ∈ fs2.map (·.1), IsPt m (J ++ [y]) L) ∧ (∀ y, y < j → ∃ L ∈ fs2.map (·.1), IsPt m (J' ++ [y]) L) ∧ 2 * (2401 - fs2.length) + ws2.length ≤ 2 * (2401 - fs.length) + ws'.length, ⟨rfl, fs, ws', _, _, rfl, hP.pop, hJF, hJw, fun J hJ2 hw hne2 => hC J hJ2 fun z => (List.mem_append.mp z).elim hw fun z => hne2 (List.mem_singleton.mp z), fun y hy => absurd hy (Nat.not_lt_zero y), Nat.le_refl _⟩, fun y x env t2 hx hW => ?_, fun env t2 hW => ?_⟩
      · obtain ⟨rfl, fs2, ws2, s4, s5, rfl, hP2, hJ2, hJw2, hC2, hD2, hm2⟩ := hW
        obtain ⟨rfl, hy⟩ := rngD_get0 hx
        have hy : y < n := by have : y < ((n : Nat) : Int).toNat := hy; omega
        obtain ⟨p1, p2, p3⟩ := hP2.g _ hJ2
        have p3 : gs.length + 1 ≤ J'.length := p3
        have hJl := few_of_nodup sJ.nd sJ.lt
        have hJl : J'.length ≤ n := hJl
        have hgs : ∀ g ∈ gs ++ [y], g < n := fun g hg => by
          rcases List.mem_append.mp hg with hg | hg
          · exact p2 g hg
          · rw [List.mem_singleton.mp hg]; exact hy
        have hv := dctG_val hP2.nd hJ2
        have hl1 : (nsD gs).length + [nD y].length ≤ 5000 := by rw [nsD_len]; show gs.length + 1 ≤ 5000; omega
        refine ⟨_, rfl, _, .inl rfl, _, _, rfl, .inr (by rw [nsD_ints]), rfl, _, rfl, iteB (fun e => ?_) (fun e => ?_)⟩
        · have hni : y ∉ J' := fun z => by
            have e : (!decide ((y : Int) ∈ J'.map fun i : Nat => (i : Int))) = true := e
            rw [decide_eq_true (mem_ints.mpr z)] at e
            cases e
          refine ⟨_, rfl, .inr ⟨_, rfl⟩, _, rfl, _, .inr ⟨_, kN J', rfl, tup_key J', hv.symm⟩, _, rfl, (by decide : 1 ≤ 5000), _, rfl, _, _, rfl, rfl, hl1, _, rfl, n, m, gs ++ [y], by rw [eho, ← nsD_app]; rfl, hH.pos, hn, by rw [List.length_append]; show gs.length + 1 < 64; omega, hH.lt, hgs, fun l hl => ?_⟩
          have pJl : IsPt m (J' ++ [y]) l := grown_cls hH sJ p2 p1 hy (sJ.refl hH hy) hl
          refine ⟨_, rfl, _, .inr ⟨_, kN l, rfl, tup_key l, rfl⟩, _, rfl, iteB (fun e2 => ?_) (fun e2 => ?_)⟩
          · have hnl : l ∉ fs2.map (·.1) := by
              have e3 : (!(valD (dctG fs2) (kN l)).isSome) = true := e2
              rw [dctG_in, Bool.not_eq_true', decide_eq_false_iff_not] at e3
              exact e3
            have hP3 := hP2.add hH hJ2 hy hni hl hnl
            have hf3 := hP3.few hH hn
            rw [List.length_append, List.length_append, List.length_singleton, List.length_singleton] at hf3
            refine ⟨.inr ⟨_, rfl⟩, _, rfl, _, .inr ⟨_, kN J', rfl, tup_key J', hv.symm⟩, _, rfl, (by decide : 1 ≤ 5000), _, rfl, _, _, rfl, rfl, hl1, _, rfl, .inr ⟨_, rfl⟩, _, rfl, .inr ⟨_, kN l, rfl, tup_key l, by rw [dctG_len]; omega, ⟨_, rfl⟩, _, rfl, _, rfl, _, rfl, by rw [tnD_len]; omega, rfl, fs2 ++ [(l, gs ++ [y])], ws2 ++ [l], .fz (nD y), .fz (.tup (nsD l)), ?_, hP3, List.mem_append_left _ hJ2, fun z => (List.mem_append.mp z).elim hJw2 fun z => hnl (by rw [← List.mem_singleton.mp z]; exact List.mem_map.mpr ⟨_, hJ2, rfl⟩), fun J hJ3 hw hne2 y2 hy2 => ?_, fun y2 hy2 => ?_, by rw [List.length_append, List.length_append, List.length_singleton, List.length_singleton]; omega⟩⟩
            · rw [← dctG_put hnl, ← tnD_snoc, ← nsD_app]
              rfl
            · rw [List.map_append] at hJ3 ⊢
              rcases List.mem_append.mp hJ3 with z | z
              · obtain ⟨L, hL, pL⟩ := hC2 J z (fun w => hw (List.mem_append_left _ w)) hne2 y2 hy2
                exact ⟨L, List.mem_append_left _ hL, pL⟩
              · exact absurd (List.mem_append_right _ z) hw
            · rw [List.map_append]
              rcases Nat.lt_or_ge y2 y with z | z
              · obtain ⟨L, hL, pL⟩ := hD2 y2 z
                exact ⟨L, List.mem_append_left _ hL, pL⟩
              · have : y2 = y := by omega
                rw [this]
                exact ⟨l, by simp, pJl⟩
          · have hin : l ∈ fs2.map (·.1) := by
              have e3 : (!(valD (dctG fs2) (kN l)).isSome) = false := e2
              rw [dctG_in, Bool.not_eq_false', decide_eq_true_iff] at e3
              exact e3
            refine ⟨rfl, fs2, ws2, _, _, rfl, hP2, hJ2, hJw2, hC2, fun y2 hy2 => ?_, hm2⟩
            rcases Nat.lt_or_ge y2 y with z | z
            · exact hD2 y2 z
            · have : y2 = y := by omega
              rw [this]
              exact ⟨l, hin, pJl⟩
        · have hin : y ∈ J' := by
            have e : (!decide ((y : Int) ∈ J'.map fun i : Nat => (i : Int))) = false := e
            rw [Bool.not_eq_false', decide_eq_true_iff] at e
            exact mem_ints.mp e
          refine ⟨rfl, fs2, ws2, _, _, rfl, hP2, hJ2, hJw2, hC2, fun y2 hy2 => ?_, hm2⟩
          rcases Nat.lt_or_ge y2 y with z | z
          · exact hD2 y2 z
          · have : y2 = y := by omega
            rw [this]
            exact ⟨J', List.mem_map.mpr ⟨_, hJ2, rfl⟩, pt_in hH sJ hin⟩
      · obtain ⟨rfl, fs2, ws2, s4, s5, rfl, hP2, hJ2, hJw2, hC2, hD2, hm2⟩ := hW
        rw [rngD_len, Int.toNat_natCast] at hD2
        refine ⟨_, ?_, fs2, ws2, _, _, _, rfl, rfl, (fun k z => by cases z), rfl, hP2, fun J hJ3 hw => ?_⟩
        · rw [List.length_append, List.length_singleton]; omega
        · by_cases z : J = J'
          · rw [z]; exact hD2
          · exact hC2 J hJ3 hw z
    · have hnil : ws = [] := Classical.byContradiction fun z => by
        have := hb.mpr fun h => z (by
          match ws, h with
          | [], _ => rfl)
        rw [this] at e
        cases e
      subst hnil
      have hf := hP.few hH hn
      refine ⟨_, rfl, lc_map (i := 3) (fun j => rkD (tL (fs.map (·.1)) j)) (.head _) (noOw1 rfl h3) (by rw [List.length_map, dctG_len]; omega) (fun j x hx R hR => ?_) ?_⟩
      · unfold dctG at hx
        rw [List.map_map, List.getElem?_map] at hx
        obtain ⟨q9, hq9, ex⟩ := Option.map_eq_some_iff.mp hx
        have e9 : tL (fs.map (·.1)) j = q9.1 := tL_get (by rw [List.getElem?_map, hq9]; rfl)
        rw [e9] at hR
        have e8 : x = .tup (nsD q9.1) := ex.symm.trans (tup_key q9.1).symm
        subst e8
        refine ⟨⟨_, .inl rfl⟩, _, .inl rfl, _, .inr rfl, rfl, _, rfl, (by decide : 2 ≤ 5000), ?_⟩
        show R (.tup [.int ((nsD q9.1).length : Int), .tup (nsD q9.1)]) _ _
        rw [nsD_len]
        exact hR
      rw [List.length_map, dctG_len, show fs.length = (fs.map (·.1)).length by rw [List.length_map], map_tL]
      refine ⟨_, rfl, _, rfl, by rw [List.length_map]; omega, fun L' pm ord => ⟨_, rfl, _, rfl, lc_map (i := 6) (fun j => .tup (nsD (tL L' j))) (.head _) (noOw1 rfl no_ow) (by rw [List.length_map, pm.length_eq, List.length_map]; omega) (fun j x hx R hR => ?_) ?_⟩⟩
      · rw [List.getElem?_map] at hx
        obtain ⟨J, hJ, rfl⟩ := Option.map_eq_some_iff.mp hx
        rw [tL_get hJ] at hR
        exact ⟨_, rfl, _, _, _, rfl, rfl, rfl, hR⟩
      · rw [List.length_map, map_tL (fun J => Dt.tup (nsD J))]
        refine ⟨_, rfl, q L' ⟨fun J => ?_, pm.nodup_iff.mpr hP.nd, ord⟩⟩
        rw [pm.mem_iff]
        exact ⟨hP.subs hH J, fun s => all_grown hH hP.ze (fun J hJ => hC J hJ (by simp)) (hP.subs hH) s⟩
end
end K39
namespace K39
open PySem PySem.Spec PyProof.Rows L2 HM VL
abbrev s_l_kinds : Stmt := topS 32
theorem sc_l_kinds : FnScope ["_law_house_here", "_law_known", "_law_found", "_law_part_here", "_law_number_here"] ["_law_house_here"] (defScope s_l_kinds) := ⟨rfl, rfl, rfl, by decide +kernel, rfl, by decide +kernel, by decide +kernel⟩
section
variable {P : Program} {w : World} {K : PySem.W.Frag} {mg : Str → Option Value} {base : Heap} {am : Am} {gd : Around → Prop} {k : Nat}
theorem ok_kindsB {f f_l_parts f_l_led : Addr} {fd fd_l_parts fd_l_led : FuncData} (F : Fun K "_law_kinds" "_law_kinds" s_l_kinds f fd)
    (G_l_parts : VFn anyA P w K mg base CX0 (k + 2) f_l_parts fd_l_parts ["_law_house_here"] am spAllP) (g_l_parts : mg "_law_parts" = some (.ref f_l_parts)) (k_l_parts : PySem.W.keepIn K (.ref f_l_parts) = true) (b_l_parts : Binds K fd_l_parts ["_law_house_here"] [])
    (G_l_led : VFn anyA P w K mg base CX0 (k + 2) f_l_led fd_l_led ["_law_house_here", "_law_part_here", "_law_number_here"] am spLLed) (g_l_led : mg "_law_led" = some (.ref f_l_led)) (k_l_led : PySem.W.keepIn K (.ref f_l_led) = true) (b_l_led : Binds K fd_l_led ["_law_house_here", "_law_part_here", "_law_number_here"] [])
    (mz : ∀ x ∈ bn, mg x = none) : VFn gd P w K mg base CX0 (k + 3) f fd ["_law_house_here"] am spKindsP := by
  refine vfn_of F sc_l_kinds (fun ds n Q E h => ?_) ⟨_, fun cdv A out s H E F0 H0 hcd hgd hr =>
    (vss_cons (vs_setN (i := 1) sc_l_kinds.nd rfl (.inl rfl) vn_dnewT)
      (vss_cons (vs_setN (i := 2) sc_l_kinds.nd rfl (.inl rfl) (vn_lst va_nil))
      (vss_cons (vs_for PassesOwn.never rfl (vi_list (ve_call G_l_parts trivial (hr.mono (by omega)) (by rfl) g_l_parts k_l_parts b_l_parts pass0 (va_cons (ve_var (pv 0)) va_nil))) (vg_name (pg_name (i := 3) sc_l_kinds.nd rfl (.inl rfl)))
        (vss_one (vs_if (vt_dnotin (hu_of hr) (ve_var (pv 3)) (pv 1))
          (vss_cons (vs_for PassesOwn.never rfl (vi_range1 (by rfl) (mz "range" (by decide)) (vb_cons (ve_cbR call_len_seq lft_len (by rfl) (mz "len" (by decide)) PySem.boot_len (vb_rd (pv 0) vb_nil)) vb_nil)) (vg_name (pg_name (i := 4) sc_l_kinds.nd rfl (.inl rfl)))
            (vss_one (vs_dput (hu_of hr) (pv 1) (ve_call G_l_led trivial (hr.mono (by omega)) (by rfl) g_l_led k_l_led b_l_led pass0 (va_cons (ve_var (pv 0)) (va_cons (ve_var (pv 3)) (va_cons (ve_var (pv 4)) va_nil)))) (ve_cbR call_len_seq lft_len (by rfl) (mz "len" (by decide)) PySem.boot_len (vb_rd (pv 2) vb_nil)) rfl)))
          (vss_one (vs_expr (ve_m (pe_bm PySem.F.plainAttrs_list PySem.F.slot_list_append PySem.F.type_list_append mt_append (pv 2) (va_cons (ve_var (pv 3)) va_nil)) lft_append))))
          vss_nil)))
      (vss_one (vs_ret (ve_tup (va_cons (ve_mv (pv 2)) (va_cons (ve_mvD (pv 1)) va_nil)))))))), fun ds t Q E h => ?_⟩
  · obtain ⟨n, m, rfl, _⟩ := h
    rfl
  · obtain ⟨n, m, rfl, hH, hn, q⟩ := h
    have hlen : ((List.range n).map fun a => rowD n (m a)).length = n := by rw [List.length_map, List.length_range]
    obtain ⟨hs, ehs⟩ : ∃ hs, hs = (List.range n).map fun a => rowD n (m a) := ⟨_, rfl⟩
    have eho : houD n m = .lst hs := by rw [ehs]; rfl
    have hhl : hs.length = n := by rw [ehs]; exact hlen
    refine ⟨Nat.zero_le _, ?_⟩
    refine ⟨_, rfl, n, m, rfl, hH, hn, fun A hA => ⟨_, rfl, ?_⟩⟩
    have hAl : A.length ≤ 2400 := few_subs hH hn hA.nd fun K hK => (hA.mem K).mp hK
    have hkk := kinds_of hH hA
    rw [eho]
    refine ⟨fun j env t' => t' = t ∧ ∃ C s3 s4, env = [.fz (.lst hs), .ow (.dT (dctQ C)), .ow (.lst (tnD (kTo n m A j))), s3, s4] ∧ Came n m (A.filter (isRep n m)) (kTo n m A j).length C, ⟨rfl, [], .no, .no, rfl, came_start⟩, fun j x env t' hx hP => ?_, fun env t' hP => ?_⟩
    · obtain ⟨rfl, C, s3, s4, rfl, hC⟩ := hP
      unfold tnD at hx
      rw [List.getElem?_map] at hx
      obtain ⟨J, hJ, rfl⟩ := Option.map_eq_some_iff.mp hx
      have sJ := (hA.mem J).mp (List.mem_of_getElem? hJ)
      have hmet := kTo_met hH hA hJ hC
      have hCl : ∀ {C : List (List Nat × Nat)}, (C.map (·.1)).Nodup → (∀ K ∈ C.map (·.1), Sub n m K) → (dctQ C).length ≤ 5000 := fun {C} nd sb => by
        have := few_subs hH hn nd sb
        rw [List.length_map] at this
        unfold dctQ
        rw [List.length_map]
        omega
      refine ⟨_, rfl, _, .inr ⟨_, kN J, rfl, tup_key J, rfl⟩, _, rfl, iteB (fun e => ?_) (fun e => ?_)⟩
      · have hrep : isRep n m J = true := Classical.byContradiction fun z => by
          have e : (!(valD (dctQ C) (kN J)).isSome) = true := e
          rw [dctQ_in, decide_eq_true (hmet.mpr z)] at e
          cases e
        have hat := kTo_at (n := n) (m := m) hJ hrep
        obtain ⟨c, ec⟩ : ∃ c, c = (kTo n m A j).length := ⟨_, rfl⟩
        rw [← ec] at hat hC
        refine ⟨⟨_, .inl rfl⟩, _, .inl rfl, _, .inl rfl, rfl, _, rfl, ⟨by omega, by rw [hhl]; omega⟩, ?_⟩
        rw [hhl]
        refine ⟨fun i env t2 => t2 = t' ∧ ∃ O s4, env = [.fz (.lst hs), .ow (.dT (dctQ (C ++ O.map fun K => (K, c)))), .ow (.lst (tnD (kTo n m A j))), .fz (.tup (nsD J)), s4] ∧ O.Nodup ∧ ∀ L, L ∈ O ↔ ∃ g, g < i ∧ Led n m J g L, ⟨rfl, [], _, by rw [List.map_nil, List.append_nil]; rfl, by simp, fun L => ⟨fun z => (by cases z), fun ⟨g, hg, _⟩ => absurd hg (Nat.not_lt_zero g)⟩⟩, fun i x env t2 hx hP => ?_, fun env t2 hP => ?_⟩
        · obtain ⟨rfl, O, s4, rfl, nd, mem⟩ := hP
          obtain ⟨rfl, hi⟩ := rngD_get0 hx
          have hi : i < n := by have : i < ((n : Nat) : Int).toNat := hi; omega
          have hcl : (tnD (kTo n m A j)).length = c := by rw [tnD_len, ec]
          refine ⟨⟨_, .inr ⟨_, rfl, rfl⟩⟩, _, .inr ⟨_, rfl, rfl⟩, _, .inl rfl, rfl, .inr ⟨_, rfl⟩, _, rfl, _, rfl, _, rfl, n, m, J, i, by rw [eho]; rfl, hH, hn, sJ, hi, fun l hl => .inr ⟨_, kN l, rfl, tup_key l, hCl ?_ ?_, ?_⟩⟩
          · rw [List.map_append, List.map_map, show (O.map ((fun q : List Nat × Nat => q.1) ∘ fun K => (K, c))) = O from List.map_id' O, List.nodup_append]
            exact ⟨hC.nd, nd, fun a ha b hb e => by
              obtain ⟨g, hg, L⟩ := (mem b).mp hb
              exact hC.apart hH hkk hat (by omega) L (e ▸ ha)⟩
          · intro K hK
            rw [List.map_append, List.map_map, show (O.map ((fun q : List Nat × Nat => q.1) ∘ fun K => (K, c))) = O from List.map_id' O] at hK
            rcases List.mem_append.mp hK with z | z
            · exact hC.sub hH hkk z
            · obtain ⟨g, hg, L⟩ := (mem K).mp z
              exact L.sub hH sJ (by omega)
          · refine ⟨rfl, if l ∈ O then O else O ++ [l], .fz (nD i), ?_, ?_, fun L => ?_⟩
            · rw [← dctQ_put (hC.apart hH hkk hat hi hl), ← hcl]
              rfl
            · split
              · exact nd
              · rename_i z
                rw [List.nodup_append]
                exact ⟨nd, by simp, fun a ha b hb e => z (by rw [List.mem_singleton] at hb; rw [← hb, ← e]; exact ha)⟩
            · have hstep : (∃ g, g < i + 1 ∧ Led n m J g L) ↔ (L ∈ O ∨ L = l) := by
                rw [mem]
                constructor
                · rintro ⟨g, hg, w⟩
                  rcases Nat.lt_or_ge g i with z | z
                  · exact .inl ⟨g, z, w⟩
                  · have : g = i := by omega
                    subst this
                    exact .inr (w.uniq hH sJ hi hl)
                · rintro (⟨g, hg, w⟩ | rfl)
                  · exact ⟨g, by omega, w⟩
                  · exact ⟨i, by omega, hl⟩
              rw [hstep]
              split
              · rename_i z
                exact ⟨.inl, fun w => w.elim id fun w => w ▸ z⟩
              · rw [List.mem_append, List.mem_singleton]
        · obtain ⟨rfl, O, s4, rfl, nd, mem⟩ := hP
          rw [rngD_len, Int.toNat_natCast] at mem
          have hkl : (kTo n m A j).length ≤ 2400 := Nat.le_trans (List.length_filter_le _ _) (Nat.le_trans (by rw [List.length_take]; omega) hAl)
          have es := kTo_succ (n := n) (m := m) hJ
          rw [if_pos hrep] at es
          refine ⟨⟨_, rfl⟩, _, rfl, _, rfl, _, rfl, by rw [tnD_len]; omega, rfl, C ++ O.map fun K => (K, c), .fz (.tup (nsD J)), s4, ?_, ?_⟩
          · rw [tnD_snoc, ← es]
            rfl
          · rw [es, List.length_append, List.length_singleton, ← ec]
            exact hC.add hH hkk hat nd mem
      · have hrep : ¬ isRep n m J = true := hmet.mp (by
          have e : (!(valD (dctQ C) (kN J)).isSome) = false := e
          rw [dctQ_in, Bool.not_eq_false', decide_eq_true_iff] at e
          exact e)
        have es := kTo_succ (n := n) (m := m) hJ
        rw [if_neg hrep, List.append_nil] at es
        rw [← es] at hC
        exact ⟨rfl, C, _, _, by rw [es]; rfl, hC⟩
    · obtain ⟨rfl, C, s3, s4, rfl, hC⟩ := hP
      have ek : kTo n m A A.length = A.filter (isRep n m) := by unfold kTo; rw [List.take_of_length_le (Nat.le_refl _)]
      rw [tnD_len, ek] at hC
      rw [tnD_len, ek]
      exact ⟨_, rfl, _, rfl, (by decide : 2 ≤ 5000), q _ C hkk hC⟩
end
end K39
namespace VL
open PySem PySem.Spec PyProof.Rows L2 HM
end VL
namespace VL
open PySem PySem.Spec PyProof.Rows L2 HM
theorem valD_putD {κ : Type} [DecidableEq κ] (kvs : List (κ × Dt)) (k k' : κ) (v : Dt) : valD (putD kvs k v) k' = if k' = k then some v else valD kvs k' := by
  unfold putD
  by_cases h : (kvs.any fun p => decide (p.1 = k)) = true
  · rw [if_pos h]
    induction kvs with
    | nil => cases h
    | cons p r ih =>
      rw [List.map_cons]
      unfold valD at ih ⊢
      by_cases hp : p.1 = k
      · rw [if_pos hp]
        by_cases hk : k' = k
        · subst hk
          rw [List.find?_cons_of_pos (by simpa using hp), if_pos rfl]
          rfl
        · rw [List.find?_cons_of_neg (by simpa [hp] using fun z => hk z.symm), if_neg hk, List.find?_cons_of_neg (by simpa [hp] using fun z => hk z.symm)]
          by_cases hr : (r.any fun p => decide (p.1 = k)) = true
          · rw [ih hr, if_neg hk]
          · congr 1
            rw [show (r.map fun p => if p.1 = k then (p.1, v) else p) = r from (List.map_congr_left fun q hq => if_neg fun z => hr (List.any_eq_true.mpr ⟨q, hq, by simpa using z⟩)).trans (List.map_id _)]
      · rw [if_neg hp]
        have hr : (r.any fun p => decide (p.1 = k)) = true := by
          rw [List.any_cons] at h
          simpa [hp] using h
        by_cases hk : p.1 = k'
        · rw [List.find?_cons_of_pos (by simpa using hk), List.find?_cons_of_pos (by simpa using hk), if_neg (fun z => hp (hk.trans z))]
        · rw [List.find?_cons_of_neg (by simpa using hk), ih hr, List.find?_cons_of_neg (by simpa using hk)]
  · rw [if_neg h]
    unfold valD
    rw [List.find?_append]
    by_cases hk : k' = k
    · subst hk
      rw [if_pos rfl]
      have : kvs.find? (fun kv => decide (kv.1 = k')) = none := List.find?_eq_none.mpr fun q hq z => h (List.any_eq_true.mpr ⟨q, hq, z⟩)
      rw [this]
      simp
    · rw [if_neg hk]
      cases e : kvs.find? (fun kv => decide (kv.1 = k')) with
      | none =>
        simp
        exact fun z => hk z.symm
      | some q => rfl
theorem putD_keys {κ : Type} [DecidableEq κ] (kvs : List (κ × Dt)) (k : κ) (v : Dt) : (putD kvs k v).map (·.1) = if k ∈ kvs.map (·.1) then kvs.map (·.1) else kvs.map (·.1) ++ [k] := by
  by_cases h : k ∈ kvs.map (·.1)
  · rw [if_pos h]
    unfold putD
    obtain ⟨p, hp, e⟩ := List.mem_map.mp h
    rw [if_pos (List.any_eq_true.mpr ⟨p, hp, decide_eq_true e⟩), List.map_map]
    refine List.map_congr_left fun q _ => ?_
    show (if q.1 = k then (q.1, v) else q).1 = q.1
    by_cases z : q.1 = k
    · rw [if_pos z]
    · rw [if_neg z]
  · rw [if_neg h, putD_new h, List.map_append]
    rfl
def Dk (n : Nat) (l : List Int) (kvs : List (Key × Dt)) : Prop := ∃ fs : List Nat, kvs.map (·.1) = fs.map (fun i : Nat => (Sum.inl (i : Int) : Key)) ∧ fs.Nodup ∧ (∀ f ∈ fs, f < n) ∧ ∀ x, x < n → ∀ v, l[x]? = some v → valD kvs (Sum.inl (x : Int)) = if v < 0 then none else some (.int v)
section
variable {n : Nat} {l : List Int} {kvs : List (Key × Dt)}
theorem Dk.start : Dk n (List.replicate n (-1)) [] := ⟨[], rfl, List.nodup_nil, fun f h => absurd h List.not_mem_nil, fun x hx v hv => by
  rw [List.getElem?_replicate, if_pos hx] at hv
  cases hv
  rfl⟩
theorem Dk.len (d : Dk n l kvs) : kvs.length ≤ n := by
  obtain ⟨fs, h1, h2, h3, _⟩ := d
  have := congrArg List.length h1
  rw [List.length_map, List.length_map] at this
  rw [this]
  exact few_of_nodup h2 h3
theorem Dk.put (d : Dk n l kvs) {y : Nat} (hy : y < n) {v : Int} (hv : 0 ≤ v) : Dk n (l.set y v) (putD kvs (Sum.inl (y : Int)) (.int v)) := by
  obtain ⟨fs, h1, h2, h3, h4⟩ := d
  have val : ∀ x, x < n → ∀ u, (l.set y v)[x]? = some u → valD (putD kvs (Sum.inl (y : Int)) (.int v)) (Sum.inl (x : Int)) = if u < 0 then none else some (.int u) := fun x hx u hu => by
    rw [valD_putD]
    by_cases z : y = x
    · subst z
      rw [if_pos rfl]
      rw [List.getElem?_set] at hu
      split at hu
      · split at hu
        · cases hu
          rw [if_neg (by omega)]
        · cases hu
      · rename_i z; exact absurd rfl z
    · rw [if_neg (fun w => z (by have := Sum.inl.inj w; omega))]
      rw [List.getElem?_set_ne z] at hu
      exact h4 x hx u hu
  by_cases hin : y ∈ fs
  · exact ⟨fs, by rw [putD_keys, if_pos (by rw [h1, keyN_mem]; exact hin)]; exact h1, h2, h3, val⟩
  · refine ⟨fs ++ [y], by rw [putD_keys, if_neg (by rw [h1, keyN_mem]; exact hin), h1, List.map_append]; rfl, ?_, fun f hf => ?_, val⟩
    · rw [List.nodup_append]
      exact ⟨h2, List.pairwise_singleton .., fun a ha b hb z => hin (by rw [List.mem_singleton.mp hb] at z; rw [← z]; exact ha)⟩
    · rcases List.mem_append.mp hf with hf | hf
      · exact h3 f hf
      · rw [List.mem_singleton.mp hf]; exact hy
end
end VL
namespace VL
open PySem PySem.Spec PyProof.Rows L2 HM
def p2 (a b : Nat) : Nat := 2 ^ a * (2 * b + 1)
abbrev Kn := List (List Nat × Nat)
def kD (kn : Kn) : List (List Nat × Dt) := kn.map fun p => (p.1, nD p.2)
def knL (kn : Kn) (K : List Nat) : Option Dt := valD (kD kn) K
def knV (kn : Kn) : List (List Key × V) := kn.map fun p => (kN p.1, V.int (p.2 : Int))
def putN (kn : Kn) (K : List Nat) (x : Nat) : Kn := if (kn.any fun p => decide (p.1 = K)) = true then kn.map (fun p => if p.1 = K then (p.1, x) else p) else kn ++ [(K, x)]
theorem any_knV {κ : Type} [DecidableEq κ] {β : Type} (f : Nat → β) (g : List Nat → κ) (hg : ∀ a b, g a = g b → a = b) (K : List Nat) : ∀ kn : Kn, ((kn.map fun p => (g p.1, f p.2)).any fun q => decide (q.1 = g K)) = kn.any fun p => decide (p.1 = K)
  | [] => rfl
  | p :: r => by
    rw [List.map_cons, List.any_cons, List.any_cons, any_knV f g hg K r]
    congr 1
    exact decide_eq_decide.mpr ⟨fun h => hg _ _ h, fun h => by rw [h]⟩
theorem kD_put (kn : Kn) (K : List Nat) (x : Nat) : kD (putN kn K x) = putD (kD kn) K (nD x) := by
  unfold putN putD kD
  rw [show ((kn.map fun p => (p.1, nD p.2)).any fun q => decide (q.1 = K)) = kn.any fun p => decide (p.1 = K) from any_knV nD id (fun _ _ h => h) K kn]
  by_cases h : (kn.any fun p => decide (p.1 = K)) = true
  · rw [if_pos h, if_pos h, List.map_map, List.map_map]
    refine List.map_congr_left fun p hp => ?_
    show ((if p.1 = K then (p.1, x) else p).1, nD (if p.1 = K then (p.1, x) else p).2) = if p.1 = K then (p.1, nD x) else (p.1, nD p.2)
    by_cases e : p.1 = K
    · rw [if_pos e, if_pos e]
    · rw [if_neg e, if_neg e]
  · rw [if_neg h, if_neg h, List.map_append]
    rfl
theorem knL_put (kn : Kn) (K K' : List Nat) (x : Nat) : knL (putN kn K x) K' = if K' = K then some (nD x) else knL kn K' := by
  unfold knL
  rw [kD_put, valD_putD]
theorem put_nd {kn : Kn} {K : List Nat} {x : Nat} (h : (kn.map (·.1)).Nodup) : ((putN kn K x).map (·.1)).Nodup := by
  unfold putN
  by_cases e : (kn.any fun p => decide (p.1 = K)) = true
  · rw [if_pos e, List.map_map]
    have : kn.map ((·.1) ∘ fun p => if p.1 = K then (p.1, x) else p) = kn.map (·.1) := List.map_congr_left fun p _ => by
      show (if p.1 = K then (p.1, x) else p).1 = p.1
      by_cases z : p.1 = K
      · rw [if_pos z]
      · rw [if_neg z]
    rw [this]
    exact h
  · rw [if_neg e, List.map_append, List.nodup_append]
    refine ⟨h, by simp, fun a ha b hb z => e ?_⟩
    have hb : b = K := by simpa using hb
    obtain ⟨p, hp, rfl⟩ := List.mem_map.mp ha
    exact List.any_eq_true.mpr ⟨p, hp, by simp [z, hb]⟩
theorem put_mem {kn : Kn} {K : List Nat} {x : Nat} {p : List Nat × Nat} (h : p ∈ putN kn K x) : p ∈ kn ∨ p.1 = K := by
  unfold putN at h
  by_cases e : (kn.any fun p => decide (p.1 = K)) = true
  · rw [if_pos e] at h
    obtain ⟨q, hq, rfl⟩ := List.mem_map.mp h
    by_cases z : q.1 = K
    · rw [if_pos z]; exact .inr z
    · rw [if_neg z]; exact .inl hq
  · rw [if_neg e] at h
    rcases List.mem_append.mp h with h | h
    · exact .inl h
    · rw [List.mem_singleton.mp h]; exact .inr rfl
/-- K is of the kind at place i -/
def OfK (n : Nat) (m : Nat → Nat → Nat) (ks : List (List Nat)) (K : List Nat) (i : Nat) : Prop := ∃ K0, ks[i]? = some K0 ∧ ∃ g, g < n ∧ Led n m K0 g K
structure KnOk (n : Nat) (m : Nat → Nat → Nat) (ks : List (List Nat)) (kn : Kn) : Prop where
  nd : (kn.map (·.1)).Nodup
  sub : ∀ p ∈ kn, Sub n m p.1
  ok : ∀ K x, knL kn K = some x → ∃ i, x = nD i ∧ OfK n m ks K i
  all : ∀ K ∈ ks, (knL kn K).isSome = true
section
variable {n : Nat} {m : Nat → Nat → Nat} {ks : List (List Nat)} {kn : Kn} {K : List Nat} {i j : Nat}
theorem KnOk.len (h : Hse n m) (h60 : n ≤ 60) (k : KnOk n m ks kn) : kn.length ≤ 2400 := by
  have := few_subs h h60 k.nd fun H hH => by
    obtain ⟨p, hp, rfl⟩ := List.mem_map.mp hH
    exact k.sub p hp
  rwa [List.length_map] at this
theorem KnOk.put (k : KnOk n m ks kn) (s : Sub n m K) (o : OfK n m ks K i) : KnOk n m ks (putN kn K i) := by
  refine ⟨put_nd k.nd, fun p hp => ?_, fun K' x e => ?_, fun K' hK' => ?_⟩
  · rcases put_mem hp with hp | hp
    · exact k.sub p hp
    · rw [hp]; exact s
  · rw [knL_put] at e
    by_cases z : K' = K
    · rw [if_pos z] at e
      cases e
      exact ⟨i, rfl, by rw [z]; exact o⟩
    · rw [if_neg z] at e
      exact k.ok K' x e
  · rw [knL_put]
    by_cases z : K' = K
    · rw [if_pos z]; rfl
    · rw [if_neg z]; exact k.all K' hK'
theorem OfK.uniq (h : Hse n m) (k : IsKinds n m ks) (a : OfK n m ks K i) (b : OfK n m ks K j) : i = j := by
  obtain ⟨K0, h0, g, hg, L0⟩ := a
  obtain ⟨K1, h1, g1, hg1, L1⟩ := b
  have m0 := List.mem_of_getElem? h0
  have m1 := List.mem_of_getElem? h1
  have s0 := k.sub K0 m0
  have s1 := k.sub K1 m1
  obtain ⟨b1, hb1, e1, e2⟩ := h.inv2 hg1
  have L2 := L1.back h s1 hg1 hb1 e1
  have L3 := L0.then_ h s0 hg hb1 L2
  have e := k.one K0 m0 K1 m1 _ (h.lt g b1 hg hb1) L3
  subst e
  have hi := (List.getElem?_eq_some_iff.mp h0)
  have hj := (List.getElem?_eq_some_iff.mp h1)
  obtain ⟨hi, ei⟩ := hi
  obtain ⟨hj, ej⟩ := hj
  exact (List.getElem_inj (h₀ := hi) (h₁ := hj) k.nd).mp (ei.trans ej.symm)
theorem OfK.led (h : Hse n m) (k : IsKinds n m ks) (a : OfK n m ks K i) {g : Nat} (hg : g < n) {K' : List Nat} (L : Led n m K g K') : OfK n m ks K' i := by
  obtain ⟨K0, h0, g0, hg0, L0⟩ := a
  exact ⟨K0, h0, _, h.lt g0 g hg0 hg, L0.then_ h (k.sub K0 (List.mem_of_getElem? h0)) hg0 hg L⟩
end
end VL
namespace VL
open PySem PySem.Spec PyProof.Rows L2 HM
structure FinOk (am : Am) (C a dx kk : Addr) (hn : Nat) (m : Nat → Nat → Nat) (F H : Hp) (kn : Kn) (ls : List (List Nat)) : Prop where
  ex : ∃ vh vl, H a = some (.ins C dx [("house", vh), ("known", .ref kk), ("leaders", vl)]) ∧ Rp F vh (houD hn m) ∧ Rp F vl (.lst (tlD ls))
  own : H dx = some (.own a)
  kn : H kk = some (.dT (knV kn))
  na : ¬ am.sp a
  nx : ¬ am.sp dx
  nk : ¬ am.sp kk
section
variable {am : Am} {C a dx kk : Addr} {hn : Nat} {m : Nat → Nat → Nat} {F F' H H' : Hp} {kn : Kn} {ls : List (List Nat)}
theorem FinOk.up (f : FinOk am C a dx kk hn m F H kn ls) (u : Up F F') (h1 : H' a = H a) (h2 : H' dx = H dx) (h3 : H' kk = H kk) : FinOk am C a dx kk hn m F' H' kn ls := by
  obtain ⟨vh, vl, e, r1, r2⟩ := f.ex
  exact ⟨⟨vh, vl, h1.trans e, r1.up u, r2.up u⟩, h2.trans f.own, h3.trans f.kn, f.na, f.nx, f.nk⟩
end
section
variable {am : Am} {C a dx kk : Addr} {hn : Nat} {m : Nat → Nat → Nat} {ks : List (List Nat)} {F H F' H' : Hp} {n n' : Nat} {P : Addr}
/-- behind a call that knows of no finder -/
theorem Out.keep {kn : Kn} {ls : List (List Nat)} (o : Out am F H F' H' n') (f : FinOk am C a dx kk hn m F H kn ls) : FinOk am C a dx kk hn m F' H' kn ls := by
  obtain ⟨vh, vl, e, r1, r2⟩ := f.ex
  exact f.up o.u ((o.k _ _ e f.na).trans e.symm) ((o.k _ _ f.own f.nx).trans f.own.symm) ((o.k _ _ f.kn f.nk).trans f.kn.symm)
end
end VL
namespace VL
open PySem PySem.Spec PyProof.Rows L2 HM
end VL
namespace VL
open PySem PySem.Spec PyProof.Rows L2 HM
end VL
namespace VL
open PySem PySem.Spec PyProof.Rows L2 HM
def enc (c : Nat) (f : Nat → Nat) : Nat → Nat
  | 0 => 0
  | N + 1 => enc c f N * c + f N
end VL
namespace VL
open PySem PySem.Spec PyProof.Rows L2 HM
end VL
namespace VL
open PySem PySem.Spec PyProof.Rows L2 HM
end VL
namespace VL
open PySem PySem.Spec PyProof.Rows L2 HM
end VL
namespace VL
open PySem PySem.Spec PyProof.Rows L2 HM
end VL
namespace VL
open PySem PySem.Spec PyProof.Rows L2 HM
end VL
namespace VL
open PySem PySem.Spec PyProof.Rows L2 HM HG
theorem OfK.lt {n : Nat} {m : Nat → Nat → Nat} {ks : List (List Nat)} {K : List Nat} {i : Nat} (o : OfK n m ks K i) : i < ks.length := by
  obtain ⟨K0, e, _⟩ := o
  exact (List.getElem?_eq_some_iff.mp e).1
def kI1 (x : Nat) : Key := .inl (x : Int)
theorem kI1_inj {a b : Nat} (h : kI1 a = kI1 b) : a = b := by
  unfold kI1 at h
  injection h with h
  exact Int.ofNat_inj.mp h
end VL
namespace VL
open PySem PySem.Spec PyProof.Rows L2 HM HG
end VL
namespace VL
open PySem PySem.Spec PyProof.Rows L2 HM HG
end VL
namespace VL
open PySem PySem.Spec PyProof.Rows L2 HM HG
end VL
namespace VL
open PySem PySem.Spec PyProof.Rows L2 HM HG
end VL
namespace VL
open PySem PySem.Spec PyProof.Rows L2 HM HG
end VL
namespace VL
open PySem PySem.Spec PyProof.Rows L2 HM
/-- a method of the text as the top has left it -/
structure MthAt (K : PySem.W.Frag) (C : Addr) (x qual : Str) (st : Stmt) (f : Addr) (oc : Value) (od : Option Addr) (kV doc pm : Value) (an : Option Addr) (cdv ct : Value) (sl : Array (Option Value)) : Prop where
  a : PySem.W.findIn K (.ref C) x = some (some (.ref f))
  t : PySem.W.isFn K (.ref f) = true
  l : K.lookup f = some ⟨oc, od, .func (PySem.W.fnOf x qual (defArgs st) (defBody st) (defScope st) .none kV doc pm an cdv ct), sl⟩
  c : PySem.W.codeIn K cdv qual = true
  k : PySem.W.keepIn K (.ref f) = true
section
variable {K : PySem.W.Frag} {C : Addr} {x qual : Str} {st : Stmt} {f : Addr} {oc : Value} {od : Option Addr} {kV doc pm : Value} {an : Option Addr} {cdv ct : Value} {sl : Array (Option Value)}
theorem MthAt.fn (D : MthAt K C x qual st f oc od kV doc pm an cdv ct sl) : Fun K x qual st f (PySem.W.fnOf x qual (defArgs st) (defBody st) (defScope st) .none kV doc pm an cdv ct) := fun_mk D.l D.c D.k
/-- the finder's class as the top has left it -/
structure ClsAt (K : PySem.W.Frag) (C : Addr) : Prop where
  pg : PySem.W.plainGet K C Str.empty = true
  hd : PySem.W.hasDictIn K C = true
  po : PySem.W.plainOver K C = true
  sa : PySem.W.findIn K (.ref C) "__setattr__" = some (some (.builtin "object.__setattr__"))
  h : PySem.W.findIn K (.ref C) "house" = some none
  k : PySem.W.findIn K (.ref C) "known" = some none
  l : PySem.W.findIn K (.ref C) "leaders" = some none
  mks : PySem.W.makesIn K C = true
  kp : PySem.W.keepIn K (.ref C) = true
theorem ClsAt.make (A : ClsAt K C) (D : MthAt K C "__init__" qual st f oc od kV doc pm an cdv ct sl) : Mk K C f := ⟨A.mks, D.a, D.t, A.kp⟩
end
end VL
namespace VL
open PySem PySem.Spec PyProof.Rows L2 HM HG
/-- a dict by numbers, as the set of its keys -/
structure DkS (n : Nat) (fs : List Nat) (kvs : List (Key × Dt)) : Prop where
  keys : kvs.map (·.1) = fs.map kI1
  nd : fs.Nodup
  lt : ∀ f ∈ fs, f < n
section
variable {n y : Nat} {fs : List Nat} {kvs : List (Key × Dt)} {d : Dt}
theorem kI1_mem : kI1 y ∈ fs.map kI1 ↔ y ∈ fs := by
  rw [List.mem_map]
  exact ⟨fun ⟨x, hx, e⟩ => by rw [← kI1_inj e]; exact hx, fun h => ⟨y, h, rfl⟩⟩
theorem DkS.len (k : DkS n fs kvs) : kvs.length ≤ n := by
  have := congrArg List.length k.keys
  rw [List.length_map, List.length_map] at this
  rw [this]
  exact few_of_nodup k.nd k.lt
theorem DkS.has (k : DkS n fs kvs) : (valD kvs (kI1 y)).isSome = decide (y ∈ fs) := by
  rw [valD_some, k.keys]
  exact decide_eq_decide.mpr kI1_mem
theorem DkS.put (k : DkS n fs kvs) (hy : y < n) : DkS n (if y ∈ fs then fs else fs ++ [y]) (putD kvs (kI1 y) d) := by
  by_cases h : y ∈ fs
  · rw [if_pos h]
    exact ⟨by rw [putD_keys, if_pos (by rw [k.keys]; exact kI1_mem.mpr h)]; exact k.keys, k.nd, k.lt⟩
  · rw [if_neg h]
    refine ⟨by rw [putD_keys, if_neg (by rw [k.keys]; exact fun z => h (kI1_mem.mp z)), k.keys, List.map_append]; rfl, ?_, fun f hf => ?_⟩
    · rw [List.nodup_append]
      exact ⟨k.nd, List.pairwise_singleton .., fun a ha b hb z => h (by rw [List.mem_singleton.mp hb] at z; rw [← z]; exact ha)⟩
    · rcases List.mem_append.mp hf with hf | hf
      · exact k.lt f hf
      · rw [List.mem_singleton.mp hf]; exact hy
end
end VL
namespace VL
open PySem PySem.Spec PyProof.Rows L2 HM HG
end VL
namespace VL
open PySem PySem.Spec PyProof.Rows L2 HM HG
end VL
namespace VL
open PySem PySem.Spec PyProof.Rows L2 HM HG
end VL
namespace VL
open PySem PySem.Spec PyProof.Rows L2 HM HG
end VL
namespace VL
open PySem PySem.Spec PyProof.Rows L2 HM HG
theorem pm_ind (T : Nat → Nat → Nat) (i l : Nat) : ∀ r, pm T (fun k => if k = i then 1 else 0) r l = if i < r then (T i l : Int) else 0
  | 0 => by rw [if_neg (Nat.not_lt_zero i)]; rfl
  | r + 1 => by
    show pm T _ r l + (if r = i then (1 : Int) else 0) * (T r l : Int) = _
    rw [pm_ind T i l r]
    by_cases z : r = i
    · rw [if_pos z, if_neg (by omega), if_pos (by omega), z]; omega
    · rw [if_neg z]
      by_cases w : i < r
      · rw [if_pos w, if_pos (by omega)]; omega
      · rw [if_neg w, if_neg (by omega)]; omega
end VL
namespace VL
open PySem PySem.Spec PyProof.Rows L2 HM HG
/-- g taken i times -/
def pwH (m : Nat → Nat → Nat) (g : Nat) : Nat → Nat
  | 0 => 0
  | i + 1 => m (pwH m g i) g
theorem pwH_lt {n : Nat} {m : Nat → Nat → Nat} (h : Hse n m) {g : Nat} (hg : g < n) : ∀ i, pwH m g i < n
  | 0 => h.pos
  | i + 1 => h.lt _ _ (pwH_lt h hg i) hg
end VL
namespace VL
open PySem PySem.Spec PyProof.Rows L2 HM HG
section
variable {n : Nat} {m : Nat → Nat → Nat} {L : List Nat} {g : Nat}
theorem pwH_add (h : Hse n m) (hg : g < n) (i : Nat) : ∀ j, pwH m g (i + j) = m (pwH m g i) (pwH m g j)
  | 0 => (h.zr _ (pwH_lt h hg i)).symm
  | j + 1 => by
    show m (pwH m g (i + j)) g = m (pwH m g i) (m (pwH m g j) g)
    rw [pwH_add h hg i j, h.as _ _ g (pwH_lt h hg i) (pwH_lt h hg j) hg]
theorem pwH_back (h : Hse n m) (hg : g < n) : ∃ r, 0 < r ∧ r ≤ n ∧ pwH m g r = 0 := by
  refine Classical.byContradiction fun no => ?_
  have nd : ((List.range (n + 1)).map (pwH m g)).Nodup := List.pairwise_map.mpr (List.Pairwise.imp_of_mem (fun {a b} ha hb hab e => ?_) List.pairwise_lt_range)
  · have := few_of_nodup (n := n) nd fun x hx => by
      obtain ⟨i, _, rfl⟩ := List.mem_map.mp hx
      exact pwH_lt h hg i
    rw [List.length_map, List.length_range] at this
    omega
  · have hb := List.mem_range.mp hb
    have e2 := pwH_add h hg (b - a) a
    rw [show b - a + a = b by omega, ← e] at e2
    refine no ⟨b - a, by omega, by omega, ?_⟩
    have ha' := pwH_lt h hg a
    refine (h.rc h.pos (pwH_lt h hg (b - a)) ha' ?_).symm
    rw [h.zl _ ha', ← e2]
/-- the first power of g in L -/
theorem pwH_least (h : Hse n m) (s : Sub n m L) (hg : g < n) : ∃ r, 0 < r ∧ r ≤ n ∧ (∀ i, 0 < i → i < r → pwH m g i ∉ L) ∧ pwH m g r ∈ L := by
  classical
  obtain ⟨r0, h1, h2, h3⟩ := pwH_back h hg
  have ex : ∀ k, (∃ r, 0 < r ∧ r ≤ k ∧ pwH m g r ∈ L) → ∃ r, 0 < r ∧ r ≤ k ∧ (∀ i, 0 < i → i < r → pwH m g i ∉ L) ∧ pwH m g r ∈ L := fun k => by
    induction k with
    | zero => rintro ⟨r, a, b, _⟩; omega
    | succ k ih =>
      rintro ⟨r, a, b, c⟩
      by_cases z : ∃ r, 0 < r ∧ r ≤ k ∧ pwH m g r ∈ L
      · obtain ⟨r, a, b, c, d⟩ := ih z
        exact ⟨r, a, by omega, c, d⟩
      · refine ⟨r, a, b, fun i i0 ir w => z ⟨i, i0, by omega, w⟩, c⟩
  obtain ⟨r, a, b, c, d⟩ := ex n ⟨r0, h1, h2, by rw [h3]; exact s.ze⟩
  exact ⟨r, a, b, c, d⟩
end
end VL
namespace VL
open PySem PySem.Spec PyProof.Rows L2 HM HG
/-- G is made of L and the powers of g, a number that leads L to itself; r is the least power in L -/
structure Grw (n : Nat) (m : Nat → Nat → Nat) (L : List Nat) (g r : Nat) (G : List Nat) : Prop where
  lt : g < n
  st : phi m L L g = true
  pos : 0 < r
  out : ∀ i, 0 < i → i < r → pwH m g i ∉ L
  ind : pwH m g r ∈ L
  up : G.Pairwise (· < ·)
  mem : ∀ y, y ∈ G ↔ ∃ i l, l ∈ L ∧ m l (pwH m g i) = y
/-- all of these, each once, with how many shares make it -/
structure GrwAll (n : Nat) (m : Nat → Nat → Nat) (L : List Nat) (Gs : List (List Nat × Nat)) : Prop where
  all : ∀ p ∈ Gs, ∃ g r, Grw n m L g r p.1 ∧ p.2 = ((List.range r).filter fun i => decide (Nat.gcd (i + 1) r = 1)).length
  has : ∀ g r G, Grw n m L g r G → ∃ k, (G, k) ∈ Gs
  one : (Gs.map (·.1)).Nodup
end VL
namespace VL
open PySem PySem.Spec PyProof.Rows L2 HM HG
section
variable {n : Nat} {m : Nat → Nat → Nat} {L G : List Nat} {g r : Nat}
theorem pwH_pass (h : Hse n m) (s : Sub n m L) (hg : g < n) (st : phi m L L g = true) : ∀ i {k : Nat}, k ∈ L → ∃ x ∈ L, m x (pwH m g i) = m (pwH m g i) k
  | 0, k, hk => ⟨k, hk, by show m k 0 = m 0 k; rw [h.zr k (s.lt k hk), h.zl k (s.lt k hk)]⟩
  | i + 1, k, hk => by
    obtain ⟨x, hx, e⟩ := (phi_iff h s s.lt hg).mp st k hk
    obtain ⟨y, hy, e2⟩ := pwH_pass h s hg st i hx
    have hp := pwH_lt h hg i
    have kn := s.lt k hk
    have xn := s.lt x hx
    have yn := s.lt y hy
    refine ⟨y, hy, ?_⟩
    show m y (m (pwH m g i) g) = m (m (pwH m g i) g) k
    rw [← h.as y _ g yn hp hg, e2, h.as _ x g hp xn hg, e, ← h.as _ g k hp hg kn]
theorem Grw.sub (h : Hse n m) (s : Sub n m L) (w : Grw n m L g r G) : Sub n m G := by
  refine ⟨w.up, fun y hy => ?_, (w.mem 0).mpr ⟨0, 0, s.ze, h.zl 0 h.pos⟩, fun y hy z hz => ?_⟩
  · obtain ⟨i, l, hl, rfl⟩ := (w.mem y).mp hy
    exact h.lt _ _ (s.lt l hl) (pwH_lt h w.lt i)
  · obtain ⟨i, l, hl, rfl⟩ := (w.mem y).mp hy
    obtain ⟨j, k, hk, rfl⟩ := (w.mem z).mp hz
    obtain ⟨x, hx, e⟩ := pwH_pass h s w.lt w.st i hk
    have hi := pwH_lt h w.lt i
    have hj := pwH_lt h w.lt j
    have ln := s.lt l hl
    have kn := s.lt k hk
    have xn := s.lt x hx
    refine (w.mem _).mpr ⟨i + j, m l x, s.mul l hl x hx, ?_⟩
    rw [pwH_add h w.lt i j, ← h.as (m l x) _ _ (h.lt l x ln xn) hi hj, h.as l x _ ln xn hi, e, ← h.as l _ k ln hi kn, h.as (m l (pwH m g i)) k _ (h.lt _ _ ln hi) kn hj]
theorem Grw.has (h : Hse n m) (s : Sub n m L) (w : Grw n m L g r G) : ∀ l ∈ L, l ∈ G := fun l hl => (w.mem l).mpr ⟨0, l, hl, h.zr l (s.lt l hl)⟩
end
end VL
namespace VL
open PySem PySem.Spec PyProof.Rows L2 HM HG
theorem bezI (a b : Nat) : ∃ x y : Int, (a : Int) * x + b * y = (Nat.gcd a b : Nat) := by
  induction a, b using Nat.gcd.induction with
  | H0 n => exact ⟨0, 1, by rw [Nat.gcd_zero_left]; omega⟩
  | H1 c d hc ih =>
    obtain ⟨x, y, e⟩ := ih
    refine ⟨y - (d / c : Nat) * x, x, ?_⟩
    rw [Nat.gcd_rec c d, ← e]
    have : ((d % c : Nat) : Int) = (d : Int) - c * (d / c : Nat) := by
      have h1 := Nat.div_add_mod d c
      have h2 : ((c * (d / c) + d % c : Nat) : Int) = (d : Int) := congrArg _ h1
      rw [Int.natCast_add, Int.natCast_mul] at h2
      omega
    rw [this, Int.mul_sub, Int.sub_mul, Int.mul_assoc]
    omega
theorem bezN {j r : Nat} (j0 : 0 < j) (r0 : 0 < r) (e : Nat.gcd j r = 1) : ∃ a b, j * a = 1 + r * b := by
  rcases Nat.lt_or_ge r 2 with z | z
  · have : r = 1 := by omega
    subst this
    exact ⟨1, j - 1, by omega⟩
  · obtain ⟨x, y, h⟩ := bezI j r
    rw [e] at h
    have hr : (0 : Int) < r := by omega
    have p0 := Int.emod_nonneg x (show (r : Int) ≠ 0 by omega)
    have e1 := Int.mul_ediv_add_emod x r
    obtain ⟨a, ha⟩ := Int.eq_ofNat_of_zero_le p0
    have key : (j : Int) * a = 1 + r * (-y - j * (x / r)) := by
      have e2 : x = r * (x / r) + a := by rw [← ha]; exact e1.symm
      generalize x / (r : Int) = q at e2 ⊢
      subst e2
      rw [Int.mul_add, ← Int.mul_assoc, Int.mul_comm (j : Int) r, Int.mul_assoc] at h
      rw [Int.mul_sub, Int.mul_neg]
      have h1 : ((1 : Nat) : Int) = 1 := rfl
      omega
    have b0 : 0 ≤ -y - j * (x / r) := by
      generalize -y - (j : Int) * (x / r) = b at key ⊢
      have h1 : (0 : Int) ≤ j * a := Int.mul_nonneg (by omega) (by omega)
      rcases (show b < 0 ∨ 0 ≤ b by omega) with w | w
      · have : (r : Int) * b ≤ r * (-1) := Int.mul_le_mul_of_nonneg_left (by omega) (by omega)
        omega
      · exact w
    obtain ⟨b, hb⟩ := Int.eq_ofNat_of_zero_le b0
    rw [hb] at key
    refine ⟨a, b, ?_⟩
    have : ((j * a : Nat) : Int) = ((1 + r * b : Nat) : Int) := by
      rw [Int.natCast_add, Int.natCast_mul, Int.natCast_mul, key]
      rfl
    exact Int.ofNat.inj this
section
variable {n : Nat} {m : Nat → Nat → Nat} {L G : List Nat} {g r : Nat}
theorem Sub.mul_in (h : Hse n m) (s : Sub n m L) {l x : Nat} (hl : l ∈ L) (hx : x < n) : m l x ∈ L ↔ x ∈ L := by
  refine ⟨fun w => ?_, s.mul l hl x⟩
  obtain ⟨y, hy, _, e⟩ := s.inv h hl
  have := s.mul y hy _ w
  rwa [← h.as y l x (s.lt y hy) (s.lt l hl) hx, e, h.zl x hx] at this
theorem pwH_in (h : Hse n m) (s : Sub n m L) (hg : g < n) (r0 : 0 < r) (out : ∀ i, 0 < i → i < r → pwH m g i ∉ L) (ind : pwH m g r ∈ L) : ∀ i, pwH m g i ∈ L ↔ r ∣ i := fun i => by
  induction i using Nat.strongRecOn with
  | _ i ih =>
    by_cases z : i < r
    · constructor
      · intro w
        rcases Nat.eq_zero_or_pos i with e | e
        · rw [e]; exact ⟨0, rfl⟩
        · exact absurd w (out i e z)
      · intro w
        have := Nat.eq_zero_of_dvd_of_lt w z
        rw [this]; exact s.ze
    · have e : r + (i - r) = i := by omega
      have ih2 := ih (i - r) (by omega)
      have e2 : pwH m g i = m (pwH m g r) (pwH m g (i - r)) := by rw [← pwH_add h hg r (i - r), e]
      rw [e2, Sub.mul_in h s ind (pwH_lt h hg _), ih2]
      constructor
      · rintro ⟨c, e3⟩
        exact ⟨c + 1, by rw [Nat.mul_succ]; omega⟩
      · rintro ⟨c, e3⟩
        cases c with
        | zero => omega
        | succ c => exact ⟨c, by rw [Nat.mul_succ] at e3; omega⟩
theorem pwH_cls (h : Hse n m) (s : Sub n m L) (hg : g < n) (r0 : 0 < r) (out : ∀ i, 0 < i → i < r → pwH m g i ∉ L) (ind : pwH m g r ∈ L) {i j : Nat} (hij : i ≤ j) : cls m L (pwH m g i) (pwH m g j) ↔ r ∣ j - i := by
  have e : pwH m g j = m (pwH m g (j - i)) (pwH m g i) := by rw [← pwH_add h hg (j - i) i, Nat.sub_add_cancel hij]
  rw [← pwH_in h s hg r0 out ind (j - i)]
  constructor
  · rintro ⟨x, hx, e2⟩
    rw [e] at e2
    rw [← h.rc (s.lt x hx) (pwH_lt h hg _) (pwH_lt h hg _) e2]
    exact hx
  · intro w
    exact ⟨_, w, e.symm⟩
theorem pwH_one (h : Hse n m) (hg : g < n) : pwH m g 1 = g := h.zl g hg
theorem pwH_cls_pow (h : Hse n m) (s : Sub n m L) (hg : g < n) (st : phi m L L g = true) {l j x : Nat} (hl : l ∈ L) (e : m l (pwH m g j) = x) : ∀ i, cls m L (pwH m g (j * i)) (pwH m x i)
  | 0 => s.refl h h.pos
  | i + 1 => by
    obtain ⟨y, hy, e2⟩ := pwH_cls_pow h s hg st hl e i
    obtain ⟨z, hz, e3⟩ := pwH_pass h s hg st (j * i) hl
    refine ⟨m y z, s.mul y hy z hz, ?_⟩
    show m (m y z) (pwH m g (j * i + j)) = m (pwH m x i) x
    rw [pwH_add h hg, ← e2, ← e]
    have yn := s.lt y hy
    have zn := s.lt z hz
    have ln := s.lt l hl
    have p := pwH_lt h hg (j * i)
    have q := pwH_lt h hg j
    generalize pwH m g (j * i) = a at *
    generalize pwH m g j = b at *
    rw [h.as y z _ yn zn (h.lt _ _ p q), ← h.as z a b zn p q, e3, h.as y a _ yn p (h.lt _ _ ln q), ← h.as a l b p ln q]
theorem Grw.ex (h : Hse n m) (s : Sub n m L) (hg : g < n) (st : phi m L L g = true) : ∃ r G, Grw n m L g r G ∧ r ≤ n := by
  classical
  obtain ⟨r, r0, rn, out, ind⟩ := pwH_least h s hg
  refine ⟨r, (List.range n).filter fun y => decide (∃ i l, l ∈ L ∧ m l (pwH m g i) = y), ⟨hg, st, r0, out, ind, List.Pairwise.filter _ List.pairwise_lt_range, fun y => ?_⟩, rn⟩
  rw [List.mem_filter, List.mem_range, decide_eq_true_iff]
  refine ⟨fun w => w.2, fun w => ⟨?_, w⟩⟩
  obtain ⟨i, l, hl, rfl⟩ := w
  exact h.lt _ _ (s.lt l hl) (pwH_lt h hg i)
theorem Grw.sub_of (h : Hse n m) (s : Sub n m L) {x r' : Nat} {G' : List Nat} (w : Grw n m L g r G) (w' : Grw n m L x r' G') {l j : Nat} (hl : l ∈ L) (e : m l (pwH m g j) = x) : ∀ y ∈ G', y ∈ G := fun y hy => by
  obtain ⟨i, k, hk, rfl⟩ := (w'.mem y).mp hy
  obtain ⟨z, hz, e2⟩ := pwH_cls_pow h s w.lt w.st hl e i
  refine (w.mem _).mpr ⟨j * i, m k z, s.mul k hk z hz, ?_⟩
  rw [← e2, h.as k z _ (s.lt k hk) (s.lt z hz) (pwH_lt h w.lt _)]
theorem Grw.eq_of (h : Hse n m) (s : Sub n m L) {x r' : Nat} {G' : List Nat} (w : Grw n m L g r G) (w' : Grw n m L x r' G') (c : cls m L g x) : G = G' := by
  have gn := w.lt
  have xn := w'.lt
  obtain ⟨l, hl, e⟩ := c
  obtain ⟨k, hk, e2⟩ := s.symm h gn ⟨l, hl, e⟩
  refine rising_eq w.up w'.up fun y => ⟨fun hy => ?_, fun hy => ?_⟩
  · exact w'.sub_of h s w hk (by rw [pwH_one h xn]; exact e2) y hy
  · exact w.sub_of h s w' hl (by rw [pwH_one h gn]; exact e) y hy
/-- a power that has nothing in common with r makes the same -/
theorem Grw.gen (h : Hse n m) (s : Sub n m L) {x r' : Nat} {G' : List Nat} (w : Grw n m L g r G) (w' : Grw n m L x r' G') {l j : Nat} (hl : l ∈ L) (e : m l (pwH m g j) = x) (j0 : 0 < j) (hc : Nat.gcd j r = 1) : G = G' := by
  have gn := w.lt
  have xn := w'.lt
  obtain ⟨a, b, e2⟩ := bezN j0 w.pos hc
  have c1 := pwH_cls_pow h s gn w.st hl e a
  have c2 : cls m L (pwH m g 1) (pwH m g (j * a)) := (pwH_cls h s gn w.pos w.out w.ind (by omega)).mpr ⟨b, by omega⟩
  have c3 := s.symm h (pwH_lt h gn 1) (s.trans h (pwH_lt h gn 1) c2 c1)
  rw [pwH_one h gn] at c3
  obtain ⟨k, hk, e3⟩ := c3
  exact rising_eq w.up w'.up fun y => ⟨fun hy => w'.sub_of h s w hk e3 y hy, fun hy => w.sub_of h s w' hl e y hy⟩
/-- and only such a power does -/
theorem Grw.gen_only (h : Hse n m) (s : Sub n m L) {x r' : Nat} (w : Grw n m L g r G) (w' : Grw n m L x r' G) : ∃ j l, l ∈ L ∧ m l (pwH m g j) = x ∧ 0 < j ∧ j ≤ r ∧ Nat.gcd j r = 1 := by
  have gn := w.lt
  have xn := w'.lt
  have hx : x ∈ G := (w'.mem x).mpr ⟨1, 0, s.ze, by rw [pwH_one h xn, h.zl x xn]⟩
  obtain ⟨i, k, hk, e⟩ := (w.mem x).mp hx
  -- the power from 1 to r
  have r0 := w.pos
  obtain ⟨j, j0, jr, hj⟩ : ∃ j, 0 < j ∧ j ≤ r ∧ cls m L (pwH m g j) (pwH m g i) := by
    rcases Nat.eq_zero_or_pos (i % r) with z | z
    · refine ⟨r, r0, Nat.le_refl _, ?_⟩
      have a1 : cls m L (pwH m g 0) (pwH m g r) := (pwH_cls h s gn r0 w.out w.ind (by omega)).mpr ⟨1, by omega⟩
      have a2 : cls m L (pwH m g 0) (pwH m g i) := (pwH_cls h s gn r0 w.out w.ind (by omega)).mpr (Nat.dvd_of_mod_eq_zero z)
      exact s.trans h (pwH_lt h gn r) (s.symm h (pwH_lt h gn 0) a1) a2
    · refine ⟨i % r, z, Nat.le_of_lt (Nat.mod_lt _ r0), ?_⟩
      refine (pwH_cls h s gn r0 w.out w.ind (Nat.mod_le i r)).mpr ⟨i / r, ?_⟩
      have := Nat.div_add_mod i r
      omega
  obtain ⟨l, hl, e2⟩ := s.trans h (pwH_lt h gn j) hj ⟨k, hk, e⟩
  refine ⟨j, l, hl, e2, j0, jr, ?_⟩
  have hg' : g ∈ G := (w.mem g).mpr ⟨1, 0, s.ze, by rw [pwH_one h gn, h.zl g gn]⟩
  obtain ⟨a, q, hq, e3⟩ := (w'.mem g).mp hg'
  have c1 := pwH_cls_pow h s gn w.st hl e2 a
  have c2 : cls m L (pwH m g (j * a)) (pwH m g 1) := by
    rw [pwH_one h gn]
    exact s.trans h (pwH_lt h gn _) c1 ⟨q, hq, e3⟩
  have d : ∀ c, c ∣ j → c ∣ r → c = 1 := fun c h1 h2 => by
    rcases Nat.eq_zero_or_pos (j * a) with z | z
    · have hd := (pwH_cls h s gn r0 w.out w.ind (show j * a ≤ 1 by omega)).mp c2
      rw [z] at hd
      have := Nat.dvd_trans h2 hd
      exact Nat.dvd_one.mp this
    · have hd := (pwH_cls h s gn r0 w.out w.ind (show 1 ≤ j * a by omega)).mp (s.symm h (pwH_lt h gn _) c2)
      have h3 := Nat.dvd_trans h2 hd
      have h4 : c ∣ j * a := Nat.dvd_trans h1 ⟨a, rfl⟩
      have h5 := Nat.dvd_sub h4 h3
      rw [show j * a - (j * a - 1) = 1 by omega] at h5
      exact Nat.dvd_one.mp h5
  exact d _ (Nat.gcd_dvd_left j r) (Nat.gcd_dvd_right j r)
end
end VL
namespace VL
open PySem PySem.Spec PyProof.Rows L2 HM HG
/-- what a set of whole numbers from nought on knows, as a list -/
structure SetP (N : Nat) (S : Int → Bool) (c : Nat) (ds : List Nat) : Prop where
  mem : ∀ s : Nat, S (s : Int) = true ↔ s ∈ ds
  nd : ds.Nodup
  len : c = ds.length
  lt : ∀ s ∈ ds, s < N
theorem SetP.few {N c : Nat} {S : Int → Bool} {ds : List Nat} (w : SetP N S c ds) : c ≤ N := by
  rw [w.len]
  exact few_of_nodup w.nd w.lt
theorem SetP.add {N c s : Nat} {S : Int → Bool} {ds : List Nat} (w : SetP N S c ds) (hs : s < N) : ∃ ds', SetP N (fun j => S j || decide (j = (s : Int))) (if S (s : Int) = true then c else c + 1) ds' ∧ ∀ x, x ∈ ds' ↔ x ∈ ds ∨ x = s := by
  by_cases e : s ∈ ds
  · refine ⟨ds, ⟨fun x => ?_, w.nd, by rw [if_pos ((w.mem s).mpr e)]; exact w.len, w.lt⟩, fun x => ⟨.inl, fun h => h.elim id fun z => by rw [z]; exact e⟩⟩
    rw [Bool.or_eq_true, w.mem x, decide_eq_true_iff]
    exact ⟨fun h => h.elim id fun z => by rw [show x = s by omega]; exact e, .inl⟩
  · refine ⟨ds ++ [s], ⟨fun x => ?_, ?_, ?_, fun x hx => ?_⟩, fun x => by rw [List.mem_append, List.mem_singleton]⟩
    · rw [Bool.or_eq_true, w.mem x, decide_eq_true_iff, List.mem_append, List.mem_singleton]
      exact ⟨fun h => h.imp id fun z => by omega, fun h => h.imp id fun z => by omega⟩
    · rw [List.nodup_append]
      exact ⟨w.nd, by simp, fun a ha b hb z => e (by rw [← List.mem_singleton.mp hb, ← z]; exact ha)⟩
    · rw [if_neg (fun z => e ((w.mem s).mp z)), List.length_append, w.len]
      rfl
    · rcases List.mem_append.mp hx with hx | hx
      · exact w.lt x hx
      · rw [List.mem_singleton.mp hx]; exact hs
def cop (r : Nat) : List Nat := (List.range r).filter fun i => decide (Nat.gcd (i + 1) r = 1)
/-- behind the first j shares: ds are the shares whose part was told -/
structure GIn (n : Nat) (m : Nat → Nat → Nat) (L : List Nat) (j : Nat) (ds : List Nat) (Gs : List (List Nat × Nat)) : Prop where
  all : ∀ p ∈ Gs, ∃ g r, Grw n m L g r p.1 ∧ p.2 = (cop r).length
  mem : ∀ y, y < n → (plc m L y ∈ ds ↔ ∃ r G k, Grw n m L y r G ∧ (G, k) ∈ Gs)
  has : ∀ i y, i < j → (lst m L n)[i]? = some y → phi m L L y = true → ∃ r G k, Grw n m L y r G ∧ (G, k) ∈ Gs
  one : (Gs.map (·.1)).Nodup
  len : Gs.length ≤ j
section
variable {n : Nat} {m : Nat → Nat → Nat} {L G : List Nat} {g r j : Nat} {ds : List Nat} {Gs : List (List Nat × Nat)}
theorem GIn.zero : GIn n m L 0 [] [] where
  all p hp := by cases hp
  mem y _ := ⟨fun h => (by cases h), fun ⟨_, _, _, _, h⟩ => (by cases h)⟩
  has i y h := by omega
  one := List.nodup_nil
  len := Nat.le_refl _
theorem GIn.put (h : Hse n m) (s : Sub n m L) (I : GIn n m L j ds Gs) {y : Nat} (hy : (lst m L n)[j]? = some y) (nd : j ∉ ds) (w : Grw n m L y r G) {ds' : List Nat} (hd : ∀ x, x ∈ ds' ↔ x ∈ ds ∨ ∃ i, i < r ∧ Nat.gcd (i + 1) r = 1 ∧ x = plc m L (pwH m y (i + 1))) : GIn n m L (j + 1) ds' (Gs ++ [(G, (cop r).length)]) := by
  obtain ⟨yn, ep⟩ := lst_plc hy
  have key : ∀ z, z < n → ((∃ i, i < r ∧ Nat.gcd (i + 1) r = 1 ∧ plc m L z = plc m L (pwH m y (i + 1))) ↔ ∃ r', Grw n m L z r' G) := fun z zn => by
    constructor
    · rintro ⟨i, hi, hc, e⟩
      have pn := pwH_lt h yn (i + 1)
      obtain ⟨l, hl, e2⟩ := s.cls_of_rp h pn zn ((s.plc_iff h pn zn).mp e.symm)
      have stz : phi m L L z = true := by
        have hz : z ∈ G := (w.mem z).mpr ⟨i + 1, l, hl, e2⟩
        rw [← phi_cls h s s.lt pn ⟨l, hl, e2⟩, phi_iff h s s.lt pn]
        intro k hk
        obtain ⟨x, hx, e3⟩ := pwH_pass h s yn w.st (i + 1) hk
        exact ⟨x, hx, e3⟩
      obtain ⟨r', G', w', _⟩ := Grw.ex h s zn stz
      refine ⟨r', ?_⟩
      rw [w.gen h s w' hl e2 (Nat.succ_pos i) hc]
      exact w'
    · rintro ⟨r', w'⟩
      obtain ⟨i, l, hl, e, i0, ir, hc⟩ := w.gen_only h s w'
      refine ⟨i - 1, by omega, ?_, ?_⟩
      · rw [Nat.sub_add_cancel i0]; exact hc
      · rw [Nat.sub_add_cancel i0]
        have pn := pwH_lt h yn i
        exact (s.plc_iff h zn pn).mpr (s.rp_eq h pn ⟨l, hl, e⟩).symm
  have new : ∀ k, (G, k) ∉ Gs := fun k hk => nd (by rw [← ep]; exact (I.mem y yn).mpr ⟨r, G, k, w, hk⟩)
  refine ⟨fun p hp => ?_, fun z zn => ?_, fun i z hi hz st => ?_, ?_, ?_⟩
  · rcases List.mem_append.mp hp with hp | hp
    · exact I.all p hp
    · rw [List.mem_singleton.mp hp]
      exact ⟨y, r, w, rfl⟩
  · rw [hd, I.mem z zn, key z zn]
    constructor
    · rintro (⟨r', G', k, w', hk⟩ | ⟨r', w'⟩)
      · exact ⟨r', G', k, w', List.mem_append_left _ hk⟩
      · exact ⟨r', G, _, w', List.mem_append_right _ (List.mem_singleton.mpr rfl)⟩
    · rintro ⟨r', G', k, w', hk⟩
      rcases List.mem_append.mp hk with hk | hk
      · exact .inl ⟨r', G', k, w', hk⟩
      · cases List.mem_singleton.mp hk
        exact .inr ⟨r', w'⟩
  · by_cases e : i = j
    · subst e
      rw [hy] at hz
      cases hz
      exact ⟨r, G, _, w, List.mem_append_right _ (List.mem_singleton.mpr rfl)⟩
    · obtain ⟨r', G', k, w', hk⟩ := I.has i z (by omega) hz st
      exact ⟨r', G', k, w', List.mem_append_left _ hk⟩
  · rw [List.map_append, List.nodup_append]
    refine ⟨I.one, by simp, fun a ha b hb z => ?_⟩
    obtain ⟨p, hp, rfl⟩ := List.mem_map.mp ha
    have hb : b = G := by simpa using hb
    exact new p.2 (by rw [← hb, ← z]; exact hp)
  · rw [List.length_append]
    have := I.len
    show _ + 1 ≤ _
    omega
/-- the powers from 1 to r, each behind every number of the part -/
theorem Grw.perm (h : Hse n m) (s : Sub n m L) (w : Grw n m L g r G) : ((List.range r).flatMap fun i => L.map fun l => m l (pwH m g (i + 1))).Perm G := by
  have gn := w.lt
  refine (List.perm_ext_iff_of_nodup ?_ (w.up.imp fun z => Nat.ne_of_lt z)).mpr fun y => ?_
  · refine List.pairwise_flatMap.mpr ⟨fun i hi => ?_, ?_⟩
    · exact List.pairwise_map.mpr (List.Pairwise.imp_of_mem (fun {a b} ha hb hab e => hab (h.rc (s.lt a ha) (s.lt b hb) (pwH_lt h gn _) e)) s.nd)
    · refine List.Pairwise.imp_of_mem (fun {i j} hi hj hij x hx y hy e => ?_) (List.pairwise_lt_range (n := r))
      have hj := List.mem_range.mp hj
      obtain ⟨a, ha, rfl⟩ := List.mem_map.mp hx
      obtain ⟨b, hb, e2⟩ := List.mem_map.mp hy
      have c1 : cls m L (pwH m g (i + 1)) (m a (pwH m g (i + 1))) := ⟨a, ha, rfl⟩
      have c2 : cls m L (pwH m g (j + 1)) (m a (pwH m g (i + 1))) := ⟨b, hb, by rw [e]; exact e2⟩
      have c3 := s.trans h (pwH_lt h gn _) c1 (s.symm h (pwH_lt h gn _) c2)
      have := (pwH_cls h s gn w.pos w.out w.ind (show i + 1 ≤ j + 1 by omega)).mp c3
      have h0 := Nat.eq_zero_of_dvd_of_lt this (by omega)
      omega
  · rw [List.mem_flatMap, w.mem]
    constructor
    · rintro ⟨i, hi, hy⟩
      obtain ⟨l, hl, rfl⟩ := List.mem_map.mp hy
      exact ⟨i + 1, l, hl, rfl⟩
    · rintro ⟨i, l, hl, rfl⟩
      have r0 := w.pos
      obtain ⟨j, j0, jr, c⟩ : ∃ j, 0 < j ∧ j ≤ r ∧ cls m L (pwH m g j) (pwH m g i) := by
        rcases Nat.eq_zero_or_pos (i % r) with z | z
        · refine ⟨r, r0, Nat.le_refl _, ?_⟩
          have a1 : cls m L (pwH m g 0) (pwH m g r) := (pwH_cls h s gn r0 w.out w.ind (by omega)).mpr ⟨1, by omega⟩
          have a2 : cls m L (pwH m g 0) (pwH m g i) := (pwH_cls h s gn r0 w.out w.ind (by omega)).mpr (Nat.dvd_of_mod_eq_zero z)
          exact s.trans h (pwH_lt h gn r) (s.symm h (pwH_lt h gn 0) a1) a2
        · refine ⟨i % r, z, Nat.le_of_lt (Nat.mod_lt _ r0), ?_⟩
          refine (pwH_cls h s gn r0 w.out w.ind (Nat.mod_le i r)).mpr ⟨i / r, ?_⟩
          have := Nat.div_add_mod i r
          omega
      obtain ⟨x, hx, e⟩ := s.trans h (pwH_lt h gn j) c ⟨l, hl, rfl⟩
      exact ⟨j - 1, List.mem_range.mpr (by omega), List.mem_map.mpr ⟨x, hx, by rw [Nat.sub_add_cancel j0]; exact e⟩⟩
end
end VL
namespace VL
open PySem PySem.Spec PyProof.Rows L2 HM HG
/-- the least numbers of the shares that lead the part to itself -/
def stS (n : Nat) (m : Nat → Nat → Nat) (L : List Nat) : List Nat := (lst m L n).filter (phi m L L)
section
variable {n : Nat} {m : Nat → Nat → Nat} {L K G : List Nat} {g r : Nat} {Gs : List (List Nat × Nat)}
theorem stS_mem : g ∈ stS n m L ↔ g < n ∧ rp m L g = g ∧ phi m L L g = true := by
  unfold stS
  rw [List.mem_filter, lst_mem, and_assoc]
theorem stS_nd : (stS n m L).Nodup := (lst_nodup (m := m) (P := L) n).filter _
/-- the numbers that make the same as g -/
theorem Grw.key (h : Hse n m) (s : Sub n m L) (w : Grw n m L g r G) {z : Nat} (zn : z < n) : (∃ i, i < r ∧ Nat.gcd (i + 1) r = 1 ∧ plc m L z = plc m L (pwH m g (i + 1))) ↔ ∃ r', Grw n m L z r' G := by
  have yn := w.lt
  constructor
  · rintro ⟨i, hi, hc, e⟩
    have pn := pwH_lt h yn (i + 1)
    obtain ⟨l, hl, e2⟩ := s.cls_of_rp h pn zn ((s.plc_iff h pn zn).mp e.symm)
    have stz : phi m L L z = true := by
      rw [← phi_cls h s s.lt pn ⟨l, hl, e2⟩, phi_iff h s s.lt pn]
      intro k hk
      obtain ⟨x, hx, e3⟩ := pwH_pass h s yn w.st (i + 1) hk
      exact ⟨x, hx, e3⟩
    obtain ⟨r', G', w', _⟩ := Grw.ex h s zn stz
    refine ⟨r', ?_⟩
    rw [w.gen h s w' hl e2 (Nat.succ_pos i) hc]
    exact w'
  · rintro ⟨r', w'⟩
    obtain ⟨i, l, hl, e, i0, ir, hc⟩ := w.gen_only h s w'
    refine ⟨i - 1, by omega, ?_, ?_⟩
    · rw [Nat.sub_add_cancel i0]; exact hc
    · rw [Nat.sub_add_cancel i0]
      have pn := pwH_lt h yn i
      exact (s.plc_iff h zn pn).mpr (s.rp_eq h pn ⟨l, hl, e⟩).symm
theorem Grw.rp (h : Hse n m) (s : Sub n m L) (w : Grw n m L g r G) : ∃ r', Grw n m L (rp m L g) r' G := by
  have gn := w.lt
  have c := s.rp_cls h gn
  have st : phi m L L (VL.rp m L g) = true := by
    rw [← phi_cls h s s.lt gn c]
    exact w.st
  obtain ⟨r', G', w', _⟩ := Grw.ex h s (s.rp_lt h gn) st
  exact ⟨r', by rw [w.eq_of h s w' c]; exact w'⟩
open Classical in
noncomputable def gof (n : Nat) (m : Nat → Nat → Nat) (L : List Nat) (g : Nat) : List Nat := if w : ∃ G r, Grw n m L g r G then w.choose else []
theorem gof_eq (h : Hse n m) (s : Sub n m L) (w : Grw n m L g r G) : gof n m L g = G := by
  have ex : ∃ G r, Grw n m L g r G := ⟨G, r, w⟩
  unfold gof
  rw [dif_pos ex]
  obtain ⟨r', w'⟩ := ex.choose_spec
  exact w'.eq_of h s w (s.refl h w.lt)
theorem gof_is (h : Hse n m) (s : Sub n m L) (hg : g < n) (st : phi m L L g = true) : ∃ r, Grw n m L g r (gof n m L g) := by
  obtain ⟨r, G, w, _⟩ := Grw.ex h s hg st
  exact ⟨r, by rw [gof_eq h s w]; exact w⟩
/-- as many shares make it -/
theorem Grw.cnt (h : Hse n m) (s : Sub n m L) (w : Grw n m L g r G) : ((stS n m L).filter fun z => decide (gof n m L z = G)).length = (cop r).length := by
  have gn := w.lt
  have pn : ∀ i, pwH m g i < n := pwH_lt h gn
  have pm : ((cop r).map fun i => VL.rp m L (pwH m g (i + 1))).Perm ((stS n m L).filter fun z => decide (gof n m L z = G)) := by
    refine (List.perm_ext_iff_of_nodup ?_ (stS_nd.filter _)).mpr fun z => ?_
    · refine List.pairwise_map.mpr (List.Pairwise.imp_of_mem (fun {i j} hi hj hij e => ?_) (List.Pairwise.filter _ (List.pairwise_lt_range (n := r))))
      have hj := List.mem_range.mp (List.mem_filter.mp hj).1
      have := (pwH_cls h s gn w.pos w.out w.ind (show i + 1 ≤ j + 1 by omega)).mp (s.cls_of_rp h (pn _) (pn _) e)
      have h0 := Nat.eq_zero_of_dvd_of_lt this (by omega)
      omega
    · rw [List.mem_map, List.mem_filter, stS_mem, decide_eq_true_iff]
      constructor
      · rintro ⟨i, hi, rfl⟩
        unfold cop at hi
        rw [List.mem_filter, List.mem_range, decide_eq_true_iff] at hi
        obtain ⟨r', w'⟩ := (w.key h s (pn (i + 1))).mp ⟨i, hi.1, hi.2, rfl⟩
        obtain ⟨r2, w2⟩ := w'.rp h s
        exact ⟨⟨w2.lt, s.rp_rp h (pn _), w2.st⟩, gof_eq h s w2⟩
      · rintro ⟨⟨zn, zr, zs⟩, e⟩
        obtain ⟨r', w'⟩ := gof_is h s zn zs
        rw [e] at w'
        obtain ⟨i, hi, hc, e2⟩ := (w.key h s zn).mpr ⟨r', w'⟩
        refine ⟨i, ?_, ?_⟩
        · unfold cop
          rw [List.mem_filter, List.mem_range, decide_eq_true_iff]
          exact ⟨hi, hc⟩
        · rw [← (s.plc_iff h zn (pn _)).mp e2, zr]
  rw [← pm.length_eq, List.length_map]
theorem sum_perm {a b : List Int} (p : a.Perm b) : a.sum = b.sum := by
  induction p with
  | nil => rfl
  | cons x _ ih => rw [List.sum_cons, List.sum_cons, ih]
  | swap x y l => rw [List.sum_cons, List.sum_cons, List.sum_cons, List.sum_cons]; omega
  | trans _ _ h1 h2 => rw [h1, h2]
theorem sum_constC {α : Type} {f : α → Int} {c : Int} : ∀ {l : List α}, (∀ x ∈ l, f x = c) → (l.map f).sum = (l.length : Int) * c
  | [], _ => by simp
  | x :: l, h => by
    rw [List.map_cons, List.sum_cons, sum_constC fun y hy => h y (List.mem_cons_of_mem _ hy), h x List.mem_cons_self, List.length_cons, Int.natCast_add, Int.add_mul]
    show _ = _ + (1 : Int) * c
    omega
theorem sum_flatM {α : Type} {f : α → List Nat} {v : Nat → Int} : ∀ l : List α, ((l.flatMap f).map v).sum = (l.map fun x => ((f x).map v).sum).sum
  | [] => rfl
  | x :: l => by rw [List.flatMap_cons, List.map_append, List.sum_append, sum_flatM l, List.map_cons, List.sum_cons]
theorem GrwAll.perm (h : Hse n m) (s : Sub n m L) (A : GrwAll n m L Gs) : (Gs.flatMap fun p => (stS n m L).filter fun z => decide (gof n m L z = p.1)).Perm (stS n m L) := by
  refine (List.perm_ext_iff_of_nodup ?_ stS_nd).mpr fun z => ?_
  · refine List.pairwise_flatMap.mpr ⟨fun p _ => stS_nd.filter _, ?_⟩
    refine List.Pairwise.imp (fun {p q} hpq x hx y hy e => hpq ?_) (List.pairwise_map.mp A.one)
    rw [← of_decide_eq_true (List.mem_filter.mp hx).2, ← of_decide_eq_true (List.mem_filter.mp hy).2, e]
  · rw [List.mem_flatMap]
    constructor
    · rintro ⟨p, _, hz⟩
      exact (List.mem_filter.mp hz).1
    · intro hz
      obtain ⟨zn, zr, zs⟩ := stS_mem.mp hz
      obtain ⟨r, w⟩ := gof_is h s zn zs
      obtain ⟨k, hk⟩ := A.has _ _ _ w
      exact ⟨_, hk, List.mem_filter.mpr ⟨hz, decide_eq_true rfl⟩⟩
/-- a sum over the shares that lead the part to itself, grouped -/
theorem GrwAll.sum (h : Hse n m) (s : Sub n m L) (A : GrwAll n m L Gs) (v : List Nat → Int) : (Gs.map fun p => (p.2 : Int) * v p.1).sum = ((stS n m L).map fun g => v (gof n m L g)).sum := by
  rw [← sum_perm ((A.perm h s).map fun g => v (gof n m L g)), sum_flatM]
  congr 1
  refine List.map_congr_left fun p hp => ?_
  obtain ⟨g, r, w, e⟩ := A.all p hp
  rw [sum_constC (c := v p.1) fun z hz => by rw [of_decide_eq_true (List.mem_filter.mp hz).2], w.cnt h s, e]
  rfl
end
end VL
namespace VL
open PySem PySem.Spec PyProof.Rows L2 HM HG
end VL
namespace VL
open PySem PySem.Spec PyProof.Rows L2 HM HG
section
variable {n : Nat} {m : Nat → Nat → Nat} {L K G : List Nat} {g r : Nat}
theorem Grw.pt (h : Hse n m) (s : Sub n m L) (w : Grw n m L g r G) {l : List Nat} (p : IsPt m (L ++ [g]) l) : l = G := by
  have gn := w.lt
  have sG := w.sub h s
  refine rising_eq p.up w.up fun y => ?_
  rw [p.mem]
  have gG : g ∈ G := (w.mem g).mpr ⟨1, 0, s.ze, by rw [pwH_one h gn, h.zl g gn]⟩
  constructor
  · intro hy
    refine sG.rch (fun x hx => ?_) hy
    rcases List.mem_append.mp hx with hx | hx
    · exact w.has h s x hx
    · rw [List.mem_singleton.mp hx]; exact gG
  · intro hy
    obtain ⟨i, l, hl, rfl⟩ := (w.mem y).mp hy
    have ln := s.lt l hl
    induction i with
    | zero =>
      show Rch m (L ++ [g]) (m l 0)
      rw [h.zr l ln, ← h.zl l ln]
      exact .step .zero (List.mem_append_left _ hl)
    | succ i ih =>
      show Rch m (L ++ [g]) (m l (m (pwH m g i) g))
      rw [← h.as l _ g ln (pwH_lt h gn i) gn]
      exact .step (ih ((w.mem _).mpr ⟨i, l, hl, rfl⟩)) (List.mem_append_right _ (List.mem_singleton.mpr rfl))
end
end VL
namespace VL
open PySem PySem.Spec PyProof.Rows L2 HM HG
end VL
namespace VL
open PySem PySem.Spec PyProof.Rows L2 HM
end VL
namespace VL
open PySem PySem.Spec PyProof.Rows L2 HM HG
end VL
namespace VL
open PySem PySem.Spec PyProof.Rows L2 HM HG
/-- the first below r at which p, or None -/
def UnAt (r : Nat) (p : Nat → Bool) (d : Dt) : Prop := (∃ j, j < r ∧ p j = true ∧ (∀ i, i < j → p i = false) ∧ d = nD j) ∨ ((∀ i, i < r → p i = false) ∧ d = .non)
theorem UnAt.uniq {r : Nat} {p : Nat → Bool} {d d' : Dt} (a : UnAt r p d) (b : UnAt r p d') : d = d' := by
  rcases a with ⟨j, hj, h1, h2, rfl⟩ | ⟨h, rfl⟩
  · rcases b with ⟨k, hk, h3, h4, rfl⟩ | ⟨h, rfl⟩
    · rcases Nat.lt_trichotomy j k with z | z | z
      · rw [h4 j z] at h1; cases h1
      · rw [z]
      · rw [h2 k z] at h3; cases h3
    · rw [h j hj] at h1; cases h1
  · rcases b with ⟨k, hk, h3, h4, rfl⟩ | ⟨h', rfl⟩
    · rw [h k hk] at h3; cases h3
    · rfl
theorem UnAt.rp {r : Nat} {p : Nat → Bool} {d : Dt} (a : UnAt r p d) (hr : r ≤ 2400) : rpS d := by
  rcases a with ⟨j, hj, _, _, rfl⟩ | ⟨_, rfl⟩
  · have h40 : 2400 < 10 ^ 40 := by decide
    have hs : Sm 40 0 41 (nD j) := ⟨decide_eq_true (show j < 10 ^ 40 by omega), Nat.le_refl _, Nat.le_refl _⟩
    exact hs.rp (by decide) (by decide) (by decide) (by decide)
  · exact ⟨rfl, rfl, by decide, by decide⟩
end VL
namespace VL
open PySem PySem.Spec PyProof.Rows L2 HM HG
end VL
namespace VL
open PySem PySem.Spec PyProof.Rows L2 HM
def Lets (c : Fc) (E : XK) (E' : VXK) : Prop := ∀ cls od fs F' H' n', Out c.am c.F0 c.H0 F' H' n' → XOk c.H0 H' F' od fs → E' cls fs n' → E cls od H'
/-- raise C(e) -/
def vRaiseN (C : Addr) (te : VTE) (E' : VXK) : VTS := fun _ env n => te env n fun d _ n' => ∃ i : Int, d = .int i ∧ i.natAbs.log2 < 1920 ∧ (toString i : Str).length ≤ 1000 ∧ E' (.ref C) (some [("at", .int i)]) n'
section
variable {X : Cx} {c : Fc} {te : VTE} {E : XK} {E' : VXK} {st : Stmt} {qual : Str} {C fI : Addr} {k : Nat} {x : Str} {e : Expr} {p pos pos' : Pos}
theorem vs_raiseN (hc : X.calm = true) (tk : Takes X (fun cls d _ H => E cls d H)) (le : Lets c E E') (N : NoT X.prog st qual X.K C fI) (S : InitS st) (hr : Room (k + 2) X.A) (hg : Gl X x) (hm : X.mg x = some (.ref C)) (he : PE X e (tOf c te))
    (hdb : (x == ("__debug__" : Str)) = false := by decide) (hs : starEach [e] X.env = (false, eval e X.env) :: starEach [] X.env := by rfl) : PS X (.Raise (some (.Call (.Name x p) [e] [] pos)) none pos') (sOf c (vRaiseN C te E')) :=
  PS.imp (ps_raise hc tk (pmk_n N S hr hg hm he hdb hs)) fun D σ H ⟨F, env, n, V, r, q, kk⟩ => by
    refine ⟨F, env, n, _, r, q, fun v H1 F1 d env1 n1 r1 u1 rp q1 => ?_⟩
    obtain ⟨i, rfl, h1, h2, h3⟩ := q1
    cases rp
    exact ⟨i, rfl, h1, h2, fun dx nd => le _ _ _ F1 _ n1 (Rel.out (r1.lay nd _)) (.inr ⟨dx, _, rfl, rfl, (r1.new0 nd).1, upd_same, (r1.new0 nd).2.2⟩) h3⟩
end
/-- a def that answers a new thing or lets a refusal out -/
abbrev VSpX := List Dt → Nat → (Con → Nat → Prop) → VXK → Prop
def vspX (am : Am) (sp : VSpX) : Sp := fun vs H Q E => ∃ F ds n Q' E', Up F H ∧ (∀ a, am.sp a → F a = none) ∧ am.ok n F H ∧ Rps F vs ds ∧ sp ds n Q' E' ∧
  (∀ a o k F' H' n', Out am F H F' H' n' → F' a = none → H a = none → ¬ am.sp a → H' a = some o → OwOk F' a o k → Q' k n' → Q (.ref a) H') ∧
  ∀ cls od fs F' H' n', Out am F H F' H' n' → XOk H H' F' od fs → E' cls fs n' → E cls od H'
section
variable {P : Program} {w : World} {K : PySem.W.Frag} {mg : Str → Option Value} {base : Heap} {am : Am} {gd : Around → Prop} {x qual : Str} {st : Stmt} {f : Addr} {fd : FuncData} {N ps : List Str} {k : Nat} {sp : VSpX}
theorem vfn_ofNX (F : Fun K x qual st f fd) (S : FnScope N ps (defScope st)) (len : ∀ ds n Q E, sp ds n Q E → ds.length = ps.length)
    (body : ∃ ts : VXK → VTNs, (∀ (cdv : Value) (A : Around) (out : List Env) (s : Shared) (H : Hp) (E : XK) (F0 H0 : Hp) (E' : VXK), fd.code = cdv → gd A → Room k (A.deeper (envOfC qual (defScope st) s.heap.objs.size f cdv)) →
        Takes (cxOf (L2.CX P w) P w K mg base N qual (defScope st) f cdv A out s H E) (fun cls d _ H => E cls d H) → Lets ⟨am, F0, H0⟩ E E' → PSs (cxOf (L2.CX P w) P w K mg base N qual (defScope st) f cdv A out s H E) (defBody st) (sN ⟨am, F0, H0⟩ (ts E'))) ∧
      ∀ ds n Q E', sp ds n Q E' → ts E' { nx := fun _ _ => False, rt := Q } (startE N ds) n) : PFn gd P w K mg base (L2.CX P w) (k + 1) f fd ps (vspX am sp) := by
  obtain ⟨ts, hts, hsp⟩ := body
  refine pfnX_of F S (fun vs H Q E h => ?_) (fun cdv A out s H vs Q E hcd hgd hr h => ?_)
  · obtain ⟨F0, ds, n, Q', E', _, _, _, r, h, _⟩ := h
    rw [r.len]
    exact len ds n Q' E' h
  · obtain ⟨F0, ds, n, Q', E', u, hs, ha, r, h, kq, ke⟩ := h
    exact ⟨_, hts cdv A out s H E F0 H E' hcd hgd hr (takes_of rfl rfl rfl rfl) ke, F0, startE N ds, n, _, rel_start u hs ha r, hsp ds n Q' E' h, ⟨fun _ _ _ _ _ _ _ q => q.elim, fun F' H' σ' env' n' a o kk r' _ hF h0 ns hH ok q => kq a o kk F' H' n' r'.out hF h0 ns hH ok q⟩⟩
end
def dMax : RCD := fun ds Q => ∃ ns : List Int, ds = [.lst (ns.map Dt.int)] ∧ 0 < ns.length ∧ ∀ m, m ∈ ns → (∀ y, y ∈ ns → y ≤ m) → Q (.int m)
theorem lft_max {K : PySem.W.Frag} : LftC (rMax K) dMax := fun F H vs ds Q R u rp ⟨ns, h, hl, q⟩ k => by
  subst h
  obtain ⟨v, rfl, p⟩ := rp.one
  obtain ⟨a, xs, rfl, hF, rx⟩ := p.lst_inv
  rw [rx.of_ints] at hF
  exact ⟨a, ns, rfl, .inl (.inl (u _ _ hF)), hl, fun m h1 h2 => k _ _ (.int _) (q m h1 h2)⟩
theorem small_int {i : Nat} (h : i < 100000) : ((i : Nat) : Int).natAbs.log2 < 1920 ∧ (toString ((i : Nat) : Int) : Str).length ≤ 1000 := by
  constructor
  · have h1 : ((i : Nat) : Int).natAbs = i := Int.natAbs_natCast i
    rw [h1]
    by_cases z : i = 0
    · subst z; decide
    · exact Nat.lt_of_lt_of_le ((Nat.log2_lt z).mpr (show i < 2 ^ 17 by omega)) (by omega)
  · have := int_text (i := ((i : Nat) : Int)) (e := 5) (by decide) (by rw [Int.natAbs_natCast]; omega)
    have h2 : (Str.ofString (toString ((i : Nat) : Int))).length ≤ 6 := this
    exact Nat.le_trans h2 (by decide)
end VL
namespace VL
open PySem PySem.Spec PyProof.Rows L2 HM HG
/-- marks of a set, counts of any sign -/
def Solv (r : Nat) (T : Nat → Nat → Nat) (mk : Nat → Int) : Prop := ∃ cs : Nat → Int, ∀ j, j < r → mk j = pm T cs r j
end VL
namespace VL
open PySem PySem.Spec PyProof.Rows L2 HM HG
section
variable {r : Nat} {T : Nat → Nat → Nat} {es mk rho cs : Nat → Int} {b : Nat}
theorem pm_cut {l : Nat} (b : Nat) : ∀ r, b ≤ r → (∀ j, b ≤ j → j < r → es j = 0) → pm T es r l = pm T es b l
  | 0, hb, _ => by rw [show b = 0 by omega]
  | r + 1, hb, z => by
    by_cases e : b = r + 1
    · rw [e]
    · show pm T es r l + es r * (T r l : Int) = _
      rw [z r (by omega) (by omega), pm_cut b r (by omega) fun j h1 h2 => z j h1 (by omega), Int.zero_mul, Int.add_zero]
theorem zero_top (t : Tri r T) (b : Nat) : ∀ r', r' ≤ r → (∀ l, b ≤ l → l < r' → pm T es r' l = 0) → ∀ j, b ≤ j → j < r' → es j = 0
  | 0, _, _, j, _, hj => by omega
  | r' + 1, hr, z, j, h1, h2 => by
    have hp := t.pos r' (by omega)
    have e0 : ∀ _ : b ≤ r', es r' = 0 := fun hb => by
      have := z r' hb (by omega)
      rw [pm_own t (by omega)] at this
      rcases Int.mul_eq_zero.mp this with w | w
      · exact w
      · omega
    by_cases e : j = r'
    · rw [e]; exact e0 (by omega)
    · refine zero_top t b r' (by omega) (fun l h3 h4 => ?_) j h1 (by omega)
      have := z l h3 (by omega)
      have e2 : pm T es (r' + 1) l = pm T es r' l + es r' * (T r' l : Int) := rfl
      rw [e2, e0 (by omega), Int.zero_mul, Int.add_zero] at this
      exact this
/-- what is left behind the kinds from b on -/
structure Left (r : Nat) (T : Nat → Nat → Nat) (mk : Nat → Int) (b : Nat) (cs rho : Nat → Int) : Prop where
  all : ∀ l, l < r → mk l = rho l + pm T (fun j => if j < b then 0 else cs j) r l
  top : ∀ l, b ≤ l → l < r → rho l = 0
theorem Left.start : Left r T mk r (fun _ => 0) mk := ⟨fun l hl => by
  rw [show (fun j : Nat => if j < r then (0 : Int) else 0) = fun _ => 0 from funext fun j => by split <;> rfl, pm_none]
  omega, fun l h1 h2 => by omega⟩
theorem Left.no (t : Tri r T) (q : Left r T mk (b + 1) cs rho) (hb : b < r) (ne : rho b % ((T b b : Nat) : Int) ≠ 0) : ¬ Solv r T mk := fun ⟨ds, hds⟩ => ne (by
  obtain ⟨es, hes⟩ : ∃ es : Nat → Int, es = fun j => ds j - (if j < b + 1 then 0 else cs j) := ⟨_, rfl⟩
  have e1 : ∀ l, l < r → rho l = pm T es r l := fun l hl => by
    have := q.all l hl
    rw [hds l hl] at this
    rw [hes, pm_sub]
    omega
  have z := zero_top (es := es) t (b + 1) r (Nat.le_refl r) fun l h1 h2 => by rw [← e1 l h2]; exact q.top l h1 h2
  rw [e1 b hb, pm_cut (b + 1) r (by omega) z, pm_own t hb, Int.mul_emod_left])
theorem Left.step (t : Tri r T) (q : Left r T mk (b + 1) cs rho) (hb : b < r) (e : rho b % ((T b b : Nat) : Int) = 0) : Left r T mk b (fun j => if j = b then rho b / ((T b b : Nat) : Int) else cs j) fun l => rho l - rho b / ((T b b : Nat) : Int) * ((T b l : Nat) : Int) := by
  obtain ⟨c, hc⟩ : ∃ c, c = rho b / ((T b b : Nat) : Int) := ⟨_, rfl⟩
  rw [← hc]
  refine ⟨fun l hl => ?_, fun l h1 h2 => ?_⟩
  · have e2 : pm T (fun j => if j < b then 0 else if j = b then c else cs j) r l = pm T (fun j => (if j < b + 1 then 0 else cs j) + c * (if j = b then 1 else 0)) r l := pm_congr r l fun j _ => by
      by_cases z : j < b
      · rw [if_pos z, if_pos (by omega), if_neg (by omega)]; omega
      · by_cases w : j = b
        · rw [if_neg z, if_pos w, if_pos (by omega), if_pos w]; omega
        · rw [if_neg z, if_neg w, if_neg (by omega), if_neg w]; omega
    rw [e2, pm_add, pm_scale, pm_ind, if_pos hb, q.all l hl]
    show _ = rho l - c * ((T b l : Nat) : Int) + _
    omega
  · show rho l - c * ((T b l : Nat) : Int) = 0
    by_cases z : l = b
    · have hp := t.pos b hb
      rw [z, hc, Int.ediv_mul_cancel (Int.dvd_of_emod_eq_zero e)]
      omega
    · rw [q.top l (by omega) h2, t.up b l (by omega) h2]
      show (0 : Int) - c * 0 = 0
      omega
end
end VL
namespace VL
open PySem PySem.Spec PyProof.Rows L2 HM HG
end VL
namespace VL
open PySem PySem.Spec PyProof.Rows L2 HM HG
section
variable {c : Fc} {X : Cx} {tas : VTA} {a b d : Expr} {pos : Pos}
/-- range(i, j, -1) -/
def viDown (ta : VTA) : VTI := fun env n Q => ta env n fun ds env1 n1 => ∃ i j : Int, ds = [.int i, .int j, .int (-1)] ∧ (-1000000 ≤ i ∧ i ≤ 1000000 ∧ -1000000 ≤ j ∧ j ≤ 1000000) ∧ Q (stpD i (-1) (i - j).toNat) env1 n1
theorem vi_down {tg : Expr} {p : Pos} (hg : Gl X "range") (hm : X.mg "range" = none) (ha : PA X [a, b, d] (bOf c tas))
    (hs : starEach [a, b, d] X.env = (false, eval a X.env) :: starEach [b, d] X.env := by rfl) (hpl : (backTo pos (starEach [b, d] X.env)).any (·.1) = false := by rfl) :
    PI X tg (.Call (.Name "range" p) [a, b, d] [] pos) (iOf c (viDown tas)) := PI.imp (pi_range3 hg hm ha hs hpl) fun σ H R ⟨F, env, n, Q, r, q, k⟩ =>
  ⟨F, env, n, _, r, q, fun vs H' F' G ds env' n' r' w g rp qd => by
    obtain ⟨i, j, rfl, ⟨h1, h2, h3, h4⟩, qd⟩ := qd
    cases rp with
    | cons p ps =>
      cases ps with
      | cons p2 ps =>
        cases ps with
        | cons p3 ps =>
          cases ps
          rw [p.int_inv, p2.int_inv, p3.int_inv]
          exact ⟨i, j, -1, (i - j).toNat, rfl, RgC.neg (by omega) (by omega) (by omega) (by omega), k _ H' F' _ env' n' r' w wk_step qd⟩⟩
end
theorem down_get {N i : Nat} {d : Dt} (h : (stpD ((N : Int) - 1) (-1) (((N : Int) - 1) - (-1)).toNat)[i]? = some d) : i < N ∧ d = nD (N - 1 - i) := by
  have e : (((N : Int) - 1) - (-1)).toNat = N := by omega
  rw [e] at h
  unfold stpD at h
  rw [List.getElem?_map] at h
  obtain ⟨x, hx, rfl⟩ := Option.map_eq_some_iff.mp h
  have hi : i < N := by have := (List.getElem?_eq_some_iff.mp hx).1; rwa [List.length_range] at this
  rw [List.getElem?_range hi] at hx
  cases hx
  refine ⟨hi, ?_⟩
  show Dt.int _ = Dt.int _
  congr 1
  omega
theorem down_len (N : Nat) : (stpD ((N : Int) - 1) (-1) (((N : Int) - 1) - (-1)).toNat).length = N := by rw [stpD_len]; omega
/-- the highest kind at which the rest is not a multiple -/
def StopAt (r : Nat) (T : Nat → Nat → Nat) (mk : Nat → Int) (b : Nat) : Prop := b < r ∧ ∃ cs rho, Left r T mk (b + 1) cs rho ∧ rho b % ((T b b : Nat) : Int) ≠ 0
section
variable {r : Nat} {T : Nat → Nat → Nat} {cs : Nat → Int} {mk : Nat → Int}
theorem tail_sum (b j : Nat) : ∀ d, ((List.range d).map fun x => cs (b + x) * ((T (b + x) j : Nat) : Int)).sum = pm T (fun i => if i < b then 0 else cs i) (b + d) j
  | 0 => by
    rw [Nat.add_zero, show pm T (fun i => if i < b then 0 else cs i) b j = pm T (fun _ => 0) b j from pm_congr b j fun i hi => if_pos hi, pm_none]
    rfl
  | d + 1 => by
    rw [List.range_succ, List.map_append, List.sum_append, tail_sum b j d]
    show _ + (cs (b + d) * ((T (b + d) j : Nat) : Int) + 0) = pm T _ (b + d) j + (if b + d < b then 0 else cs (b + d)) * _
    rw [if_neg (by omega), Int.add_zero]
    rfl
theorem StopAt.uniq (t : Tri r T) {b b2 : Nat} (h : StopAt r T mk b) (h2 : StopAt r T mk b2) : b = b2 := by
  have key : ∀ {b b2 : Nat}, StopAt r T mk b → StopAt r T mk b2 → ¬ b < b2 := fun {b b2} ⟨hb, cs, rho, L, ne⟩ ⟨hb2, ds, rho2, L2, ne2⟩ hl => by
    refine ne2 ?_
    obtain ⟨es, hes⟩ : ∃ es : Nat → Int, es = fun j => (if j < b + 1 then 0 else cs j) - (if j < b2 + 1 then 0 else ds j) := ⟨_, rfl⟩
    have e1 : ∀ l, b2 ≤ l → l < r → rho2 l = pm T es r l := fun l h1 h2 => by
      have u := L.all l h2
      have v := L2.all l h2
      rw [L.top l (by omega) h2] at u
      rw [hes, pm_sub]
      omega
    have z := zero_top (es := es) t (b2 + 1) r (Nat.le_refl r) fun l h1 h2 => by rw [← e1 l (by omega) h2]; exact L2.top l h1 h2
    rw [e1 b2 (Nat.le_refl _) hb2, pm_cut (b2 + 1) r (by omega) z, pm_own t hb2, Int.mul_emod_left]
  have h3 := key h h2
  have h4 := key h2 h
  omega
end
def spLSolv : VSp := fun ds t Q _ => ∃ (r : Nat) (T : Nat → Nat → Nat) (mk : Nat → Int), ds = [houD r T, .lst (isD ((List.range r).map mk))] ∧ 0 < r ∧ r ≤ 2400 ∧ Tri r T ∧ (∀ cs, (∀ j, j < r → mk j = pm T cs r j) → Q (.lst (isD ((List.range r).map cs))) t) ∧ (∀ b, StopAt r T mk b → Q (nD b) t)
/-- solved, and where it refuses -/
def spSolvedXS (C : Addr) : VSpX := fun ds t Q E => ∃ (r : Nat) (T : Nat → Nat → Nat) (mk : Nat → Int), ds = [houD r T, .lst (isD ((List.range r).map mk))] ∧ 0 < r ∧ r ≤ 2400 ∧ Tri r T ∧ (∀ cs, (∀ j, j < r → mk j = pm T cs r j) → Q (.lst (isD ((List.range r).map cs))) t) ∧ (∀ b : Nat, StopAt r T mk b → E (.ref C) (some [("at", .int ((b : Nat) : Int))]) t)
/-- the highest kind below nought -/
def LowAt (r : Nat) (cs : Nat → Int) (b : Nat) : Prop := b < r ∧ cs b < 0 ∧ ∀ j, b < j → j < r → 0 ≤ cs j
def spCountsByXS (C C2 : Addr) : VSpX := fun ds t Q E => ∃ (r : Nat) (T : Nat → Nat → Nat) (mk : Nat → Int), ds = [houD r T, .lst (isD ((List.range r).map mk))] ∧ 0 < r ∧ r ≤ 2400 ∧ Tri r T ∧ (∀ cs, (∀ j, j < r → mk j = pm T cs r j) → (∀ j, j < r → 0 ≤ cs j) → Q (.lst (isD ((List.range r).map cs))) t) ∧ (∀ b : Nat, StopAt r T mk b → E (.ref C) (some [("at", .int ((b : Nat) : Int))]) t) ∧ (∀ cs, (∀ j, j < r → mk j = pm T cs r j) → ∀ b : Nat, LowAt r cs b → E (.ref C2) (some [("at", .int ((b : Nat) : Int))]) t)
end VL
namespace K39
open PySem PySem.Spec PyProof.Rows L2 HM VL HG
abbrev s_l_solved : Stmt := topS 34
theorem sc_l_solved : FnScope ["_law_table_here", "_law_marks", "_law_row", "_law_found", "_law_j", "_law_i", "_law_left"] ["_law_table_here", "_law_marks"] (defScope s_l_solved) := ⟨rfl, rfl, rfl, by decide +kernel, rfl, by decide +kernel, by decide +kernel⟩
section
variable {P : Program} {w : World} {K : PySem.W.Frag} {mg : Str → Option Value} {base : Heap} {am : Am} {gd : Around → Prop} {k : Nat}
theorem ok_lsolved {f : Addr} {fd : FuncData} (F : Fun K "_law_solved" "_law_solved" s_l_solved f fd)
    (mz : ∀ x ∈ bn, mg x = none) : VFn gd P w K mg base CX0 (k + 1) f fd ["_law_table_here", "_law_marks"] am spLSolv := by
  refine vfn_of F sc_l_solved (fun ds n Q E h => ?_) ⟨_, fun cdv A out s H E F0 H0 hcd hgd hr =>
    (vss_cons (vs_setN (i := 3) sc_l_solved.nd rfl (.inr rfl) (vn_lc (own := [("_law_row", 2)]) rfl sc_l_solved.nd (vi_list (ve_var (pv 0))) (blkOk_by (own := [("_law_row", 2)]) (N := ["_law_table_here", "_law_marks", "_law_row", "_law_found", "_law_j", "_law_i", "_law_left"]) (sc := defScope s_l_solved) (by decide +kernel)) (tg_name (by simp)) (fun _ _ _ _ _ => (pg_name (i := 2) sc_l_solved.nd rfl (.inl rfl))) (fun _ _ _ _ _ _ _ => vts_nil) (fun _ _ _ _ _ _ _ => ve_int)))
      (vss_cons (vs_for PassesOwn.never rfl (vi_down (by rfl) (mz "range" (by decide)) (vb_cons (ve_op op_sub lft_I0 (ve_cbR call_len_seq lft_len (by rfl) (mz "len" (by decide)) PySem.boot_len (vb_rd (pv 0) vb_nil)) ve_int) (vb_cons (ve_neg ve_int) (vb_cons (ve_neg ve_int) vb_nil)))) (vg_name (pg_name (i := 4) sc_l_solved.nd rfl (.inr rfl)))
        (vss_cons (vs_set (i := 6) sc_l_solved.nd rfl (.inl rfl) (ve_op op_sub lft_I0 (ve_ixO (pv 1) (ve_var (pv 4)) (fun _ _ => rfl)) (ve_cb (cr_sum rfl) lft_sum (by rfl) (mz "sum" (by decide)) (by decide +kernel) (va_cons (ve_new (vn_lc (own := [("_law_i", 5)]) rfl sc_l_solved.nd (vi_range2 (by rfl) (mz "range" (by decide)) (vb_cons (ve_op op_add lft_I0 (ve_var (pv 4)) ve_int) (vb_cons (ve_cbR call_len_seq lft_len (by rfl) (mz "len" (by decide)) PySem.boot_len (vb_rd (pv 0) vb_nil)) vb_nil))) (blkOk_by (own := [("_law_i", 5)]) (N := ["_law_table_here", "_law_marks", "_law_row", "_law_found", "_law_j", "_law_i", "_law_left"]) (sc := defScope s_l_solved) (by decide +kernel)) (tg_name (by simp)) (fun _ _ _ _ _ => (pg_name (i := 5) sc_l_solved.nd rfl (.inl rfl))) (fun _ _ _ _ _ _ _ => vts_nil) (fun _ _ _ _ _ _ _ => (ve_op op_mul lft_I (ve_ixO (pv 3) (ve_var (pv 5)) (fun _ _ => rfl)) (ve_ix ix_list lft_ixL (ve_ixO (pv 0) (ve_var (pv 5)) (fun _ _ => rfl)) (ve_var (pv 4)) (fun _ _ => rfl)))))) va_nil))))
        (vss_cons (vs_if (vt_cmp op_ne lft_ne (ve_op op_mod lft_I (ve_var (pv 6)) (ve_ix ix_list lft_ixL (ve_ixO (pv 0) (ve_var (pv 4)) (fun _ _ => rfl)) (ve_var (pv 4)) (fun _ _ => rfl))) ve_int (nomark _))
          (vss_one (vs_ret (ve_var (pv 4))))
          vss_nil)
        (vss_one (vs_setIx (pv 3) (ve_var (pv 4)) (ve_op op_fdiv lft_I (ve_var (pv 6)) (ve_ix ix_list lft_ixL (ve_ixO (pv 0) (ve_var (pv 4)) (fun _ _ => rfl)) (ve_var (pv 4)) (fun _ _ => rfl))))))))
      (vss_one (vs_ret (ve_mv (pv 3)))))), fun ds t Q E h => ?_⟩
  · obtain ⟨r, T, mk, rfl, _⟩ := h
    rfl
  · obtain ⟨r, T, mk, rfl, hr0, hr, hT, q, qe⟩ := h
    have hl : ((List.range r).map fun a => rowD r (T a)).length = r := by rw [List.length_map, List.length_range]
    refine ⟨_, rfl, _, rfl, lc_map (i := 2) (fun _ => .int 0) (.head _) (noOw1 (s := .no) rfl no_ow) (by rw [hl]; omega) (fun j x hx R hR => hR) ?_⟩
    rw [hl, show (List.range r).map (fun _ => Dt.int 0) = isD ((List.range r).map fun i => if i < r - 0 then 0 else (fun _ => (0 : Int)) i) by
      unfold isD
      rw [List.map_map]
      exact List.map_congr_left fun i hi => congrArg Dt.int (if_pos (List.mem_range.mp hi)).symm]
    refine ⟨⟨_, .inl rfl⟩, _, .inl rfl, _, .inl rfl, rfl, _, _, rfl, rfl, _, rfl, _, rfl, _, _, rfl, ⟨by omega, by rw [hl]; omega, by omega, by omega⟩, fun i env t' => t' = t ∧ ∃ (cs rho : Nat → Int) (s4 s6 : Sl), Left r T mk (r - i) cs rho ∧ env = [.fz (houD r T), .fz (.lst (isD ((List.range r).map mk))), .no, .ow (.lst (isD ((List.range r).map fun j => if j < r - i then 0 else cs j))), s4, .no, s6], ⟨rfl, fun _ => 0, mk, .no, .no, Left.start, rfl⟩, fun i d env t' hd hP => ?_, fun env t' hP => ?_⟩
    · obtain ⟨rfl, cs, rho, s4, s6, hL, rfl⟩ := hP
      rw [hl] at hd
      obtain ⟨hi, rfl⟩ := down_get hd
      obtain ⟨b, hb, e1, e2⟩ : ∃ b, b < r ∧ r - 1 - i = b ∧ r - i = b + 1 := ⟨r - 1 - i, by omega, rfl, by omega⟩
      have e3 : r - (i + 1) = b := by omega
      rw [e2] at hL
      rw [e1, e2]
      have hpos := hT.pos b hb
      have hle := hT.le b b hb hb
      have hd2 : (((((List.range r).map fun a => rowD r (T a)).length : Nat) : Int) - (((b : Nat) : Int) + 1)).toNat = r - (b + 1) := by rw [hl]; omega
      refine ⟨⟨_, .inl rfl⟩, _, rfl, _, _, _, .inl rfl, rfl, isD_at hb, _, rfl, _, _, rfl, rfl, ⟨_, .inl rfl⟩, _, .inl rfl, _, .inl rfl, rfl, _, _, rfl, ⟨by omega, by omega, by omega, by rw [hl]; omega⟩, lc_map (i := 5) (fun x => .int (cs (b + 1 + x) * ((T (b + 1 + x) b : Nat) : Int))) (.head _) (noOw1 (s := .no) rfl no_ow) (by rw [rngD_len, hd2]; omega) (fun x d hx R hR => ?_) ?_⟩
      · rw [hd2] at hx
        obtain ⟨rfl, hx2⟩ := rngD_get hx
        have hxr : b + 1 + x < r := by omega
        have ex : ((b : Nat) : Int) + 1 + ((x : Nat) : Int) = ((b + 1 + x : Nat) : Int) := by omega
        rw [ex]
        have hat : atI (isD ((List.range r).map fun j => if j < b + 1 then 0 else cs j)) ((b + 1 + x : Nat) : Int) = some (.int (cs (b + 1 + x))) := by
          have := isD_at (f := fun j => if j < b + 1 then 0 else cs j) hxr
          rwa [if_neg (by omega)] at this
        have hle2 := hT.le (b + 1 + x) b hxr hb
        exact ⟨⟨_, .inr ⟨_, rfl, rfl⟩⟩, _, rfl, _, _, _, .inr ⟨_, rfl, rfl⟩, rfl, hat, ⟨_, .inl rfl⟩, _, rfl, _, _, _, .inl rfl, rfl, hou_at hxr, _, rfl, _, _, _, rfl, rfl, row_at hb, _, _, rfl, rfl, .inr ⟨by omega, by omega⟩, hR⟩
      rw [rngD_len, hd2]
      have hleft : mk b - ((List.range (r - (b + 1))).map fun x => cs (b + 1 + x) * ((T (b + 1 + x) b : Nat) : Int)).sum = rho b := by
        rw [tail_sum (b + 1) b, show b + 1 + (r - (b + 1)) = r by omega, hL.all b hb]
        omega
      refine ⟨_, rfl, (List.range (r - (b + 1))).map fun x => cs (b + 1 + x) * ((T (b + 1 + x) b : Nat) : Int), by rw [List.map_map]; rfl, _, _, rfl, rfl, ?_⟩
      dsimp only
      rw [hleft]
      refine ⟨_, rfl, ⟨_, .inl rfl⟩, _, rfl, _, _, _, .inl rfl, rfl, hou_at hb, _, rfl, _, _, _, rfl, rfl, row_at hb, _, _, rfl, rfl, by omega, .inl ⟨_, _, rfl, rfl, _, rfl, iteB (fun e => ?_) (fun e => ?_)⟩⟩
      · have e : (!decide (rho b % ((T b b : Nat) : Int) = 0)) = true := e
        rw [Bool.not_eq_true', decide_eq_false_iff_not] at e
        exact ⟨_, rfl, qe b ⟨hb, cs, rho, hL, e⟩⟩
      have e : (!decide (rho b % ((T b b : Nat) : Int) = 0)) = false := e
      rw [Bool.not_eq_false', decide_eq_true_iff] at e
      obtain ⟨c, hc⟩ : ∃ c, c = rho b / ((T b b : Nat) : Int) := ⟨_, rfl⟩
      have hL2 := hL.step hT hb e
      rw [← hc] at hL2
      refine ⟨_, rfl, ⟨_, .inl rfl⟩, _, rfl, _, _, _, .inl rfl, rfl, hou_at hb, _, rfl, _, _, _, rfl, rfl, row_at hb, _, _, rfl, rfl, ⟨by omega, by omega⟩, ⟨_, rfl⟩, _, rfl, _, b, rfl, rfl, by rw [isD_len, List.length_map, List.length_range]; exact hb, ?_⟩
      have hset : (isD ((List.range r).map fun j => if j < b + 1 then 0 else cs j)).set b (.int (rho b / ((T b b : Nat) : Int))) = isD ((List.range r).map fun j => if j < b then 0 else if j = b then c else cs j) := by
        rw [← hc]
        refine List.ext_getElem? fun j => ?_
        unfold isD
        by_cases hj : j < r
        · by_cases z : b = j
          · subst z
            rw [List.getElem?_set_self (by rw [List.length_map, List.length_map, List.length_range]; exact hb), List.getElem?_map, List.getElem?_map, List.getElem?_range hb]
            show some (Dt.int c) = some (Dt.int (if b < b then 0 else if b = b then c else cs b))
            rw [if_neg (Nat.lt_irrefl b), if_pos rfl]
          · rw [List.getElem?_set_ne z, List.getElem?_map, List.getElem?_map, List.getElem?_map, List.getElem?_map, List.getElem?_range hj]
            show some (Dt.int (if j < b + 1 then 0 else cs j)) = some (Dt.int (if j < b then 0 else if j = b then c else cs j))
            by_cases w : j < b
            · rw [if_pos w, if_pos (by omega)]
            · rw [if_neg w, if_neg (by omega), if_neg (Ne.symm z)]
        · rw [List.getElem?_eq_none (by rw [List.length_set, List.length_map, List.length_map, List.length_range]; omega), List.getElem?_eq_none (by rw [List.length_map, List.length_map, List.length_range]; omega)]
      rw [hset]
      refine ⟨rfl, fun j => if j = b then c else cs j, fun l => rho l - c * ((T b l : Nat) : Int), .fz (nD b), .fz (.int (rho b)), by rw [e3]; exact hL2, ?_⟩
      rw [e3, ← hset]
      rfl
    · obtain ⟨rfl, cs, rho, s4, s6, hL, rfl⟩ := hP
      rw [hl, down_len, Nat.sub_self] at hL ⊢
      refine ⟨_, rfl, ?_⟩
      rw [show (List.range r).map (fun j => if j < 0 then 0 else cs j) = (List.range r).map cs from List.map_congr_left fun i _ => if_neg (Nat.not_lt_zero i)]
      refine q cs fun j hj => ?_
      rw [hL.all j hj, hL.top j (Nat.zero_le _) hj, Int.zero_add]
      exact pm_congr r j fun i _ => if_neg (Nat.not_lt_zero i)
end
end K39
namespace K39
open PySem PySem.Spec PyProof.Rows L2 HM VL HG
abbrev s_solved : Stmt := topS 14
theorem sc_solved : FnScope ["table", "marks", "counts", "rest", "kind", "row", "left", "entry"] ["table", "marks"] (defScope s_solved) := ⟨rfl, rfl, rfl, by decide +kernel, rfl, by decide +kernel, by decide +kernel⟩
section
variable {P : Program} {w : World} {K : PySem.W.Frag} {mg : Str → Option Value} {base : Heap} {am : Am} {gd : Around → Prop} {k : Nat}
abbrev sInitB : Stmt := match topS 5 with | .ClassDef _ _ _ (s :: _) .. => s | s => s
theorem initB : InitS sInitB where
  bd := ⟨_, _, _, _, _, _, _, _, _, _, _, _, _, _, _, by decide +kernel, rfl, fun env => ⟨_, rfl⟩⟩
  hp := ⟨_, rfl, rfl⟩
  bi := fun _ _ _ _ _ _ _ _ _ _ _ => rfl
  k := rfl
  co := rfl
  ge := rfl
  ce := by decide +kernel
  ks := rfl
  kc := rfl
  kf := rfl
  ka := rfl
theorem ok_solvedXS {f C fI : Addr} {fd : FuncData} (F : Fun K "solved" "solved" s_solved f fd)
    (NB : NoT P sInitB "NoSet.__init__" K C fI) (gB : mg "NoSet" = some (.ref C))
    (mz : ∀ x ∈ bn, mg x = none) : PFn gd P w K mg base (L2.CX P w) (k + 3) f fd ["table", "marks"] (vspX am (spSolvedXS C)) := by
  refine vfn_ofNX F sc_solved (fun ds n Q E h => ?_) ⟨_, fun cdv A out s H E F0 H0 E' hcd hgd hr tk le =>
    (pssN_cons (ps_liftN (vs_setN (i := 2) sc_solved.nd rfl (.inr rfl) (vn_op op_rep lft_rep (ve_lstK (ka_cons ve_int ka_nil) (by decide)) (ve_cbR call_len_seq lft_len (by rfl) (mz "len" (by decide)) PySem.boot_len (vb_rd (pv 0) vb_nil)))))
      (pssN_cons (ps_liftN (vs_set (i := 3) sc_solved.nd rfl (.inl rfl) (ve_new (vn_tyR call_list_of lft_listOf (by rfl) (mz "list" (by decide)) (by decide +kernel) (vb_rd (pv 1) vb_nil)))))
      (pssN_cons (ps_liftN (vs_for (passes_of rfl) rfl (vi_revR (by rfl) (mz "reversed" (by decide)) (vrg_1 (by rfl) (mz "range" (by decide)) (ve_cbR call_len_seq lft_len (by rfl) (mz "len" (by decide)) PySem.boot_len (vb_rd (pv 0) vb_nil)))) (vg_name (pg_name (i := 4) sc_solved.nd rfl (.inr rfl)))
        (vss_cons (vs_set (i := 5) sc_solved.nd rfl (.inl rfl) (ve_ixO (pv 0) (ve_var (pv 4)) (fun _ _ => rfl)))
        (vss_cons (vs_if (vt_cmp op_ne lft_ne (ve_op op_mod lft_I (ve_ixO (pv 3) (ve_var (pv 4)) (fun _ _ => rfl)) (ve_ixO (pv 5) (ve_var (pv 4)) (fun _ _ => rfl))) ve_int (nomark _))
          (vss_one (vs_raiseN rfl tk le NB initB hr (by rfl) gB (ve_var (pv 4))))
          vss_nil)
        (vss_cons (vs_setIx (pv 2) (ve_var (pv 4)) (ve_op op_fdiv lft_I (ve_ixO (pv 3) (ve_var (pv 4)) (fun _ _ => rfl)) (ve_ixO (pv 5) (ve_var (pv 4)) (fun _ _ => rfl))))
        (vss_one (vs_setLcF (i := 3) (own := [("left", 6), ("entry", 7)]) rfl sc_solved.nd rfl rfl (sw_true rfl rfl rfl (by decide +kernel)) (vi_zip (by rfl) (mz "zip" (by decide)) (va_cons (ve_var (pv 3)) (va_cons (ve_var (pv 5)) va_nil))) (blkOk_by (own := [("left", 6), ("entry", 7)]) (N := ["table", "marks", "counts", "rest", "kind", "row", "left", "entry"]) (sc := defScope s_solved) (by decide +kernel)) (tg_two (by simp) (by simp)) (fun _ _ _ _ _ => pg_tup rfl (pgs_cons (pg_name (i := 6) sc_solved.nd rfl (.inl rfl)) (pgs_cons (pg_name (i := 7) sc_solved.nd rfl (.inl rfl)) pgs_nil))) (fun _ _ _ _ _ _ _ => vts_nil) (fun _ _ _ _ _ _ _ => (ve_op op_sub lft_I0 (ve_var (pv 6)) (ve_op op_mul lft_I (ve_ixO (pv 2) (ve_var (pv 4)) (fun _ _ => rfl)) (ve_var (pv 7))))))))))))
      (pssN_one (ps_retO (pv 2)))))), fun ds t Q E' h => ?_⟩
  · obtain ⟨r, T, mk, rfl, _⟩ := h
    rfl
  · obtain ⟨r, T, mk, rfl, hr0, hr, hT, q, qe⟩ := h
    have hl : ((List.range r).map fun a => rowD r (T a)).length = r := by rw [List.length_map, List.length_range]
    refine ⟨⟨_, .inl rfl⟩, _, .inl rfl, _, .inl rfl, rfl, [.int 0], r, rfl, by rw [hl], by omega, by show 1 * r ≤ 5000; omega, ?_⟩
    rw [show List.flatten (List.replicate r [Dt.int 0]) = isD ((List.range r).map fun i => if i < r - 0 then 0 else (fun _ => (0 : Int)) i) by
      rw [rep_ints]
      unfold isD
      refine congrArg (List.map Dt.int) (List.eq_replicate_iff.mpr ⟨by rw [List.length_map, List.length_range], fun x hx => by
        obtain ⟨i, hi, rfl⟩ := List.mem_map.mp hx
        exact if_pos (List.mem_range.mp hi)⟩).symm]
    refine ⟨⟨_, .inl rfl⟩, _, .inl rfl, _, .inl rfl, flats_int _, _, rfl, ?_⟩
    refine ⟨⟨_, .inl rfl⟩, _, .inl rfl, _, .inl rfl, rfl, _, rfl, by rw [hl]; omega, fun i env t' => t' = t ∧ ∃ (cs rho : Nat → Int) (s4 s5 s6 s7 : Sl), (∀ k, s6 ≠ Sl.ow k) ∧ (∀ k, s7 ≠ Sl.ow k) ∧ Left r T mk (r - i) cs rho ∧ env = [.fz (houD r T), .fz (.lst (isD ((List.range r).map mk))), .ow (.lst (isD ((List.range r).map fun j => if j < r - i then 0 else cs j))), .fz (.lst (isD ((List.range r).map rho))), s4, s5, s6, s7], ⟨rfl, fun _ => 0, mk, .no, .no, .no, .no, no_ow, no_ow, Left.start, rfl⟩, fun i d env t' hd hP => ?_, fun env t' hP => ?_⟩
    · obtain ⟨rfl, cs, rho, s4, s5, s6, s7, hs6, hs7, hL, rfl⟩ := hP
      rw [hl] at hd
      obtain ⟨hi, rfl⟩ := rev_get hd
      obtain ⟨b, hb, e1, e2⟩ : ∃ b, b < r ∧ r - 1 - i = b ∧ r - i = b + 1 := ⟨r - 1 - i, by omega, rfl, by omega⟩
      have e3 : r - (i + 1) = b := by omega
      rw [e2] at hL
      rw [e1, e2]
      have hpos := hT.pos b hb
      have hle := hT.le b b hb hb
      have hrow : atI ((List.range r).map fun a => rowD r (T a)) ((b : Nat) : Int) = some (rowD r (T b)) := atI_nat (by rw [List.getElem?_map, List.getElem?_range hb]; rfl)
      refine ⟨⟨_, .inl rfl⟩, _, rfl, _, _, _, .inl rfl, rfl, hrow, ?_⟩
      refine ⟨⟨_, .inl rfl⟩, _, rfl, _, _, _, .inl rfl, rfl, isD_at hb, ⟨_, .inl rfl⟩, _, rfl, _, _, _, .inl rfl, rfl, row_at hb, _, _, rfl, rfl, by omega, .inl ⟨_, _, rfl, rfl, _, rfl, iteB (fun e => ?_) (fun e => ?_)⟩⟩
      · have e : (!decide (rho b % ((T b b : Nat) : Int) = 0)) = true := e
        rw [Bool.not_eq_true', decide_eq_false_iff_not] at e
        exact ⟨_, rfl, _, rfl, (small_int (by omega)).1, (small_int (by omega)).2, qe b ⟨hb, cs, rho, hL, e⟩⟩
      have e : (!decide (rho b % ((T b b : Nat) : Int) = 0)) = false := e
      rw [Bool.not_eq_false', decide_eq_true_iff] at e
      obtain ⟨c, hc⟩ : ∃ c, c = rho b / ((T b b : Nat) : Int) := ⟨_, rfl⟩
      have hL2 := hL.step hT hb e
      rw [← hc] at hL2
      refine ⟨⟨_, .inl rfl⟩, _, rfl, _, _, _, .inl rfl, rfl, isD_at hb, ⟨_, .inl rfl⟩, _, rfl, _, _, _, .inl rfl, rfl, row_at hb, _, _, rfl, rfl, ⟨by omega, by omega⟩, ⟨_, rfl⟩, _, rfl, _, b, rfl, rfl, by rw [isD_len, List.length_map, List.length_range]; exact hb, ?_⟩
      have hset : (isD ((List.range r).map fun j => if j < b + 1 then 0 else cs j)).set b (.int (rho b / ((T b b : Nat) : Int))) = isD ((List.range r).map fun j => if j < b then 0 else if j = b then c else cs j) := by
        rw [← hc]
        refine List.ext_getElem? fun j => ?_
        unfold isD
        by_cases hj : j < r
        · by_cases z : b = j
          · subst z
            rw [List.getElem?_set_self (by rw [List.length_map, List.length_map, List.length_range]; exact hb), List.getElem?_map, List.getElem?_map, List.getElem?_range hb]
            show some (Dt.int c) = some (Dt.int (if b < b then 0 else if b = b then c else cs b))
            rw [if_neg (Nat.lt_irrefl b), if_pos rfl]
          · rw [List.getElem?_set_ne z, List.getElem?_map, List.getElem?_map, List.getElem?_map, List.getElem?_map, List.getElem?_range hj]
            show some (Dt.int (if j < b + 1 then 0 else cs j)) = some (Dt.int (if j < b then 0 else if j = b then c else cs j))
            by_cases w : j < b
            · rw [if_pos w, if_pos (by omega)]
            · rw [if_neg w, if_neg (by omega), if_neg (Ne.symm z)]
        · rw [List.getElem?_eq_none (by rw [List.length_set, List.length_map, List.length_map, List.length_range]; omega), List.getElem?_eq_none (by rw [List.length_map, List.length_map, List.length_range]; omega)]
      rw [hset]
      have hzl : (zipD (isD ((List.range r).map rho)) (nsD ((List.range r).map (T b)))).length = r := by rw [zipD_len, isD_len, nsD_len, List.length_map, List.length_map, List.length_range, Nat.min_self]
      have hat : atI (isD ((List.range r).map fun j => if j < b then 0 else if j = b then c else cs j)) ((b : Nat) : Int) = some (.int c) := by
        have := isD_at (f := fun j => if j < b then 0 else if j = b then c else cs j) hb
        rwa [if_neg (Nat.lt_irrefl b), if_pos rfl] at this
      refine ⟨_, rfl, _, rfl, _, _, .inr rfl, lc_map2 (i := 6) (i2 := 7) (fun j => .int (rho j - c * ((T b j : Nat) : Int))) (.head _) (.tail _ (.head _)) (noOw2 (s := s6) (s2 := s7) rfl rfl hs6 hs7) (by rw [hzl]; omega) (fun j d hd => ?_) ?_⟩
      · obtain ⟨u, v, hu, hv, rfl⟩ := zipD_get hd
        refine ⟨u, v, rfl, fun R hR => ?_⟩
        obtain ⟨hj, rfl⟩ := isD_get hu
        obtain ⟨_, rfl⟩ := row_get hv
        have hle2 := hT.le b j hb hj
        exact ⟨_, rfl, ⟨_, .inr ⟨_, rfl, rfl⟩⟩, _, rfl, _, _, _, .inr ⟨_, rfl, rfl⟩, rfl, hat, _, rfl, _, _, rfl, rfl, .inr ⟨by omega, by omega⟩, _, _, rfl, rfl, hR⟩
      · rw [hzl, show (List.range r).map (fun j => Dt.int (rho j - c * ((T b j : Nat) : Int))) = isD ((List.range r).map fun j => rho j - c * ((T b j : Nat) : Int)) by unfold isD; rw [List.map_map]; rfl]
        refine ⟨_, rfl, rfl, fun j => if j = b then c else cs j, fun l => rho l - c * ((T b l : Nat) : Int), .fz (nD b), .fz (rowD r (T b)), s6, s7, hs6, hs7, by rw [e3]; exact hL2, ?_⟩
        rw [e3]
        rfl
    · obtain ⟨rfl, cs, rho, s4, s5, s6, s7, hs6, hs7, hL, rfl⟩ := hP
      rw [hl, rev_len, Nat.sub_self] at hL ⊢
      refine ⟨_, rfl, ?_⟩
      rw [show (List.range r).map (fun j => if j < 0 then 0 else cs j) = (List.range r).map cs from List.map_congr_left fun i _ => if_neg (Nat.not_lt_zero i)]
      refine q cs fun j hj => ?_
      rw [hL.all j hj, hL.top j (Nat.zero_le _) hj, Int.zero_add]
      exact pm_congr r j fun i _ => if_neg (Nat.not_lt_zero i)
end
end K39
namespace VL
open PySem PySem.Spec PyProof.Rows L2 HM
end VL
namespace VL
open PySem PySem.Spec PyProof.Rows L2 HM
def vSetLet (sp : VSpX) (i : Nat) (E' : VXK) (ta : VTA) : VTS := fun V env n => ta env n fun ds env1 n1 => sp ds n1 (fun kk n2 => V.nx (env1.set i (.ow kk)) n2) fun cls fs n2 => E' cls fs n2
section
variable {c : Fc} {X : Cx} {i k : Nat} {x fn : Str} {f : Addr} {fd : FuncData} {ps : List Str} {gd : Around → Prop} {e : Expr} {es : List Expr} {tas : VTA} {sp : VSpX} {px pf pc pos2 : Pos} {E : XK} {E' : VXK}
theorem vs_setLet (tk : Takes X (fun cls d _ H => E cls d H)) (le : Lets c E E') (hN : X.N.Nodup) (hi : X.N[i]? = some x) (hx : Loc X.env.scope x)
    (G : PFn gd X.prog X.w X.K X.mg X.base (L2.CX X.prog X.w) k f fd ps (vspX c.am sp)) (hgd : gd X.A) (hr : Room k X.A) (hg : Gl X fn) (hm : X.mg fn = some (.ref f)) (hk : PySem.W.keepIn X.K (.ref f) = true) (hb : Binds X.K fd ps [])
    (ha : PA X (e :: es) (aOf c tas)) (hdb : (fn == ("__debug__" : Str)) = false := by decide)
    (hsw : swapsWith (.Call (.Name fn pf) (e :: es) [] pc) (some (.Name x px)) pos2.line X.env = pure false := by rfl) (hf1 : X.fn x = true ∨ X.env.scope.names.lookup x = some .local := by first | exact .inl rfl | exact .inr rfl | assumption)
    (he : starEach (e :: es) X.env = (false, eval e X.env) :: starEach es X.env := by rfl) (hpl : (backTo pc (starEach es X.env)).any (·.1) = false := by rfl) :
    PS X (.Assign [.Name x px] (.Call (.Name fn pf) (e :: es) [] pc) pos2) (sOf c (vSetLet sp i E' tas)) :=
  PS.imp (ps_set hN hi hx (pe_callPS (E := WE (fun cls d _ H => E cls d H)) G hgd hr hg hm hk hb (fun σ => passAt tk σ) ha hdb he hpl) hsw hf1) fun D σ H ⟨F, env, n, V, r, q, kk⟩ => by
  refine ⟨F, env, n, _, r, q, fun vs H1 F1 ds env1 n1 r1 u1 p1 q1 => ?_⟩
  refine ⟨F1, ds, n1, _, _, r1.sub, r1.spf, r1.amb, p1, q1, fun a o ck F' H' n' ot hF h0 ns hH ok q' => ?_, fun cls od fs F' H' n' ot xo q' => ?_⟩
  · have r2 := r1.call ot.u ot.s ot.f ot.o ot.k ot.a
    exact kk.nx F' H' _ _ n' (r2.setO hF (r1.H0none h0 ns) ns hH ok (r1.notOwn h0)) (u1.trans ot.u) q'
  · have r2 := r1.call ot.u ot.s ot.f ot.o ot.k ot.a
    refine le cls od fs F' H' n' r2.out ?_ q'
    rcases xo with ⟨e1, e2⟩ | ⟨d, l, e1, e2, e3, e4, e5⟩
    · exact .inl ⟨e1, e2⟩
    · exact .inr ⟨d, l, e1, e2, r1.H0none e3 (fun z => c.am.trk r1.amb z e3), e4, e5⟩
end
end VL
namespace K39
open PySem PySem.Spec PyProof.Rows L2 HM VL HG
abbrev s_counts_by : Stmt := topS 15
theorem sc_counts_by : FnScope ["table", "marks", "counts", "kind"] ["table", "marks"] (defScope s_counts_by) := ⟨rfl, rfl, rfl, by decide +kernel, rfl, by decide +kernel, by decide +kernel⟩
section
variable {P : Program} {w : World} {K : PySem.W.Frag} {mg : Str → Option Value} {base : Heap} {am : Am} {gd : Around → Prop} {k : Nat}
abbrev sInitB2 : Stmt := match topS 6 with | .ClassDef _ _ _ (s :: _) .. => s | s => s
theorem initB2 : InitS sInitB2 where
  bd := ⟨_, _, _, _, _, _, _, _, _, _, _, _, _, _, _, by decide +kernel, rfl, fun env => ⟨_, rfl⟩⟩
  hp := ⟨_, rfl, rfl⟩
  bi := fun _ _ _ _ _ _ _ _ _ _ _ => rfl
  k := rfl
  co := rfl
  ge := rfl
  ce := by decide +kernel
  ks := rfl
  kc := rfl
  kf := rfl
  ka := rfl
theorem ok_countsXS {C C2 fI2 : Addr} {f f_solved : Addr} {fd fd_solved : FuncData} (F : Fun K "counts_by" "counts_by" s_counts_by f fd)
    (GX_solved : PFn anyA P w K mg base (L2.CX P w) (k + 3) f_solved fd_solved ["table", "marks"] (vspX am (spSolvedXS C))) (g_solved : mg "solved" = some (.ref f_solved)) (k_solved : PySem.W.keepIn K (.ref f_solved) = true) (b_solved : Binds K fd_solved ["table", "marks"] [])
    (NB2 : NoT P sInitB2 "BelowNought.__init__" K C2 fI2) (gB2 : mg "BelowNought" = some (.ref C2))
    (mz : ∀ x ∈ bn, mg x = none) : PFn gd P w K mg base (L2.CX P w) (k + 4) f fd ["table", "marks"] (vspX am (spCountsByXS C C2)) := by
  refine vfn_ofNX F sc_counts_by (fun ds n Q E h => ?_) ⟨_, fun cdv A out s H E F0 H0 E' hcd hgd hr tk le =>
    (pssN_cons (ps_liftN (vs_setLet (i := 2) tk le sc_counts_by.nd rfl (.inl rfl) GX_solved trivial (hr.mono (by omega)) (by rfl) g_solved k_solved b_solved (va_cons (ve_var (pv 0)) (va_cons (ve_var (pv 1)) va_nil))))
      (pssN_cons (ps_liftN (vs_for (passes_of rfl) rfl (vi_revR (by rfl) (mz "reversed" (by decide)) (vrg_1 (by rfl) (mz "range" (by decide)) (ve_cbR call_len_seq lft_len (by rfl) (mz "len" (by decide)) PySem.boot_len (vb_rd (pv 2) vb_nil)))) (vg_name (pg_name (i := 3) sc_counts_by.nd rfl (.inl rfl)))
        (vss_one (vs_if (vt_cmp op_lt lft_B0 (ve_ixO (pv 2) (ve_var (pv 3)) (fun _ _ => rfl)) ve_int (nomark _))
          (vss_one (vs_raiseN rfl tk le NB2 initB2 hr (by rfl) gB2 (ve_var (pv 3))))
          vss_nil))))
      (pssN_one (ps_retO (pv 2))))), fun ds t Q E' h => ?_⟩
  · obtain ⟨r, T, mk, rfl, _⟩ := h
    rfl
  · obtain ⟨r, T, mk, rfl, hr0, hr, hT, q, q1, q2⟩ := h
    refine ⟨_, rfl, _, rfl, r, T, mk, rfl, hr0, hr, hT, fun cs hcs => ?_, fun b hb => q1 b hb⟩
    have hil : (isD ((List.range r).map cs)).length = r := by rw [isD_len, List.length_map, List.length_range]
    refine ⟨⟨_, .inr ⟨_, rfl, rfl⟩⟩, _, .inr ⟨_, rfl, rfl⟩, _, .inl rfl, rfl, _, rfl, by rw [hil]; omega, fun i env t' => t' = t ∧ ∃ s3 : Sl, (∀ j, r - i ≤ j → j < r → 0 ≤ cs j) ∧ env = [.fz (houD r T), .fz (.lst (isD ((List.range r).map mk))), .ow (.lst (isD ((List.range r).map cs))), s3], ⟨rfl, .no, fun j h1 h2 => by omega, rfl⟩, fun i d env t' hd hP => ?_, fun env t' hP => ?_⟩
    · obtain ⟨rfl, s3, hge, rfl⟩ := hP
      rw [hil] at hd
      obtain ⟨hi, rfl⟩ := rev_get hd
      obtain ⟨b, hb, e1, e2⟩ : ∃ b, b < r ∧ r - 1 - i = b ∧ r - i = b + 1 := ⟨r - 1 - i, by omega, rfl, by omega⟩
      have e3 : r - (i + 1) = b := by omega
      rw [e2] at hge
      rw [e1]
      refine ⟨⟨_, .inr ⟨_, rfl, rfl⟩⟩, _, rfl, _, _, _, .inr ⟨_, rfl, rfl⟩, rfl, isD_at hb, _, _, rfl, rfl, _, rfl, iteB (fun e => ?_) (fun e => ?_)⟩
      · have e := of_decide_eq_true e
        exact ⟨_, rfl, _, rfl, (small_int (by omega)).1, (small_int (by omega)).2, q2 cs hcs b ⟨hb, e, fun j h1 h2 => hge j (by omega) h2⟩⟩
      · have e := of_decide_eq_false e
        refine ⟨rfl, .fz (nD b), fun j h1 h2 => ?_, rfl⟩
        rw [e3] at h1
        by_cases z : j = b
        · rw [z]; omega
        · exact hge j (by omega) h2
    · obtain ⟨rfl, s3, hge, rfl⟩ := hP
      rw [hil, rev_len, Nat.sub_self] at hge
      exact ⟨_, rfl, q cs hcs fun j hj => hge j (Nat.zero_le _) hj⟩
end
end K39
namespace K39
open PySem PySem.Spec PyProof.Rows L2 HM VL
abbrev s_l_table : Stmt := topS 33
theorem sc_l_table : FnScope ["_law_house_here", "_law_kinds_here", "_law_known", "_law_found", "_law_i", "_law_part_here", "_law_one", "_law_alike", "_law_many", "_law_row", "_law_other", "_law_number_here"] ["_law_house_here", "_law_kinds_here", "_law_known"] (defScope s_l_table) := ⟨rfl, rfl, rfl, by decide +kernel, rfl, by decide +kernel, by decide +kernel⟩
section
variable {P : Program} {w : World} {K : PySem.W.Frag} {mg : Str → Option Value} {base : Heap} {am : Am} {gd : Around → Prop} {k : Nat}
theorem ok_ltable {f : Addr} {fd : FuncData} (F : Fun K "_law_table" "_law_table" s_l_table f fd) (mz : ∀ x ∈ bn, mg x = none) : VFn gd P w K mg base CX0 (k + 1) f fd ["_law_house_here", "_law_kinds_here", "_law_known"] am spLTable := by
  refine vfn_of F sc_l_table (fun ds n Q E h => ?_) ⟨_, fun cdv A out s H E F0 H0 hcd hgd hr =>
    (vss_cons (vs_setN (i := 3) sc_l_table.nd rfl (.inl rfl) (vn_lst va_nil))
      (vss_cons (vs_for PassesOwn.never rfl (vi_enum (by rfl) (mz "enumerate" (by decide)) (va_cons (ve_var (pv 1)) va_nil)) (vg_tup (m := 2) rfl (vgs_cons (vg_name (pg_name (i := 4) sc_l_table.nd rfl (.inr rfl))) (vgs_cons (vg_name (pg_name (i := 5) sc_l_table.nd rfl (.inl rfl))) vgs_nil)))
        (vss_cons (vs_setLcF (i := 7) (own := [("_law_one", 6)]) rfl sc_l_table.nd rfl rfl (sw_true rfl rfl rfl (by decide +kernel)) (vi_dic (pv 2)) (blkOk_by (own := [("_law_one", 6)]) (N := ["_law_house_here", "_law_kinds_here", "_law_known", "_law_found", "_law_i", "_law_part_here", "_law_one", "_law_alike", "_law_many", "_law_row", "_law_other", "_law_number_here"]) (sc := defScope s_l_table) (by decide +kernel)) (tg_name (by simp)) (fun _ _ _ _ _ => (pg_name (i := 6) sc_l_table.nd rfl (.inl rfl))) (fun _ _ _ _ _ _ _ => vts_one (vt_cmp op_eq lft_eq (ve_fget (hu_of hr) (pv 2) (ve_var (pv 6)) (fun _ _ => rfl)) (ve_var (pv 4)) (nomark _))) (fun _ _ _ _ _ _ _ => (ve_var (pv 6))))
        (vss_cons (vs_set (i := 8) sc_l_table.nd rfl (.inl rfl) (ve_op op_fdiv lft_I (ve_op op_fdiv lft_I (ve_cbR call_len_seq lft_len (by rfl) (mz "len" (by decide)) PySem.boot_len (vb_rd (pv 0) vb_nil)) (ve_cbR call_len_seq lft_len (by rfl) (mz "len" (by decide)) PySem.boot_len (vb_rd (pv 7) vb_nil))) (ve_cbR call_len_seq lft_len (by rfl) (mz "len" (by decide)) PySem.boot_len (vb_rd (pv 5) vb_nil))))
        (vss_cons (vs_setN (i := 9) sc_l_table.nd rfl (.inl rfl) (vn_lst va_nil))
        (vss_cons (vs_for PassesOwn.never rfl (vi_list (ve_var (pv 1))) (vg_name (pg_name (i := 10) sc_l_table.nd rfl (.inr rfl)))
          (vss_one (vs_expr (ve_m (pe_bm PySem.F.plainAttrs_list PySem.F.slot_list_append PySem.F.type_list_append mt_append (pv 9) (va_cons (ve_op op_mul lft_I (ve_var (pv 8)) (ve_cbR call_len_seq lft_len (by rfl) (mz "len" (by decide)) PySem.boot_len (vb_cons (ve_new (vn_lc (own := [("_law_one", 6)]) rfl sc_l_table.nd (vi_list (ve_var (pv 7))) (blkOk_by (own := [("_law_one", 6)]) (N := ["_law_house_here", "_law_kinds_here", "_law_known", "_law_found", "_law_i", "_law_part_here", "_law_one", "_law_alike", "_law_many", "_law_row", "_law_other", "_law_number_here"]) (sc := defScope s_l_table) (by decide +kernel)) (tg_name (by simp)) (fun _ _ _ _ _ => (pg_name (i := 6) sc_l_table.nd rfl (.inr rfl))) (fun _ _ _ _ _ _ _ => vts_one (vt_val (ve_cb (cr_all rfl) lft_all (by rfl) (mz "all" (by decide)) (by decide +kernel) (va_cons (ve_new (vn_lc (own := [("_law_number_here", 11)]) rfl sc_l_table.nd (vi_tup (ve_var (pv 10))) (blkOk_by (own := [("_law_number_here", 11)]) (by rfl)) (tg_name (by simp)) (fun _ _ _ _ _ => (pg_name (i := 11) sc_l_table.nd rfl (.inl rfl))) (fun _ _ _ _ _ _ _ => vts_nil) (fun _ _ _ _ _ _ _ => (ve_cmpR op_in_seq lft_in (ve_var (pv 11)) (vr_var (pv 6)) (by rfl))))) va_nil)))) (fun _ _ _ _ _ _ _ => (ve_var (pv 6))))) vb_nil))) va_nil)) lft_append))))
        (vss_one (vs_expr (ve_m (pe_bm PySem.F.plainAttrs_list PySem.F.slot_list_append PySem.F.type_list_append mt_append (pv 3) (va_cons (ve_mv (pv 9)) va_nil)) lft_append))))))))
      (vss_one (vs_ret (ve_mv (pv 3)))))), fun ds t Q E h => ?_⟩
  · obtain ⟨n, m, ks, C, rfl, _⟩ := h
    rfl
  · obtain ⟨n, m, ks, C, rfl, hH, hn, hk, hC, q⟩ := h
    have hkl := few_subs hH hn hk.nd hk.sub
    have hrow : ((List.range n).map fun a => rowD n (m a)).length = n := by rw [List.length_map, List.length_range]
    have hp := hH.pos
    have hCl : C.length ≤ 2400 := by
      have := few_subs hH hn hC.nd fun K hK => hC.sub hH hk hK
      rwa [List.length_map] at this
    refine ⟨Nat.zero_le _, ?_⟩
    refine ⟨_, rfl, _, rfl, fun i env t' => t' = t ∧ ∃ s4 s5 s6 s7 s8 s9 s10 s11, (∀ k, s6 ≠ Sl.ow k) ∧ (∀ k, s11 ≠ Sl.ow k) ∧ env = [.fz (houD n m), .fz (.lst (tnD ks)), .fz (dicD (dctQ C)), .ow (.lst ((List.range i).map fun a => rowD ks.length (tabM n m ks a))), s4, s5, s6, s7, s8, s9, s10, s11], ⟨rfl, .no, .no, .no, .no, .no, .no, .no, .no, no_ow, no_ow, rfl⟩, fun i d env t' hd hP => ?_, fun env t' hP => ?_⟩
    · obtain ⟨rfl, s4, s5, s6, s7, s8, s9, s10, s11, hs6, hs11, rfl⟩ := hP
      obtain ⟨y, hy, rfl⟩ := enD_get hd
      unfold tnD at hy
      rw [List.getElem?_map] at hy
      obtain ⟨J, hJ, rfl⟩ := Option.map_eq_some_iff.mp hy
      have hil := (List.getElem?_eq_some_iff.mp hJ).1
      have sJ := hk.sub J (List.mem_of_getElem? hJ)
      have hJl := few_of_nodup sJ.nd sJ.lt
      have hJ0 := List.length_pos_of_mem sJ.ze
      obtain ⟨Al, hAl⟩ : ∃ Al, Al = (C.filter fun q => decide (q.2 = i)).map (·.1) := ⟨_, rfl⟩
      have memA : ∀ x, x ∈ Al ↔ ∃ g, g < n ∧ Led n m J g x := fun x => by
        rw [hAl, List.mem_map]
        constructor
        · rintro ⟨⟨x', i'⟩, hq, rfl⟩
          obtain ⟨h1, h2⟩ := List.mem_filter.mp hq
          have h2 : i' = i := of_decide_eq_true h2
          subst h2
          obtain ⟨_, K0, h0, g, hg, L⟩ := (hC.mem _ _).mp h1
          rw [hJ] at h0
          cases h0
          exact ⟨g, hg, L⟩
        · rintro ⟨g, hg, L⟩
          exact ⟨(x, i), List.mem_filter.mpr ⟨(hC.mem _ _).mpr ⟨hil, J, hJ, g, hg, L⟩, decide_eq_true rfl⟩, rfl⟩
      have ndA : Al.Nodup := by rw [hAl]; exact List.Nodup.sublist (List.filter_sublist.map _) hC.nd
      obtain ⟨Os, o, pm⟩ := orb_of hH sJ ndA memA
      have sA : ∀ x ∈ Al, VL.Sub n m x := fun x hx => by
        obtain ⟨g, hg, L⟩ := (memA x).mp hx
        exact L.sub hH sJ hg
      have hAl0 : 0 < Al.length := List.length_pos_of_mem ((memA J).mpr ⟨0, hp, led_zero hH sJ⟩)
      have hAll := few_subs hH hn ndA sA
      refine ⟨_, rfl, rfl, _, _, rfl, _, _, rfl, rfl, ?_⟩
      refine ⟨dctQ C, rfl, lc_filter1 (i := 6) (fun j => decide (tA (C.map (·.2)) j = i)) (fun j => .tup (List.map keyD (kN (tL (C.map (·.1)) j)))) (.head _) (noOw1 (s := s6) rfl hs6) ?_ (fun j d hd => ?_) ?_⟩
      · show (List.map _ _).length ≤ 5000
        rw [List.length_map]; unfold dctQ; rw [List.length_map]; omega
      · unfold dctQ at hd
        rw [List.getElem?_map, List.getElem?_map] at hd
        obtain ⟨q1, hq1, rfl⟩ := Option.map_eq_some_iff.mp hd
        obtain ⟨⟨J2, i2⟩, hJ2, rfl⟩ := Option.map_eq_some_iff.mp hq1
        have e1 : tA (C.map (·.2)) j = i2 := by unfold tA; rw [List.getD_eq_getElem?_getD, List.getElem?_map, hJ2]; rfl
        have e2 : tL (C.map (·.1)) j = J2 := tL_get (by rw [List.getElem?_map, hJ2]; rfl)
        have hm := List.mem_of_getElem? hJ2
        refine ⟨fun R hR => ?_, fun _ R hR => ⟨_, rfl, ?_⟩⟩
        · refine ⟨⟨_, rfl⟩, _, rfl, nD i2, ⟨dctQ C, kN J2, rfl, rfl, (dctQ_val hC.nd hm).symm⟩, _, rfl, .inl ⟨_, _, rfl, rfl, _, rfl, ?_⟩⟩
          rw [e1] at hR
          rw [show decide (((i2 : Nat) : Int) = ((i : Nat) : Int)) = decide (i2 = i) from decide_eq_decide.mpr (by omega)]
          exact hR
        · rw [e2] at hR
          exact hR
      have eal : ((List.range (List.map (fun q : List Key × Dt => Dt.tup (List.map keyD q.1)) (dctQ C)).length).filter (fun j => decide (tA (C.map (·.2)) j = i))).map (fun j => Dt.tup (List.map keyD (kN (tL (C.map (·.1)) j)))) = tnD Al := by
        rw [hAl, List.length_map, show (dctQ C).length = C.length by unfold dctQ; rw [List.length_map]]
        exact al_list C fun c => decide (c = i)
      rw [eal]
      refine ⟨_, rfl, ?_⟩
      refine ⟨⟨_, .inl rfl⟩, _, .inl rfl, _, .inl rfl, rfl, ⟨_, .inl rfl⟩, _, .inl rfl, _, .inl rfl, rfl, _, _, rfl, rfl, ⟨by rw [tnD_len]; omega, by rw [tnD_len]; omega⟩, ⟨_, .inl rfl⟩, _, .inl rfl, _, .inr rfl, rfl, _, _, rfl, rfl, ⟨by rw [nsD_len]; omega, by rw [nsD_len]; omega⟩, ?_⟩
      dsimp only
      rw [hrow, tnD_len, nsD_len, show ((n : Nat) : Int) / ((Al.length : Nat) : Int) / ((J.length : Nat) : Int) = ((n / Al.length / J.length : Nat) : Int) by push_cast; rfl]
      refine ⟨Nat.zero_le _, ?_⟩
      obtain ⟨row, hrw⟩ : ∃ row : Nat → Dt, row = fun j => .lst (nsD ((ks.take j).map fun J2 => tblN n J J2 Al)) := ⟨_, rfl⟩
      refine ⟨_, rfl, _, rfl, fun j env t2 => t2 = t' ∧ ∃ s6 s10 s11, (∀ k, s6 ≠ Sl.ow k) ∧ (∀ k, s11 ≠ Sl.ow k) ∧ env = [.fz (houD n m), .fz (.lst (tnD ks)), .fz (dicD (dctQ C)), .ow (.lst ((List.range i).map fun a => rowD ks.length (tabM n m ks a))), .fz (nD i), .fz (.tup (nsD J)), s6, .fz (.lst (tnD Al)), .fz (nD (n / Al.length / J.length)), .ow (.lst (nsD ((ks.take j).map fun J2 => tblN n J J2 Al))), s10, s11], ⟨rfl, s6, s10, s11, hs6, hs11, rfl⟩, fun j d env t2 hd2 hP => ?_, fun env t2 hP => ?_⟩
      · obtain ⟨rfl, s6, s10, s11, hs6, hs11, rfl⟩ := hP
        unfold tnD at hd2
        rw [List.getElem?_map] at hd2
        obtain ⟨J2, hJ2, rfl⟩ := Option.map_eq_some_iff.mp hd2
        have sJ2 := hk.sub J2 (List.mem_of_getElem? hJ2)
        have hJ2l := few_of_nodup sJ2.nd sJ2.lt
        refine ⟨⟨_, rfl⟩, _, rfl, _, rfl, _, rfl, lc_filter1 (i := 6) (fun j => inc J2 (tL Al j)) (fun j => .tup (nsD (tL Al j))) (.head _) (noOw1 (s := s6) rfl hs6) (by rw [tnD_len]; omega) (fun c d hd3 => ?_) ?_⟩
        · unfold tnD at hd3
          rw [List.getElem?_map] at hd3
          obtain ⟨A1, hA1, rfl⟩ := Option.map_eq_some_iff.mp hd3
          rw [tL_get hA1]
          refine ⟨fun R hR => ?_, fun _ R hR => ⟨_, rfl, hR⟩⟩
          refine ⟨_, rfl, nsD J2, rfl, lc_map (i := 11) (fun i => .bl (decide (tA J2 i ∈ A1))) (.head _) (noOw1 (s := s11) rfl hs11) (by rw [nsD_len]; omega) (fun i d hi R2 hR2 => ?_) ?_⟩
          · unfold nsD at hi
            rw [List.getElem?_map] at hi
            obtain ⟨g, hg, rfl⟩ := Option.map_eq_some_iff.mp hi
            have eg : tA J2 i = g := by unfold tA; rw [List.getD_eq_getElem?_getD, hg]; rfl
            rw [eg] at hR2
            refine ⟨_, rfl, _, .inl rfl, _, A1.map fun i : Nat => (i : Int), rfl, .inr (by rw [← nsD_ints]), rfl, ?_⟩
            rw [show decide (((g : Nat) : Int) ∈ A1.map fun i : Nat => (i : Int)) = decide (g ∈ A1) from decide_eq_decide.mpr mem_ints]
            exact hR2
          · refine ⟨_, rfl, (List.range J2.length).map fun j => decide (tA J2 j ∈ A1), by rw [nsD_len, List.map_map]; rfl, _, rfl, ?_⟩
            rw [all_idx J2 fun k => decide (k ∈ A1)]
            rw [show (J2.all fun k => decide (k ∈ A1)) = inc J2 A1 from all_inc J2 A1]
            exact hR
        · refine ⟨_, rfl, _, .inl rfl, rfl, _, _, rfl, rfl, .inr ⟨?_, ?_⟩, ?_⟩
          · omega
          · rw [List.length_map]
            have := List.length_filter_le (fun j => inc J2 (tL Al j)) (List.range (tnD Al).length)
            rw [List.length_range, tnD_len] at this
            rw [tnD_len]
            omega
          · rw [List.length_map, tnD_len, idx_countL Al (inc J2)]
            refine ⟨_, rfl, _, rfl, by rw [nsD_len, List.length_map]; exact Nat.le_trans (List.length_take_le' _ _) (by omega), rfl, s6, .fz (.tup (nsD J2)), s11, hs6, hs11, ?_⟩
            rw [take_snoc' hJ2, List.map_append, show ∀ a b : List Nat, nsD (a ++ b) = nsD a ++ nsD b from fun a b => List.map_append]
            have e5 : Dt.int (((n / Al.length / J.length : Nat) : Int) * (((Al.filter (inc J2)).length : Nat) : Int)) = nD (tblN n J J2 Al) := by
              unfold tblN
              show _ = Dt.int _
              push_cast
              rfl
            rw [show nsD (List.map (fun J2 => tblN n J J2 Al) [J2]) = [nD (tblN n J J2 Al)] from rfl, ← e5]
            rfl
      · obtain ⟨rfl, s6, s10, s11, hs6, hs11, rfl⟩ := hP
        rw [tnD_len, List.take_of_length_le (Nat.le_refl _)]
        refine ⟨⟨_, rfl⟩, _, rfl, _, rfl, _, rfl, by rw [List.length_map, List.length_range]; omega, rfl, .fz (nD i), .fz (.tup (nsD J)), s6, .fz (.lst (tnD Al)), .fz (nD (n / Al.length / J.length)), .fz (.lst (nsD (ks.map fun J2 => tblN n J J2 Al))), s10, s11, hs6, hs11, ?_⟩
        have er : ks.map (fun J2 => tblN n J J2 Al) = (List.range ks.length).map (tabM n m ks i) := by
          rw [← map_tL (fun J2 => tblN n J J2 Al) ks]
          refine List.map_congr_left fun j hj => ?_
          have hj := List.mem_range.mp hj
          show _ = mkN n m (tL ks i) (tL ks j)
          rw [tL_get hJ, mk_tbl hH sJ o (hk.sub _ (List.mem_of_getElem? (tL_some hj))), tbl_perm pm]
        rw [er, List.range_succ, List.map_append]
        rfl
    · obtain ⟨rfl, s4, s5, s6, s7, s8, s9, s10, s11, hs6, hs11, rfl⟩ := hP
      rw [enD_len, tnD_len]
      exact ⟨_, rfl, q⟩
end
end K39
namespace K39
open PySem PySem.Spec PyProof.Rows L2 HM VL HG
abbrev s_l_number : Stmt := topS 36
theorem sc_l_number : FnScope ["_law_pen_here", "_law_way"] ["_law_pen_here"] (defScope s_l_number) := ⟨rfl, rfl, rfl, by decide +kernel, rfl, by decide +kernel, by decide +kernel⟩
section
variable {P : Program} {w : World} {K : PySem.W.Frag} {mg : Str → Option Value} {base : Heap} {am : Am} {gd : Around → Prop} {k : Nat}
theorem ok_lnumber {p f f_l_take : Addr} {fd fd_l_take : FuncData} (F : Fun K "_law_number" "_law_number" s_l_number f fd)
    (G_l_take : VFn anyA P w K mg base CX0 (k + 1) f_l_take fd_l_take ["_law_pen_here", "_law_many"] am (spTakeG p)) (g_l_take : mg "_law_take" = some (.ref f_l_take)) (k_l_take : PySem.W.keepIn K (.ref f_l_take) = true) (b_l_take : Binds K fd_l_take ["_law_pen_here", "_law_many"] [])
    (mz : ∀ x ∈ bn, mg x = none) : VFn gd P w K mg base CX0 (k + 2) f fd ["_law_pen_here"] am (spLNumber p) := by
  refine vfn_of F sc_l_number (fun ds n Q E h => ?_) ⟨_, fun cdv A out s H E F0 H0 hcd hgd hr =>
    (vss_cons (vs_set (i := 1) sc_l_number.nd rfl (.inl rfl) (ve_call G_l_take trivial (hr.mono (by omega)) (by rfl) g_l_take k_l_take b_l_take pass0 (va_cons (ve_var (pv 0)) (va_cons ve_int va_nil))))
      (vss_cons (vs_if (vt_cmp op_lt lft_B0 (ve_var (pv 1)) ve_int (nomark _))
        (vss_one (vs_ret (ve_op op_sub lft_I0 (ve_call G_l_take trivial (hr.mono (by omega)) (by rfl) g_l_take k_l_take b_l_take pass0 (va_cons (ve_var (pv 0)) (va_cons ve_int va_nil))) ve_int)))
        vss_nil)
      (vss_cons (vs_if (vt_cmp op_lt lft_B0 (ve_var (pv 1)) ve_int (nomark _))
        (vss_one (vs_ret (ve_op op_sub lft_I0 (ve_call G_l_take trivial (hr.mono (by omega)) (by rfl) g_l_take k_l_take b_l_take pass0 (va_cons (ve_var (pv 0)) (va_cons ve_int va_nil))) ve_int)))
        vss_nil)
      (vss_one (vs_ret (ve_op op_mul lft_I (ve_op op_add lft_I0 (ve_op op_pow lft_I ve_int ve_int) (ve_call G_l_take trivial (hr.mono (by omega)) (by rfl) g_l_take k_l_take b_l_take pass0 (va_cons (ve_var (pv 0)) (va_cons (ve_op op_pow lft_I ve_int ve_int) va_nil)))) (ve_op op_sub lft_I0 ve_int (ve_op op_mul lft_I ve_int (ve_call G_l_take trivial (hr.mono (by omega)) (by rfl) g_l_take k_l_take b_l_take pass0 (va_cons (ve_var (pv 0)) (va_cons ve_int va_nil))))))))))), fun ds t Q E h => ?_⟩
  · obtain ⟨rfl, _⟩ := h
    rfl
  · obtain ⟨rfl, q⟩ := h
    have hz : ∀ z : Int, -(10 ^ 30) ≤ z → z ≤ 10 ^ 30 → Q (.int z) t := fun z h1 h2 => q z (by omega)
    refine ⟨_, rfl, 8, rfl, by decide, by decide, fun r0 h0 => ?_⟩
    refine ⟨_, rfl, _, _, rfl, rfl, _, rfl, iteB (fun _ => ⟨_, rfl, 9, rfl, by decide, by decide, fun r1 h1 => ⟨_, _, rfl, rfl, hz _ (by omega) (by omega)⟩⟩) (fun _ => ?_)⟩
    refine ⟨_, rfl, _, _, rfl, rfl, _, rfl, iteB (fun _ => ⟨_, rfl, 2001, rfl, by decide, by decide, fun r1 h1 => ⟨_, _, rfl, rfl, hz _ (by omega) (by omega)⟩⟩) (fun _ => ?_)⟩
    refine ⟨_, _, rfl, rfl, ⟨by decide, by decide, by decide⟩, _, rfl, _, _, rfl, rfl, ⟨by decide, by decide, by decide⟩, 1000000000, rfl, by decide, by decide, fun r2 h2 => ⟨_, _, rfl, rfl, ?_⟩⟩
    refine ⟨_, rfl, 2, rfl, by decide, by decide, fun r3 h3 => ⟨_, _, rfl, rfl, .inr ⟨by omega, by omega⟩, _, _, rfl, rfl, _, _, rfl, rfl, .inr ⟨by omega, by omega⟩, ?_⟩⟩
    rcases (by omega : r3 = 0 ∨ r3 = 1) with rfl | rfl
    · refine hz _ ?_ ?_
      · show -(10 ^ 30) ≤ ((10 : Int) ^ 29 + (r2 : Int)) * (1 - 2 * 0)
        omega
      · show ((10 : Int) ^ 29 + (r2 : Int)) * (1 - 2 * 0) ≤ 10 ^ 30
        omega
    · refine hz _ ?_ ?_
      · show -(10 ^ 30) ≤ ((10 : Int) ^ 29 + (r2 : Int)) * (1 - 2 * 1)
        omega
      · show ((10 : Int) ^ 29 + (r2 : Int)) * (1 - 2 * 1) ≤ 10 ^ 30
        omega
end
end K39
namespace K39
open PySem PySem.Spec PyProof.Rows L2 HM VL HG
abbrev s_l_marks_by : Stmt := topS 35
theorem sc_l_marks_by : FnScope ["_law_table_here", "_law_counts", "_law_found", "_law_j", "_law_i"] ["_law_table_here", "_law_counts"] (defScope s_l_marks_by) := ⟨rfl, rfl, rfl, by decide +kernel, rfl, by decide +kernel, by decide +kernel⟩
section
variable {P : Program} {w : World} {K : PySem.W.Frag} {mg : Str → Option Value} {base : Heap} {am : Am} {gd : Around → Prop} {k : Nat}
theorem ok_lmarksby {f : Addr} {fd : FuncData} (F : Fun K "_law_marks_by" "_law_marks_by" s_l_marks_by f fd)
    (mz : ∀ x ∈ bn, mg x = none) : VFn gd P w K mg base CX0 (k + 1) f fd ["_law_table_here", "_law_counts"] am spLMarksBy := by
  refine vfn_of F sc_l_marks_by (fun ds n Q E h => ?_) ⟨_, fun cdv A out s H E F0 H0 hcd hgd hr =>
    (vss_cons (vs_setN (i := 2) sc_l_marks_by.nd rfl (.inl rfl) (vn_lst va_nil))
      (vss_cons (vs_for PassesOwn.never rfl (vi_range1 (by rfl) (mz "range" (by decide)) (vb_cons (ve_cbR call_len_seq lft_len (by rfl) (mz "len" (by decide)) PySem.boot_len (vb_rd (pv 0) vb_nil)) vb_nil)) (vg_name (pg_name (i := 3) sc_l_marks_by.nd rfl (.inr rfl)))
        (vss_one (vs_expr (ve_m (pe_bm PySem.F.plainAttrs_list PySem.F.slot_list_append PySem.F.type_list_append mt_append (pv 2) (va_cons (ve_cb (cr_sum rfl) lft_sum (by rfl) (mz "sum" (by decide)) (by decide +kernel) (va_cons (ve_new (vn_lc (own := [("_law_i", 4)]) rfl sc_l_marks_by.nd (vi_range1 (by rfl) (mz "range" (by decide)) (vb_cons (ve_cbR call_len_seq lft_len (by rfl) (mz "len" (by decide)) PySem.boot_len (vb_rd (pv 0) vb_nil)) vb_nil)) (blkOk_by (own := [("_law_i", 4)]) (N := ["_law_table_here", "_law_counts", "_law_found", "_law_j", "_law_i"]) (sc := defScope s_l_marks_by) (by decide +kernel)) (tg_name (by simp)) (fun _ _ _ _ _ => (pg_name (i := 4) sc_l_marks_by.nd rfl (.inl rfl))) (fun _ _ _ _ _ _ _ => vts_nil) (fun _ _ _ _ _ _ _ => (ve_op op_mul lft_I (ve_ixO (pv 1) (ve_var (pv 4)) (fun _ _ => rfl)) (ve_ix ix_list lft_ixL (ve_ixO (pv 0) (ve_var (pv 4)) (fun _ _ => rfl)) (ve_var (pv 3)) (fun _ _ => rfl)))))) va_nil)) va_nil)) lft_append))))
      (vss_one (vs_ret (ve_mv (pv 2)))))), fun ds t Q E h => ?_⟩
  · obtain ⟨r, T, cs, rfl, _⟩ := h
    rfl
  · obtain ⟨r, T, cs, rfl, hr, hT, q⟩ := h
    have hl : ((List.range r).map fun a => rowD r (T a)).length = r := by rw [List.length_map, List.length_range]
    refine ⟨by show 0 ≤ 5000; decide, ?_⟩
    refine ⟨⟨_, .inl rfl⟩, _, .inl rfl, _, .inl rfl, rfl, _, rfl, ⟨by omega, by rw [hl]; omega⟩, fun j env t' => t' = t ∧ ∃ s3 : Sl, env = [.fz (houD r T), .fz (.lst (isD ((List.range r).map cs))), .ow (.lst (isD ((List.range j).map (pm T cs r)))), s3, .no], ⟨rfl, .no, rfl⟩, fun j d env t' hd hP => ?_, fun env t' hP => ?_⟩
    · obtain ⟨rfl, s3, rfl⟩ := hP
      rw [hl] at hd
      obtain ⟨rfl, hj2⟩ := rngD_get0 hd
      have hj : j < r := by have : j < ((r : Nat) : Int).toNat := hj2; omega
      have hs : ((List.range r).map fun x => cs x * ((T x j : Nat) : Int)).sum = pm T cs r j := by
        have := tail_sum (cs := cs) (T := T) 0 j r
        simp only [Nat.zero_add, Nat.not_lt_zero, if_false] at this
        exact this
      refine ⟨⟨_, rfl⟩, ⟨_, .inl rfl⟩, _, .inl rfl, _, .inl rfl, rfl, _, rfl, ⟨by omega, by rw [hl]; omega⟩, lc_map (i := 4) (fun x => .int (cs x * ((T x j : Nat) : Int))) (.head _) (noOw1 (s := .no) rfl no_ow) (by rw [rngD_len, hl]; omega) (fun x d hd R hR => ?_) ?_⟩
      · rw [hl] at hd
        obtain ⟨rfl, hx2⟩ := rngD_get0 hd
        have hx : x < r := by have : x < ((r : Nat) : Int).toNat := hx2; omega
        have hle := hT.le x j hx hj
        exact ⟨⟨_, .inl rfl⟩, _, rfl, _, _, _, .inl rfl, rfl, isD_at hx, ⟨_, .inl rfl⟩, _, rfl, _, _, _, .inl rfl, rfl, hou_at hx, _, rfl, _, _, _, rfl, rfl, row_at hj, _, _, rfl, rfl, .inr ⟨by omega, by omega⟩, hR⟩
      · rw [rngD_len, hl, Int.toNat_natCast]
        refine ⟨_, rfl, (List.range r).map fun x => cs x * ((T x j : Nat) : Int), by rw [List.map_map]; rfl, _, rfl, _, rfl, by rw [isD_len, List.length_map, List.length_range]; omega, rfl, .fz (nD j), ?_⟩
        rw [hs, List.range_succ, List.map_append]
        unfold isD
        rw [List.map_append]
        rfl
    · obtain ⟨rfl, s3, rfl⟩ := hP
      rw [rngD_len, hl, Int.toNat_natCast]
      exact ⟨_, rfl, q⟩
end
end K39
namespace VL
open PySem PySem.Spec PyProof.Rows L2 HM
theorem tab_penB {K : PySem.W.Frag} {am : Am} {p : Addr} {Ps : List Addr} (h : PenB K am p) : PenB K (tabAm am Ps) p where
  pl := plain_tab h.pl
  sp := .inl h.sp
  rd := fun {n F H} h1 => h.rd h1.1
  wr := fun {n F H b t l} h1 e t' l' h2 h3 => ⟨h.wr h1.1 e t' l' h2 h3, fun P hP => by
    obtain ⟨ps, e1, e2⟩ := h1.2 P hP
    exact ⟨ps, by rw [upd_ne fun z => by rw [z, e] at e1; cases e1]; exact e1, e2⟩⟩
theorem penB_notab {p b : Addr} {ns : List Int} {n : Nat} {F H : Hp} {c : Addr} (h : (penAmB p b ns).ok n F H) (hb : (penAmB p b ns).sp c) (ps : Array Value) : H c ≠ some (.tbl ps) := fun z => by
  obtain ⟨⟨t, l, h1, _⟩, h2⟩ := h
  rcases hb with rfl | rfl
  · rw [h1] at z; cases z
  · rw [h2] at z; cases z
theorem pss_penTB {X : Cx} {b : List Stmt} {K : PySem.W.Frag} {Ps : List Addr} {ts : Addr → VTS} (h : ∀ (am : Am) (p : Addr), PenB K am p → (∀ P ∈ Ps, TabIn am P) → ∀ F0 H0, PSs X b (sOf ⟨am, F0, H0⟩ (ts p))) : PSs X b (fun D σ H => ∃ am p, PenB K am p ∧ (∀ P ∈ Ps, TabIn am P) ∧ ∃ F0 H0, sOf ⟨am, F0, H0⟩ (ts p) D σ H) :=
  ⟨fun pins s σ H D I ⟨am, p, PI, TI, F0, H0, q⟩ => (h am p PI TI F0 H0).run pins s σ H D I q⟩
theorem pen_startTB {K : PySem.W.Frag} {H : Hp} {a p b : Addr} {ns : List Int} {D : Ends} {ts : Addr → VTS} {σ : L2.St} {rest : List (Option V)} {Ps : List Addr} (eσ : σ = some (.ref a) :: some (.ref p) :: rest) (hl : ns.length ≤ 63) (hT : ∀ P ∈ Ps, GxR.TabG H P) (hp : H p = some (.dK (pk3 b 0 0))) (hb : H b = some (.lst (ns.map V.int))) (hD : ∀ H', D.rt (.bl true) H')
    (q : ts p { nx := fun _ _ => False, rt := fun d _ => d = .bl true } (.no :: .fz (.obj p) :: rest.map fun _ => .no) 0) :
    ∃ am p', PenB K am p' ∧ (∀ P ∈ Ps, TabIn am P) ∧ ∃ F0 H0, sOf ⟨am, F0, H0⟩ (ts p') D σ H := by
  subst eσ
  refine ⟨tabAm (penAmB p b ns) Ps, p, tab_penB (penB_in hl), fun P hP => tab_in penB_notab hP, fun _ => none, H, fun _ => none, _, 0, _, ?_, q, ⟨fun _ _ _ _ _ _ _ z => z.elim, fun F' H' σ' env' n' v d _ _ rv e => ?_, fun _ _ _ _ _ _ _ z => z.elim, fun _ _ _ _ _ _ _ z => z.elim⟩⟩
  · refine ⟨fun _ _ e => (by cases e), fun _ _ => rfl, ⟨⟨⟨0, 0, hp, by decide, by decide⟩, hb⟩, hT⟩, fun _ _ e => e, fun _ _ _ _ e => e, fun _ _ e _ => e, by simp, fun i s e => ?_, fun i j b k k' _ e1 _ _ => ?_⟩
    · match i, e with
      | 0, e => cases e; trivial
      | 1, e => cases e; exact ⟨_, rfl, .obj p⟩
      | i + 2, e =>
        have e' : (rest.map fun _ => Sl.no)[i]? = some s := e
        rw [List.getElem?_map] at e'
        obtain ⟨_, _, rfl⟩ := Option.map_eq_some_iff.mp e'
        trivial
    · match i, e1 with
      | 0, e => cases e
      | 1, e => cases e
      | i + 2, e =>
        have e' : (rest.map fun _ => Sl.no)[i]? = some (.ow k) := e
        rw [List.getElem?_map] at e'
        obtain ⟨_, _, z⟩ := Option.map_eq_some_iff.mp e'
        cases z
  · have e' : d = .bl true := e
    rw [e'] at rv
    rw [rv.bl_inv]
    exact hD H'
theorem tabG_up {H H' : Hp} {P : Addr} (u : Up H H') (h : GxR.TabG H P) : GxR.TabG H' P := by
  obtain ⟨ps, e1, e2⟩ := h
  exact ⟨ps, u _ _ e1, e2⟩
end VL
namespace VL
open PySem PySem.Spec PyProof.Rows L2 HM
/-- a new list at a, of m new rows at A -/
structure RowsAt (am : Am) (H F' H' : Hp) (a : Addr) (m : Nat) (A : Nat → Addr) (r : Nat → List Int) : Prop where
  inj : ∀ i j, i < m → j < m → A i = A j → i = j
  h : ∀ i, i < m → H (A i) = none
  f : ∀ i, i < m → F' (A i) = none
  s : ∀ i, i < m → ¬ am.sp (A i)
  o : ∀ i, i < m → H' (A i) = some (.lst ((r i).map V.int))
  ah : H a = none
  af : F' a = none
  as : ¬ am.sp a
  ao : H' a = some (.lst (refV m A))
  ne : ∀ i, i < m → A i ≠ a
structure XEnR where
  nx : Hp → Ev → Nat → Prop
  rt : Nat → (Nat → List Int) → Nat → Prop
structure EnXR (am : Am) (F0 H00 F : Hp) (V : XEnR) (D : Ends) : Prop where
  nx : ∀ H0 F' H' σ' env' n', Rel ⟨am, F0, H0⟩ F' H' σ' env' n' → Up F F' → V.nx H0 env' n' → D.nx σ' H'
  rt : ∀ F' H' σ' env' n' a m A r, Rel ⟨am, F0, H00⟩ F' H' σ' env' n' → Up F F' → RowsAt am H00 F' H' a m A r → V.rt m r n' → D.rt (.ref a) H'
theorem EnXR.up {am : Am} {F0 H00 F F' : Hp} {V : XEnR} {D : Ends} (h : EnXR am F0 H00 F V D) (u : Up F F') : EnXR am F0 H00 F' V D :=
  ⟨fun H0 F2 H' σ' env' n' r w => h.nx H0 F2 H' σ' env' n' r (u.trans w), fun F2 H' σ' env' n' a m A r rl w => h.rt F2 H' σ' env' n' a m A r rl (u.trans w)⟩
end VL
namespace VL
open PySem PySem.Spec PyProof.Rows L2 HM
end VL
namespace VL
open PySem PySem.Spec PyProof.Rows L2 HM
end VL
namespace VL
open PySem PySem.Spec PyProof.Rows L2 HM
end VL
namespace VL
open PySem PySem.Spec PyProof.Rows L2 HM
theorem vcutS {t u : VTS} {V : VEn} {env : Ev} {n : Nat} (I : Ev → Nat → Prop) (h2 : ∀ env n, I env n → u V env n) (h1 : ∀ X : Ev → Nat → Prop, (∀ env n, I env n → X env n) → t { V with nx := X } env n) : vSeq t u V env n := h1 _ h2
end VL
namespace VL
open PySem PySem.Spec PyProof.Rows L2 HM
section
variable {X : Cx} {k i : Nat} {x : Str} {p pos : Pos} {e : Expr} {es : List Expr} {t : TA} {CX : CXT} {E : L2.St → XK}
def tCallQS (i : Nat) (S : Addr → Sp → Prop) (E : L2.St → XK) (t : TA) : TE := fun σ H Q => ∃ f sp, σ[i]? = some (some (.ref f)) ∧ S f sp ∧ t σ H fun vs H1 => sp vs H1 Q (E σ)
theorem pe_callQS {S : Addr → Sp → Prop} (A : ∀ f sp, S f sp → ∃ fd ps, PFn anyA X.prog X.w X.K X.mg X.base CX k f fd ps sp ∧ PySem.W.keepIn X.K (.ref f) = true ∧ L2.Binds X.K fd ps []) (hr : Room k X.A) (hN : X.N[i]? = some x) (hv : Vis X.env.scope x) (hx : ∀ σ, PassesAt CX X σ (E σ)) (ha : PA X (e :: es) t)
    (hdb : (x == ("__debug__" : Str)) = false := by decide) (hcd : (x == ("__classdict__" : Str)) = false := by decide)
    (he : starEach (e :: es) X.env = (false, eval e X.env) :: starEach es X.env := by rfl) (hpl : (backTo pos (starEach es X.env)).any (·.1) = false := by rfl) : PE X (.Call (.Name x p) (e :: es) [] pos) (tCallQS i S E t) := by
  refine ⟨fun pins s σ H Q I h => ?_⟩
  obtain ⟨f, sp, hs, hS, ht⟩ := h
  obtain ⟨fd, ps, G, hk, hb⟩ := A f sp hS
  refine wpAny_Call_Name_kw (L2.thn ((pe_var (i := i) (pos := p) hN hv hdb hcd).run pins s σ H (fun v H1 => v = .ref f ∧ H1 = H) I ⟨.ref f, hs, rfl, rfl⟩) fun fv s0 q0 => ?_)
  obtain ⟨v, H1, I0, r0, rfl, rfl⟩ := q0
  obtain rfl : fv = Value.ref f := r0
  refine PySem.W.callWith_K (h₀ := X.base) I0.ok.mod.kin hk (L2.thn (ha.run pos pins s0 σ _ _ I0 ht) fun us s1 hus => ?_) he hpl
  obtain ⟨vs, H1, I1, r, q⟩ := hus
  refine ⟨I1.kIn, ?_⟩
  have hl : us.length = ps.length := by rw [← r.length]; exact G.len _ _ _ _ q
  have hbs := hb s1 us I1.kIn (by rw [List.append_nil]; exact hl)
  rw [List.append_nil] at hbs
  refine wpAny_call (codeAny_mono (G.go X.A X.stack s1 H1 ⟨us, []⟩ us vs Q (E σ) trivial hr I1.env0 hbs r q) fun r s' hq => ?_)
  match r, hq with
  | .error e, hq => exact hx σ pins H1 s1 e s' I1 hq
  | .ok (.ret u), hq => exact I1.after hq
  | .ok .next, hq => exact hq.elim
  | .ok .brk, hq => exact hq.elim
  | .ok .cont, hq => exact hq.elim
end
section
variable {X : Cx} {C C2 : Addr}
def rIsW (K : PySem.W.Frag) (C C2 : Addr) : List V → Hp → VK → Prop := fun xs H Q => rIsV K C xs H Q ∨ rIsV K C2 xs H Q
theorem call_isW (T : ExcC X.K C) (T2 : ExcC X.K C2) : CallR X (.builtin "isinstance") (rIsW X.K C C2) := by
  intro pins s σ H xs us Q I r h
  rcases h with h | h
  · exact call_isV T pins s σ H xs us Q I r h
  · exact call_isV T2 pins s σ H xs us Q I r h
def rIsWT (K : PySem.W.Frag) (C C2 : Addr) : List V → Hp → VK → Prop := fun xs H Q => rIsVT K C xs H Q ∨ rIsVT K C2 xs H Q
theorem call_isWT (T : ExcC X.K C) (T2 : ExcC X.K C2) : CallR X (.builtin "isinstance") (rIsWT X.K C C2) := by
  intro pins s σ H xs us Q I r h
  rcases h with h | h
  · exact call_isVT T pins s σ H xs us Q I r h
  · exact call_isVT T2 pins s σ H xs us Q I r h
def tXfW (C C2 : Addr) (f : Str) (te : TE) : TE := fun σ H Q => tXfV C f te σ H Q ∨ tXfV C2 f te σ H Q
theorem pe_xfW {e : Expr} {te : TE} {pos : Pos} {f : Str} (T : XfC X.K C) (T2 : XfC X.K C2) (hno : PySem.W.findIn X.K (.ref C) f = some none) (hno2 : PySem.W.findIn X.K (.ref C2) f = some none) (he : PE X e te) (hb : attributeBase e f X.env (eval e X.env) = eval e X.env := by rfl) : PE X (.Attribute e f pos) (tXfW C C2 f te) :=
  ⟨fun pins s σ H Q I h => h.elim (fun h => (pe_xfV T hno he hb).run pins s σ H Q I h) fun h => (pe_xfV T2 hno2 he hb).run pins s σ H Q I h⟩
end
def vMkAt (te : VTE) : VTE := fun env n Q => te env n fun d env1 n1 => ∃ i : Int, d = .int i ∧ i.natAbs.log2 < 1920 ∧ (toString i : Str).length ≤ 1000 ∧ Q (.int i) env1 n1
section
variable {X : Cx} {c : Fc} {te : VTE} {st : Stmt} {qual : Str} {C fI : Addr} {k : Nat} {x : Str} {e : Expr} {p pos pos' : Pos}
theorem ve_mkAt (N : NoT X.prog st qual X.K C fI) (S : InitS st) (T : XfC X.K C) (hr : Room (k + 2) X.A) (hg : Gl X x) (hm : X.mg x = some (.ref C)) (he : PE X e (tOf c te))
    (hdb : (x == ("__debug__" : Str)) = false := by decide) (hs : starEach [e] X.env = (false, eval e X.env) :: starEach [] X.env := by rfl)
    (hb : attributeBase (.Call (.Name x p) [e] [] pos) "at" X.env (eval (.Call (.Name x p) [e] [] pos) X.env) = eval (.Call (.Name x p) [e] [] pos) X.env := by rfl) : PE X (.Attribute (.Call (.Name x p) [e] [] pos) "at" pos') (tOf c (vMkAt te)) :=
  PE.imp (pe_xfV T N.no (pe_mkV N S hr hg hm he hdb hs) hb) fun σ H R ⟨F, env, n, Q, r, q, kk⟩ => by
    refine ⟨F, env, n, _, r, q, fun v H1 F1 d env1 n1 r1 u1 rp q1 => ?_⟩
    obtain ⟨i, rfl, h1, h2, q1⟩ := q1
    cases rp
    refine ⟨i, rfl, h1, h2, fun dx a nd na ne => ?_⟩
    have na' : upd H1 dx (.xd [("at", .int i)]) a = none := by rw [upd_ne ne]; exact na
    refine ⟨a, dx, [("at", .int i)], .int i, rfl, upd_same, ?_, rfl, ?_⟩
    · rw [upd_ne (Ne.symm ne)]; exact upd_same
    · have r2 := (r1.lay nd (.xd [("at", .int i)])).lay na' (ExV C dx a)
      exact kk _ _ F1 _ env1 n1 r2 u1 (.int i) q1
end
def spAsked (fs fc : Addr) : VSp := fun ds t Q _ => ∃ (g : Addr) (r : Nat) (T : Nat → Nat → Nat) (mk : Nat → Int), ds = [.obj g, houD r T, .lst (isD ((List.range r).map mk))] ∧ 0 < r ∧ r ≤ 2400 ∧ Tri r T ∧
  ((g = fs ∧ (∀ cs, (∀ j, j < r → mk j = pm T cs r j) → Q (.tup [.str "told", .lst (isD ((List.range r).map cs))]) t) ∧ (∀ b : Nat, StopAt r T mk b → Q (.tup [.str "no set", nD b]) t)) ∨
   (g = fc ∧ (∀ cs, (∀ j, j < r → mk j = pm T cs r j) → (∀ j, j < r → 0 ≤ cs j) → Q (.tup [.str "told", .lst (isD ((List.range r).map cs))]) t) ∧ (∀ b : Nat, StopAt r T mk b → Q (.tup [.str "no set", nD b]) t) ∧ (∀ cs, (∀ j, j < r → mk j = pm T cs r j) → ∀ b : Nat, LowAt r cs b → Q (.tup [.str "below", nD b]) t)))
def spLRight39 : VSp := fun ds t Q _ => ∃ (r : Nat) (T : Nat → Nat → Nat) (mk : Nat → Int), ds = [houD r T, .lst (isD ((List.range r).map mk))] ∧ 0 < r ∧ r ≤ 2400 ∧ Tri r T ∧ (∀ cs : Nat → Int, (∀ j, j < r → mk j = pm T cs r j) → ∀ i, i < r → (cs i).natAbs < 10 ^ 480) ∧ Q (.bl true) t
/-- the classes of refusals, by their names -/
structure Refs39 (K : PySem.W.Frag) (mg : Str → Option Value) (C C2 Mk b1 b2 b3 b4 b5 b6 b7 b8 b9 : Addr) : Prop where
  gC : mg "NoSet" = some (.ref C)
  gC2 : mg "BelowNought" = some (.ref C2)
  gM : mg "MarkError" = some (.ref Mk)
  g1 : mg "NoBack" = some (.ref b1)
  g2 : mg "NoColours" = some (.ref b2)
  g3 : mg "NoLeading" = some (.ref b3)
  g4 : mg "NoName" = some (.ref b4)
  g5 : mg "NoNumber" = some (.ref b5)
  g6 : mg "NoRow" = some (.ref b6)
  g7 : mg "NoText" = some (.ref b7)
  g8 : mg "NoTurn" = some (.ref b8)
  g9 : mg "TooMany" = some (.ref b9)
  te : PySem.W.exmOne K (.ref C) (.ref Mk) = some true
  te2 : PySem.W.exmOne K (.ref C2) (.ref Mk) = some true
  kV : PySem.W.kitOne K (.ref C) (.type "ValueError") = some true
  kV2 : PySem.W.kitOne K (.ref C2) (.type "ValueError") = some true
  k9 : PySem.W.kitAny K (.ref C) [.ref b1, .ref b2, .ref b3, .ref b4, .ref b5, .ref b6, .ref b7, .ref b8, .ref b9] = some false
  k92 : PySem.W.kitAny K (.ref C2) [.ref b1, .ref b2, .ref b3, .ref b4, .ref b5, .ref b6, .ref b7, .ref b8, .ref b9] = some false
  kCC : PySem.W.kitOne K (.ref C) (.ref C) = some true
  kC2 : PySem.W.kitOne K (.ref C) (.ref C2) = some false
  k2C : PySem.W.kitOne K (.ref C2) (.ref C) = some false
  k22 : PySem.W.kitOne K (.ref C2) (.ref C2) = some true
  X1 : ExcC K C
  X2 : ExcC K C2
  F1 : XfC K C
  F2 : XfC K C2
  n1 : PySem.W.findIn K (.ref C) "at" = some none
  n2 : PySem.W.findIn K (.ref C2) "at" = some none
theorem rp_said {s : Str} {x : Dt} {e k c : Nat} (hs : (PyData.str s).shown.length ≤ 20) (h : Sm e k c x) (h0 : 0 < e) (h1 : e ≤ 480) (hk : k ≤ 20) (hc : c ≤ 10000000) : rpS (.tup [.str s, x]) := by
  have e2 : py (.tup [.str s, x]) = .tuple [.str s, py x] := by rw [py]; rfl
  have hx := pl_isPy (sml_pl x h.1)
  refine ⟨?_, ?_, ?_, ?_⟩
  · show (isPy (.str s) && (isPy x && true)) = true
    rw [hx]
    rfl
  · rw [e2]
    simp [PyData.showable, PyData.showableAll, sml_showable h1 x h.1]
  · rw [e2]
    have h2 := py_depth x
    have h3 := h.2.1
    simp only [PyData.depth, PyData.depthAll]
    omega
  · rw [e2]
    have h2 := sml_shown h0 x h.1
    have h3 := fmt_text (PyData.shownAll [.str s, py x])
    have h4 := h.2.2
    show (tupleText (PyData.shownAll [.str s, py x])).length ≤ sizeLine
    have h5 : piled (PyData.shownAll [.str s, py x]) ≤ 10000100 := by
      show piled [(PyData.str s).shown, (py x).shown] ≤ _
      rw [piled_cons, piled_cons]
      have h6 : piled ([] : List Str) = 0 := rfl
      omega
    rw [sizeLine_eq]
    omega
/-- a solution, and where there is none -/
theorem StopAt.none {r : Nat} {T : Nat → Nat → Nat} {mk cs : Nat → Int} {b : Nat} (t : Tri r T) (h : StopAt r T mk b) (hc : ∀ j, j < r → mk j = pm T cs r j) : False := by
  obtain ⟨hb, ds, rho, L, ne⟩ := h
  exact L.no t hb ne ⟨cs, hc⟩
theorem sol_one {r : Nat} {T : Nat → Nat → Nat} {mk cs ds : Nat → Int} (t : Tri r T) (hc : ∀ j, j < r → mk j = pm T cs r j) (hd : ∀ j, j < r → mk j = pm T ds r j) : ∀ i, i < r → cs i = ds i :=
  pm_one t r (Nat.le_refl r) fun j hj => (hc j hj).symm.trans (hd j hj)
theorem isD_same {r : Nat} {cs ds : Nat → Int} (h : ∀ i, i < r → cs i = ds i) : isD ((List.range r).map cs) = isD ((List.range r).map ds) := congrArg isD (List.map_congr_left fun i hi => h i (List.mem_range.mp hi))
theorem LowAt.uniq {r : Nat} {cs ds : Nat → Int} {b c : Nat} (e : ∀ i, i < r → cs i = ds i) (h : LowAt r cs b) (h2 : LowAt r ds c) : b = c := by
  obtain ⟨b1, b2, b3⟩ := h
  obtain ⟨c1, c2, c3⟩ := h2
  rcases Nat.lt_trichotomy b c with z | z | z
  · have := b3 c z c1
    rw [e c c1] at this
    omega
  · exact z
  · have := c3 b z b1
    rw [← e b b1] at this
    omega
theorem asked_solved {fs fc : Addr} {r : Nat} {T : Nat → Nat → Nat} {mk : Nat → Int} {d : Dt} {t : Nat} {Q : Dt → Nat → Prop} {E : VXK} (hr0 : 0 < r) (hrl : r ≤ 2400) (hT : Tri r T) (h1 : ∀ cs : Nat → Int, (∀ j, j < r → mk j = pm T cs r j) → Dt.tup [.str "told", .lst (isD ((List.range r).map cs))] = d) (h2 : ∀ b, StopAt r T mk b → Dt.tup [.str "no set", nD b] = d) (q : Q d t) :
    spAsked fs fc [.obj fs, houD r T, .lst (isD ((List.range r).map mk))] t Q E := ⟨fs, r, T, mk, rfl, hr0, hrl, hT, .inl ⟨rfl, fun cs h => by rw [h1 cs h]; exact q, fun b h => by rw [h2 b h]; exact q⟩⟩
theorem asked_counts {fs fc : Addr} {r : Nat} {T : Nat → Nat → Nat} {mk : Nat → Int} {d : Dt} {t : Nat} {Q : Dt → Nat → Prop} {E : VXK} (hr0 : 0 < r) (hrl : r ≤ 2400) (hT : Tri r T) (h1 : ∀ cs : Nat → Int, (∀ j, j < r → mk j = pm T cs r j) → (∀ j, j < r → 0 ≤ cs j) → Dt.tup [.str "told", .lst (isD ((List.range r).map cs))] = d) (h2 : ∀ b, StopAt r T mk b → Dt.tup [.str "no set", nD b] = d)
    (h3 : ∀ cs : Nat → Int, (∀ j, j < r → mk j = pm T cs r j) → ∀ b, LowAt r cs b → Dt.tup [.str "below", nD b] = d) (q : Q d t) :
    spAsked fs fc [.obj fc, houD r T, .lst (isD ((List.range r).map mk))] t Q E := ⟨fc, r, T, mk, rfl, hr0, hrl, hT, .inr ⟨rfl, fun cs h h0 => by rw [h1 cs h h0]; exact q, fun b h => by rw [h2 b h]; exact q, fun cs h b hb => by rw [h3 cs h b hb]; exact q⟩⟩
end VL
namespace K39
open PySem PySem.Spec PyProof.Rows L2 HM VL HG
abbrev s_l_asked : Stmt := topS 37
section
variable {P : Program} {w : World} {K : PySem.W.Frag} {mg : Str → Option Value} {base : Heap} {am : Am} {gd : Around → Prop} {k : Nat}
abbrev NAsk : List Str := ["_law_which", "_law_table_here", "_law_marks", "_law_caught", "_law_found", "e"]
theorem sc_lask : FnScope NAsk ["_law_which", "_law_table_here", "_law_marks"] (defScope s_l_asked) := ⟨rfl, rfl, rfl, by decide +kernel, rfl, by decide +kernel, by decide +kernel⟩
abbrev nineT (b1 b2 b3 b4 b5 b6 b7 b8 b9 : Addr) : HO := .tup [.ref b1, .ref b2, .ref b3, .ref b4, .ref b5, .ref b6, .ref b7, .ref b8, .ref b9]
/-- how it stands behind the try -/
def tEnd39 (C C2 b1 b2 b3 b4 b5 b6 b7 b8 b9 : Addr) : TS := fun D σ J => (∃ (v0 v1 v2 s5 : Option V) (a : Addr), σ = [v0, v1, v2, some .non, some (.ref a), s5] ∧ ∀ T, J T = none → D.rt (.ref T) (upd J T (.tup [.str "told", .ref a]))) ∨
  (∃ (v0 v1 v2 s5 : Option V) (e d : Addr) (b : Int), σ = [v0, v1, v2, some (.ref e), some .non, s5] ∧ J e = some (ExV C d e) ∧ J d = some (.xd [("at", .int b)]) ∧ ∀ T1, J T1 = none → ∀ T, upd J T1 (nineT b1 b2 b3 b4 b5 b6 b7 b8 b9) T = none → D.rt (.ref T) (upd (upd J T1 (nineT b1 b2 b3 b4 b5 b6 b7 b8 b9)) T (.tup [.str "no set", .int b]))) ∨
  (∃ (v0 v1 v2 s5 : Option V) (e d : Addr) (b : Int), σ = [v0, v1, v2, some (.ref e), some .non, s5] ∧ J e = some (ExV C2 d e) ∧ J d = some (.xd [("at", .int b)]) ∧ ∀ T1, J T1 = none → ∀ T, upd J T1 (nineT b1 b2 b3 b4 b5 b6 b7 b8 b9) T = none → D.rt (.ref T) (upd (upd J T1 (nineT b1 b2 b3 b4 b5 b6 b7 b8 b9)) T (.tup [.str "below", .int b])))
theorem end39 {f : Addr} {cdv : Value} {A : Around} {outer : List Env} {s : Shared} {H0 : Hp} {E : XK} {C C2 Mk b1 b2 b3 b4 b5 b6 b7 b8 b9 : Addr} (R : Refs39 K mg C C2 Mk b1 b2 b3 b4 b5 b6 b7 b8 b9) (mz : ∀ x ∈ bn, mg x = none) :
    PSs (cxOf CX0 P w K mg base NAsk "_law_asked" (defScope s_l_asked) f cdv A outer s H0 E).nox ((defBody s_l_asked).drop 3) (tEnd39 C C2 b1 b2 b3 b4 b5 b6 b7 b8 b9) := by
  have mi := mz "isinstance" (by decide)
  refine PSs.imp (pss_cons (ps_if (pt_cmpR op_isN (pv 3) pe_non (nomark _)) (pss_one (ps_ret (pe_tup (pa_cons pe_str (pa_cons (pv 4) pa_nil))))) pss_nil)
    (pss_cons (ps_if (pt_val (pe_callB (call_isWT R.X1 R.X2) (by rfl) mi boot_isinstance (pa_cons (pv 3) (pa_cons (pe_tup (pa_cons (pe_glob (v := .ref b1) (by rfl) R.g1 rfl) (pa_cons (pe_glob (v := .ref b2) (by rfl) R.g2 rfl) (pa_cons (pe_glob (v := .ref b3) (by rfl) R.g3 rfl) (pa_cons (pe_glob (v := .ref b4) (by rfl) R.g4 rfl)
        (pa_cons (pe_glob (v := .ref b5) (by rfl) R.g5 rfl) (pa_cons (pe_glob (v := .ref b6) (by rfl) R.g6 rfl) (pa_cons (pe_glob (v := .ref b7) (by rfl) R.g7 rfl) (pa_cons (pe_glob (v := .ref b8) (by rfl) R.g8 rfl) (pa_cons (pe_glob (v := .ref b9) (by rfl) R.g9 rfl) pa_nil)))))))))) pa_nil)))) (pss_one (ps_ret pe_str)) pss_nil)
    (pss_cons (ps_if (pw_or (pt_not (pt_val (pe_callB (call_isW R.X1 R.X2) (by rfl) mi boot_isinstance (pa_cons (pv 3) (pa_cons (pe_bltn (v := .ty "ValueError") (by rfl) (mz "ValueError" (by decide)) (by decide +kernel) rfl) pa_nil)))))
        (pw_or1 (pw_and (pt_val (pe_callB (call_isW R.X1 R.X2) (by rfl) mi boot_isinstance (pa_cons (pv 3) (pa_cons (pe_glob (v := .ref C) (by rfl) R.gC rfl) pa_nil)))) (pw_and1 (pt_val (pe_callB (call_isW R.X1 R.X2) (by rfl) mi boot_isinstance (pa_cons (pv 3) (pa_cons (pe_glob (v := .ref C2) (by rfl) R.gC2 rfl) pa_nil)))))).pt)).pt (pss_one (ps_ret pe_str)) pss_nil)
    (pss_cons (ps_if (pt_val (pe_callB (call_isW R.X1 R.X2) (by rfl) mi boot_isinstance (pa_cons (pv 3) (pa_cons (pe_glob (v := .ref C) (by rfl) R.gC rfl) pa_nil)))) (pss_one (ps_ret (pe_tup (pa_cons pe_str (pa_cons (pe_xfW R.F1 R.F2 R.n1 R.n2 (pv 3)) pa_nil))))) pss_nil)
    (pss_cons (ps_if (pt_val (pe_callB (call_isW R.X1 R.X2) (by rfl) mi boot_isinstance (pa_cons (pv 3) (pa_cons (pe_glob (v := .ref C2) (by rfl) R.gC2 rfl) pa_nil)))) (pss_one (ps_ret (pe_tup (pa_cons pe_str (pa_cons (pe_xfW R.F1 R.F2 R.n1 R.n2 (pv 3)) pa_nil))))) pss_nil)
    (pss_one (ps_ret pe_str))))))) fun D σ J h => ?_
  have h9 : 9 ≤ sizeLine := by rw [sizeLine_eq]; decide
  have h2 : 2 ≤ sizeLine := by rw [sizeLine_eq]; decide
  rcases h with ⟨v0, v1, v2, s5, a, rfl, q⟩ | ⟨v0, v1, v2, s5, e, d, b, rfl, ea, ed, q⟩ | ⟨v0, v1, v2, s5, e, d, b, rfl, ea, ed, q⟩
  · exact ⟨_, rfl, rfl, _, rfl, iteT ⟨_, rfl, h2, q⟩⟩
  · refine ⟨_, rfl, rfl, _, rfl, ?_⟩
    rw [decide_eq_false (fun z => by cases z)]
    refine iteF ⟨_, rfl, h9, fun T1 nT => ?_⟩
    have ea1 : upd J T1 (nineT b1 b2 b3 b4 b5 b6 b7 b8 b9) e = _ := same_lay nT _ _ ea
    have ed1 : upd J T1 (nineT b1 b2 b3 b4 b5 b6 b7 b8 b9) d = _ := same_lay nT _ _ ed
    refine .inl ⟨e, d, [("at", .int b)], T1, _, _, false, rfl, upd_same, .cons (.own _) (.cons (.own _) (.cons (.own _) (.cons (.own _) (.cons (.own _) (.cons (.own _) (.cons (.own _) (.cons (.own _) (.cons (.own _) .nil)))))))), ea1, ed1, R.k9, _, rfl, iteF ?_⟩
    refine ⟨_, rfl, .inl ⟨e, d, _, _, _, true, rfl, .ty _, ea1, ed1, R.kV, _, rfl, iteF ?_⟩⟩
    refine ⟨_, rfl, .inl ⟨e, d, _, _, _, true, rfl, .own C, ea1, ed1, R.kCC, _, rfl, iteT ?_⟩⟩
    refine ⟨_, rfl, .inl ⟨e, d, _, _, _, false, rfl, .own C2, ea1, ed1, R.kC2, _, rfl, iteF ?_⟩⟩
    refine ⟨_, rfl, .inl ⟨e, d, _, _, _, true, rfl, .own C, ea1, ed1, R.kCC, _, rfl, iteT ?_⟩⟩
    exact .inl ⟨_, rfl, e, d, _, _, rfl, ea1, ed1, rfl, h2, q T1 nT⟩
  · refine ⟨_, rfl, rfl, _, rfl, ?_⟩
    rw [decide_eq_false (fun z => by cases z)]
    refine iteF ⟨_, rfl, h9, fun T1 nT => ?_⟩
    have ea1 : upd J T1 (nineT b1 b2 b3 b4 b5 b6 b7 b8 b9) e = _ := same_lay nT _ _ ea
    have ed1 : upd J T1 (nineT b1 b2 b3 b4 b5 b6 b7 b8 b9) d = _ := same_lay nT _ _ ed
    refine .inr ⟨e, d, [("at", .int b)], T1, _, _, false, rfl, upd_same, .cons (.own _) (.cons (.own _) (.cons (.own _) (.cons (.own _) (.cons (.own _) (.cons (.own _) (.cons (.own _) (.cons (.own _) (.cons (.own _) .nil)))))))), ea1, ed1, R.k92, _, rfl, iteF ?_⟩
    refine ⟨_, rfl, .inr ⟨e, d, _, _, _, true, rfl, .ty _, ea1, ed1, R.kV2, _, rfl, iteF ?_⟩⟩
    refine ⟨_, rfl, .inr ⟨e, d, _, _, _, false, rfl, .own C, ea1, ed1, R.k2C, _, rfl, iteF ?_⟩⟩
    refine iteF ?_
    refine ⟨_, rfl, .inr ⟨e, d, _, _, _, false, rfl, .own C, ea1, ed1, R.k2C, _, rfl, iteF ?_⟩⟩
    refine ⟨_, rfl, .inr ⟨e, d, _, _, _, true, rfl, .own C2, ea1, ed1, R.k22, _, rfl, iteT ?_⟩⟩
    exact .inr ⟨_, rfl, e, d, _, _, rfl, ea1, ed1, rfl, h2, q T1 nT⟩
theorem ok_lasked {C C2 Mk b1 b2 b3 b4 b5 b6 b7 b8 b9 : Addr} {f f_solved f_counts_by : Addr} {fd fd_solved fd_counts_by : FuncData} (F : Fun K "_law_asked" "_law_asked" s_l_asked f fd)
    (GX_solved : PFn anyA P w K mg base (L2.CX P w) (k + 4) f_solved fd_solved ["table", "marks"] (vspX am (spSolvedXS C))) (g_solved : mg "solved" = some (.ref f_solved)) (k_solved : PySem.W.keepIn K (.ref f_solved) = true) (b_solved : Binds K fd_solved ["table", "marks"] [])
    (GX_counts_by : PFn anyA P w K mg base (L2.CX P w) (k + 4) f_counts_by fd_counts_by ["table", "marks"] (vspX am (spCountsByXS C C2))) (g_counts_by : mg "counts_by" = some (.ref f_counts_by)) (k_counts_by : PySem.W.keepIn K (.ref f_counts_by) = true) (b_counts_by : Binds K fd_counts_by ["table", "marks"] [])
    (R39 : Refs39 K mg C C2 Mk b1 b2 b3 b4 b5 b6 b7 b8 b9)
    (mz : ∀ x ∈ bn, mg x = none) : VFn gd P w K mg base CX0 (k + 5) f fd ["_law_which", "_law_table_here", "_law_marks"] am (spAsked f_solved f_counts_by) := by
  have R := R39
  have HS : ∀ (g : Addr) (sp : Sp), ((g = f_solved ∧ sp = vspX am (spSolvedXS C)) ∨ (g = f_counts_by ∧ sp = vspX am (spCountsByXS C C2))) → ∃ fd ps, PFn anyA P w K mg base (L2.CX P w) (k + 4) g fd ps sp ∧ PySem.W.keepIn K (.ref g) = true ∧ L2.Binds K fd ps [] := fun g sp h => by
    rcases h with ⟨rfl, rfl⟩ | ⟨rfl, rfl⟩
    · exact ⟨_, _, GX_solved, k_solved, b_solved⟩
    · exact ⟨_, _, GX_counts_by, k_counts_by, b_counts_by⟩
  refine pfn_of F sc_lask (fun vs H Q E h => ?_) (fun cdv A outer s H vs Q E hcd hgd hr h => ?_)
  · obtain ⟨F0, ds, n, Q', E', _, _, _, r, h, _⟩ := h
    obtain ⟨g, r', T, mk, rfl, _⟩ := h
    rw [r.len]
    rfl
  · obtain ⟨F0, ds, n, Q', E', u, hs, ha, rp, h, kq, ke⟩ := h
    obtain ⟨g, r, T, mk, rfl, hr0, hrl, hT, hq⟩ := h
    refine ⟨_, pss_cons (ps_set (i := 3) sc_lask.nd rfl (.inl rfl) pe_non)
      (pss_cons (ps_set (i := 4) sc_lask.nd rfl (.inl rfl) pe_non)
      (pss_cons (ps_tryK (i := 5) (c := .ref Mk) (tb := fun W => tAsg (tCallQS 0 (fun g sp => (g = f_solved ∧ sp = vspX am (spSolvedXS C)) ∨ (g = f_counts_by ∧ sp = vspX am (spCountsByXS C C2))) (WE W) (tCons (tVar 1) (tCons (tVar 2) tNil))) (gName 4)) (ts := fun _ => tAsg (tVar 5) (gName 3)) (Wout := fun _ _ _ _ => False) rfl rfl sc_lask.nd rfl rfl ⟨by rfl, by decide, Or.inl R.gM⟩ takesN rfl
        (fun W pn xe tk _ => pss_one (ps_set (i := 4) sc_lask.nd rfl (.inl rfl) (pe_callQS HS hr (by rfl) (.inl rfl) (fun σ => passAt tk σ) (pa_cons (pv 1) (pa_cons (pv 2) pa_nil)))))
        (fun a oe pn => pss_one (ps_set (i := 3) sc_lask.nd rfl (.inl rfl) (pv 5))))
      (end39 R mz))), ?_⟩
    have rr := ((rel_start (N := NAsk) u hs ha rp).setF (i := 3) (v := .non) .non).setF (i := 4) (v := .non) .non
    cases rp with
    | cons r0 rp =>
    cases rp with
    | cons r1 rp =>
    cases rp with
    | cons r2 rp =>
    cases rp
    cases r0
    have told : ∀ (d : List Dt) (a : Addr) (o : HO) (F' H' : Hp) (n' : Nat) (v1 v2 : V), Out am F0 H F' H' n' → F' a = none → H a = none → ¬ am.sp a → H' a = some o → OwOk F' a o (.lst d) → Q' (.tup [.str "told", .lst d]) n' → ∀ T, H' T = none → Q (.ref T) (upd H' T (.tup [.str "told", .ref a])) := fun d a o F' H' n' v1 v2 ot hF h0 ns hH ok q T nT => by
      have s2 := rr.call ot.u ot.s ot.f ot.o ot.k ot.a
      have s3 := s2.setO (i := 4) hF h0 ns hH ok (rr.notOwn h0)
      obtain ⟨a', F2, e1, u2, rp2, s4⟩ := s3.freeze (i := 4) (ds := d) rfl
      cases e1
      have s5 := s4.layF nT (.tup [.str "told", .ref a])
      obtain ⟨_, _, nf⟩ := s4.new0 nT
      exact kq (.ref T) _ _ _ n' s5.out (.tup upd_same (.cons (.str _) (.cons (rp2.up (up_lay nf)) .nil))) q
    have refd : ∀ (c : Addr) (txt : Str) (b : Nat) (d e : Addr) (F' H' : Hp) (n' : Nat), Out am F0 H F' H' n' → H' e = none → Q' (.tup [.str txt, nD b]) n' → ∀ T1, upd H' e (ExV c d e) T1 = none → ∀ T, upd (upd H' e (ExV c d e)) T1 (nineT b1 b2 b3 b4 b5 b6 b7 b8 b9) T = none →
        Q (.ref T) (upd (upd (upd H' e (ExV c d e)) T1 (nineT b1 b2 b3 b4 b5 b6 b7 b8 b9)) T (.tup [.str txt, .int ((b : Nat) : Int)])) := fun c txt b d e F' H' n' ot ne q T1 nT1 T nT => by
      have s2 := rr.call ot.u ot.s ot.f ot.o ot.k ot.a
      have s4 := (s2.lay ne (ExV c d e)).lay nT1 (nineT b1 b2 b3 b4 b5 b6 b7 b8 b9)
      have s5 := s4.layF nT (.tup [.str txt, .int ((b : Nat) : Int)])
      exact kq (.ref T) _ _ _ n' s5.out (.tup upd_same (.cons (.str _) (.cons (.int _) .nil))) q
    rcases hq with ⟨rfl, q1, q2⟩ | ⟨rfl, q1, q2, q3⟩
    · refine ⟨_, _, rfl, .inl ⟨rfl, rfl⟩, _, rfl, _, rfl, F0, _, n, fun kk n' => ∃ cs : Nat → Int, kk = .lst (isD ((List.range r).map cs)) ∧ Q' (.tup [.str "told", .lst (isD ((List.range r).map cs))]) n', fun cls fs n' => ∃ b : Nat, cls = .ref C ∧ fs = some [(("at" : Str), L2.V.int ((b : Nat) : Int))] ∧ Q' (.tup [.str "no set", nD b]) n', u, hs, ha, .cons r1 (.cons r2 .nil), ⟨r, T, mk, rfl, hr0, hrl, hT, fun cs hcs => ⟨cs, rfl, q1 cs hcs⟩, fun b hb => ⟨b, rfl, rfl, q2 b hb⟩⟩, fun a o kk F' H' n' ot hF h0 ns hH ok q => ?_, fun cls od fs F' H' n' ot xo q => ?_⟩
      · obtain ⟨cs, rfl, q⟩ := q
        exact .inl ⟨_, _, _, _, a, rfl, told _ a o F' H' n' .non .non ot hF h0 ns hH ok q⟩
      · obtain ⟨b, rfl, rfl, q⟩ := q
        rcases xo with ⟨_, z⟩ | ⟨d, l, rfl, e, hd, hH, hF⟩
        · cases z
        · cases e
          refine ⟨true, R.te, fun _ => ⟨C, d, rfl, rfl, fun e ne => ⟨.ref e, rfl, .inr (.inl ⟨_, _, _, _, e, d, ((b : Nat) : Int), rfl, upd_same, ?_, refd C _ b d e F' H' n' ot ne q⟩)⟩⟩, fun z => by cases z⟩
          rw [upd_ne fun z => by rw [z, ne] at hH; cases hH]
          exact hH
    · refine ⟨_, _, rfl, .inr ⟨rfl, rfl⟩, _, rfl, _, rfl, F0, _, n, fun kk n' => ∃ cs : Nat → Int, kk = .lst (isD ((List.range r).map cs)) ∧ Q' (.tup [.str "told", .lst (isD ((List.range r).map cs))]) n', fun cls fs n' => (∃ b : Nat, cls = .ref C ∧ fs = some [(("at" : Str), L2.V.int ((b : Nat) : Int))] ∧ Q' (.tup [.str "no set", nD b]) n') ∨ (∃ b : Nat, cls = .ref C2 ∧ fs = some [(("at" : Str), L2.V.int ((b : Nat) : Int))] ∧ Q' (.tup [.str "below", nD b]) n'), u, hs, ha, .cons r1 (.cons r2 .nil), ⟨r, T, mk, rfl, hr0, hrl, hT, fun cs hcs h0 => ⟨cs, rfl, q1 cs hcs h0⟩, fun b hb => .inl ⟨b, rfl, rfl, q2 b hb⟩, fun cs hcs b hb => .inr ⟨b, rfl, rfl, q3 cs hcs b hb⟩⟩, fun a o kk F' H' n' ot hF h0 ns hH ok q => ?_, fun cls od fs F' H' n' ot xo q => ?_⟩
      · obtain ⟨cs, rfl, q⟩ := q
        exact .inl ⟨_, _, _, _, a, rfl, told _ a o F' H' n' .non .non ot hF h0 ns hH ok q⟩
      · rcases q with ⟨b, rfl, rfl, q⟩ | ⟨b, rfl, rfl, q⟩
        · rcases xo with ⟨_, z⟩ | ⟨d, l, rfl, e, hd, hH, hF⟩
          · cases z
          · cases e
            refine ⟨true, R.te, fun _ => ⟨C, d, rfl, rfl, fun e ne => ⟨.ref e, rfl, .inr (.inl ⟨_, _, _, _, e, d, ((b : Nat) : Int), rfl, upd_same, ?_, refd C _ b d e F' H' n' ot ne q⟩)⟩⟩, fun z => by cases z⟩
            rw [upd_ne fun z => by rw [z, ne] at hH; cases hH]
            exact hH
        · rcases xo with ⟨_, z⟩ | ⟨d, l, rfl, e, hd, hH, hF⟩
          · cases z
          · cases e
            refine ⟨true, R.te2, fun _ => ⟨C2, d, rfl, rfl, fun e ne => ⟨.ref e, rfl, .inr (.inr ⟨_, _, _, _, e, d, ((b : Nat) : Int), rfl, upd_same, ?_, refd C2 _ b d e F' H' n' ot ne q⟩)⟩⟩, fun z => by cases z⟩
            rw [upd_ne fun z => by rw [z, ne] at hH; cases hH]
            exact hH
end
end K39
namespace VL
open PySem PySem.Spec PyProof.Rows L2 HM HG
end VL
namespace VL
open PySem PySem.Spec PyProof.Rows L2 HM HG
end VL
namespace VL
open PySem PySem.Spec PyProof.Rows L2 HM
section
variable {am : Am} {F0 : Hp} {X : Cx} {k i : Nat} {x : Str} {p pos : Pos} {e : Expr} {es : List Expr} {tas : VTA}
/-- a def's name as a value -/
theorem ve_globF {c : Fc} {f : Addr} {px : Pos} (hg : Gl X x) (hm : X.mg x = some (.ref f)) (hd : (x == ("__debug__" : Str)) = false := by decide) : PE X (.Name x px) (tOf c (vC (.obj f))) :=
  PE.imp (pe_glob (v := .ref f) hg hm rfl hd) fun σ H R ⟨F, env, n, Q, r, q, k⟩ => k _ H F _ env n r (Up.refl F) (.obj f) q
end
end VL
namespace K39
open PySem PySem.Spec PyProof.Rows L2 HM VL HG
abbrev s_l_right : Stmt := topS 38
theorem sc_l_right : FnScope ["_law_table_here", "_law_marks", "_law_own", "_law_due", "_law_plain", "_law_k", "_law_handed"] ["_law_table_here", "_law_marks"] (defScope s_l_right) := ⟨rfl, rfl, rfl, by decide +kernel, rfl, by decide +kernel, by decide +kernel⟩
section
variable {P : Program} {w : World} {K : PySem.W.Frag} {mg : Str → Option Value} {base : Heap} {am : Am} {k : Nat}
theorem ok_lright39 {f f_l_solved f_l_asked f_solved f_counts_by : Addr} {fd fd_l_solved fd_l_asked fd_solved fd_counts_by : FuncData} (F : Fun K "_law_right" "_law_right" s_l_right f fd) (PlA : Plain am)
    (G_l_solved : ∀ {am}, VFn anyA P w K mg base CX0 (k + 5) f_l_solved fd_l_solved ["_law_table_here", "_law_marks"] am spLSolv) (g_l_solved : mg "_law_solved" = some (.ref f_l_solved)) (k_l_solved : PySem.W.keepIn K (.ref f_l_solved) = true) (b_l_solved : Binds K fd_l_solved ["_law_table_here", "_law_marks"] []) (G_l_asked : ∀ {am}, VFn anyA P w K mg base CX0 (k + 5) f_l_asked fd_l_asked ["_law_which", "_law_table_here", "_law_marks"] am (spAsked f_solved f_counts_by)) (g_l_asked : mg "_law_asked" = some (.ref f_l_asked)) (k_l_asked : PySem.W.keepIn K (.ref f_l_asked) = true) (b_l_asked : Binds K fd_l_asked ["_law_which", "_law_table_here", "_law_marks"] []) (g_solved : mg "solved" = some (.ref f_solved)) (k_solved : PySem.W.keepIn K (.ref f_solved) = true) (b_solved : Binds K fd_solved ["table", "marks"] []) (g_counts_by : mg "counts_by" = some (.ref f_counts_by)) (k_counts_by : PySem.W.keepIn K (.ref f_counts_by) = true) (b_counts_by : Binds K fd_counts_by ["table", "marks"] [])
    (mz : ∀ x ∈ bn, mg x = none) : VFn noRepr P w K mg base CX0 (k + 6) f fd ["_law_table_here", "_law_marks"] am spLRight39 := by
  refine vfn_of F sc_l_right (fun ds n Q E h => ?_) ⟨_, fun cdv A out s H E F0 H0 hcd hgd hr =>
    (vss_cons (vs_set (i := 2) sc_l_right.nd rfl (.inr rfl) (ve_call G_l_solved trivial (hr.mono (by omega)) (by rfl) g_l_solved k_l_solved b_l_solved pass0 (va_cons (ve_var (pv 0)) (va_cons (ve_var (pv 1)) va_nil))))
      (vss_cons (vs_set (i := 3) sc_l_right.nd rfl (.inl rfl) (ve_tup (va_cons ve_str (va_cons (ve_var (pv 2)) va_nil))))
      (vss_cons (vs_set (i := 4) sc_l_right.nd rfl (.inl rfl) (ve_var (pv 3)))
      (vss_cons (vs_if (vt_val (ve_isi (T' := "int") (by rfl) (mz "isinstance" (by decide)) (by rfl) (mz "int" (by decide)) (ve_var (pv 2))))
        (vss_cons (vs_set (i := 3) sc_l_right.nd rfl (.inl rfl) (ve_tup (va_cons ve_str (va_cons (ve_var (pv 2)) va_nil))))
        (vss_one (vs_set (i := 4) sc_l_right.nd rfl (.inl rfl) (ve_var (pv 3)))))
        (vss_one (vs_if (vt_cmp op_lt lft_B0 (ve_cb (cr_min rfl) lft_min (by rfl) (mz "min" (by decide)) (by decide +kernel) (va_cons (ve_var (pv 2)) va_nil)) ve_int (nomark _))
          (vss_one (vs_set (i := 4) sc_l_right.nd rfl (.inl rfl) (ve_tup (va_cons ve_str (va_cons (ve_cb (cr_max rfl) lft_max (by rfl) (mz "max" (by decide)) (by decide +kernel) (va_cons (ve_new (vn_lc (own := [("_law_k", 5)]) rfl sc_l_right.nd (vi_range1 (by rfl) (mz "range" (by decide)) (vb_cons (ve_cbR call_len_seq lft_len (by rfl) (mz "len" (by decide)) PySem.boot_len (vb_rd (pv 2) vb_nil)) vb_nil)) (blkOk_by (own := [("_law_k", 5)]) (N := ["_law_table_here", "_law_marks", "_law_own", "_law_due", "_law_plain", "_law_k", "_law_handed"]) (sc := defScope s_l_right) (by decide +kernel)) (tg_name (by simp)) (fun _ _ _ _ _ => (pg_name (i := 5) sc_l_right.nd rfl (.inl rfl))) (fun _ _ _ _ _ _ _ => vts_one (vt_cmp op_lt lft_B0 (ve_ixO (pv 2) (ve_var (pv 5)) (fun _ _ => rfl)) ve_int (nomark _))) (fun _ _ _ _ _ _ _ => (ve_var (pv 5))))) va_nil)) va_nil)))))
          vss_nil)))
      (vss_cons (vs_setN (i := 6) sc_l_right.nd rfl (.inl rfl) (vn_tyR call_list_of lft_listOf (by rfl) (mz "list" (by decide)) (by decide +kernel) (vb_rd (pv 1) vb_nil)))
      (vss_cons (vs_if (vt_frz (i := 6) (fun F0 H0 => (vt_or (vt_cmp op_ne lft_neS (ve_cbR (call_reprD (by exact hgd) hr) lft_reprS (by rfl) (mz "repr" (by decide)) (by decide +kernel) (vb_cons (ve_call G_l_asked trivial (hr.mono (by omega)) (by rfl) g_l_asked k_l_asked b_l_asked pass0 (va_cons (ve_globF (by rfl) g_solved) (va_cons (ve_var (pv 0)) (va_cons (ve_var (pv 6)) va_nil)))) vb_nil)) (ve_cbR (call_reprD (by exact hgd) hr) lft_reprS (by rfl) (mz "repr" (by decide)) (by decide +kernel) (vb_rd (pv 3) vb_nil)) (nomark _)) (vt_or1 (vt_cmpN (op_neD hr.units) lft_neD (pv 6) (vr_var (pv 1)) (nomark _)))).pt))
        (vss_one (vs_fz (i := 6) (vs_ret ve_bl)))
        vss_nil)
      (vss_one (vs_fz (i := 6) (vs_ret (ve_and (ve_cmp op_eq lft_eqS (ve_cbR (call_reprD (by exact hgd) hr) lft_reprS (by rfl) (mz "repr" (by decide)) (by decide +kernel) (vb_cons (ve_call G_l_asked trivial (hr.mono (by omega)) (by rfl) g_l_asked k_l_asked b_l_asked pass0 (va_cons (ve_globF (by rfl) g_counts_by) (va_cons (ve_var (pv 0)) (va_cons (ve_var (pv 6)) va_nil)))) vb_nil)) (ve_cbR (call_reprD (by exact hgd) hr) lft_reprS (by rfl) (mz "repr" (by decide)) (by decide +kernel) (vb_rd (pv 4) vb_nil)) (nomark _)) (ve_one (ve_cmpN (op_eqD hr.units) lft_eqD (pv 6) (vr_var (pv 1)) (nomark _))))))))))))), fun ds t Q E h => ?_⟩
  · obtain ⟨r, T, mk, rfl, _⟩ := h
    rfl
  · obtain ⟨r, T, mk, rfl, hr0, hrl, hT, hb, q⟩ := h
    have hlm : ((List.range r).map fun a => rowD r (T a)).length = r := by rw [List.length_map, List.length_range]
    have rT : ∀ cs : Nat → Int, (∀ j, j < r → mk j = pm T cs r j) → rpS (.tup [.str "told", .lst (isD ((List.range r).map cs))]) := fun cs hcs => rp_said (by decide +kernel) (Sm.lst (e := 480) (k := 0) (c := 481) (l := 2400) (fun d hd => by
      unfold isD at hd
      obtain ⟨x, hx, rfl⟩ := List.mem_map.mp hd
      obtain ⟨i, hi, rfl⟩ := List.mem_map.mp hx
      exact Sm.int (hb cs hcs i (List.mem_range.mp hi))) (by rw [isD_len, List.length_map, List.length_range]; exact hrl)) (by decide) (by decide) (by decide) (by decide)
    have rN : ∀ (s : Str) (b : Nat), (PyData.str s).shown.length ≤ 20 → b < r → rpS (.tup [.str s, nD b]) := fun s b hs hbr => rp_said hs (Sm.nat (e := 4) (show b < 10 ^ 4 by omega)) (by decide) (by decide) (by decide) (by decide)
    refine vcutS (fun env t' => t' = t ∧ ∃ own : Dt, env = [.fz (houD r T), .fz (.lst (isD ((List.range r).map mk))), .fz own, .no, .no, .no, .no] ∧ ((∃ cs, (∀ j, j < r → mk j = pm T cs r j) ∧ own = .lst (isD ((List.range r).map cs))) ∨ (∃ b, StopAt r T mk b ∧ own = nD b))) (fun env t' hI => ?_) (fun X hX => ?_)
    rotate_left
    · exact ⟨_, rfl, _, rfl, r, T, mk, rfl, hr0, hrl, hT, fun cs hcs => hX _ _ ⟨rfl, _, rfl, .inl ⟨cs, hcs, rfl⟩⟩, fun b hsb => hX _ _ ⟨rfl, _, rfl, .inr ⟨b, hsb, rfl⟩⟩⟩
    obtain ⟨rfl, own, rfl, hown⟩ := hI
    refine ⟨_, rfl, (by show 2 ≤ 5000; decide), _, rfl, ?_⟩
    dsimp only
    refine vcutS (fun env t2 => t2 = t' ∧ ∃ d pl : Dt, env = [.fz (houD r T), .fz (.lst (isD ((List.range r).map mk))), .fz own, .fz d, .fz pl, .no, .no] ∧ rpS d ∧ rpS pl ∧ (∀ cs : Nat → Int, (∀ j, j < r → mk j = pm T cs r j) → Dt.tup [.str "told", .lst (isD ((List.range r).map cs))] = d) ∧ (∀ b, StopAt r T mk b → Dt.tup [.str "no set", nD b] = d) ∧
      (∀ cs : Nat → Int, (∀ j, j < r → mk j = pm T cs r j) → (∀ j, j < r → 0 ≤ cs j) → Dt.tup [.str "told", .lst (isD ((List.range r).map cs))] = pl) ∧ (∀ b, StopAt r T mk b → Dt.tup [.str "no set", nD b] = pl) ∧ (∀ cs : Nat → Int, (∀ j, j < r → mk j = pm T cs r j) → ∀ b, LowAt r cs b → Dt.tup [.str "below", nD b] = pl)) (fun env t2 hI => ?_) (fun X hX => ?_)
    rotate_left
    · rcases hown with ⟨cs, hcs, rfl⟩ | ⟨b, hsb, rfl⟩
      · have eq1 : ∀ ds : Nat → Int, (∀ j, j < r → mk j = pm T ds r j) → Dt.tup [.str "told", .lst (isD ((List.range r).map ds))] = .tup [.str "told", .lst (isD ((List.range r).map cs))] := fun ds hds => by rw [isD_same (sol_one hT hds hcs)]
        refine ⟨_, rfl, _, _, _, rfl, (show ("list" : String) ≠ "" by decide), rfl, _, rfl, iteB (fun e => by cases e) (fun _ => ?_)⟩
        refine ⟨_, rfl, (List.range r).map cs, rfl, by rw [List.length_map, List.length_range]; exact hr0, fun mn hmn hle => ⟨_, _, rfl, rfl, _, rfl, iteB (fun e => ?_) (fun e => ?_)⟩⟩
        · have e : mn < 0 := of_decide_eq_true e
          obtain ⟨i0, hi0, rfl⟩ := List.mem_map.mp hmn
          have hi0 := List.mem_range.mp hi0
          have hll : (isD ((List.range r).map cs)).length = r := by rw [isD_len, List.length_map, List.length_range]
          refine ⟨⟨_, .inl rfl⟩, _, .inl rfl, _, .inl rfl, rfl, _, rfl, ⟨by omega, by rw [hll]; omega⟩, lc_filter1 (i := 5) (fun j => decide (cs j < 0)) nD (.head _) (noOw1 (s := .no) rfl no_ow) (by rw [hll, rngD_len]; omega) (fun j d hd => ?_) ?_⟩
          · rw [hll] at hd
            obtain ⟨rfl, hj⟩ := rngD_get0 hd
            have hj : j < r := by have : j < ((r : Nat) : Int).toNat := hj; omega
            refine ⟨fun R hR => ?_, fun _ R hR => ⟨_, rfl, hR⟩⟩
            exact ⟨⟨_, .inl rfl⟩, _, rfl, _, _, _, .inl rfl, rfl, isD_at hj, _, _, rfl, rfl, _, rfl, hR⟩
          · rw [hll, rngD_len, Int.toNat_natCast]
            obtain ⟨L, hL⟩ : ∃ L, L = (List.range r).filter fun j => decide (cs j < 0) := ⟨_, rfl⟩
            rw [← hL]
            have memL : ∀ j, j ∈ L ↔ j < r ∧ cs j < 0 := fun j => by rw [hL, List.mem_filter, List.mem_range, decide_eq_true_iff]
            refine ⟨_, rfl, L.map (fun i : Nat => (i : Int)), by rw [← nsD_ints]; rfl, by rw [List.length_map]; exact List.length_pos_of_mem ((memL i0).mpr ⟨hi0, e⟩), fun mx hmx hle2 => ⟨(by show 2 ≤ 5000; decide), ?_⟩⟩
            obtain ⟨b, hbL, rfl⟩ := List.mem_map.mp hmx
            obtain ⟨hbr, hbn⟩ := (memL b).mp hbL
            have low : LowAt r cs b := ⟨hbr, hbn, fun j h1 h2 => by
              by_cases z : 0 ≤ cs j
              · exact z
              · have := hle2 _ (List.mem_map.mpr ⟨j, (memL j).mpr ⟨h2, by omega⟩, rfl⟩)
                omega⟩
            refine hX _ _ ⟨rfl, _, _, rfl, rT cs hcs, rN _ b (by decide +kernel) hbr, eq1, fun c hc => (hc.none hT hcs).elim, fun ds hds h0 => ?_, fun c hc => (hc.none hT hcs).elim, fun ds hds c hc => ?_⟩
            · have h3 := h0 b hbr
              rw [sol_one hT hds hcs b hbr] at h3
              omega
            · rw [hc.uniq (sol_one hT hds hcs) low]
              rfl
        · have e : ¬ mn < 0 := of_decide_eq_false e
          have nn : ∀ j, j < r → 0 ≤ cs j := fun j hj => by
            have := hle (cs j) (List.mem_map.mpr ⟨j, List.mem_range.mpr hj, rfl⟩)
            omega
          refine hX _ _ ⟨rfl, _, _, rfl, rT cs hcs, rT cs hcs, eq1, fun c hc => (hc.none hT hcs).elim, fun ds hds _ => eq1 ds hds, fun c hc => (hc.none hT hcs).elim, fun ds hds c hc => ?_⟩
          have h3 := nn c hc.1
          rw [← sol_one hT hds hcs c hc.1] at h3
          have := hc.2.1
          omega
      · refine ⟨_, rfl, _, _, _, rfl, (show ("int" : String) ≠ "" by decide), rfl, _, rfl, iteB (fun _ => ?_) (fun e => by cases e)⟩
        refine ⟨_, rfl, (by show 2 ≤ 5000; decide), _, rfl, hX _ _ ⟨rfl, _, _, rfl, rN _ b (by decide +kernel) hsb.1, rN _ b (by decide +kernel) hsb.1, fun cs hcs => (hsb.none hT hcs).elim, fun c hc => by rw [hc.uniq hT hsb], fun cs hcs _ => (hsb.none hT hcs).elim, fun c hc => by rw [hc.uniq hT hsb], fun cs hcs c hc => (hsb.none hT hcs).elim⟩⟩
    obtain ⟨rfl, d, pl2, rfl, rd, rpl, f1, f2, g1, g2, g3⟩ := hI
    refine ⟨⟨_, .inl rfl⟩, _, .inl rfl, _, .inl rfl, flats_int _, ?_⟩
    have pi : pl (.lst (isD ((List.range r).map mk))) = true := pls_map (fun _ => rfl) _
    have di : dep (.lst (isD ((List.range r).map mk))) ≤ 64 := Nat.le_trans (Nat.succ_le_succ (deps_map (f := Dt.int) (k := 0) (fun _ => Nat.le_refl 0) _)) (by decide)
    refine ⟨_, rfl, _, rfl, _, rfl, ?_⟩
    dsimp only [vNil]
    refine asked_solved hr0 hrl hT f1 f2 ?_
    refine ⟨_, rfl, rd, rfl, ⟨_, .inl rfl⟩, _, .inl rfl, _, rfl, rd, rfl, dNe_sh ⟨_, rfl, iteB (fun e => by cases e) (fun _ => ?_)⟩⟩
    refine ⟨⟨_, .inl rfl⟩, _, .inl rfl, _, .inl rfl, dNeD_pl pi pi di di fun b hbb => ⟨rfl, b, rfl, rfl, ?_⟩⟩
    have hbf : b = false := by
      cases b with
      | false => rfl
      | true => exact absurd rfl (hbb.mp rfl)
    rw [hbf]
    refine iteB (fun e => by cases e) (fun _ => ?_)
    refine ⟨_, rfl, _, rfl, _, rfl, ?_⟩
    dsimp only [vNil]
    refine asked_counts hr0 hrl hT g1 g2 g3 ?_
    refine ⟨_, rfl, rpl, rfl, ⟨_, .inl rfl⟩, _, .inl rfl, _, rfl, rpl, rfl, dEq_sh ⟨true, rfl, ?_⟩⟩
    rw [if_pos rfl]
    exact ⟨⟨_, .inl rfl⟩, _, .inl rfl, _, .inl rfl, dEqD_pl pi pi di di fun b hbb => ⟨rfl, by rw [hbb.mpr rfl]; exact q⟩⟩
end
end K39
namespace VL
open PySem PySem.Spec PyProof.Rows L2 HM
section
variable {n : Nat} {m : Nat → Nat → Nat} {ks : List (List Nat)} {r : Nat} {T : Nat → Nat → Nat} {cs mk : Nat → Int}
theorem tab_grow (h : Hse n m) (k : IsKinds n m ks) {i j : Nat} (hi : i < ks.length) (hj : j < ks.length) (hz : tabM n m ks i j ≠ 0) (ne : i ≠ j) : 2 * (tL ks j).length ≤ (tL ks i).length := by
  have si := k.sub _ (List.mem_of_getElem? (tL_some hi))
  have sj := k.sub _ (List.mem_of_getElem? (tL_some hj))
  obtain ⟨g, l, hg, L, hin⟩ := mkN_in h si sj hz
  have e1 := L.len h si hg
  have sl := L.sub h si hg
  have le1 := len_le_of_sub sj.nd hin
  have dv := sub_div h sj sl hin
  obtain ⟨c, hc⟩ := Nat.dvd_of_mod_eq_zero dv
  have hj0 : 0 < (tL ks j).length := List.length_pos_of_mem sj.ze
  by_cases z : (tL ks j).length = l.length
  · exfalso
    have e2 : tL ks j = l := by
      refine rising_eq sj.up sl.up fun x => ⟨hin x, fun hx => ?_⟩
      exact full_of_nodup sj.nd hin (by omega) x hx
    rw [← e2] at L
    have e3 := k.one _ (List.mem_of_getElem? (tL_some hi)) _ (List.mem_of_getElem? (tL_some hj)) g hg L
    exact ne ((List.getElem?_inj hi k.nd).mp (by rw [tL_some hi, tL_some hj, e3]))
  · rw [← e1, hc]
    have : 2 ≤ c := by
      rcases c with _ | _ | c
      · rw [Nat.mul_zero] at hc; omega
      · rw [Nat.zero_add, Nat.mul_one] at hc; omega
      · omega
    rw [Nat.mul_comm]
    exact Nat.mul_le_mul_left _ this
theorem pm_split (j : Nat) : ∀ b, pm T cs b j = (if j < b then cs j * ((T j j : Nat) : Int) else 0) + pm T (fun i => if i = j then 0 else cs i) b j
  | 0 => by rw [if_neg (Nat.not_lt_zero j)]; rfl
  | b + 1 => by
    show pm T cs b j + cs b * ((T b j : Nat) : Int) = _ + (pm T (fun i => if i = j then 0 else cs i) b j + (if b = j then 0 else cs b) * ((T b j : Nat) : Int))
    rw [pm_split j b]
    by_cases z : b = j
    · subst z
      rw [if_neg (Nat.lt_irrefl b), if_pos (Nat.lt_succ_self b), if_pos rfl, Int.zero_mul]
      omega
    · rw [if_neg z]
      by_cases w : j < b
      · rw [if_pos w, if_pos (by omega)]; omega
      · rw [if_neg w, if_neg (by omega)]; omega
theorem pm_few {W : Nat} (j : Nat) : ∀ b, (∀ i, i < b → (cs i * ((T i j : Nat) : Int)).natAbs ≤ W) → (pm T cs b j).natAbs ≤ b * W
  | 0, _ => by rw [Nat.zero_mul]; exact Nat.le_refl 0
  | b + 1, h => by
    have h1 := pm_few j b fun i hi => h i (by omega)
    have h2 := h b (Nat.lt_succ_self b)
    show (pm T cs b j + cs b * ((T b j : Nat) : Int)).natAbs ≤ _
    rw [Nat.succ_mul]
    have := Int.natAbs_add_le (pm T cs b j) (cs b * ((T b j : Nat) : Int))
    omega
theorem sol_level (h : Hse n m) (hn : n ≤ 60) (k : IsKinds n m ks) (hr : ks.length ≤ 2400) (M : Nat) (hM : ∀ j, j < ks.length → (mk j).natAbs ≤ M) (hc : ∀ j, j < ks.length → mk j = pm (tabM n m ks) cs ks.length j) : ∀ (q j : Nat), j < ks.length → 60 < (tL ks j).length * 2 ^ q → (cs j).natAbs ≤ M * 144001 ^ q
  | 0, j, hj, hq => by
    have sj := k.sub _ (List.mem_of_getElem? (tL_some hj))
    have := few_of_nodup sj.nd sj.lt
    rw [Nat.pow_zero, Nat.mul_one] at hq
    omega
  | q + 1, j, hj, hq => by
    have t := tri_kinds h hn k
    have hp := t.pos j hj
    have hW : (pm (tabM n m ks) (fun i => if i = j then 0 else cs i) ks.length j).natAbs ≤ ks.length * (60 * (M * 144001 ^ q)) := pm_few j _ fun i hi => by
      by_cases z : i = j
      · rw [if_pos z, Int.zero_mul]; exact Nat.zero_le _
      · rw [if_neg z, Int.natAbs_mul, Int.natAbs_natCast]
        by_cases w : tabM n m ks i j = 0
        · rw [w, Nat.mul_zero]; exact Nat.zero_le _
        · have g := tab_grow h k hi hj w z
          have g2 := Nat.mul_le_mul_right (2 ^ q) g
          have e : (tL ks j).length * 2 ^ (q + 1) = 2 * (tL ks j).length * 2 ^ q := by rw [Nat.pow_succ, Nat.mul_comm 2 (tL ks j).length, Nat.mul_assoc, Nat.mul_comm 2 (2 ^ q)]
          have ih := sol_level h hn k hr M hM hc q i hi (by omega)
          have le := t.le i j hi hj
          rw [Nat.mul_comm (cs i).natAbs]
          exact Nat.mul_le_mul le ih
    have e := hc j hj
    rw [pm_split j, if_pos hj] at e
    have e2 : (cs j * ((tabM n m ks j j : Nat) : Int)).natAbs ≤ M + ks.length * (60 * (M * 144001 ^ q)) := by
      have e3 : cs j * ((tabM n m ks j j : Nat) : Int) = mk j - pm (tabM n m ks) (fun i => if i = j then 0 else cs i) ks.length j := by omega
      rw [e3]
      have := Int.natAbs_sub_le (mk j) (pm (tabM n m ks) (fun i => if i = j then 0 else cs i) ks.length j)
      have := hM j hj
      omega
    rw [Int.natAbs_mul, Int.natAbs_natCast] at e2
    have e4 : (cs j).natAbs ≤ (cs j).natAbs * tabM n m ks j j := Nat.le_mul_of_pos_right _ hp
    have e5 : ks.length * (60 * (M * 144001 ^ q)) ≤ 2400 * (60 * (M * 144001 ^ q)) := Nat.mul_le_mul_right _ hr
    have e6 : M ≤ M * 144001 ^ q := Nat.le_mul_of_pos_right _ (Nat.pow_pos (by decide))
    have e7 : M * 144001 ^ (q + 1) = M * 144001 ^ q * 144001 := by rw [Nat.pow_succ, Nat.mul_assoc]
    rw [e7]
    generalize M * 144001 ^ q = B at *
    omega
theorem sol_few (h : Hse n m) (hn : n ≤ 60) (k : IsKinds n m ks) (hr : ks.length ≤ 2400) (hM : ∀ j, j < ks.length → (mk j).natAbs ≤ 10 ^ 31) (cs : Nat → Int) (hc : ∀ j, j < ks.length → mk j = pm (tabM n m ks) cs ks.length j) (i : Nat) (hi : i < ks.length) : (cs i).natAbs < 10 ^ 480 := by
  have si := k.sub _ (List.mem_of_getElem? (tL_some hi))
  have h0 : 0 < (tL ks i).length := List.length_pos_of_mem si.ze
  have := sol_level h hn k hr _ hM hc 6 i hi (by show 60 < _ * 64; omega)
  refine Nat.lt_of_le_of_lt this ?_
  refine Nat.lt_of_lt_of_le (show 10 ^ 31 * 144001 ^ 6 < 10 ^ 100 by decide +kernel) (Nat.pow_le_pow_right (by decide) (by decide))
end
theorem isD_of {L : List Int} {r : Nat} (h : L.length = r) : ∃ f : Nat → Int, isD L = isD ((List.range r).map f) ∧ ∀ j, j < r → f j ∈ L := by
  refine ⟨fun j => L.getD j 0, congrArg isD (List.ext_getElem? fun j => ?_), fun j hj => ?_⟩
  · rw [List.getElem?_map]
    by_cases hj : j < r
    · rw [List.getElem?_range hj, List.getElem?_eq_getElem (by omega)]
      show some _ = some (L.getD j 0)
      rw [List.getD_eq_getElem?_getD, List.getElem?_eq_getElem (by omega)]
      rfl
    · rw [List.getElem?_eq_none (by omega), List.getElem?_eq_none (by rw [List.length_range]; omega)]
      rfl
  · show L.getD j 0 ∈ L
    rw [List.getD_eq_getElem?_getD, List.getElem?_eq_getElem (show j < L.length by omega)]
    exact List.getElem_mem _
/-- a row of marks that the law asks about -/
def RowOk (r : Nat) (x : Dt) : Prop := ∃ mk : Nat → Int, x = .lst (isD ((List.range r).map mk)) ∧ ∀ j, j < r → (mk j).natAbs ≤ 10 ^ 31
theorem RowOk.of {r : Nat} {L : List Int} (h : L.length = r) (hb : ∀ x ∈ L, x.natAbs ≤ 10 ^ 31) : RowOk r (.lst (isD L)) := by
  obtain ⟨f, e, hf⟩ := isD_of h
  exact ⟨f, by rw [e], fun j hj => hb _ (hf j hj)⟩
end VL
namespace K39
open PySem PySem.Spec PyProof.Rows L2 HM VL HG
abbrev s_law : Stmt := topS 39
theorem sc_law : FnScope ["_law_script", "_law_pen_here", "_law_house_here", "_law_kinds_here", "_law_known", "_law_table_here", "_law_kept", "_law_many", "_law_turn_here", "_law_part_here", "_law_counts", "_law_again", "_law_marks", "_law_spots", "_law_k", "_law_some", "_law_spot", "_law_by", "_law_number_here", "_law_one", "_law_other", "_law_row"] ["_law_script"] (defScope s_law) := ⟨rfl, rfl, rfl, by decide +kernel, rfl, by decide +kernel, by decide +kernel⟩
section
variable {P : Program} {w : World} {K : PySem.W.Frag} {mg : Str → Option Value} {base : Heap} {k : Nat}
theorem ok_law {C C2 fI fI2 : Addr} {f f_l_pen f_l_house f_l_kinds f_l_table f_l_marks_by f_l_number f_l_right f_l_take : Addr} {fd fd_l_pen fd_l_house fd_l_kinds fd_l_table fd_l_marks_by fd_l_number fd_l_right fd_l_take : FuncData} {Ps : List Addr} (F : Fun K "law" "law" s_law f fd)
    (GP : PFn anyA P w K mg base CX0 (k + 16) f_l_pen fd_l_pen ["_law_script"] (spPenB K)) (gP : mg "_law_pen" = some (.ref f_l_pen)) (kP : PySem.W.keepIn K (.ref f_l_pen) = true) (bP : Binds K fd_l_pen ["_law_script"] [])
    (G_l_house : ∀ {am p}, PenB K am p → VFn anyA P w K mg base CX0 (k + 16) f_l_house fd_l_house ["_law_pen_here"] am (spHouse p)) (g_l_house : mg "_law_house" = some (.ref f_l_house)) (k_l_house : PySem.W.keepIn K (.ref f_l_house) = true) (b_l_house : Binds K fd_l_house ["_law_pen_here"] []) (G_l_kinds : ∀ {am}, VFn anyA P w K mg base CX0 (k + 16) f_l_kinds fd_l_kinds ["_law_house_here"] am spKindsP) (g_l_kinds : mg "_law_kinds" = some (.ref f_l_kinds)) (k_l_kinds : PySem.W.keepIn K (.ref f_l_kinds) = true) (b_l_kinds : Binds K fd_l_kinds ["_law_house_here"] []) (G_l_table : ∀ {am}, VFn anyA P w K mg base CX0 (k + 16) f_l_table fd_l_table ["_law_house_here", "_law_kinds_here", "_law_known"] am spLTable) (g_l_table : mg "_law_table" = some (.ref f_l_table)) (k_l_table : PySem.W.keepIn K (.ref f_l_table) = true) (b_l_table : Binds K fd_l_table ["_law_house_here", "_law_kinds_here", "_law_known"] []) (G_l_marks_by : ∀ {am}, VFn anyA P w K mg base CX0 (k + 16) f_l_marks_by fd_l_marks_by ["_law_table_here", "_law_counts"] am spLMarksBy) (g_l_marks_by : mg "_law_marks_by" = some (.ref f_l_marks_by)) (k_l_marks_by : PySem.W.keepIn K (.ref f_l_marks_by) = true) (b_l_marks_by : Binds K fd_l_marks_by ["_law_table_here", "_law_counts"] []) (G_l_number : ∀ {am p}, PenB K am p → VFn anyA P w K mg base CX0 (k + 16) f_l_number fd_l_number ["_law_pen_here"] am (spLNumber p)) (g_l_number : mg "_law_number" = some (.ref f_l_number)) (k_l_number : PySem.W.keepIn K (.ref f_l_number) = true) (b_l_number : Binds K fd_l_number ["_law_pen_here"] []) (G_l_take : ∀ {am p}, PenB K am p → VFn anyA P w K mg base CX0 (k + 16) f_l_take fd_l_take ["_law_pen_here", "_law_many"] am (spTakeB p)) (g_l_take : mg "_law_take" = some (.ref f_l_take)) (k_l_take : PySem.W.keepIn K (.ref f_l_take) = true) (b_l_take : Binds K fd_l_take ["_law_pen_here", "_law_many"] [])
    (G_l_right : ∀ {am}, Plain am → VFn noRepr P w K mg base CX0 (k + 16) f_l_right fd_l_right ["_law_table_here", "_law_marks"] am spLRight39) (g_l_right : mg "_law_right" = some (.ref f_l_right)) (k_l_right : PySem.W.keepIn K (.ref f_l_right) = true) (b_l_right : Binds K fd_l_right ["_law_table_here", "_law_marks"] [])
    (NB : NoT P sInitB "NoSet.__init__" K C fI) (gB : mg "NoSet" = some (.ref C)) (FB : XfC K C) (NB2 : NoT P sInitB2 "BelowNought.__init__" K C2 fI2) (gB2 : mg "BelowNought" = some (.ref C2)) (FB2 : XfC K C2)
    (mz : ∀ x ∈ bn, mg x = none) : PFn noRepr P w K mg base CX0 (k + 17) f fd ["_law_script"] (spLawT K Ps) := by
  refine pfn_of F sc_law (fun vs H Q E h => ?_) (fun cdv A outer s H vs Q E hcd hgd hr h => ?_)
  · obtain ⟨a, ns, rfl, _⟩ := h
    rfl
  · obtain ⟨a, ns, rfl, hS, hlen, hT, q⟩ := h
    refine ⟨_, pss_cons (ps_set (i := 1) sc_law.nd rfl (.inr rfl) (pe_callP GP trivial hr (by rfl) gP kP bP pass0 (pa_cons (pv 0) pa_nil))) (pss_penTB (K := K) (Ps := Ps) fun am p PI TI F0 H0 => have PlA := PI.pl;
      (vss_cons (vs_set (i := 2) sc_law.nd rfl (.inl rfl) (ve_call (G_l_house PI) trivial (hr.mono (by omega)) (by rfl) g_l_house k_l_house b_l_house pass0 (va_cons (ve_var (pv 1)) va_nil)))
        (vss_cons (vs_asg (ve_call G_l_kinds trivial (hr.mono (by omega)) (by rfl) g_l_kinds k_l_kinds b_l_kinds pass0 (va_cons (ve_var (pv 2)) va_nil)) (vg_tup (m := 2) rfl (vgs_cons (vg_name (pg_name (i := 3) sc_law.nd rfl (.inl rfl))) (vgs_cons (vg_name (pg_name (i := 4) sc_law.nd rfl (.inl rfl))) vgs_nil))))
        (vss_cons (vs_set (i := 5) sc_law.nd rfl (.inr rfl) (ve_call G_l_table trivial (hr.mono (by omega)) (by rfl) g_l_table k_l_table b_l_table pass0 (va_cons (ve_var (pv 2)) (va_cons (ve_var (pv 3)) (va_cons (ve_var (pv 4)) va_nil)))))
        (vss_cons (vs_set (i := 6) sc_law.nd rfl (.inl rfl) (ve_cbR (call_reprD (by exact hgd) hr) lft_reprS (by rfl) (mz "repr" (by decide)) (by decide +kernel) (vb_rd (pv 5) vb_nil)))
        (vss_cons (vs_set (i := 7) sc_law.nd rfl (.inr rfl) (ve_cbR call_len_seq lft_len (by rfl) (mz "len" (by decide)) PySem.boot_len (vb_rd (pv 3) vb_nil)))
        (vss_cons (vs_for PassesOwn.never rfl (vi_range1 (by rfl) (mz "range" (by decide)) (vb_cons ve_int vb_nil)) (vg_name (pg_name (i := 8) sc_law.nd rfl (.inl rfl)))
          (vss_cons (vs_setLc (i := 10) (own := [("_law_part_here", 9)]) rfl sc_law.nd rfl rfl (sw_true rfl rfl rfl (by decide +kernel)) (vi_list (ve_var (pv 3))) (blkOk_by (own := [("_law_part_here", 9)]) (N := ["_law_script", "_law_pen_here", "_law_house_here", "_law_kinds_here", "_law_known", "_law_table_here", "_law_kept", "_law_many", "_law_turn_here", "_law_part_here", "_law_counts", "_law_again", "_law_marks", "_law_spots", "_law_k", "_law_some", "_law_spot", "_law_by", "_law_number_here", "_law_one", "_law_other", "_law_row"]) (sc := defScope s_law) (by decide +kernel)) (tg_name (by simp)) (fun _ _ _ _ _ => (pg_name (i := 9) sc_law.nd rfl (.inl rfl))) (fun _ _ _ _ _ _ _ => vts_nil) (fun _ _ _ _ _ _ _ => (ve_call (G_l_take PI) trivial (hr.mono (by omega)) (by rfl) g_l_take k_l_take b_l_take pass0 (va_cons (ve_var (pv 1)) (va_cons ve_int va_nil)))))
          (vss_cons (vs_for PassesOwn.never rfl (vi_range1 (by rfl) (mz "range" (by decide)) (vb_cons (ve_var (pv 8)) vb_nil)) (vg_name (pg_name (i := 11) sc_law.nd rfl (.inl rfl)))
            (vss_one (vs_setIx (pv 10) (ve_call (G_l_take PI) trivial (hr.mono (by omega)) (by rfl) g_l_take k_l_take b_l_take pass0 (va_cons (ve_var (pv 1)) (va_cons (ve_var (pv 7)) va_nil))) (ve_op op_sub lft_I0 (ve_op op_sub lft_I0 ve_int ve_int) (ve_call (G_l_take PI) trivial (hr.mono (by omega)) (by rfl) g_l_take k_l_take b_l_take pass0 (va_cons (ve_var (pv 1)) (va_cons ve_int va_nil)))))))
          (vss_cons (vs_set (i := 12) sc_law.nd rfl (.inl rfl) (ve_call G_l_marks_by trivial (hr.mono (by omega)) (by rfl) g_l_marks_by k_l_marks_by b_l_marks_by pass0 (va_cons (ve_var (pv 5)) (va_cons (ve_mv (pv 10)) va_nil))))
          (vss_cons (vs_set (i := 13) sc_law.nd rfl (.inl rfl) (ve_new (vn_listRg rfl (by rfl) (mz "list" (by decide)) (vrg_1 (by rfl) (mz "range" (by decide)) (ve_var (pv 7))))))
          (vss_cons (vs_if (vt_cmp op_gt lft_B0 (ve_var (pv 7)) ve_int (nomark _))
            (vss_one (vs_set (i := 13) sc_law.nd rfl (.inl rfl) (ve_new (vn_op op_cat lft_cat (ve_new (vn_lc (own := [("_law_k", 14)]) rfl sc_law.nd (vi_range1 (by rfl) (mz "range" (by decide)) (vb_cons ve_int vb_nil)) (blkOk_by (own := [("_law_k", 14)]) (N := ["_law_script", "_law_pen_here", "_law_house_here", "_law_kinds_here", "_law_known", "_law_table_here", "_law_kept", "_law_many", "_law_turn_here", "_law_part_here", "_law_counts", "_law_again", "_law_marks", "_law_spots", "_law_k", "_law_some", "_law_spot", "_law_by", "_law_number_here", "_law_one", "_law_other", "_law_row"]) (sc := defScope s_law) (by decide +kernel)) (tg_name (by simp)) (fun _ _ _ _ _ => (pg_name (i := 14) sc_law.nd rfl (.inl rfl))) (fun _ _ _ _ _ _ _ => vts_nil) (fun _ _ _ _ _ _ _ => (ve_call (G_l_take PI) trivial (hr.mono (by omega)) (by rfl) g_l_take k_l_take b_l_take pass0 (va_cons (ve_var (pv 1)) (va_cons (ve_var (pv 7)) va_nil)))))) (ve_new (vn_lst (va_cons ve_int (va_cons (ve_op op_sub lft_I0 (ve_var (pv 7)) ve_int) va_nil))))))))
            vss_nil)
          (vss_cons (vs_setN (i := 15) sc_law.nd rfl (.inl rfl) (vn_lst (va_cons (ve_var (pv 12)) va_nil)))
          (vss_cons (vs_for PassesOwn.never rfl (vi_list (ve_var (pv 13))) (vg_name (pg_name (i := 16) sc_law.nd rfl (.inr rfl)))
            (vss_one (vs_for PassesOwn.never rfl (vi_tup (ve_tup (va_cons ve_int (va_cons (ve_neg ve_int) (va_cons ve_int va_nil))))) (vg_name (pg_name (i := 17) sc_law.nd rfl (.inr rfl)))
              (vss_one (vs_expr (ve_m (pe_bm PySem.F.plainAttrs_list PySem.F.slot_list_append PySem.F.type_list_append mt_append (pv 15) (va_cons (ve_new (vn_lc (own := [("_law_k", 14), ("_law_number_here", 18)]) rfl sc_law.nd (vi_enum (by rfl) (mz "enumerate" (by decide)) (va_cons (ve_var (pv 12)) va_nil)) (blkOk_by (own := [("_law_k", 14), ("_law_number_here", 18)]) (N := ["_law_script", "_law_pen_here", "_law_house_here", "_law_kinds_here", "_law_known", "_law_table_here", "_law_kept", "_law_many", "_law_turn_here", "_law_part_here", "_law_counts", "_law_again", "_law_marks", "_law_spots", "_law_k", "_law_some", "_law_spot", "_law_by", "_law_number_here", "_law_one", "_law_other", "_law_row"]) (sc := defScope s_law) (by decide +kernel)) (tg_two (by simp) (by simp)) (fun _ _ _ _ _ => pg_tup rfl (pgs_cons (pg_name (i := 14) sc_law.nd rfl (.inl rfl)) (pgs_cons (pg_name (i := 18) sc_law.nd rfl (.inl rfl)) pgs_nil))) (fun _ _ _ _ _ _ _ => vts_nil) (fun _ _ _ _ _ _ _ => (ve_op op_add lft_I0 (ve_var (pv 18)) (ve_op op_mul lft_I (ve_var (pv 17)) (ve_intB (by rfl) (mz "int" (by decide)) (ve_cmp op_eq lft_eq (ve_var (pv 14)) (ve_var (pv 16)) (nomark _)))))))) va_nil)) lft_append))))))
          (vss_cons (vs_asg (ve_tup (va_cons (ve_call (G_l_take PI) trivial (hr.mono (by omega)) (by rfl) g_l_take k_l_take b_l_take pass0 (va_cons (ve_var (pv 1)) (va_cons (ve_var (pv 7)) va_nil))) (va_cons (ve_call (G_l_take PI) trivial (hr.mono (by omega)) (by rfl) g_l_take k_l_take b_l_take pass0 (va_cons (ve_var (pv 1)) (va_cons (ve_var (pv 7)) va_nil))) va_nil))) (vg_tup (m := 2) rfl (vgs_cons (vg_name (pg_name (i := 19) sc_law.nd rfl (.inr rfl))) (vgs_cons (vg_name (pg_name (i := 20) sc_law.nd rfl (.inr rfl))) vgs_nil))))
          (vss_cons (vs_expr (ve_m (pe_bm PySem.F.plainAttrs_list PySem.F.slot_list_append PySem.F.type_list_append mt_append (pv 15) (va_cons (ve_new (vn_lc (own := [("_law_k", 14), ("_law_number_here", 18)]) rfl sc_law.nd (vi_enum (by rfl) (mz "enumerate" (by decide)) (va_cons (ve_var (pv 12)) va_nil)) (blkOk_by (own := [("_law_k", 14), ("_law_number_here", 18)]) (N := ["_law_script", "_law_pen_here", "_law_house_here", "_law_kinds_here", "_law_known", "_law_table_here", "_law_kept", "_law_many", "_law_turn_here", "_law_part_here", "_law_counts", "_law_again", "_law_marks", "_law_spots", "_law_k", "_law_some", "_law_spot", "_law_by", "_law_number_here", "_law_one", "_law_other", "_law_row"]) (sc := defScope s_law) (by decide +kernel)) (tg_two (by simp) (by simp)) (fun _ _ _ _ _ => pg_tup rfl (pgs_cons (pg_name (i := 14) sc_law.nd rfl (.inl rfl)) (pgs_cons (pg_name (i := 18) sc_law.nd rfl (.inl rfl)) pgs_nil))) (fun _ _ _ _ _ _ _ => vts_nil) (fun _ _ _ _ _ _ _ => (ve_op op_sub lft_I0 (ve_op op_add lft_I0 (ve_var (pv 18)) (ve_intB (by rfl) (mz "int" (by decide)) (ve_cmp op_eq lft_eq (ve_var (pv 14)) (ve_var (pv 19)) (nomark _)))) (ve_intB (by rfl) (mz "int" (by decide)) (ve_cmp op_eq lft_eq (ve_var (pv 14)) (ve_var (pv 20)) (nomark _))))))) va_nil)) lft_append))
          (vss_cons (vs_expr (ve_m (pe_bm PySem.F.plainAttrs_list PySem.F.slot_list_append PySem.F.type_list_append mt_append (pv 15) (va_cons (ve_new (vn_lc (own := [("_law_part_here", 9)]) rfl sc_law.nd (vi_list (ve_var (pv 3))) (blkOk_by (own := [("_law_part_here", 9)]) (N := ["_law_script", "_law_pen_here", "_law_house_here", "_law_kinds_here", "_law_known", "_law_table_here", "_law_kept", "_law_many", "_law_turn_here", "_law_part_here", "_law_counts", "_law_again", "_law_marks", "_law_spots", "_law_k", "_law_some", "_law_spot", "_law_by", "_law_number_here", "_law_one", "_law_other", "_law_row"]) (sc := defScope s_law) (by decide +kernel)) (tg_name (by simp)) (fun _ _ _ _ _ => (pg_name (i := 9) sc_law.nd rfl (.inl rfl))) (fun _ _ _ _ _ _ _ => vts_nil) (fun _ _ _ _ _ _ _ => (ve_call (G_l_number PI) trivial (hr.mono (by omega)) (by rfl) g_l_number k_l_number b_l_number pass0 (va_cons (ve_var (pv 1)) va_nil))))) va_nil)) lft_append))
          (vss_cons (vs_expr (ve_m (pe_bm PySem.F.plainAttrs_list PySem.F.slot_list_append PySem.F.type_list_append mt_append (pv 15) (va_cons (ve_new (vn_lc (own := [("_law_part_here", 9)]) rfl sc_law.nd (vi_list (ve_var (pv 3))) (blkOk_by (own := [("_law_part_here", 9)]) (N := ["_law_script", "_law_pen_here", "_law_house_here", "_law_kinds_here", "_law_known", "_law_table_here", "_law_kept", "_law_many", "_law_turn_here", "_law_part_here", "_law_counts", "_law_again", "_law_marks", "_law_spots", "_law_k", "_law_some", "_law_spot", "_law_by", "_law_number_here", "_law_one", "_law_other", "_law_row"]) (sc := defScope s_law) (by decide +kernel)) (tg_name (by simp)) (fun _ _ _ _ _ => (pg_name (i := 9) sc_law.nd rfl (.inl rfl))) (fun _ _ _ _ _ _ _ => vts_nil) (fun _ _ _ _ _ _ _ => (ve_call (G_l_take PI) trivial (hr.mono (by omega)) (by rfl) g_l_take k_l_take b_l_take pass0 (va_cons (ve_var (pv 1)) (va_cons ve_int va_nil)))))) va_nil)) lft_append))
          (vss_one (vs_if (vt_or (vt_not (vt_val (ve_cb (cr_all rfl) lft_all (by rfl) (mz "all" (by decide)) (by decide +kernel) (va_cons (ve_new (vn_lc (own := [("_law_row", 21)]) rfl sc_law.nd (vi_list (ve_mv (pv 15))) (blkOk_by (own := [("_law_row", 21)]) (N := ["_law_script", "_law_pen_here", "_law_house_here", "_law_kinds_here", "_law_known", "_law_table_here", "_law_kept", "_law_many", "_law_turn_here", "_law_part_here", "_law_counts", "_law_again", "_law_marks", "_law_spots", "_law_k", "_law_some", "_law_spot", "_law_by", "_law_number_here", "_law_one", "_law_other", "_law_row"]) (sc := defScope s_law) (by decide +kernel)) (tg_name (by simp)) (fun _ _ _ _ _ => (pg_name (i := 21) sc_law.nd rfl (.inl rfl))) (fun _ _ _ _ _ _ _ => vts_nil) (fun _ _ _ _ _ _ _ => (ve_call (G_l_right PlA) hgd (hr.mono (by omega)) (by rfl) g_l_right k_l_right b_l_right pass0 (va_cons (ve_var (pv 5)) (va_cons (ve_var (pv 21)) va_nil)))))) va_nil)))) (vt_or1 (vt_cmp op_ne lft_neS (ve_cbR (call_reprD (by exact hgd) hr) lft_reprS (by rfl) (mz "repr" (by decide)) (by decide +kernel) (vb_rd (pv 5) vb_nil)) (ve_var (pv 6)) (nomark _)))).pt
            (vss_one (vs_ret ve_bl))
            vss_nil))))))))))))))
        (vss_one (vs_ret (ve_and (ve_cmp op_eq lft_eq (ve_mkAt NB initB FB (hr.mono (show 0 + 2 ≤ k + 16 by omega)) (by rfl) gB ve_int) ve_int (nomark _)) (ve_one (ve_cmp op_eq lft_eq (ve_mkAt NB2 initB2 FB2 (hr.mono (show 0 + 2 ≤ k + 16 by omega)) (by rfl) gB2 ve_int) ve_int (nomark _))))))))))))), ?_⟩
    refine ⟨_, rfl, a, ns, rfl, hS, hlen, fun p b H' u hp hb ne h1 h2 => pen_startTB rfl hlen (fun P hP => tabG_up u (hT P hP)) h1 h2 q ?_⟩
    refine ⟨_, rfl, rfl, fun n m hH hn => ?_⟩
    refine ⟨_, rfl, n, m, rfl, hH, hn, fun ks C hk hC => ⟨_, rfl, rfl, _, _, rfl, _, _, rfl, rfl, ?_⟩⟩
    refine ⟨_, rfl, _, rfl, _, rfl, n, m, ks, C, rfl, hH, hn, hk, hC, ?_⟩
    have hT := tri_kinds hH hn hk
    have hkl := few_subs2 hH hn hk.nd hk.sub
    have hkp : 0 < ks.length := (List.getElem?_eq_some_iff.mp (kinds_first hH hk)).1
    have hrp := rp_tab hT hkl
    refine ⟨⟨_, .inl rfl⟩, _, .inl rfl, _, rfl, hrp, rfl, ?_⟩
    refine ⟨⟨_, .inl rfl⟩, _, .inl rfl, _, .inl rfl, rfl, ?_⟩
    rw [tnD_len]
    have hsol := fun (mk : Nat → Int) (hM : ∀ j, j < ks.length → (mk j).natAbs ≤ 10 ^ 31) => sol_few (mk := mk) hH hn hk (by omega) hM
    obtain ⟨T, eT⟩ : ∃ T, T = tabM n m ks := ⟨_, rfl⟩
    rw [← eT] at hT hrp hsol ⊢
    obtain ⟨r, er⟩ : ∃ r, r = ks.length := ⟨_, rfl⟩
    have tnl : (tnD ks).length = r := by rw [tnD_len, er]
    rw [← er] at hT hrp hsol hkl hkp ⊢
    obtain ⟨kd, ekd⟩ : ∃ kd, kd = tnD ks := ⟨_, rfl⟩
    rw [← ekd] at tnl ⊢
    refine ⟨3, rfl, ⟨by decide, by decide⟩, fun i env t' => t' = 0 ∧ ∃ (s8 s10 s11 s12 s13 s15 s16 s17 s19 s20 : Sl), env = [.no, .fz (.obj p), .fz (houD n m), .fz (.lst kd), .fz (dicD (dctQ C)), .fz (houD r T), .fz (shD (houD r T)), .fz (nD r), s8, .no, s10, s11, s12, s13, .no, s15, s16, s17, .no, s19, s20, .no], ⟨rfl, .no, .no, .no, .no, .no, .no, .no, .no, .no, .no, rfl⟩, fun i d env t' hd hP => ?_, fun env t' hP => ?_⟩
    · obtain ⟨rfl, s8, s10, s11, s12, s13, s15, s16, s17, s19, s20, rfl⟩ := hP
      obtain ⟨rfl, hi⟩ := rngD_get0 hd
      have hi3 : i < 3 := hi
      refine ⟨_, rfl, _, rfl, lc_any (i := 9) (fun j acc => ∃ L : List Int, acc = isD L ∧ L.length = j ∧ ∀ x ∈ L, x.natAbs ≤ 3) (.head _) (noOw1 (s := .no) rfl no_ow) (by rw [tnl]; omega) ⟨[], rfl, rfl, fun x h => (by cases h)⟩ (fun j d acc hd hP R hR => ?_) fun acc hP => ?_⟩
      · obtain ⟨L, rfl, hL, hb⟩ := hP
        refine ⟨_, rfl, 4, rfl, by decide, by decide, fun x hx => hR _ ⟨L ++ [(x : Int)], ?_, by rw [List.length_append, hL]; rfl, fun y hy => ?_⟩⟩
        · unfold isD
          rw [List.map_append]
          rfl
        · rcases List.mem_append.mp hy with h | h
          · exact hb y h
          · rw [List.mem_singleton.mp h]; omega
      obtain ⟨L0, rfl, hL0, hb0⟩ := hP
      rw [tnl] at hL0
      refine ⟨_, rfl, _, rfl, ⟨by omega, by omega⟩, fun g env t2 => t2 = 0 ∧ ∃ (L : List Int) (s11 : Sl), L.length = r ∧ (∀ x ∈ L, x.natAbs ≤ 3) ∧ env = [.no, .fz (.obj p), .fz (houD n m), .fz (.lst kd), .fz (dicD (dctQ C)), .fz (houD r T), .fz (shD (houD r T)), .fz (nD r), .fz (nD i), .no, .ow (.lst (isD L)), s11, s12, s13, .no, s15, s16, s17, .no, s19, s20, .no], ⟨rfl, L0, s11, hL0, hb0, rfl⟩, fun g d env t2 hd2 hP => ?_, fun env t2 hP => ?_⟩
      · obtain ⟨rfl, L, s11, hL, hb, rfl⟩ := hP
        refine ⟨_, _, rfl, rfl, _, rfl, 3, rfl, by decide, by decide, fun c hc => ⟨_, _, rfl, rfl, ⟨_, rfl⟩, _, rfl, _, rfl, r, rfl, hkp, by omega, fun x hx => ⟨_, x, rfl, rfl, by rw [isD_len, hL]; exact hx, ?_⟩⟩⟩
        refine ⟨rfl, L.set x (0 - 1 - (c : Int)), .fz d, by rw [List.length_set]; exact hL, fun y hy => ?_, ?_⟩
        · rcases List.mem_or_eq_of_mem_set hy with h | h
          · exact hb y h
          · rw [h]; omega
        · unfold isD
          rw [List.map_set]
          rfl
      obtain ⟨rfl, L, s11, hL, hb, rfl⟩ := hP
      obtain ⟨cs, ecs, hcs⟩ := isD_of hL
      refine ⟨_, rfl, _, rfl, r, T, cs, by rw [ecs], by omega, hT, ?_⟩
      obtain ⟨mk, hmk⟩ : ∃ mk, mk = pm T cs r := ⟨_, rfl⟩
      rw [← hmk]
      have hmb : ∀ j, j < r → (mk j).natAbs ≤ 10 ^ 7 := fun j hj => by
        rw [hmk]
        refine Nat.le_trans (pm_few (W := 180) j r fun i hi => ?_) (by omega)
        rw [Int.natAbs_mul, Int.natAbs_natCast]
        have h1 := hb _ (hcs i hi)
        have h2 := hT.le i j hi hj
        exact Nat.mul_le_mul h1 h2
      have hrg : rngD 0 (((r : Nat) : Int) - 0).toNat = nsD (List.range r) := by
        rw [Int.sub_zero, Int.toNat_natCast]
        unfold rngD nsD
        exact List.map_congr_left fun i _ => by show Dt.int (0 + (i : Int)) = Dt.int (i : Int); rw [Int.zero_add]
      refine ⟨_, rfl, _, rfl, ⟨by omega, by omega, by omega, by omega⟩, _, rfl, ?_⟩
      dsimp only
      rw [hrg]
      refine vcutS (fun env t3 => t3 = 0 ∧ ∃ sp : List Nat, sp.length ≤ 12 ∧ (∀ x ∈ sp, x < r) ∧ env = [.no, .fz (.obj p), .fz (houD n m), .fz (.lst kd), .fz (dicD (dctQ C)), .fz (houD r T), .fz (shD (houD r T)), .fz (nD r), .fz (nD i), .no, .fz (.lst (isD L)), s11, .fz (.lst (isD ((List.range r).map mk))), .fz (.lst (nsD sp)), .no, s15, s16, s17, .no, s19, s20, .no]) (fun env t3 hI => ?_) (fun X hX => ?_)
      rotate_left
      · refine ⟨_, rfl, _, _, rfl, rfl, _, rfl, iteB (fun e => ?_) (fun e => ?_)⟩
        · refine ⟨_, rfl, ⟨by decide, by decide⟩, lc_any (i := 14) (fun j acc => ∃ sp : List Nat, acc = nsD sp ∧ sp.length = j ∧ ∀ x ∈ sp, x < r) (.head _) (noOw1 (s := .no) rfl no_ow) (by decide) ⟨[], rfl, rfl, fun x h => (by cases h)⟩ (fun j d acc hd hP R hR => ?_) fun acc hP => ?_⟩
          · obtain ⟨sp, rfl, hl, hb⟩ := hP
            refine ⟨_, rfl, _, rfl, r, rfl, hkp, by omega, fun x hx => hR _ ⟨sp ++ [x], by rw [← nsD_app], by rw [List.length_append, hl]; rfl, fun y hy => ?_⟩⟩
            rcases List.mem_append.mp hy with h | h
            · exact hb y h
            · rw [List.mem_singleton.mp h]; exact hx
          · obtain ⟨sp, rfl, hl, hb⟩ := hP
            have hl : sp.length = 10 := hl
            have e1 : ((r : Nat) : Int) - 1 = ((r - 1 : Nat) : Int) := by omega
            refine ⟨_, rfl, _, rfl, _, _, rfl, rfl, (by show 2 ≤ 5000; decide), _, rfl, _, _, rfl, rfl, by rw [nsD_len, hl]; show 10 + 2 ≤ 5000; decide, _, rfl, ?_⟩
            dsimp only
            rw [e1]
            refine hX _ _ ⟨rfl, sp ++ [0, r - 1], by rw [List.length_append, hl]; show 10 + 2 ≤ 12; decide, fun y hy => ?_, by unfold nsD; rw [List.map_append]; rfl⟩
            rcases List.mem_append.mp hy with h | h
            · exact hb y h
            · rcases List.mem_cons.mp h with h | h
              · rw [h]; exact hkp
              · rw [List.mem_singleton.mp h]; omega
        · have e : ¬ (12 : Int) < ((r : Nat) : Int) := of_decide_eq_false e
          exact hX _ _ ⟨rfl, List.range r, by rw [List.length_range]; omega, fun x hx => List.mem_range.mp hx, rfl⟩
      obtain ⟨rfl, sp, hsl, hsp, rfl⟩ := hI
      have hml : (isD ((List.range r).map mk)).length = r := by rw [isD_len, List.length_map, List.length_range]
      have okm : RowOk r (.lst (isD ((List.range r).map mk))) := ⟨mk, rfl, fun j hj => Nat.le_trans (hmb j hj) (by decide)⟩
      refine ⟨_, rfl, (by show 1 ≤ 5000; decide), ?_⟩
      refine ⟨_, rfl, _, rfl, fun g env t3 => t3 = 0 ∧ ∃ (R : List Dt) (s16 s17 : Sl), R.length = 1 + 3 * g ∧ (∀ x ∈ R, RowOk r x) ∧ env = [.no, .fz (.obj p), .fz (houD n m), .fz (.lst kd), .fz (dicD (dctQ C)), .fz (houD r T), .fz (shD (houD r T)), .fz (nD r), .fz (nD i), .no, .fz (.lst (isD L)), s11, .fz (.lst (isD ((List.range r).map mk))), .fz (.lst (nsD sp)), .no, .ow (.lst R), s16, s17, .no, s19, s20, .no], ⟨rfl, _, s16, s17, rfl, fun x hx => by rw [List.mem_singleton.mp hx]; exact okm, rfl⟩, fun g d env t3 hd3 hP => ?_, fun env t3 hP => ?_⟩
      · obtain ⟨rfl, R, s16, s17, hRl, hR, rfl⟩ := hP
        unfold nsD at hd3
        rw [List.getElem?_map] at hd3
        obtain ⟨z, hz, rfl⟩ := Option.map_eq_some_iff.mp hd3
        have hg : g < sp.length := (List.getElem?_eq_some_iff.mp hz).1
        refine ⟨_, rfl, (by show 3 ≤ 5000; decide), _, rfl, fun q env t4 => t4 = 0 ∧ ∃ (R : List Dt) (s17 : Sl), R.length = 1 + 3 * g + q ∧ (∀ x ∈ R, RowOk r x) ∧ env = [.no, .fz (.obj p), .fz (houD n m), .fz (.lst kd), .fz (dicD (dctQ C)), .fz (houD r T), .fz (shD (houD r T)), .fz (nD r), .fz (nD i), .no, .fz (.lst (isD L)), s11, .fz (.lst (isD ((List.range r).map mk))), .fz (.lst (nsD sp)), .no, .ow (.lst R), .fz (nD z), s17, .no, s19, s20, .no], ⟨rfl, R, s17, hRl, hR, rfl⟩, fun q d env t4 hd4 hP => ?_, fun env t4 hP => ?_⟩
        · obtain ⟨rfl, R, s17, hRl, hR, rfl⟩ := hP
          obtain ⟨by_, hby, rfl⟩ : ∃ b : Int, b.natAbs ≤ 2 ∧ d = .int b := by
            match q, hd4 with
            | 0, hd4 => cases hd4; exact ⟨1, by decide, rfl⟩
            | 1, hd4 => cases hd4; exact ⟨-1, by decide, rfl⟩
            | 2, hd4 => cases hd4; exact ⟨2, by decide, rfl⟩
            | q + 3, hd4 => cases hd4
          have hq3 : q < 3 := (List.getElem?_eq_some_iff.mp hd4).1
          refine ⟨⟨_, rfl⟩, _, rfl, _, rfl, lc_map2 (i := 14) (i2 := 18) (fun j => .int (mk j + by_ * (if decide (((j : Nat) : Int) = ((z : Nat) : Int)) = true then 1 else 0))) (.head _) (.tail _ (.head _)) (noOw2 (s := .no) (s2 := .no) rfl rfl no_ow no_ow) (by rw [enD_len, hml]; omega) (fun j d hd => ?_) ?_⟩
          · obtain ⟨y, hy, rfl⟩ := enD_get hd
            obtain ⟨hj, rfl⟩ := isD_get hy
            refine ⟨_, _, rfl, fun R' hR' => ?_⟩
            refine ⟨_, rfl, _, rfl, _, rfl, _, rfl, .inl ⟨_, _, rfl, rfl, _, rfl, _, _, rfl, rfl, .inl ⟨by omega, by omega⟩, _, _, rfl, rfl, hR'⟩⟩
          · rw [enD_len, hml]
            refine ⟨_, rfl, _, rfl, _, rfl, by omega, rfl, R ++ [.lst ((List.range r).map fun j => .int (mk j + by_ * (if decide (((j : Nat) : Int) = ((z : Nat) : Int)) = true then 1 else 0)))], .fz (.int by_), by rw [List.length_append, hRl]; rfl, fun x hx => ?_, rfl⟩
            rcases List.mem_append.mp hx with h | h
            · exact hR x h
            · rw [List.mem_singleton.mp h]
              refine ⟨fun j => mk j + by_ * (if decide (((j : Nat) : Int) = ((z : Nat) : Int)) = true then 1 else 0), by unfold isD; rw [List.map_map]; rfl, fun j hj => ?_⟩
              have h1 := hmb j hj
              refine Nat.le_trans (show _ ≤ 10 ^ 7 + 2 from ?_) (by decide)
              show (mk j + by_ * (if decide (((j : Nat) : Int) = ((z : Nat) : Int)) = true then 1 else 0)).natAbs ≤ _
              split <;> omega
        · obtain ⟨rfl, R, s17, hRl, hR, rfl⟩ := hP
          exact ⟨rfl, R, _, s17, hRl, hR, rfl⟩
      obtain ⟨rfl, R, s16, s17, hRl, hR, rfl⟩ := hP
      rw [nsD_len] at hRl
      refine ⟨_, rfl, _, rfl, r, rfl, hkp, by omega, fun one h1 => ⟨_, rfl, _, rfl, r, rfl, hkp, by omega, fun oth h2 => ⟨(by show 2 ≤ 5000; decide), _, rfl, rfl, _, _, rfl, _, _, rfl, rfl, ?_⟩⟩⟩
      have fi : ∀ z : Nat, ∀ j : Nat, (if decide (((j : Nat) : Int) = ((z : Nat) : Int)) = true then (1 : Int) else 0).natAbs ≤ 1 := fun z j => by split <;> decide
      refine ⟨⟨_, rfl⟩, _, rfl, _, rfl, lc_map2 (i := 14) (i2 := 18) (fun j => .int (mk j + (if decide (((j : Nat) : Int) = ((one : Nat) : Int)) = true then 1 else 0) - (if decide (((j : Nat) : Int) = ((oth : Nat) : Int)) = true then 1 else 0))) (.head _) (.tail _ (.head _)) (noOw2 (s := .no) (s2 := .no) rfl rfl no_ow no_ow) (by rw [enD_len, hml]; omega) (fun j d hd => ?_) ?_⟩
      · obtain ⟨y, hy, rfl⟩ := enD_get hd
        obtain ⟨hj, rfl⟩ := isD_get hy
        refine ⟨_, _, rfl, fun R' hR' => ?_⟩
        exact ⟨_, rfl, _, rfl, _, rfl, .inl ⟨_, _, rfl, rfl, _, rfl, _, _, rfl, rfl, _, rfl, _, rfl, .inl ⟨_, _, rfl, rfl, _, rfl, _, _, rfl, rfl, hR'⟩⟩⟩
      rw [enD_len, hml]
      refine ⟨_, rfl, _, rfl, _, rfl, by omega, ?_⟩
      have ok2 : RowOk r (.lst ((List.range r).map fun j => .int (mk j + (if decide (((j : Nat) : Int) = ((one : Nat) : Int)) = true then 1 else 0) - (if decide (((j : Nat) : Int) = ((oth : Nat) : Int)) = true then 1 else 0)))) :=
        ⟨fun j => mk j + (if decide (((j : Nat) : Int) = ((one : Nat) : Int)) = true then 1 else 0) - (if decide (((j : Nat) : Int) = ((oth : Nat) : Int)) = true then 1 else 0), by unfold isD; rw [List.map_map]; rfl, fun j hj => by
          have h1 := hmb j hj
          have h2 := fi one j
          have h3 := fi oth j
          refine Nat.le_trans (show _ ≤ 10 ^ 7 + 2 from ?_) (by decide)
          show (mk j + (if decide (((j : Nat) : Int) = ((one : Nat) : Int)) = true then 1 else 0) - (if decide (((j : Nat) : Int) = ((oth : Nat) : Int)) = true then 1 else 0)).natAbs ≤ _
          omega⟩
      obtain ⟨row2, erow2⟩ : ∃ row2, row2 = Dt.lst ((List.range r).map fun j => .int (mk j + (if decide (((j : Nat) : Int) = ((one : Nat) : Int)) = true then 1 else 0) - (if decide (((j : Nat) : Int) = ((oth : Nat) : Int)) = true then 1 else 0))) := ⟨_, rfl⟩
      rw [← erow2] at ok2 ⊢
      have snocD : ∀ (L2 : List Int) (z : Int), isD L2 ++ [.int z] = isD (L2 ++ [z]) := fun L2 z => by unfold isD; rw [List.map_append]; rfl
      refine ⟨⟨_, rfl⟩, _, rfl, _, rfl, lc_any (i := 9) (fun j acc => ∃ L : List Int, acc = isD L ∧ L.length = j ∧ ∀ x ∈ L, x.natAbs ≤ 10 ^ 31) (.head _) (noOw1 (s := .no) rfl no_ow) (by rw [tnl]; omega) ⟨[], rfl, rfl, fun x h => (by cases h)⟩ (fun j d acc hd hP R' hR' => ?_) fun acc hP => ?_⟩
      · obtain ⟨L2, rfl, hL2, hb2⟩ := hP
        refine ⟨_, rfl, rfl, fun z hz => hR' _ ⟨L2 ++ [z], snocD L2 z, by rw [List.length_append, hL2]; rfl, fun y hy => ?_⟩⟩
        rcases List.mem_append.mp hy with h | h
        · exact hb2 y h
        · rw [List.mem_singleton.mp h]
          exact Nat.le_trans hz (by decide)
      obtain ⟨LA, rfl, hLA, hbA⟩ := hP
      rw [tnl] at hLA
      have okA : RowOk r (.lst (isD LA)) := RowOk.of hLA hbA
      refine ⟨_, rfl, _, rfl, _, rfl, by rw [List.length_append]; show R.length + 1 ≤ _; omega, ?_⟩
      refine ⟨⟨_, rfl⟩, _, rfl, _, rfl, lc_any (i := 9) (fun j acc => ∃ L : List Int, acc = isD L ∧ L.length = j ∧ ∀ x ∈ L, x.natAbs ≤ 10 ^ 31) (.head _) (noOw1 (s := .no) rfl no_ow) (by rw [tnl]; omega) ⟨[], rfl, rfl, fun x h => (by cases h)⟩ (fun j d acc hd hP R' hR' => ?_) fun acc hP => ?_⟩
      · obtain ⟨L2, rfl, hL2, hb2⟩ := hP
        refine ⟨_, rfl, 3, rfl, by decide, by decide, fun z hz => hR' _ ⟨L2 ++ [(z : Int)], snocD L2 z, by rw [List.length_append, hL2]; rfl, fun y hy => ?_⟩⟩
        rcases List.mem_append.mp hy with h | h
        · exact hb2 y h
        · rw [List.mem_singleton.mp h, Int.natAbs_natCast]
          exact Nat.le_trans (show z ≤ 3 by omega) (by decide)
      obtain ⟨LB, rfl, hLB, hbB⟩ := hP
      rw [tnl] at hLB
      have okB : RowOk r (.lst (isD LB)) := RowOk.of hLB hbB
      refine ⟨_, rfl, _, rfl, _, rfl, by rw [List.length_append, List.length_append]; show R.length + 1 + 1 ≤ _; omega, ?_⟩
      obtain ⟨R6, eR6⟩ : ∃ R6, R6 = R ++ [row2] ++ [.lst (isD LA)] ++ [.lst (isD LB)] := ⟨_, rfl⟩
      have hR6 : ∀ x ∈ R6, RowOk r x := fun x hx => by
        rw [eR6] at hx
        rcases List.mem_append.mp hx with h | h
        · rcases List.mem_append.mp h with h | h
          · rcases List.mem_append.mp h with h | h
            · exact hR x h
            · rw [List.mem_singleton.mp h]; exact ok2
          · rw [List.mem_singleton.mp h]; exact okA
        · rw [List.mem_singleton.mp h]; exact okB
      have hR6l : R6.length ≤ 5000 := by
        rw [eR6, List.length_append, List.length_append, List.length_append]
        show R.length + 1 + 1 + 1 ≤ 5000
        omega
      rw [← eR6]
      refine ⟨_, rfl, _, rfl, lc_map (i := 21) (fun _ => .bl true) (.head _) (noOw1 (s := .no) rfl no_ow) hR6l (fun g x hx R' hR' => ?_) ?_⟩
      · obtain ⟨mk2, rfl, hb2⟩ := hR6 x (List.mem_of_getElem? hx)
        exact ⟨_, rfl, _, rfl, r, T, mk2, rfl, hkp, by omega, hT, hsol mk2 hb2, hR'⟩
      · have hall : ((List.range R6.length).map fun _ => true).all id = true := by
          rw [List.all_eq_true]
          intro b hb
          obtain ⟨_, _, rfl⟩ := List.mem_map.mp hb
          rfl
        refine ⟨_, rfl, (List.range R6.length).map (fun _ => true), by rw [List.map_map]; rfl, ?_⟩
        dsimp only
        rw [hall]
        refine ⟨_, rfl, iteB (fun e => by cases e) (fun _ => ?_)⟩
        exact ⟨⟨_, .inl rfl⟩, _, .inl rfl, _, rfl, hrp, rfl, _, rfl, dNe_sh ⟨_, rfl, iteB (fun e => by cases e) (fun _ => ⟨rfl, _, _, _, _, _, _, _, _, _, _, rfl⟩)⟩⟩
    · obtain ⟨rfl, s8, s10, s11, s12, s13, s15, s16, s17, s19, s20, rfl⟩ := hP
      refine ⟨2, rfl, by decide, by decide +kernel, .inl ⟨_, _, rfl, rfl, true, rfl, ?_⟩⟩
      rw [if_pos rfl]
      exact ⟨1, rfl, by decide, by decide +kernel, .inl ⟨_, _, rfl, rfl, rfl⟩⟩
end
end K39
namespace K39
open PySem PySem.Spec PyProof.Rows L2 HM VL
theorem all_mk {l : PySem.W.OpenLaw} {w : World} {K : PySem.W.Frag} {h : Heap} {mg : Str → Option Value} {fa f14 f15 f17 f18 f19 f20 f21 f22 f23 f24 f25 f26 f27 f28 f29 f30 f31 f32 f33 f34 f35 f36 f37 f38 f39 C C2 Mk b1 b2 b3 b4 b5 b6 b7 b8 b9 fI cda cc fI2 cda2 cc2 : Addr}
    {oc14 kV14 dc14 pm14 ct14 oc15 kV15 dc15 pm15 ct15 oc17 kV17 dc17 pm17 ct17 oc18 kV18 dc18 pm18 ct18 oc19 kV19 dc19 pm19 ct19 oc20 kV20 dc20 pm20 ct20 oc21 kV21 dc21 pm21 ct21 oc22 kV22 dc22 pm22 ct22 oc23 kV23 dc23 pm23 ct23 oc24 kV24 dc24 pm24 ct24 oc25 kV25 dc25 pm25 ct25 oc26 kV26 dc26 pm26 ct26 oc27 kV27 dc27 pm27 ct27 oc28 kV28 dc28 pm28 ct28 oc29 kV29 dc29 pm29 ct29 oc30 kV30 dc30 pm30 ct30 oc31 kV31 dc31 pm31 ct31 oc32 kV32 dc32 pm32 ct32 oc33 kV33 dc33 pm33 ct33 oc34 kV34 dc34 pm34 ct34 oc35 kV35 dc35 pm35 ct35 oc36 kV36 dc36 pm36 ct36 oc37 kV37 dc37 pm37 ct37 oc38 kV38 dc38 pm38 ct38 oc39 kV39 dc39 pm39 ct39 cd14 cd15 cd17 cd18 cd19 cd20 cd21 cd22 cd23 cd24 cd25 cd26 cd27 cd28 cd29 cd30 cd31 cd32 cd33 cd34 cd35 cd36 cd37 cd38 cd39  : Value}
    {od14 an14 od15 an15 od17 an17 od18 an18 od19 an19 od20 an20 od21 an21 od22 an22 od23 an23 od24 an24 od25 an25 od26 an26 od27 an27 od28 an28 od29 an29 od30 an30 od31 an31 od32 an32 od33 an33 od34 an34 od35 an35 od36 an36 od37 an37 od38 an38 od39 an39  : Option Addr} {sl14 sl15 sl17 sl18 sl19 sl20 sl21 sl22 sl23 sl24 sl25 sl26 sl27 sl28 sl29 sl30 sl31 sl32 sl33 sl34 sl35 sl36 sl37 sl38 sl39  : Array (Option Value)}
    {nm q : Str} {N : Addr} {bs bm : List Value} {sn : List Str} {sub : List Value} {ab : Bool} {col : Option Bool} {dd : Option Addr} {k0 k1 k2 k3 k5 : Option Value} {oc : Value} {od : Option Addr} {kV doc pm : Value} {an : Option Addr} {ct : Value} {osl : Array (Option Value)} {ccl : Value} {cdd : Option Addr} {vs : Array Value} {ccs : Array (Option Value)} {tf : Tok} {cl : Value} {cld : Option Addr} {csl : Array (Option Value)}
    {nm2 q2 : Str} {N2 : Addr} {bs2 bm2 : List Value} {sn2 : List Str} {sub2 : List Value} {ab2 : Bool} {col2 : Option Bool} {dd2 : Option Addr} {k02 k12 k22 k32 k52 : Option Value} {oc2 : Value} {od2 : Option Addr} {kV2 doc2 pm2 : Value} {an2 : Option Addr} {ct2 : Value} {osl2 : Array (Option Value)} {ccl2 : Value} {cdd2 : Option Addr} {vs2 : Array Value} {ccs2 : Array (Option Value)} {tf2 : Tok} {cl2 : Value} {cld2 : Option Addr} {csl2 : Array (Option Value)}
    (hf : ((l.prog.main.file : Str) == "/claim/cut.py") = true) (hsn : (l.prog.main.scope.names.lookup ("super" : Str)).isSome = false)
    (X : K.In h) (G : h.Ns mainGlobals mg) (hfa : mg "law" = some (.ref fa)) (tabs : ∀ g ∈ ([] : List Str), ∃ c Pt, TabOf mg h g c Pt)
    (g_C : PySem.W.nsIn K mainGlobals "NoSet" = some (some (.ref C)))
    (g_C2 : PySem.W.nsIn K mainGlobals "BelowNought" = some (some (.ref C2)))
    (g_Mk : PySem.W.nsIn K mainGlobals "MarkError" = some (some (.ref Mk)))
    (g_b1 : PySem.W.nsIn K mainGlobals "NoBack" = some (some (.ref b1)))
    (g_b2 : PySem.W.nsIn K mainGlobals "NoColours" = some (some (.ref b2)))
    (g_b3 : PySem.W.nsIn K mainGlobals "NoLeading" = some (some (.ref b3)))
    (g_b4 : PySem.W.nsIn K mainGlobals "NoName" = some (some (.ref b4)))
    (g_b5 : PySem.W.nsIn K mainGlobals "NoNumber" = some (some (.ref b5)))
    (g_b6 : PySem.W.nsIn K mainGlobals "NoRow" = some (some (.ref b6)))
    (g_b7 : PySem.W.nsIn K mainGlobals "NoText" = some (some (.ref b7)))
    (g_b8 : PySem.W.nsIn K mainGlobals "NoTurn" = some (some (.ref b8)))
    (g_b9 : PySem.W.nsIn K mainGlobals "TooMany" = some (some (.ref b9)))
    (X_C : ExAt K C Mk)
    (X_C2 : ExAt K C2 Mk)
    (k9 : PySem.W.kitAny K (.ref C) [.ref b1, .ref b2, .ref b3, .ref b4, .ref b5, .ref b6, .ref b7, .ref b8, .ref b9] = some false)
    (k92 : PySem.W.kitAny K (.ref C2) [.ref b1, .ref b2, .ref b3, .ref b4, .ref b5, .ref b6, .ref b7, .ref b8, .ref b9] = some false)
    (kC2 : PySem.W.kitOne K (.ref C) (.ref C2) = some false)
    (k2C : PySem.W.kitOne K (.ref C2) (.ref C) = some false)
    (I : InitAt K sInitB "NoSet.__init__" C fI cda cc nm q N bs bm sn sub ab col dd k0 k1 k2 k3 k5 oc od kV doc pm an ct osl ccl cdd vs ccs tf cl cld csl)
    (I2 : InitAt K sInitB2 "BelowNought.__init__" C2 fI2 cda2 cc2 nm2 q2 N2 bs2 bm2 sn2 sub2 ab2 col2 dd2 k02 k12 k22 k32 k52 oc2 od2 kV2 doc2 pm2 an2 ct2 osl2 ccl2 cdd2 vs2 ccs2 tf2 cl2 cld2 csl2)
    (D14 : DefAt K "solved" s_solved f14 oc14 od14 kV14 dc14 pm14 an14 cd14 ct14 sl14)
    (D15 : DefAt K "counts_by" s_counts_by f15 oc15 od15 kV15 dc15 pm15 an15 cd15 ct15 sl15)
    (D17 : DefAt K "_law_pen" s_l_pen f17 oc17 od17 kV17 dc17 pm17 an17 cd17 ct17 sl17)
    (D18 : DefAt K "_law_take" s_l_take f18 oc18 od18 kV18 dc18 pm18 an18 cd18 ct18 sl18)
    (D19 : DefAt K "_law_closed" s_l_closed f19 oc19 od19 kV19 dc19 pm19 an19 cd19 ct19 sl19)
    (D20 : DefAt K "_law_turn" s_l_turn f20 oc20 od20 kV20 dc20 pm20 an20 cd20 ct20 sl20)
    (D21 : DefAt K "_law_drawn_group" s_l_drawn_group f21 oc21 od21 kV21 dc21 pm21 an21 cd21 ct21 sl21)
    (D22 : DefAt K "_law_great_group" s_l_great_group f22 oc22 od22 kV22 dc22 pm22 an22 cd22 ct22 sl22)
    (D23 : DefAt K "_law_house_by" s_l_house_by f23 oc23 od23 kV23 dc23 pm23 an23 cd23 ct23 sl23)
    (D24 : DefAt K "_law_rounds" s_l_rounds f24 oc24 od24 kV24 dc24 pm24 an24 cd24 ct24 sl24)
    (D25 : DefAt K "_law_eight" s_l_eight f25 oc25 od25 kV25 dc25 pm25 an25 cd25 ct25 sl25)
    (D26 : DefAt K "_law_both" s_l_both f26 oc26 od26 kV26 dc26 pm26 an26 cd26 ct26 sl26)
    (D27 : DefAt K "_law_anew" s_l_anew f27 oc27 od27 kV27 dc27 pm27 an27 cd27 ct27 sl27)
    (D28 : DefAt K "_law_house" s_l_house f28 oc28 od28 kV28 dc28 pm28 an28 cd28 ct28 sl28)
    (D29 : DefAt K "_law_part" s_l_part f29 oc29 od29 kV29 dc29 pm29 an29 cd29 ct29 sl29)
    (D30 : DefAt K "_law_parts" s_l_parts f30 oc30 od30 kV30 dc30 pm30 an30 cd30 ct30 sl30)
    (D31 : DefAt K "_law_led" s_l_led f31 oc31 od31 kV31 dc31 pm31 an31 cd31 ct31 sl31)
    (D32 : DefAt K "_law_kinds" s_l_kinds f32 oc32 od32 kV32 dc32 pm32 an32 cd32 ct32 sl32)
    (D33 : DefAt K "_law_table" s_l_table f33 oc33 od33 kV33 dc33 pm33 an33 cd33 ct33 sl33)
    (D34 : DefAt K "_law_solved" s_l_solved f34 oc34 od34 kV34 dc34 pm34 an34 cd34 ct34 sl34)
    (D35 : DefAt K "_law_marks_by" s_l_marks_by f35 oc35 od35 kV35 dc35 pm35 an35 cd35 ct35 sl35)
    (D36 : DefAt K "_law_number" s_l_number f36 oc36 od36 kV36 dc36 pm36 an36 cd36 ct36 sl36)
    (D37 : DefAt K "_law_asked" s_l_asked f37 oc37 od37 kV37 dc37 pm37 an37 cd37 ct37 sl37)
    (D38 : DefAt K "_law_right" s_l_right f38 oc38 od38 kV38 dc38 pm38 an38 cd38 ct38 sl38)
    (D39 : DefAt K "law" s_law f39 oc39 od39 kV39 dc39 pm39 an39 cd39 ct39 sl39)
    (mz : ∀ x ∈ bn, PySem.W.nsIn K mainGlobals x = some none) :
    ∃ (fd : FuncData) (cs : List (Addr × Addr)) (sp : Sp), (∀ p ∈ cs, h.get? p.2 = some tabObj) ∧ (∀ p ∈ cs, K.lookup p.2 = none) ∧ (∀ p ∈ cs, PySem.W.CodeHd h p.1 p.2) ∧ (∀ (s : Shared) (u : Value), BindsTo s fd ⟨[u], []⟩ [("_law_script", u)]) ∧
      (∀ (H : Hp) (a : Addr) (ns : List Int), ns.length ≤ 63 → (∀ z ∈ ns, Builtin.Int.intBits z ≤ 1048576) → (∀ p ∈ cs, H p.2 = some (.tbl #[])) → Scr K H a ns → sp [.ref a] H (fun v _ => v = .bl true) fun _ _ _ => False) ∧
      ∀ base : Heap, K.In base → base.Ns mainGlobals mg → (∀ p ∈ cs, GxR.TabB base mg p.1 p.2) → PFn noRepr l.prog w K mg base CX0 17 fa fd ["_law_script"] sp := by
  have e := hfa.symm.trans (PySem.W.mg_of X G D39.a)
  cases e
  have mn : ∀ x ∈ bn, mg x = none := fun x hx => PySem.W.mg_none_of X G (mz x hx)
  have g := fun {x : Str} {u : Value} (z : PySem.W.nsIn K mainGlobals x = some (some u)) => PySem.W.mg_of X G z
  have NN : NoT l.prog sInitB "NoSet.__init__" K C fI := I.noT X_C hf hsn
  have NN2 : NoT l.prog sInitB2 "BelowNought.__init__" K C2 fI2 := I2.noT X_C2 hf hsn
  have b14 := D14.fn.binds (ps := ["table", "marks"]) fun _ _ _ _ _ _ us hl => match us, hl with | [_, _], _ => rfl
  have b15 := D15.fn.binds (ps := ["table", "marks"]) fun _ _ _ _ _ _ us hl => match us, hl with | [_, _], _ => rfl
  have b17 := D17.fn.binds (ps := ["_law_script"]) fun _ _ _ _ _ _ us hl => match us, hl with | [_], _ => rfl
  have b18 := D18.fn.binds (ps := ["_law_pen_here", "_law_many"]) fun _ _ _ _ _ _ us hl => match us, hl with | [_, _], _ => rfl
  have b19 := D19.fn.binds (ps := ["_law_many", "_law_turns", "_law_most"]) fun _ _ _ _ _ _ us hl => match us, hl with | [_, _, _], _ => rfl
  have b20 := D20.fn.binds (ps := ["_law_pen_here", "_law_many"]) fun _ _ _ _ _ _ us hl => match us, hl with | [_, _], _ => rfl
  have b21 := D21.fn.binds (ps := ["_law_pen_here"]) fun _ _ _ _ _ _ us hl => match us, hl with | [_], _ => rfl
  have b22 := D22.fn.binds (ps := ["_law_which"]) fun _ _ _ _ _ _ us hl => match us, hl with | [_], _ => rfl
  have b23 := D23.fn.binds (ps := ["_law_group"]) fun _ _ _ _ _ _ us hl => match us, hl with | [_], _ => rfl
  have b24 := D24.fn.binds (ps := ["_law_pen_here"]) fun _ _ _ _ _ _ us hl => match us, hl with | [_], _ => rfl
  have b25 := D25.fn.binds (ps := []) fun _ _ _ _ _ _ us hl => match us, hl with | [], _ => rfl
  have b26 := D26.fn.binds (ps := ["_law_one", "_law_other"]) fun _ _ _ _ _ _ us hl => match us, hl with | [_, _], _ => rfl
  have b27 := D27.fn.binds (ps := ["_law_pen_here", "_law_house_here"]) fun _ _ _ _ _ _ us hl => match us, hl with | [_, _], _ => rfl
  have b28 := D28.fn.binds (ps := ["_law_pen_here"]) fun _ _ _ _ _ _ us hl => match us, hl with | [_], _ => rfl
  have b29 := D29.fn.binds (ps := ["_law_house_here", "_law_numbers"]) fun _ _ _ _ _ _ us hl => match us, hl with | [_, _], _ => rfl
  have b30 := D30.fn.binds (ps := ["_law_house_here"]) fun _ _ _ _ _ _ us hl => match us, hl with | [_], _ => rfl
  have b31 := D31.fn.binds (ps := ["_law_house_here", "_law_part_here", "_law_number_here"]) fun _ _ _ _ _ _ us hl => match us, hl with | [_, _, _], _ => rfl
  have b32 := D32.fn.binds (ps := ["_law_house_here"]) fun _ _ _ _ _ _ us hl => match us, hl with | [_], _ => rfl
  have b33 := D33.fn.binds (ps := ["_law_house_here", "_law_kinds_here", "_law_known"]) fun _ _ _ _ _ _ us hl => match us, hl with | [_, _, _], _ => rfl
  have b34 := D34.fn.binds (ps := ["_law_table_here", "_law_marks"]) fun _ _ _ _ _ _ us hl => match us, hl with | [_, _], _ => rfl
  have b35 := D35.fn.binds (ps := ["_law_table_here", "_law_counts"]) fun _ _ _ _ _ _ us hl => match us, hl with | [_, _], _ => rfl
  have b36 := D36.fn.binds (ps := ["_law_pen_here"]) fun _ _ _ _ _ _ us hl => match us, hl with | [_], _ => rfl
  have b37 := D37.fn.binds (ps := ["_law_which", "_law_table_here", "_law_marks"]) fun _ _ _ _ _ _ us hl => match us, hl with | [_, _, _], _ => rfl
  have b38 := D38.fn.binds (ps := ["_law_table_here", "_law_marks"]) fun _ _ _ _ _ _ us hl => match us, hl with | [_, _], _ => rfl
  refine ⟨PySem.W.fnOf "law" "law" (defArgs s_law) (defBody s_law) (defScope s_law) .none kV39 dc39 pm39 an39 cd39 ct39, [], (spLawT K []), fun p hp => ?_, fun p hp => ?_, fun p hp => ?_, fun s u => .of_eq rfl, fun H a ns hl _ hH hS => ?_, fun base _ _ hB => ?_⟩
  · cases hp
  · cases hp
  · cases hp
  · exact ⟨a, ns, rfl, hS, hl, fun P hP => (by cases hP), fun _ => rfl⟩
  · exact ok_law (k := 0) (Ps := []) D39.fn (ok_penB (k := 15) D17.fn mn) (g D17.a) D17.k b17 (fun PI => (ok_houseB (k := 11) D28.fn (ok_takeB (k := 14) PI D18.fn mn) (g D18.a) D18.k b18 (ok_houseby (k := 14) D23.fn mn) (g D23.a) D23.k b23 (ok_drawn (k := 12) D21.fn (ok_takeB (k := 13) PI D18.fn mn) (g D18.a) D18.k b18 (ok_turnB (k := 12) D20.fn (ok_takeB (k := 12) PI D18.fn mn) (g D18.a) D18.k b18 mn) (g D20.a) D20.k b20 (ok_closedB (k := 12) D19.fn mn) (g D19.a) D19.k b19 mn) (g D21.a) D21.k b21 (ok_rounds (k := 13) D24.fn (ok_takeB (k := 13) PI D18.fn mn) (g D18.a) D18.k b18 mn) (g D24.a) D24.k b24 (ok_anew (k := 12) D27.fn (ok_turnB (k := 12) D20.fn (ok_takeB (k := 12) PI D18.fn mn) (g D18.a) D18.k b18 mn) (g D20.a) D20.k b20 mn) (g D27.a) D27.k b27 (ok_both (k := 14) D26.fn mn) (g D26.a) D26.k b26 (ok_eight (k := 14) D25.fn mn) (g D25.a) D25.k b25 (ok_closedB (k := 13) D19.fn mn) (g D19.a) D19.k b19 (ok_great (k := 12) D22.fn (ok_closedB (k := 12) D19.fn mn) (g D19.a) D19.k b19 mn) (g D22.a) D22.k b22 mn)) (g D28.a) D28.k b28 (ok_kindsB (k := 13) D32.fn (ok_partsB (k := 13) D30.fn (ok_partB (k := 13) D29.fn mn) (g D29.a) D29.k b29 mn) (g D30.a) D30.k b30 (ok_lledB (k := 14) D31.fn mn) (g D31.a) D31.k b31 mn) (g D32.a) D32.k b32 (ok_ltable (k := 15) D33.fn mn) (g D33.a) D33.k b33 (ok_lmarksby (k := 15) D35.fn mn) (g D35.a) D35.k b35 (fun PI => (ok_lnumber (k := 14) D36.fn (ok_takeG (k := 14) PI D18.fn mn) (g D18.a) D18.k b18 mn)) (g D36.a) D36.k b36 (fun PI => (ok_takeB (k := 15) PI D18.fn mn)) (g D18.a) D18.k b18 (fun PlA => (ok_lright39 (k := 10) D38.fn PlA (ok_lsolved (k := 14) D34.fn mn) (g D34.a) D34.k b34 (ok_lasked (k := 10) D37.fn (ok_solvedXS (k := 11) D14.fn NN (g g_C) mn) (g D14.a) D14.k b14 (ok_countsXS (k := 10) D15.fn (ok_solvedXS (k := 10) D14.fn NN (g g_C) mn) (g D14.a) D14.k b14 NN2 (g g_C2) mn) (g D15.a) D15.k b15 ⟨g g_C, g g_C2, g g_Mk, g g_b1, g g_b2, g g_b3, g g_b4, g g_b5, g g_b6, g g_b7, g g_b8, g g_b9, X_C.te, X_C2.te, X_C.kV, X_C2.kV, k9, k92, X_C.kC, kC2, k2C, X_C2.kC, X_C.X, X_C2.X, X_C.F, X_C2.F, NN.no, NN2.no⟩ mn) (g D37.a) D37.k b37 (g D14.a) D14.k b14 (g D15.a) D15.k b15 mn)) (g D38.a) D38.k b38 NN (g g_C) X_C.F NN2 (g g_C2) X_C2.F mn
end K39
open PySem PySem.W PyProof.Rows
set_option maxHeartbeats 0 in
theorem PySem.Challenge.cw_heldmarks_k39_marks_that_no_set_has_holds : PySem.Challenge.rw_heldmarks_k39_marks_that_no_set_has.Holds := by
  w_on; o_law; k_head; (case hw => w_witness2)
  k_fill
  refine HM.walk_G (l := PySem.Challenge.rw_heldmarks_k39_marks_that_no_set_has) (n := 63) (k := 17) (x := "_law_script") [] rfl (by decide) rfl ⟨rfl, by decide, by decide⟩ (by decide +kernel) (fun w h Y => PySem.W.kIn_of Y) ?F
  case F =>
    intro w mg fa h Y KX G hmg tabs
    refine' K39.all_mk (by decide +kernel) (by decide +kernel) KX G hmg tabs ?g_C ?g_C2 ?g_Mk ?g_b1 ?g_b2 ?g_b3 ?g_b4 ?g_b5 ?g_b6 ?g_b7 ?g_b8 ?g_b9 ⟨?xC_te, ?xC_kC, ?xC_kV, ?xC_xg, ?xC_xk, ?xC_xs, ?xC_xd, ?xC_xa, ?xC_xn, ?xC_xt, ?xC_xm⟩ ⟨?xC2_te, ?xC2_kC, ?xC2_kV, ?xC2_xg, ?xC2_xk, ?xC2_xs, ?xC2_xd, ?xC2_xa, ?xC2_xn, ?xC2_xt, ?xC2_xm⟩ ?k9 ?k92 ?kC2 ?k2C ⟨?i_c, ?i_bm, ?i_sa, ?i_veC, ?i_tyC, ?i_kC, ?i_iC, ?i_tI, ?i_lI, ?i_hcd, ?i_hco, ?i_hvs, ?i_hcc, ?i_su, ?i_tp, ?i_si, ?i_mr, ?i_no⟩ ⟨?j_c, ?j_bm, ?j_sa, ?j_veC, ?j_tyC, ?j_kC, ?j_iC, ?j_tI, ?j_lI, ?j_hcd, ?j_hco, ?j_hvs, ?j_hcc, ?j_su, ?j_tp, ?j_si, ?j_mr, ?j_no⟩ ⟨?a14, ?l14, ?c14, ?k14⟩ ⟨?a15, ?l15, ?c15, ?k15⟩ ⟨?a17, ?l17, ?c17, ?k17⟩ ⟨?a18, ?l18, ?c18, ?k18⟩ ⟨?a19, ?l19, ?c19, ?k19⟩ ⟨?a20, ?l20, ?c20, ?k20⟩ ⟨?a21, ?l21, ?c21, ?k21⟩ ⟨?a22, ?l22, ?c22, ?k22⟩ ⟨?a23, ?l23, ?c23, ?k23⟩ ⟨?a24, ?l24, ?c24, ?k24⟩ ⟨?a25, ?l25, ?c25, ?k25⟩ ⟨?a26, ?l26, ?c26, ?k26⟩ ⟨?a27, ?l27, ?c27, ?k27⟩ ⟨?a28, ?l28, ?c28, ?k28⟩ ⟨?a29, ?l29, ?c29, ?k29⟩ ⟨?a30, ?l30, ?c30, ?k30⟩ ⟨?a31, ?l31, ?c31, ?k31⟩ ⟨?a32, ?l32, ?c32, ?k32⟩ ⟨?a33, ?l33, ?c33, ?k33⟩ ⟨?a34, ?l34, ?c34, ?k34⟩ ⟨?a35, ?l35, ?c35, ?k35⟩ ⟨?a36, ?l36, ?c36, ?k36⟩ ⟨?a37, ?l37, ?c37, ?k37⟩ ⟨?a38, ?l38, ?c38, ?k38⟩ ⟨?a39, ?l39, ?c39, ?k39⟩ ?mz
    (case g_C => first | k_is | kernel_rfl)
    (case g_C2 => first | k_is | kernel_rfl)
    (case g_Mk => first | k_is | kernel_rfl)
    (case g_b1 => first | k_is | kernel_rfl)
    (case g_b2 => first | k_is | kernel_rfl)
    (case g_b3 => first | k_is | kernel_rfl)
    (case g_b4 => first | k_is | kernel_rfl)
    (case g_b5 => first | k_is | kernel_rfl)
    (case g_b6 => first | k_is | kernel_rfl)
    (case g_b7 => first | k_is | kernel_rfl)
    (case g_b8 => first | k_is | kernel_rfl)
    (case g_b9 => first | k_is | kernel_rfl)
    (case xC_te => first | k_is | kernel_rfl)
    (case xC_kC => first | k_is | kernel_rfl)
    (case xC_kV => first | k_is | kernel_rfl)
    (case xC_xg => first | k_is | kernel_rfl)
    (case xC_xk => first | k_is | kernel_rfl)
    (case xC_xs => first | k_is | kernel_rfl)
    (case xC_xd => first | k_is | kernel_rfl)
    (case xC_xa => first | k_is | kernel_rfl)
    (case xC_xn => first | k_is | kernel_rfl)
    (case xC_xt => first | k_is | kernel_rfl)
    (case xC_xm => first | k_is | kernel_rfl)
    (case xC2_te => first | k_is | kernel_rfl)
    (case xC2_kC => first | k_is | kernel_rfl)
    (case xC2_kV => first | k_is | kernel_rfl)
    (case xC2_xg => first | k_is | kernel_rfl)
    (case xC2_xk => first | k_is | kernel_rfl)
    (case xC2_xs => first | k_is | kernel_rfl)
    (case xC2_xd => first | k_is | kernel_rfl)
    (case xC2_xa => first | k_is | kernel_rfl)
    (case xC2_xn => first | k_is | kernel_rfl)
    (case xC2_xt => first | k_is | kernel_rfl)
    (case xC2_xm => first | k_is | kernel_rfl)
    (case k9 => first | k_is | kernel_rfl)
    (case k92 => first | k_is | kernel_rfl)
    (case kC2 => first | k_is | kernel_rfl)
    (case k2C => first | k_is | kernel_rfl)
    (case i_c => k_is)
    (case i_bm => first | rfl | decide +kernel)
    (case i_sa => k_is)
    (case i_veC => k_is)
    (case i_tyC => k_is)
    (case i_kC => k_is)
    (case i_iC => k_is)
    (case i_tI => k_is)
    (case i_lI => k_is)
    (case i_hcd => k_is)
    (case i_hco => k_is)
    (case i_hvs => rfl)
    (case i_hcc => k_is)
    (case i_su => k_is)
    (case i_tp => k_is)
    (case i_si => kernel_rfl)
    (case i_mr => k_is)
    (case i_no => k_is)
    (case j_c => k_is)
    (case j_bm => first | rfl | decide +kernel)
    (case j_sa => k_is)
    (case j_veC => k_is)
    (case j_tyC => k_is)
    (case j_kC => k_is)
    (case j_iC => k_is)
    (case j_tI => k_is)
    (case j_lI => k_is)
    (case j_hcd => k_is)
    (case j_hco => k_is)
    (case j_hvs => rfl)
    (case j_hcc => k_is)
    (case j_su => k_is)
    (case j_tp => k_is)
    (case j_si => kernel_rfl)
    (case j_mr => k_is)
    (case j_no => k_is)
    (case a14 => k_is); (case l14 => k_is); (case c14 => k_is); (case k14 => k_is)
    (case a15 => k_is); (case l15 => k_is); (case c15 => k_is); (case k15 => k_is)
    (case a17 => k_is); (case l17 => k_is); (case c17 => k_is); (case k17 => k_is)
    (case a18 => k_is); (case l18 => k_is); (case c18 => k_is); (case k18 => k_is)
    (case a19 => k_is); (case l19 => k_is); (case c19 => k_is); (case k19 => k_is)
    (case a20 => k_is); (case l20 => k_is); (case c20 => k_is); (case k20 => k_is)
    (case a21 => k_is); (case l21 => k_is); (case c21 => k_is); (case k21 => k_is)
    (case a22 => k_is); (case l22 => k_is); (case c22 => k_is); (case k22 => k_is)
    (case a23 => k_is); (case l23 => k_is); (case c23 => k_is); (case k23 => k_is)
    (case a24 => k_is); (case l24 => k_is); (case c24 => k_is); (case k24 => k_is)
    (case a25 => k_is); (case l25 => k_is); (case c25 => k_is); (case k25 => k_is)
    (case a26 => k_is); (case l26 => k_is); (case c26 => k_is); (case k26 => k_is)
    (case a27 => k_is); (case l27 => k_is); (case c27 => k_is); (case k27 => k_is)
    (case a28 => k_is); (case l28 => k_is); (case c28 => k_is); (case k28 => k_is)
    (case a29 => k_is); (case l29 => k_is); (case c29 => k_is); (case k29 => k_is)
    (case a30 => k_is); (case l30 => k_is); (case c30 => k_is); (case k30 => k_is)
    (case a31 => k_is); (case l31 => k_is); (case c31 => k_is); (case k31 => k_is)
    (case a32 => k_is); (case l32 => k_is); (case c32 => k_is); (case k32 => k_is)
    (case a33 => k_is); (case l33 => k_is); (case c33 => k_is); (case k33 => k_is)
    (case a34 => k_is); (case l34 => k_is); (case c34 => k_is); (case k34 => k_is)
    (case a35 => k_is); (case l35 => k_is); (case c35 => k_is); (case k35 => k_is)
    (case a36 => k_is); (case l36 => k_is); (case c36 => k_is); (case k36 => k_is)
    (case a37 => k_is); (case l37 => k_is); (case c37 => k_is); (case k37 => k_is)
    (case a38 => k_is); (case l38 => k_is); (case c38 => k_is); (case k38 => k_is)
    (case a39 => k_is); (case l39 => k_is); (case c39 => k_is); (case k39 => k_is)
    (case mz =>
      intro x hx
      repeat (rcases List.mem_cons.mp hx with rfl | hx; · k_is)
      cases hx)
