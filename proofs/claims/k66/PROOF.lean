import PyProof.Rows.All
import Wide.All
import OpenK.AllK
import Wide.FinOn
import HandS.ForMost
import HandS.IsInst
import HandS.Wide
import HandS.Conv
import HandS.AnyAll
import HandS.EndTab
import HandS.Flow
import HandS.SetFor
import HandS.Zip
import PyProof.TupleOfGen
import HandS.TupAny
import HandS.Style
import HandS.ExcInit
import HandS.ExcIs
import HandS.ExcField
import HandS.ExcOwn
import HandS.ExcValue
import HandS.FStr
import KE.KExcSuper
import KE.KSuper
import KE.KExcIs
import KE.KDictZip
import KE.GoesEnum
import KE.GoesMore
import HandS.Walk
import HandS.More
import HandS.FStrTup
import PyProof.Rows.ReprOcc
import HandS.TupSets
import HandS.SetIn
import KE.GoesSet
import HandS.Strs
import HandS.TupLen
import KE.KDictWalk
import HandS.GenList
import HandS.SortInts
import HandS.DictComp
import HandS.Iter
import HandS.Star
import KE.SortKeyHeap
import HandS.Lambda
import HandS.Deep
import KE.DataMinMax
import PyProof.Rows.BitMore
import KE.KDictCopyH
import KE.KDictList
import HandS.SetKeys
import KE.DataCmp
import PyProof.DictMoreH
import KE.KDictPairs
import HandS.SetBool
import PyProof.SumAny
import HandS.RevRange
import PySem.Challenge.RW_heldmarks_k66_groups_named_anew
set_option Elab.async false
set_option linter.all false
set_option maxRecDepth 100000
set_option maxHeartbeats 8000000
namespace HM
open PySem PySem.Spec PyProof.Rows L2
abbrev Grows (h h' : Heap) : Prop := ∀ b o, h.get? b = some o → h'.get? b = some o
theorem mod_up {K : PySem.W.Frag} {mg : Str → Option Value} {h h' : Heap} (m : L2.Mod K mg h) (k : Grows h h') : L2.Mod K mg h' :=
  ⟨m.kin.keeps k, m.glob.keeps k, let ⟨mb, h1, h2⟩ := m.blt; ⟨mb, h1.keeps k, h2⟩, m.nolimit.keeps k⟩
inductive RTy (h : Heap) : Value → String → Prop
  | non : RTy h .none "NoneType"
  | bl (b : Bool) : RTy h (.bool b) "bool"
  | int (i : Int) (t : Tok) : RTy h (.int i t) "int"
  | str (x : Str) (t : Tok) : RTy h (.str x t) "str"
  | lst {a : Addr} {o : Obj} (e : h.get? a = some o) (c : o.cls = .type "list") : RTy h (.ref a) "list"
  | tup {a : Addr} {o : Obj} (e : h.get? a = some o) (c : o.cls = .type "tuple") : RTy h (.ref a) "tuple"
  | dct {a : Addr} {o : Obj} (e : h.get? a = some o) (c : o.cls = .type "dict") : RTy h (.ref a) "dict"
theorem RTy.up {h h' : Heap} {u : Value} {T : String} (r : RTy h u T) (k : Grows h h') : RTy h' u T := by
  cases r with
  | non => exact .non
  | bl b => exact .bl b
  | int i t => exact .int i t
  | str x t => exact .str x t
  | lst e c => exact .lst (k _ _ e) c
  | tup e c => exact .tup (k _ _ e) c
  | dct e c => exact .dct (k _ _ e) c
end HM
namespace HM
open PySem PySem.Spec PyProof.Rows L2
end HM
namespace HM
open PySem PySem.Spec PyProof.Rows L2
end HM
namespace HM
open PySem PySem.Spec PyProof.Rows L2
inductive VTy (K : PySem.W.Frag) (H : Hp) : V → String → Prop
  | non : VTy K H .non "NoneType"
  | bl (b : Bool) : VTy K H (.bl b) "bool"
  | int (i : Int) : VTy K H (.int i) "int"
  | str (x : Str) : VTy K H (.str x) "str"
  | lst {a : Addr} {xs : List V} (e : SqL K H a xs) : VTy K H (.ref a) "list"
  | tup {a : Addr} {xs : List V} (e : SqT K H a xs) : VTy K H (.ref a) "tuple"
  | dct {a : Addr} {kvs : List (Key × V)} (e : H a = some (.dK kvs)) : VTy K H (.ref a) "dict"
end HM
namespace HM
open PySem PySem.Spec PyProof.Rows L2
def noRepr (A : Around) : Prop := A.guards = some []
def anyA (_ : Around) : Prop := True
structure PFn (gd : Around → Prop) (P : Program) (w : World) (K : PySem.W.Frag) (mg : Str → Option Value) (base : Heap) (CX : CXT) (k : Nat) (f : Addr) (fd : FuncData) (ps : List Str) (sp : Sp) : Prop where
  len : ∀ vs H Q E, sp vs H Q E → vs.length = ps.length
  go : ∀ (A : Around) (out : List Env) (s : Shared) (H : Hp) (args : Args) (us : List Value) (vs : List V) (Q : VK) (E : XK), gd A → Room k A → Env0 P w K mg base A out s H → BindsTo s fd args (ps.zip us) → Vals vs us → sp vs H Q E →
    codeAny (model P w) A (.call (.ref f) args) (CR CX out P w H s Q E) s
section
variable {P : Program} {w : World} {K : PySem.W.Frag} {mg : Str → Option Value} {base : Heap}
theorem PFn.ok {CX : CXT} {k : Nat} {f : Addr} {fd : FuncData} {ps : List Str} {sp : Sp} (G : PFn anyA P w K mg base CX k f fd ps sp) : FnOk P w K mg base CX k f fd ps sp := ⟨G.len, fun A out s H args us vs Q E => G.go A out s H args us vs Q E trivial⟩
/-- by the body; fd.code is the running code object -/
theorem pfn_of {gd : Around → Prop} {x qual : Str} {st : Stmt} {f : Addr} {fd : FuncData} {N ps : List Str} {k : Nat} {sp : Sp} (F : Fun K x qual st f fd) (S : FnScope N ps (defScope st)) (len : ∀ vs H Q E, sp vs H Q E → vs.length = ps.length)
    (body : ∀ (cdv : Value) (A : Around) (out : List Env) (s : Shared) (H : Hp) (vs : List V) (Q : VK) (E : XK), fd.code = cdv → gd A → Room k (A.deeper (envOfC qual (defScope st) s.heap.objs.size f cdv)) → sp vs H Q E →
      ∃ t, PSs (cxOf CX0 P w K mg base N qual (defScope st) f cdv A out s H E).nox (defBody st) t ∧ t { nx := fun _ H' => Q .non H', rt := Q } (start N vs) H) : PFn gd P w K mg base CX0 (k + 1) f fd ps sp := by
  obtain ⟨oc, od, kV, doc, pm, an, cdv, ct, osl, rfl, lk, hcd⟩ := F.ex
  refine ⟨len, fun A out s H args us vs Q E hgd hr e0 hb r hsp => ?_⟩
  have M := mod_up e0.mod (fun b o e => (e0.bs b o e).1 : Grows base s.heap)
  have kinds : ∀ y ∈ ps.zip us, (defScope st).names.lookup y.1 = some .local ∨ ((defScope st).names.lookup y.1 = some .cell ∧ ((cellsFrom (s.heap.objs.size + 1) (defScope st).names []).lookup y.1).isSome = true) := by
    intro y hy
    rcases S.par y.1 (List.of_mem_zip (show (y.1, y.2) ∈ ps.zip us from hy)).1 with q | q
    · exact .inl q
    · exact .inr ⟨q, PySem.W.cellsFrom_some _ _ _ (.inl q)⟩
  refine codeAny_call_function hr.depth (M.kin _ _ lk) rfl S.co S.gen rfl (PySem.W.codeRec_of M.kin hcd) (hb _ _ _ _ ?_)
  refine wpAny_newFunctionEnv_cells S.kind kinds fun env he s1 x => ?_
  subst he
  obtain ⟨t, ht, hq⟩ := body cdv A out s H vs Q E rfl hgd (hr.deeper _) hsp
  refine ⟨M.nolimit.keeps x.toInCall.keep, codeAny_func (wpAny_mono (ht.nox.run [] s1 (start N vs) H _ (inv_start S hr.hd e0 (len _ _ _ _ hsp) r x) hq) (fun fl s' hs => ?_) fun e s' hs => hs)⟩
  cases fl with
  | ret u =>
    obtain ⟨v, σ', H', J, rv, q⟩ := hs
    exact ⟨v, H', J.os, J.bare, J.base, J.hok, rv, q⟩
  | next =>
    obtain ⟨σ', H', J, q⟩ := hs
    exact ⟨.non, H', J.os, J.bare, J.base, J.hok, rfl, q⟩
  | brk =>
    obtain ⟨_, _, _, q⟩ := hs
    exact q.elim
  | cont =>
    obtain ⟨_, _, _, q⟩ := hs
    exact q.elim
end
/-- f(e, ..) by such a promise -/
theorem pe_callP {X : Cx} {gd : Around → Prop} {CX : CXT} {k : Nat} {f : Addr} {fd : FuncData} {ps : List Str} {sp : Sp} {E : XK} {x : Str} {p pos : Pos} {e : Expr} {es : List Expr} {t : TA} (G : PFn gd X.prog X.w X.K X.mg X.base CX k f fd ps sp) (hgd : gd X.A) (hr : Room k X.A) (hg : Gl X x) (hm : X.mg x = some (.ref f))
    (hk : PySem.W.keepIn X.K (.ref f) = true) (hb : Binds X.K fd ps []) (hx : Passes CX X E) (ha : PA X (e :: es) t) (hdb : (x == ("__debug__" : Str)) = false := by decide)
    (he : starEach (e :: es) X.env = (false, eval e X.env) :: starEach es X.env := by rfl) (hpl : (backTo pos (starEach es X.env)).any (·.1) = false := by rfl) : PE X (.Call (.Name x p) (e :: es) [] pos) (tCall sp [] E t) := by
  refine ⟨fun pins s σ H Q I h => ?_⟩
  refine wpAny_Call_Name_kw (ld_glob I hg hm ?_ hdb)
  refine PySem.W.callWith_K (h₀ := X.base) I.ok.mod.kin hk (thn (ha.run pos pins s σ H _ I h) fun us s1 hus => ?_) he hpl
  obtain ⟨vs, H1, I1, r, q⟩ := hus
  refine ⟨I1.kIn, ?_⟩
  rw [List.append_nil] at q
  have hl : us.length = ps.length := by rw [← r.length]; exact G.len _ _ _ _ q
  have hbs := hb s1 us I1.kIn (by rw [List.append_nil]; exact hl)
  rw [List.append_nil] at hbs
  refine wpAny_call (codeAny_mono (G.go X.A X.stack s1 H1 ⟨us, []⟩ us vs Q E hgd hr I1.env0 hbs r q) fun r s' hq => ?_)
  match r, hq with
  | .error e, hq => exact hx pins σ H1 s1 e s' I1 hq
  | .ok (.ret u), hq => exact I1.after hq
  | .ok .next, hq => exact hq.elim
  | .ok .brk, hq => exact hq.elim
  | .ok .cont, hq => exact hq.elim
theorem reads_ints {P : Program} {w : World} {h : Heap} : ∀ (ps : List (Int × Int)) (vs : List (Key × Value)) (es : List DictEntry), KV (ps.map fun p => ((Sum.inl p.1 : Key), V.int p.2)) vs → Pairs (mixKind P w) es vs →
    ReadsAll h (es.map (·.key)) (ps.map fun p => .int p.1) [] ∧ ReadsAll h (es.map (·.val)) (ps.map fun p => .int p.2) []
  | [], _, _, .nil, .nil => ⟨.nil, .nil⟩
  | p :: ps, _, _, .cons a r, .cons k v t => by
    obtain ⟨h1, h2⟩ := reads_ints ps _ _ r t
    obtain ⟨e1, e2⟩ := a
    obtain ⟨t2, e3⟩ := (show ∃ t, _ = Value.int p.2 t from e2)
    rw [← e1] at k
    obtain ⟨t1, e4⟩ := Value.isInt_shape (show Value.isInt p.1 _ = true from k)
    rw [List.map_cons, List.map_cons, List.map_cons, List.map_cons, e4, v, e3]
    exact ⟨.cons (as := []) (bs := []) (.int _ _) h1, .cons (as := []) (bs := []) (.int _ _) h2⟩
/-- what repr may be asked of -/
inductive RP (K : PySem.W.Frag) (H : Hp) : V → PyData → Prop
  | flat {x : V} {d : PyData} (h : Dp K H x d) (n : d.hasDict = false) : RP K H x d
  | dict {a : Addr} (ps : List (Int × Int)) (h : H a = some (.dK (ps.map fun p => ((Sum.inl p.1 : Key), V.int p.2)))) : RP K H (.ref a) (.dict (ps.map fun p => (.int p.1, .int p.2)))
section
variable {X : Cx} {pins : List (Addr × Obj)} {σ : L2.St} {H : Hp} {s : Shared}
theorem RP.reads {x : V} {u : Value} {d : PyData} (h : RP X.K H x d) (I : Inv X pins σ H s) (r : RelV x u) : ∃ as, Reads s.heap u d as ∧ (d.hasDict = true → sysModules ∉ as) := by
  cases h with
  | flat h n =>
    obtain ⟨as, q⟩ := Dp.reads I d x u h r
    exact ⟨as, q, PyData.noDict_hsm n⟩
  | @dict a ps h =>
    cases (show u = Value.ref a from r)
    obtain ⟨_, hne, vs, hkv, o, es, ep, h1, h2, h3, _, hp, _⟩ := (show ObjOk X.prog X.w H s.heap a (.dK _) from I.hok a _ h)
    obtain ⟨q1, q2⟩ := reads_ints (h := s.heap) ps vs es.toList hkv hp
    refine ⟨_, Reads.dict h1 h2.1 h3 (kvs := ps.map fun p => (.int p.1, .int p.2)) (by rw [List.map_map]; exact q1) (by rw [List.map_map]; exact q2), fun _ hm => ?_⟩
    have z : sysModules = a := by simpa using hm
    rw [z] at hne
    simp at hne
def rRepr (K : PySem.W.Frag) : List V → Hp → VK → Prop := fun xs H Q => ∃ (x : V) (d : PyData), xs = [x] ∧ RP K H x d ∧ d.showable = true ∧ d.depth ≤ 40 ∧ d.shown.length ≤ sizeLine ∧ Q (.str d.shown) H
theorem call_reprD {k : Nat} (hg : X.A.guards = some []) (hr : Room k X.A) : CallR X (.builtin "repr") (rRepr X.K) := by
  intro pins s σ H xs us Q I r h
  obtain ⟨x, d, rfl, hp, hs, hd, hz, q⟩ := h
  cases r with
  | cons r1 r2 =>
    cases r2
    rename_i u
    obtain ⟨as, hrd, hsm⟩ := hp.reads I r1
    have hu := hr.units
    cases hrd with
    | none => exact PySem.P.repr_of_none ⟨.str _, H, I.tok _, ⟨_, rfl⟩, q⟩
    | bool b => exact PySem.P.repr_of_bool ⟨.str _, H, I.tok _, ⟨_, rfl⟩, q⟩
    | int i t => exact PySem.P.repr_of_int (by simpa [PyData.showable] using hs) ⟨.str _, H, I.tok _, ⟨_, rfl⟩, q⟩
    | str y t => exact PySem.P.repr_of_str ⟨.str _, H, I.tok _, ⟨_, rfl⟩, q⟩ hz
    | list h1 h2 h3 h4 => exact repr_of_reads' (Reads.list h1 h2 h3 h4) hs hsm hg (by omega) (fun _ _ e => e) (fun h' u tk hk => ⟨.str _, H, I.kept hk, ⟨_, rfl⟩, q⟩) hz
    | tuple h1 h2 h3 h4 => exact repr_of_reads' (Reads.tuple h1 h2 h3 h4) hs hsm hg (by omega) (fun _ _ e => e) (fun h' u tk hk => ⟨.str _, H, I.kept hk, ⟨_, rfl⟩, q⟩) hz
    | dict h1 h2 h3 h4 h5 => exact repr_of_reads' (Reads.dict h1 h2 h3 h4 h5) hs hsm hg (by omega) (fun _ _ e => e) (fun h' u tk hk => ⟨.str _, H, I.kept hk, ⟨_, rfl⟩, q⟩) hz
end
end HM
namespace HM
open PySem PySem.Spec PyProof.Rows L2
abbrev tabObj : Obj := { cls := .none, data := .fields #[] }
abbrev scrObj (vs : List Value) : Obj := { cls := .type "list", data := .seq vs.toArray }
/-- the tables ts; the script, where it is none of the written part -/
def H0 (K : PySem.W.Frag) (ts : List Addr) (a : Addr) (vs : List Value) (ns : List Int) : Hp := fun b =>
  if b ∈ ts then some (.tbl #[]) else if b = a ∧ K.lookup a = none then some (.frz (scrObj vs) (.lst (ns.map V.int))) else none
theorem H0_tab {K : PySem.W.Frag} {ts : List Addr} {a b : Addr} {vs : List Value} {ns : List Int} (h : b ∈ ts) : H0 K ts a vs ns b = some (.tbl #[]) := if_pos h
theorem H0_scr {K : PySem.W.Frag} {ts : List Addr} {a : Addr} {vs : List Value} {ns : List Int} (h : a ∉ ts) (k : K.lookup a = none) : H0 K ts a vs ns a = some (.frz (scrObj vs) (.lst (ns.map V.int))) := (if_neg h).trans (if_pos ⟨rfl, k⟩)
theorem H0_cases {K : PySem.W.Frag} {ts : List Addr} {a b : Addr} {vs : List Value} {ns : List Int} {u : HO} (h : H0 K ts a vs ns b = some u) : (b ∈ ts ∧ u = .tbl #[]) ∨ (b = a ∧ K.lookup a = none ∧ u = .frz (scrObj vs) (.lst (ns.map V.int))) := by
  unfold H0 at h
  by_cases h1 : b ∈ ts
  · rw [if_pos h1] at h
    exact .inl ⟨h1, (Option.some.inj h).symm⟩
  · rw [if_neg h1] at h
    by_cases h2 : b = a ∧ K.lookup a = none
    · rw [if_pos h2] at h
      exact .inr ⟨h2.1, h2.2, (Option.some.inj h).symm⟩
    · rw [if_neg h2] at h
      cases h
theorem H0_none {K : PySem.W.Frag} {ts : List Addr} {a b : Addr} {vs : List Value} {ns : List Int} (h1 : b ∉ ts) (h2 : b = a → K.lookup a ≠ none) : H0 K ts a vs ns b = none := by
  unfold H0
  rw [if_neg h1, if_neg fun z => h2 z.1 z.2]
/-- the script: locked, or of the written part -/
def Scr (K : PySem.W.Frag) (H : Hp) (a : Addr) (ns : List Int) : Prop := (∃ ob, H a = some (.frz ob (.lst (ns.map V.int)))) ∨
  ∃ (o : Obj) (its : Array Value) (n : Nat), K.lookup a = some o ∧ o.cls = .type "list" ∧ o.dict = none ∧ o.data = .seq its n ∧ its.size ≤ sizeLine ∧ Vals (ns.map V.int) its.toList
theorem Scr.sq {K : PySem.W.Frag} {H : Hp} {a : Addr} {ns : List Int} (h : Scr K H a ns) : SqL K H a (ns.map V.int) := by
  rcases h with h | h
  · exact .inl (.inr h)
  · exact .inr h
/-- it stays while nothing locked is lost -/
theorem Scr.up {K : PySem.W.Frag} {H H' : Hp} {a : Addr} {ns : List Int} (h : Scr K H a ns) (k : ∀ b ob u, H b = some (.frz ob u) → H' b = some (.frz ob u)) : Scr K H' a ns := by
  rcases h with ⟨ob, h⟩ | h
  · exact .inl ⟨ob, k _ _ _ h⟩
  · exact .inr h
theorem end_go {P : Program} {w : World} {K : PySem.W.Frag} {mg mb : Str → Option Value} {k : Nat} {fa a : Addr} {cs : List (Addr × Addr)} {fd : FuncData} {x : Str} {sp : Sp} {s₁ : Shared} {vs : List Value} {ns : List Int}
    (KX : K.In s₁.heap) (hns : s₁.heap.Ns mainGlobals mg) (hb : s₁.heap.Ns builtinsNs mb) (hbb : ∀ y : Str, y ≠ "__name__" → mb y = bootBuiltins y) (hlim : s₁.heap.NoLimit) (hg : s₁.gens = #[])
    (hT : ∀ p ∈ cs, s₁.heap.get? p.2 = some tabObj) (nT : ∀ p ∈ cs, K.lookup p.2 = none) (hC : ∀ p ∈ cs, PySem.W.CodeHd s₁.heap p.1 p.2)
    (hbm : ∃ (bm : Addr) (ob : Obj), mg "__builtins__" = some (.ref bm) ∧ bm ≠ builtinsNs ∧ s₁.heap.get? bm = some ob ∧ ob.cls = .type "module" ∧ ob.dict = some builtinsNs ∧ ob.data = .plain)
    (ha : s₁.heap.get? a = some (scrObj vs)) (hi : IntsAre vs ns) (hl : ns.length ≤ sizeLine) (hr : Room k callerA)
    (F : ∀ base : Heap, K.In base → base.Ns mainGlobals mg → (∀ p ∈ cs, GxR.TabB base mg p.1 p.2) → PFn noRepr P w K mg base CX0 k fa fd [x] sp) (hbind : ∀ (s : Shared) (u : Value), BindsTo s fd ⟨[u], []⟩ [(x, u)])
    (hsp : ∀ H : Hp, (∀ p ∈ cs, H p.2 = some (.tbl #[])) → Scr K H a ns → sp [.ref a] H (fun v _ => v = .bl true) fun _ _ _ => False) :
    codeAny (model P w) callerA (.call (.ref fa) ⟨[.ref a], []⟩) (fun r s' => r = .ok (.ret (.bool true)) ∧ OldK s₁.heap s'.heap ∧ s'.os = s₁.os ∧ AllBare s'.gens) s₁ := by
  have isT : ∀ b ∈ cs.map (·.2), s₁.heap.get? b = some tabObj := fun b hb => by
    obtain ⟨p, hp, e⟩ := List.mem_map.mp hb
    exact e ▸ hT p hp
  have kT : ∀ b ∈ cs.map (·.2), K.lookup b = none := fun b hb => by
    obtain ⟨p, hp, e⟩ := List.mem_map.mp hb
    exact e ▸ nT p hp
  have inT : ∀ p ∈ cs, p.2 ∈ cs.map (·.2) := fun p hp => List.mem_map.mpr ⟨p, hp, rfl⟩
  have aT : a ∉ cs.map (·.2) := fun z => by
    have q := (isT a z).symm.trans ha
    cases q
  obtain ⟨H, eH⟩ : ∃ H : Hp, H = H0 K (cs.map (·.2)) a vs ns := ⟨_, rfl⟩
  -- what is neither a table nor the script is not tracked
  have free : ∀ (b : Addr) (o : Obj), s₁.heap.get? b = some o → o ≠ tabObj → o ≠ scrObj vs → H b = none := fun b o e n1 n2 => by
    rw [eH]
    refine H0_none (fun z => n1 ?_) fun z => absurd ?_ n2
    · exact Option.some.inj (e.symm.trans (isT b z))
    · rw [z] at e
      exact Option.some.inj (e.symm.trans ha)
  have freeK : ∀ (b : Addr) (o : Obj), K.lookup b = some o → H b = none := fun b o e => by
    rw [eH]
    refine H0_none (fun z => ?_) fun z h => ?_
    · rw [kT b z] at e
      cases e
    · rw [z, h] at e
      cases e
  have hok : HOk P w H s₁.heap := fun b u e => by
    rw [eH] at e
    rcases H0_cases e with ⟨h1, rfl⟩ | ⟨rfl, h2, rfl⟩
    · exact isT b h1
    · exact ⟨ha, by rw [List.length_map]; exact hl, vs, _, vals_ints hi, ha⟩
  have hS : Scr K H a ns := by
    cases hk : K.lookup a with
    | none =>
      rw [eH]
      exact .inl ⟨_, H0_scr aT hk⟩
    | some o =>
      have e := (KX a o hk).symm.trans ha
      cases e
      exact .inr ⟨_, vs.toArray, _, hk, rfl, rfl, rfl, by rw [List.size_toArray, hi.length]; exact hl, by simpa using vals_ints hi⟩
  have nsB : ∀ {b : Addr} {m : Str → Option Value}, s₁.heap.Ns b m → (hidT s₁.heap H).Ns b m := fun {b m} h => by
    obtain ⟨o, es, ep, e, d, r⟩ := h
    refine ⟨o, es, ep, hidT_get e (free b o e (fun z => ?_) fun z => ?_), d, r⟩
    · rw [z] at d
      cases d
    · rw [z] at d
      cases d
  have kB : K.In (hidT s₁.heap H) := fun b o e => hidT_get (KX b o e) (freeK b o e)
  have modB : L2.Mod K mg (hidT s₁.heap H) := ⟨kB, nsB hns, ⟨mb, nsB hb, hbb⟩, let ⟨mc, h1, h2⟩ := hlim; ⟨mc, nsB h1, h2⟩⟩
  have tabB : ∀ p ∈ cs, GxR.TabB (hidT s₁.heap H) mg p.1 p.2 := fun p hp => by
    refine ⟨?_, ?_, fun z => ?_⟩
    · obtain ⟨o, us, file, tf, flags, tg, inF, text, tt, e1, c1, d1, r3, r⟩ := hC p hp
      refine ⟨o, us, file, tf, flags, tg, inF, text, tt, hidT_get e1 (free _ o e1 (fun z => ?_) fun z => ?_), c1, d1, r3, r⟩
      · rw [z] at c1
        cases c1
      · rw [z] at c1
        injection (show Value.type "list" = Value.type "code" from c1) with c2
        exact absurd c2 (by decide)
    · obtain ⟨bm, ob, b1, b2, b3, b4, b5, b6⟩ := hbm
      refine ⟨bm, ob, b1, b2, fun q => ?_, fun q => ?_, hidT_get b3 (free bm ob b3 (fun z => ?_) fun z => ?_), b4, b5, b6⟩
      · obtain ⟨o, es, ep, e, d, _⟩ := hns
        rw [q, e] at b3
        cases b3
        rw [d] at b6
        cases b6
      · rw [q, hT p hp] at b3
        cases b3
        cases b6
      · rw [z] at b6
        cases b6
      · rw [z] at b6
        cases b6
    · obtain ⟨o, es, ep, e, d, _⟩ := hns
      rw [z, hT p hp] at e
      cases e
      cases d
  have e0 : Env0 P w K mg (hidT s₁.heap H) callerA [] s₁ H := ⟨rfl, modB, fun b o e => of_hidT e, Nat.le_of_eq (hidT_size _ _), trivial, fun b hb => absurd (show b ∈ ([] : List Addr) from hb) (by simp), hok, .of_eq hg⟩
  have tH : ∀ p ∈ cs, H p.2 = some (.tbl #[]) := fun p hp => by
    rw [eH]
    exact H0_tab (inT p hp)
  refine codeAny_mono ((F _ kB (nsB hns) tabB).go callerA [] s₁ H ⟨[.ref a], []⟩ [.ref a] [.ref a] _ _ rfl hr e0 (hbind s₁ (.ref a)) (.cons rfl .nil) (hsp H tH hS)) fun r s' h => ?_
  match r, h with
  | .error e, h => exact False.elim h
  | .ok .next, h => exact False.elim h
  | .ok .brk, h => exact False.elim h
  | .ok .cont, h => exact False.elim h
  | .ok (.ret u), h =>
    obtain ⟨v, H', os, bare, un, hok', r', q⟩ := h
    obtain rfl : v = .bl true := q
    obtain rfl : u = Value.bool true := r'
    have same : ∀ b o, b ∉ cs.map (·.2) → s₁.heap.get? b = some o → s'.heap.get? b = some o := fun b o nb e => by
      cases q : H b with
      | none => exact un.keep b o e q (fun z => absurd (show b ∈ ([] : List Addr) from z) (by simp)) (by simp)
      | some u =>
        have q2 := q
        rw [eH] at q2
        rcases H0_cases q2 with ⟨h1, _⟩ | ⟨_, _, rfl⟩
        · exact absurd h1 nb
        · have e1 := (hok b _ q).1
          have e2 := (hok' b _ (un.frzs b _ _ q)).1
          exact e2.trans (e1.symm.trans e)
    have grew : ∀ p ∈ cs, ∃ more : Array Value, s'.heap.get? p.2 = some { cls := .none, data := .fields more } := fun p hp => by
      obtain ⟨more, z⟩ := un.tbls p.2 #[] (tH p hp)
      exact ⟨_, hok' p.2 _ z⟩
    refine ⟨rfl, ⟨fun b o e => ?_, fun b o e => ?_⟩, os, bare⟩
    · by_cases hb : b ∈ cs.map (·.2)
      · obtain ⟨p, hp, rfl⟩ := List.mem_map.mp hb
        obtain ⟨more, hm⟩ := grew p hp
        obtain rfl : o = tabObj := Option.some.inj (e.symm.trans (hT p hp))
        exact .inr (.inl ⟨((hC p hp).tab (hT p hp)).isCodeTable, rfl, #[], more, rfl, by rw [Array.empty_append]; exact hm⟩)
      · exact .inl (same b o hb e)
    · by_cases hb : b ∈ cs.map (·.2)
      · obtain ⟨p, hp, rfl⟩ := List.mem_map.mp hb
        obtain ⟨more, hm⟩ := grew p hp
        exact ⟨_, hm⟩
      · exact ⟨o, same b o hb e⟩
/-- the table of the def called n: its code object's, empty as yet -/
def TabOf (mg : Str → Option Value) (h : Heap) (n : Str) (c Pt : Addr) : Prop := ∃ (f : Addr) (o : Obj) (fd : FuncData), mg n = some (.ref f) ∧ h.get? f = some o ∧ o.data = .func fd ∧ fd.code = .ref c ∧ PySem.W.CodeHd h c Pt ∧ h.get? Pt = some tabObj
theorem walk_G {l : PySem.W.OpenLaw} {n k : Nat} {q : Program} {loose : List Str} {XP : (Str → Option Value) → Heap → Prop} {YP : World → Heap → Prop} {d : DefRec} {K : Params → PySem.W.Frag} {x : Str} (gs : List Str)
    (hn : l.most = some n) (hn2 : n ≤ sizeLine) (hdf : d.params.defaults = []) (hr : Room k callerA) (hrec : ∀ g ∈ gs, ((recsOf q).any fun e => e.name == g) = true) (hY : ∀ (w : World) (h : Heap), YP w h → (K w.params).In h)
    (F : ∀ (w : World) (mg : Str → Option Value) (fa : Addr) (h : Heap), YP w h → (K w.params).In h → h.Ns mainGlobals mg → mg d.name = some (.ref fa) → (∀ g ∈ gs, ∃ c Pt, TabOf mg h g c Pt) →
      ∃ (fd : FuncData) (cs : List (Addr × Addr)) (sp : Sp), (∀ p ∈ cs, h.get? p.2 = some tabObj) ∧ (∀ p ∈ cs, (K w.params).lookup p.2 = none) ∧ (∀ p ∈ cs, PySem.W.CodeHd h p.1 p.2) ∧ (∀ (s : Shared) (u : Value), BindsTo s fd ⟨[u], []⟩ [(x, u)]) ∧
        (∀ (H : Hp) (a : Addr) (ns : List Int), ns.length ≤ n → (∀ z ∈ ns, Builtin.Int.intBits z ≤ 1048576) → (∀ p ∈ cs, H p.2 = some (.tbl #[])) → Scr (K w.params) H a ns → sp [.ref a] H (fun v _ => v = .bl true) fun _ _ _ => False) ∧
        ∀ base : Heap, (K w.params).In base → base.Ns mainGlobals mg → (∀ p ∈ cs, GxR.TabB base mg p.1 p.2) → PFn noRepr l.prog w (K w.params) mg base CX0 k fa fd [x] sp) :
    PySem.W.WalkO q loose XP YP l.row.toRowW d [] (fun f vs => PySem.call f vs) := by
  refine Att.attach_callB hn hdf fun w s₀ s₁ mg mb fa o pm cd doc a vs ns G Y ho hd hcd hmg hobj hints hlen hbits hg => ?_
  have KX := hY w _ Y
  have tabs : ∀ g ∈ gs, ∃ c Pt, TabOf mg s₁.heap g c Pt := fun g hgm => by
    obtain ⟨dL, hm, hn1⟩ := List.any_eq_true.mp (hrec g hgm)
    obtain ⟨f, o', fd', c, Pt, h1, h2, h3, h4, h5, h6⟩ := G.T.tab dL hm
    rw [beq_iff_eq.mp hn1] at h1
    exact ⟨c, Pt, f, o', fd', h1, h2, h3, h4, PySem.W.CodeHd.of h5 h6, h6.2⟩
  obtain ⟨fd, cs, sp, hT, nT, hC, hb, hsp, hF⟩ := F w mg fa _ Y KX G.T.g hmg tabs
  exact end_go KX G.T.g G.T.b G.T.builtins G.T.nolimit hg hT nT hC G.T.bmain hobj hints (Nat.le_trans hlen hn2) hr hF hb fun H hH hS => hsp H a ns hlen hbits hH hS
end HM
namespace HM
open PySem PySem.Spec PyProof.Rows L2
def TF (H : Hp) (a : Addr) (xs : List V) : Prop := ∃ o : Obj, o.dict = none ∧ H a = some (.frz o (.tup xs))
theorem TF.sq {K : PySem.W.Frag} {H : Hp} {a : Addr} {xs : List V} (h : TF H a xs) : SqT K H a xs := let ⟨o, _, e⟩ := h; .inl (.inr ⟨o, e⟩)
/-- a new tuple of xs -/
def newT (xs : List V) (H : Hp) (Q : VK) : Prop := ∀ (p : Addr) (o : Obj), H p = none → o.dict = none → Q (.ref p) (upd H p (.frz o (.tup xs)))
section
variable {X : Cx} {pins : List (Addr × Obj)} {σ : L2.St} {H : Hp} {s : Shared}
theorem laidF {h' : Heap} {a : Addr} {its : List Value} {xs : List V} {t' : Nat} {Q : VK} (I : Inv X pins σ H s) (k : Grows s.heap h') (hp : s.heap.objs.size ≤ a) (hz : xs.length ≤ sizeLine) (r : Vals xs its) (e : h'.get? a = some { cls := .type "tuple", data := .seq its.toArray }) (q : newT xs H Q) :
    EP X pins σ Q (.ref a) { s with heap := h', toks := t' } :=
  ⟨.ref a, upd H a (.frz { cls := .type "tuple", data := .seq its.toArray } (.tup xs)), I.laid k hp ⟨e, hz, its, r, ⟨_, e, rfl, _, rfl⟩⟩, rfl, q a _ (I.hok.fresh hp) rfl⟩
/-- tuple(list) -/
def tTupOfF (K : PySem.W.Frag) (ta : TE) : TE := fun σ H Q => ta σ H fun x H1 => ∃ p xs, x = .ref p ∧ SqL K H1 p xs ∧ newT xs H1 Q
theorem pe_tupOfF {p pos : Pos} {a : Expr} {ta : TE} (hg : Gl X "tuple") (hm : X.mg "tuple" = none) (ha : PE X a ta) (na : starEach [a] X.env = (false, eval a X.env) :: starEach [] X.env := by rfl) : PE X (.Call (.Name "tuple" p) [a] [] pos) (tTupOfF X.K ta) := by
  refine ⟨fun pins s σ H Q I h => ?_⟩
  refine Call_ (ld_blt I hg hm boot_tuple (PyProof.Rows.callWith_type1 (one_arg ha I h (fun v s2 x H2 I2 r q => ?_) na) na))
  obtain ⟨b, xs, rfl, hs, q⟩ := q
  obtain rfl : v = .ref b := r
  obtain ⟨its, rv, pl, hz⟩ := I2.list hs
  refine call_tuple_list pl.isList (fun h' hk => ?_) (by rw [List.size_toArray, ← rv.length]; exact hz)
  have I3 : Inv X pins σ H2 { s2 with heap := h' } := I2.kept (t' := s2.toks) hk
  exact laidF (s := { s2 with heap := h' }) (t' := s2.toks) I3 (fun b u e => Heap.get?_push_of_some _ e) (Nat.le_refl _) hz rv (Heap.get?_push_size _ rfl) q
/-- t.m(e, ..) -/
def tTM (r : V → List V → Hp → VK → Prop) (to : TE) (t : TA) : TE := fun σ H Q => to σ H fun x H1 => (∃ a xs, x = .ref a ∧ TF H1 a xs) ∧ t σ H1 fun ys H2 => r x ys H2 Q
theorem pe_tm {o e : Expr} {es : List Expr} {to : TE} {t : TA} {name : Str} {apos cpos : Pos} {id : String} {r : V → List V → Hp → VK → Prop} (slot : Slot "tuple" name id) (hty : typeOf (.builtin id) = pure (.type "method_descriptor")) (hm : MtR X id r) (ho : PE X o to) (ha : PA X (e :: es) t)
    (hbase : attributeBase o name X.env (eval o X.env) = eval o X.env := by rfl)
    (hfew : ((backTo cpos (starEach (e :: es) X.env)).all (fun x => !x.1) && (backToKw cpos (keywordEach [] X.env)).all (fun x => x.1.isSome) && decide ((e :: es).length + ([] : List Keyword).length + (if ([] : List Keyword).isEmpty then 0 else 1) < 30)) = true := by rfl)
    (hline : (apos.endLine == cpos.line) = true := by rfl) (hs : starEach (e :: es) X.env = (false, eval e X.env) :: starEach es X.env := by rfl) (hplain : (backTo cpos (starEach es X.env)).any (·.1) = false := by rfl) : PE X (.Call (.Attribute o name apos) (e :: es) [] cpos) (tTM r to t) := by
  refine ⟨fun pins s σ H Q I h => ?_⟩
  refine wpAny_Call_method_late hbase hfew hline rfl (thn (ho.run pins s σ H _ I h) fun v s1 hx => ?_)
  obtain ⟨x, H1, I1, r1, ⟨a, xs, rfl, ob, hd, hA⟩, q1⟩ := hx
  cases r1
  obtain ⟨g1, _, its, _, o2, g2, hc, _⟩ := (show ObjOk X.prog X.w H1 s1.heap a (.frz ob (.tup xs)) from I1.hok a _ hA)
  refine ⟨"tuple", id, PySem.F.plainAttrs_tuple, slot, hty, ⟨o2, g2, hc⟩, fun b z => ?_, ?_⟩
  · cases z
    exact ⟨ob, g1, hd⟩
  · have hp := ha.run cpos pins s1 σ H1 _ I1 q1
    rw [hs] at hp ⊢
    refine Calls.callWith_builtin (by show (false || (backTo cpos (starEach es X.env)).any (·.1)) = false; rw [hplain] <;> rfl) (Calls.evalArgs_plain (thn hp fun us s2 hy => ?_))
    obtain ⟨vs, H2, I2, r2, q2⟩ := hy
    exact hm pins s2 σ H2 (.ref a) vs (.ref a) us Q I2 rfl r2 q2
end
end HM
namespace HM
open PySem PySem.Spec PyProof.Rows L2
end HM
namespace HM
open PySem PySem.Spec PyProof.Rows L2
end HM
namespace HM
open PySem PySem.Spec PyProof.Rows L2
end HM
namespace HM
open PySem PySem.Spec PyProof.Rows L2
section
variable {prog : Program} {w : World}
set_option maxHeartbeats 2000000 in
theorem meets_enum1 {v : Value} {o : Obj} {Hs : Heap → Prop} (B : Begins v o Hs) : Meets (Builtin.«enumerate.__new__» ⟨[.type "enumerate", v], []⟩) (fun _ R s => Hs s.heap ∧
    R (.ok (.ret (.ref (s.heap.push o).objs.size))) { s with heap := (s.heap.push o).push { cls := .type "enumerate", data := .fields #[.none, .bool false, .ref s.heap.objs.size, rawInt 0, .none, .none] } }) :=
  .of_wp fun prog w A R s h => by
    obtain ⟨hp, gs, dr, tk, os⟩ := s
    obtain ⟨h1, h⟩ := h
    have hsub := sub_enumerate
    have begun : ∀ {A' : Around} {E : Value → Shared → Prop} {Q : Value → Shared → Prop}, Q (.ref hp.objs.size) ⟨hp.push o, gs, dr, tk, os⟩ → wpAny (model prog w) A' (pyIter v) Q E ⟨hp, gs, dr, tk, os⟩ := fun q => B.iter prog w _ _ ⟨hp, gs, dr, tk, os⟩ _ h1 q
    wp_walk using begun
    refine wpAny_stack_any fun st => wpAny_pure ?_
    split
    · rename_i c _ _ _ _ _
      cases (c == Value.type "enumerate")
      · wp_walk using begun
        exact ⟨_, rfl, h⟩
      · wp_walk using begun
        exact ⟨_, rfl, h⟩
    · wp_walk using begun
      exact ⟨_, rfl, h⟩
theorem call_enum1 {A : Around} {E : Value → Shared → Prop} {s : Shared} {v : Value} {o : Obj} {Hs : Heap → Prop} {Q : Value → Shared → Prop} (B : Begins v o Hs) (h1 : Hs s.heap)
    (h : ∀ h', IsEnum h' (s.heap.objs.size + 1) s.heap.objs.size 0 .none → h'.get? s.heap.objs.size = some o → (∀ b u, s.heap.get? b = some u → h'.get? b = some u) → Q (.ref (s.heap.objs.size + 1)) { s with heap := h' }) : wpAny (model prog w) A (call (.type "enumerate") [v]) Q E s := by
  refine callType_new F.called_enumerate (by decide) (F.typeCall_enumerate_1 _) (F.newCall_enumerate_1 _) (fun obj => F.args_object_init_2 obj _) F.entry_enumerate_new (meets_enum1 B) ⟨h1, ?_⟩
  have hz : (s.heap.push o).objs.size = s.heap.objs.size + 1 := Heap.size_push ..
  show _ ∧ _
  have he := Heap.get?_push_size (s.heap.push o) (o := { cls := .type "enumerate", data := .fields #[.none, .bool false, .ref s.heap.objs.size, rawInt 0, .none, .none] }) rfl
  rw [hz] at he ⊢
  exact ⟨⟨_, he, rfl⟩, h _ he (Heap.get?_push_of_some _ (Heap.get?_push_size _ B.free)) fun b u x => Heap.get?_push_of_some _ (Heap.get?_push_of_some _ x)⟩
end
end HM
namespace HM
open PySem PySem.Spec PyProof.Rows L2
def IteT (K : PySem.W.Frag) (a : Addr) : L2.It :=
  ⟨fun i H => ∃ (xs : List V) (x : V), SqT K H a xs ∧ xs[i]? = some x, fun i H v H' => ∃ T x, v = .ref T ∧ H T = none ∧ H' = upd H T (.tup [.int (i : Nat), x]) ∧ ∀ xs, SqT K H a xs → xs[i]? = some x, fun i H => ∃ xs : List V, SqT K H a xs ∧ xs.length = i⟩
theorem turn_enumT {P : Program} {w : World} {K : PySem.W.Frag} {elts : List Expr} {kk : Nat} {tpos : Pos} (a e it : Addr) :
    Turn P w K (.Tuple elts kk tpos) (IteT K a) [e, it] e (fun i h => (∃ old, IsEnum h e it ((i : Nat) : Int) old) ∧ h.IsTupleIter it a i ∧ e ≠ it ∧ a ≠ e ∧ a ≠ it) where
  mem := List.mem_cons_self
  obj := fun i h st b hb => by
    obtain ⟨⟨old, he⟩, ⟨o, ho, hc, hd⟩, _⟩ := st
    rcases List.mem_cons.mp hb with z | z
    · exact z ▸ ⟨_, he, fun v q => nomatch q⟩
    · exact (List.mem_singleton.mp z) ▸ ⟨o, ho, fun v q => by rw [hd] at q; cases q⟩
  keep := fun i h h' st k => let ⟨⟨old, he⟩, hi, r⟩ := st; ⟨⟨old, k e List.mem_cons_self _ he⟩, hi.at fun o q => k it (List.mem_cons_of_mem _ List.mem_cons_self) o q, r⟩
  item := by
    intro X hP hw hK hc i pins s σ H E I hf st hg
    subst hP hw hK
    obtain ⟨⟨old, he⟩, hit, hne, hae, hai⟩ := st
    obtain ⟨xs, x, hq, hx⟩ := hg
    obtain ⟨its, rv, p, hz⟩ := I.tuple hq
    obtain ⟨u, hu, ru⟩ := rv.get hx
    have hlt : i < its.toArray.size := by rw [List.size_toArray]; exact (List.getElem?_eq_some_iff.mp hu).1
    have hel : e < s.heap.objs.size := Heap.lt_size he
    have hil : it < s.heap.objs.size := let ⟨_, q, _⟩ := hit; Heap.lt_size q
    have D : Draws X.prog X.w X.A.in1 it [it, a] its.toArray.size (fun i v => its.toArray[i]? = some v) (fun i h => h.IsTupleIter it a i ∧ h.IsTuple a its.toArray) := Draws.tuple (A := X.A.in1) (I.ok.hd hc) it a hai its.toArray
    have nef : e ∉ [it, a] := fun z => by
      rcases List.mem_cons.mp z with z | z
      · exact hne z
      · exact hae (List.mem_singleton.mp z).symm
    refine wpAny_pyNext_enum_itemD D he ⟨hit, p⟩ hlt hne nef fun v h' tk hv ho hst hT hsz hk => ?_
    obtain rfl : v = u := by
      have hu2 : its.toArray[i]? = some u := by simpa using hu
      exact Option.some.inj (hv.symm.trans hu2)
    refine ⟨_, rfl, wpAny_letOwnedTupleGo_enum (s := { s with heap := h', toks := tk + 1 }) ho fun h2 he2 sb => ?_⟩
    have hT2 : h2.get? s.heap.objs.size = some { cls := .type "tuple", data := .seq #[.int i tk, v] } := (sb.2 _ (Nat.ne_of_gt hel)).trans hT
    have new : ObjOk X.prog X.w (upd H s.heap.objs.size (.tup [.int (i : Nat), x])) h2 s.heap.objs.size (.tup [.int (i : Nat), x]) :=
      ⟨show 2 ≤ sizeLine by decide, [.int i tk, v], .cons ⟨_, rfl⟩ (.cons ru .nil), ⟨_, hT2, rfl, _, rfl⟩⟩
    have I1 : Inv X pins σ (upd H s.heap.objs.size (.tup [.int (i : Nat), x])) { s with heap := h2, toks := tk + 1 } :=
      I.turnedNew (ch := [e, it]) (fun b ob hb q => (sb.2 b (fun z => hb (by simp [z]))).trans (hk b ob (fun z => hb (by simp [z])) (fun z => hb (by simp [z])) q)) hf (Nat.le_refl _) new
    refine ⟨.ref s.heap.objs.size, _, I1, rfl, ⟨_, x, rfl, I.hok.fresh (Nat.le_refl _), rfl, fun ys hy => ?_⟩, ⟨⟨v, ?_⟩, hst.1.at fun o q => (sb.2 it (Ne.symm hne)).trans q, hne, hae, hai⟩, fun b hb => ?_⟩
    · rw [I.tuple_inj hy hq]
      exact hx
    · have e1 : ((i + 1 : Nat) : Int) = (i : Int) + 1 := by omega
      rw [e1]
      exact he2
    · have hb2 : b < s.heap.objs.size := by
        rcases List.mem_cons.mp hb with z | z
        · exact z ▸ hel
        · exact (List.mem_singleton.mp z) ▸ hil
      rw [upd_ne (Nat.ne_of_lt hb2)]
      exact (hf b hb).1
  done := by
    intro X hP hw hK hc i pins s σ H E I hf st hg
    subst hP hw hK
    obtain ⟨⟨old, he⟩, hit, hne, hae, hai⟩ := st
    obtain ⟨xs, hq, hx⟩ := hg
    obtain ⟨its, rv, p, hz⟩ := I.tuple hq
    obtain ⟨f0, f1, f2, f3, f4, f5⟩ := hf it (List.mem_cons_of_mem _ List.mem_cons_self)
    have hl : its.toArray.size = i := by rw [List.size_toArray, ← rv.length]; exact hx
    have D : Draws X.prog X.w X.A.in1 it [it, a] its.toArray.size (fun i v => its.toArray[i]? = some v) (fun i h => h.IsTupleIter it a i ∧ h.IsTuple a its.toArray) := Draws.tuple (A := X.A.in1) (I.ok.hd hc) it a hai its.toArray
    exact wpAny_pyNext_enum_endD D he ⟨by rw [hl]; exact hit, p⟩ fun h' eb => ⟨rfl, I.turned (t' := s.toks) (fun b o hb q => eb b o hb q) f0 f1 f3 f4 f5⟩
  self := fun A i s Q E st h => let ⟨⟨_, he⟩, _⟩ := st; wpAny_pyIter_enum he h
end HM
namespace HM
open PySem PySem.Spec PyProof.Rows L2
end HM
namespace HM
open PySem PySem.Spec PyProof.Rows L2
end HM
namespace HM
open PySem PySem.Spec PyProof.Rows L2
def pk (a : Addr) (t l : Int) : List (Key × V) := [(.inr "script", .ref a), (.inr "at", .int t), (.inr "left", .int l)]
def isPen (K : PySem.W.Frag) (H : Hp) (p : Addr) (t : Int) : Prop := ∃ (a : Addr) (ns : List Int) (l : Int), H p = some (.dK (pk a t l)) ∧ Scr K H a ns ∧ ns.length ≤ 63 ∧ 0 ≤ t ∧ 0 ≤ l
/-- only what stands at p has changed -/
def But (p : Addr) (H H' : Hp) : Prop := ∀ b, b ≠ p → H' b = H b
end HM
namespace HM
open PySem PySem.Spec PyProof.Rows L2
/-- all that was tracked but for p is as it was -/
def Kept (p : Addr) (H H' : Hp) : Prop := ∀ b o, H b = some o → b ≠ p → H' b = some o
theorem Kept.trans {p : Addr} {H H1 H2 : Hp} (a : Kept p H H1) (b : Kept p H1 H2) : Kept p H H2 := fun c o e n => b c o (a c o e n) n
theorem Kept.refl (p : Addr) (H : Hp) : Kept p H H := fun _ _ e _ => e
theorem But.kept {p : Addr} {H H' : Hp} (h : But p H H') : Kept p H H' := fun b o e n => by rw [h b n]; exact e
def noX : XK := fun _ _ _ => False
theorem isPen.up {K : PySem.W.Frag} {H H' : Hp} {p : Addr} {t : Int} (h : isPen K H p t) (k : ∀ b o, H b = some o → b = p ∨ (∃ ob u, o = .frz ob u) → H' b = some o) : isPen K H' p t := by
  obtain ⟨a, ns, l, h1, h2, r⟩ := h
  exact ⟨a, ns, l, k _ _ h1 (.inl rfl), h2.up fun b ob u e => k _ _ e (.inr ⟨ob, u, rfl⟩), r⟩
theorem isPen.lay {K : PySem.W.Frag} {H : Hp} {p q : Addr} {t : Int} {o : HO} (h : isPen K H p t) (n : H q = none) : isPen K (upd H q o) p t :=
  h.up fun b u e _ => by rw [upd_ne (ne_of_none e n)]; exact e
theorem isPen.put {K : PySem.W.Frag} {H : Hp} {p q : Addr} {t : Int} {xs ys : List V} (h : isPen K H p t) (n : H q = some (.lst xs)) : isPen K (upd H q (.lst ys)) p t := by
  obtain ⟨a, ns, l, h1, _⟩ := _root_.id h
  refine h.up fun b u e c => ?_
  rw [upd_ne fun z => ?_]
  · exact e
  · subst z
    rw [n] at e
    cases e
    rcases c with c | ⟨ob, u, c⟩
    · rw [c, h1] at n
      cases n
    · cases c
end HM
namespace HM
open PySem PySem.Spec PyProof.Rows L2
def numD (n : Int) : PyData → Bool
  | .int i => decide (0 ≤ i) && decide (i < n)
  | _ => false
def itD : PyData → Int
  | .int i => i
  | _ => 0
def eachOnce (ds : List PyData) (n : Int) : Bool := decide ((ds.length : Int) = n) && (ds.all (numD n) && decide (ds.map itD).Nodup)
def turnD : PyData → Bool
  | .tuple ds => (decide (1 ≤ ds.length) && decide (ds.length ≤ 7)) && eachOnce ds ds.length
  | _ => false
end HM
namespace HM
open PySem PySem.Spec PyProof.Rows L2
/-- what a thing is, for who asks whether it is a turn -/
def TC (K : PySem.W.Frag) (H : Hp) (x : V) (d : PyData) : Prop := (∃ (a : Addr) (xs : List V) (ds : List PyData), x = .ref a ∧ d = .tuple ds ∧ TF H a xs ∧ DpAll K H xs ds) ∨ (∃ T, VTy K H x T ∧ kitB T "tuple" = some false ∧ turnD d = false)
end HM
namespace HM
open PySem PySem.Spec PyProof.Rows L2
mutual
def cost : PyData → Nat
  | .none => 4
  | .bool _ => 5
  | .int _ => 1921
  | .str x => (reprText x).length
  | .list xs => costs xs + 2
  | .tuple xs => costs xs + 2
  | .dict kvs => costKv kvs + 2
def costs : List PyData → Nat
  | [] => 0
  | x :: xs => cost x + 2 + costs xs
def costKv : List (PyData × PyData) → Nat
  | [] => 0
  | (k, v) :: r => cost k + 2 + cost v + 2 + costKv r
end
theorem textFrom_up : ∀ (ts : List Str) (k : Nat) (acc : Str), (textFrom k acc ts).length ≤ acc.length + piled ts
  | [], k, acc => by
    rw [piled_nil]
    exact Nat.le_refl _
  | t :: r, k, acc => by
    rw [piled_cons]
    unfold textFrom
    refine Nat.le_trans (textFrom_up r _ _) ?_
    split
    · rw [strLen_append, strLen_append, show ((", " : Str)).length = 2 by decide +kernel]
      omega
    · rw [strLen_append, strLen_append, show (("" : Str)).length = 0 by decide +kernel]
      omega
theorem listText_up (ts : List Str) : (listText ts).length ≤ piled ts + 2 := by
  unfold listText
  rw [strLen_append, show (("]" : Str)).length = 1 by decide +kernel]
  have h := textFrom_up ts 0 "["
  rw [show (("[" : Str)).length = 1 by decide +kernel] at h
  omega
def UpN (H H' : Hp) : Prop := ∀ b o, H b = some o → (∀ q, o ≠ .tbl q) → H' b = some o
theorem UpN.refl (H : Hp) : UpN H H := fun _ _ e _ => e
theorem UpN.trans {H H1 H2 : Hp} (a : UpN H H1) (b : UpN H1 H2) : UpN H H2 := fun c o e n => b c o (a c o e n) n
theorem UpN.of_same {H H' : Hp} (h : Same H H') : UpN H H' := fun b o e _ => h b o e
theorem TF.up {H H' : Hp} {a : Addr} {xs : List V} (h : TF H a xs) (k : UpN H H') : TF H' a xs := let ⟨o, h1, h2⟩ := h; ⟨o, h1, k _ _ h2 fun q z => by cases z⟩
theorem sqL_up {K : PySem.W.Frag} {H H' : Hp} {a : Addr} {xs : List V} (h : SqL K H a xs) (k : UpN H H') : SqL K H' a xs := by
  rcases h with (h | ⟨o, h⟩) | h
  · exact .inl (.inl (k _ _ h fun q z => by cases z))
  · exact .inl (.inr ⟨o, k _ _ h fun q z => by cases z⟩)
  · exact .inr h
theorem sqT_up {K : PySem.W.Frag} {H H' : Hp} {a : Addr} {xs : List V} (h : SqT K H a xs) (k : UpN H H') : SqT K H' a xs := by
  rcases h with (h | ⟨o, h⟩) | h
  · exact .inl (.inl (k _ _ h fun q z => by cases z))
  · exact .inl (.inr ⟨o, k _ _ h fun q z => by cases z⟩)
  · exact .inr h
mutual
theorem dp_up {K : PySem.W.Frag} {H H' : Hp} (k : UpN H H') : ∀ {v : V} {d : PyData}, Dp K H v d → Dp K H' v d
  | _, _, .non => .non
  | _, _, .bl b => .bl b
  | _, _, .int i => .int i
  | _, _, .str x => .str x
  | _, _, .lst h t => .lst (sqL_up h k) (dps_up k t)
  | _, _, .tup h t => .tup (sqT_up h k) (dps_up k t)
theorem dps_up {K : PySem.W.Frag} {H H' : Hp} (k : UpN H H') : ∀ {vs : List V} {ds : List PyData}, DpAll K H vs ds → DpAll K H' vs ds
  | _, _, .nil => .nil
  | _, _, .cons h t => .cons (dp_up k h) (dps_up k t)
end
end HM
namespace HM
open PySem PySem.Spec PyProof.Rows L2
/-- data that are small -/
def smI (i : Int) : Bool := decide (i.natAbs ≤ 10 ^ 29)
def smD : PyData → Bool
  | .int i => smI i
  | .bool _ => true
  | .none => true
  | .str x => decide (x = "0")
  | .tuple [.int i] => smI i
  | .list [.int i] => smI i
  | _ => false
/-- a tuple of few small things -/
def NearT (K : PySem.W.Frag) (H : Hp) (x : V) : Prop := ∃ (a : Addr) (ys : List V) (ds : List PyData), x = .ref a ∧ TF H a ys ∧ DpAll K H ys ds ∧ ds.length ≤ 16 ∧ ds.all smD = true
theorem NearT.up {K : PySem.W.Frag} {H H' : Hp} {x : V} (h : NearT K H x) (k : UpN H H') : NearT K H' x := by
  obtain ⟨a, ys, ds, h1, h2, h3, r⟩ := h
  exact ⟨a, ys, ds, h1, h2.up k, dps_up k h3, r⟩
end HM
namespace HM
open PySem PySem.Spec PyProof.Rows L2
def It (k c : Nat) (d : PyData) : Prop := d.showable = true ∧ d.hasDict = false ∧ d.depth ≤ k ∧ cost d ≤ c
def Th (K : PySem.W.Frag) (H : Hp) (x : V) : Prop := ∃ d, RP K H x d ∧ TC K H x d ∧ d.showable = true ∧ d.depth ≤ 40 ∧ d.shown.length ≤ sizeLine ∧ ∀ ds, d = .tuple ds → ds.length ≤ 4000
theorem vty_up {K : PySem.W.Frag} {H H' : Hp} {x : V} {T : String} (t : VTy K H x T) (k : UpN H H') : VTy K H' x T := by
  cases t with
  | non => exact .non
  | bl b => exact .bl b
  | int i => exact .int i
  | str y => exact .str y
  | lst e => exact .lst (sqL_up e k)
  | tup e => exact .tup (sqT_up e k)
  | dct e => exact .dct (k _ _ e fun q z => by cases z)
theorem rp_up {K : PySem.W.Frag} {H H' : Hp} {x : V} {d : PyData} (h : RP K H x d) (k : UpN H H') : RP K H' x d := by
  cases h with
  | flat h n => exact .flat (dp_up k h) n
  | dict ps h => exact .dict ps (k _ _ h fun q z => by cases z)
theorem tc_up {K : PySem.W.Frag} {H H' : Hp} {x : V} {d : PyData} (h : TC K H x d) (k : UpN H H') : TC K H' x d := by
  rcases h with ⟨a, xs, ds, h1, h2, h3, h4⟩ | ⟨T, h1, h2⟩
  · exact .inl ⟨a, xs, ds, h1, h2, h3.up k, dps_up k h4⟩
  · exact .inr ⟨T, vty_up h1 k, h2⟩
theorem Th.up {K : PySem.W.Frag} {H H' : Hp} {x : V} (h : Th K H x) (k : UpN H H') : Th K H' x := by
  obtain ⟨d, h1, h2, r⟩ := h
  exact ⟨d, rp_up h1 k, tc_up h2 k, r⟩
end HM
namespace HM
open PySem PySem.Spec PyProof.Rows L2
end HM
namespace HM
open PySem PySem.Spec PyProof.Rows L2
theorem same_lay {H : Hp} {q : Addr} {o : HO} (n : H q = none) : Same H (upd H q o) := fun b u e => by rw [upd_ne (ne_of_none e n)]; exact e
theorem UpN.lay {H J : Hp} {q : Addr} {o : HO} (u : UpN H J) (n : J q = none) : UpN H (upd J q o) := u.trans (.of_same (same_lay n))
theorem UpN.set {H J : Hp} {q : Addr} {o : HO} (u : UpN H J) (n : H q = none) : UpN H (upd J q o) := fun b p e z => by rw [upd_ne (ne_of_none e n)]; exact u b p e z
theorem isPen.kept {K : PySem.W.Frag} {H H' : Hp} {p : Addr} {t : Int} {b : Addr} {o : HO} (hp : isPen K H p t) (k : Kept p H H') (e : H b = some o) (hd : ∀ kv, o ≠ .dK kv) : H' b = some o := by
  refine k _ _ e fun z => ?_
  obtain ⟨_, _, _, e2, _⟩ := hp
  rw [z, e2] at e
  exact hd _ (Option.some.inj e).symm
/-- all that was tracked is as it was, but for the pen and the tables -/
def UpP (p : Addr) (H H' : Hp) : Prop := ∀ b o, H b = some o → b ≠ p → (∀ q, o ≠ .tbl q) → H' b = some o
theorem UpP.refl (p : Addr) (H : Hp) : UpP p H H := fun _ _ e _ _ => e
theorem UpP.trans {p : Addr} {H H1 H2 : Hp} (a : UpP p H H1) (b : UpP p H1 H2) : UpP p H H2 := fun c o e n z => b c o (a c o e n z) n z
theorem UpP.set {p : Addr} {H J : Hp} {q : Addr} {o : HO} (u : UpP p H J) (n : H q = none) : UpP p H (upd J q o) := fun b r e h z => by rw [upd_ne (ne_of_none e n)]; exact u b r e h z
/-- data, read through a heap that has lost nothing of it but the pen -/
def noPen (p : Addr) (H : Hp) : Prop := ∀ l, H p ≠ some (.lst l) ∧ H p ≠ some (.tup l) ∧ ∀ o u, H p ≠ some (.frz o u)
theorem TF.p {H H' : Hp} {p a : Addr} {xs : List V} (hp : HM.noPen p H) (u : UpP p H H') (h : TF H a xs) : TF H' a xs := let ⟨o, h1, h2⟩ := h; ⟨o, h1, u _ _ h2 (fun z => by rw [z] at h2; exact (hp xs).2.2 _ _ h2) fun q z => by cases z⟩
end HM
namespace HM
open PySem PySem.Spec PyProof.Rows L2
end HM
namespace HM
open PySem PySem.Spec PyProof.Rows L2
/-- a def of the text as the top has left it -/
structure DefAt (K : PySem.W.Frag) (x : Str) (st : Stmt) (f : Addr) (oc : Value) (od : Option Addr) (kV doc pm : Value) (an : Option Addr) (cdv ct : Value) (sl : Array (Option Value)) : Prop where
  a : PySem.W.nsIn K mainGlobals x = some (some (.ref f))
  l : K.lookup f = some ⟨oc, od, .func (PySem.W.fnOf x x (defArgs st) (defBody st) (defScope st) .none kV doc pm an cdv ct), sl⟩
  c : PySem.W.codeIn K cdv x = true
  k : PySem.W.keepIn K (.ref f) = true
theorem DefAt.fn {K : PySem.W.Frag} {x : Str} {st : Stmt} {f : Addr} {oc : Value} {od : Option Addr} {kV doc pm : Value} {an : Option Addr} {cdv ct : Value} {sl : Array (Option Value)} (D : DefAt K x st f oc od kV doc pm an cdv ct sl) : Fun K x x st f (PySem.W.fnOf x x (defArgs st) (defBody st) (defScope st) .none kV doc pm an cdv ct) := fun_mk D.l D.c D.k
/-- what is asked of a class of refusals whose objects are kept and asked -/
structure ExAt (K : PySem.W.Frag) (C Mk : Addr) : Prop where
  te : PySem.W.exmOne K (.ref C) (.ref Mk) = some true
  kC : PySem.W.kitOne K (.ref C) (.ref C) = some true
  kV : PySem.W.kitOne K (.ref C) (.type "ValueError") = some true
  xg : PySem.W.findIn K (.ref C) "__getattribute__" = some (some (.builtin "BaseException.__getattribute__"))
  xk : PySem.W.findIn K (.ref C) "__getattr__" = some none
  xs : PySem.W.subIn K (.ref C) (.type "BaseException") = some true
  xd : PySem.W.hasDictIn K C = true
  xa : PySem.W.findIn K (.ref C) "__class__" = some (some (.builtin "object.__class__"))
  xn : PySem.W.specialIn K (.builtin "object.__class__") "__get__" = some (some (.builtin "getset_descriptor.__get__"))
  xt : PySem.W.takesIn K (.builtin "object.__class__") = some true
  xm : PySem.W.mroIn K C (.type "object") = some true
theorem ExAt.F {K : PySem.W.Frag} {C Mk : Addr} (R : ExAt K C Mk) : XfC K C := ⟨R.xg, R.xk, R.xs, R.xd⟩
/-- the table of a def's generator expressions, by the written part -/
structure TbAt (K : PySem.W.Frag) (c Pt : Addr) (e : Value) (dd : Option Addr) (vs : Array Value) (sl : Array (Option Value)) : Prop where
  l : K.lookup c = some ⟨e, dd, .fields vs, sl⟩
  p : vs[11]? = some (.ref Pt)
  n : K.lookup Pt = none
theorem tab_got {K : PySem.W.Frag} {h : Heap} {mg : Str → Option Value} {gs : List Str} {x : Str} {st : Stmt} {f c Pt : Addr} {oc : Value} {od : Option Addr} {kV doc pm : Value} {an : Option Addr} {ct : Value} {sl : Array (Option Value)} {e : Value} {dd : Option Addr} {vs : Array Value} {sl2 : Array (Option Value)}
    (X : K.In h) (G : h.Ns mainGlobals mg) (tabs : ∀ g ∈ gs, ∃ c Pt, TabOf mg h g c Pt) (hx : x ∈ gs) (D : DefAt K x st f oc od kV doc pm an (.ref c) ct sl) (T : TbAt K c Pt e dd vs sl2) : h.get? Pt = some tabObj ∧ PySem.W.CodeHd h c Pt := by
  obtain ⟨c0, P2, f0, o, fd, h1, h2, h3, h4, h5, h6⟩ := tabs x hx
  have e1 := h1.symm.trans (PySem.W.mg_of X G D.a)
  cases e1
  rw [X _ _ D.l] at h2
  cases h2
  cases h3
  have e2 : Value.ref c = .ref c0 := h4
  cases e2
  have e3 : Pt = P2 := by
    obtain ⟨o2, us, _, _, _, _, _, _, _, g1, _, g2, g3, _⟩ := h5
    rw [X _ _ T.l] at g1
    cases g1
    cases g2
    rw [T.p] at g3
    cases g3
    rfl
  subst e3
  exact ⟨h6, h5⟩
end HM
namespace HM
open PySem PySem.Spec PyProof.Rows L2
/-- all that was tracked is as it was, but for the one table at P -/
def UpK (P : Addr) (H H' : Hp) : Prop := ∀ b o, H b = some o → b ≠ P → H' b = some o
theorem UpK.refl (P : Addr) (H : Hp) : UpK P H H := fun _ _ e _ => e
theorem UpK.of_same {P : Addr} {H H' : Hp} (s : Same H H') : UpK P H H' := fun b o e _ => s b o e
theorem UpK.trans {P : Addr} {H H1 H2 : Hp} (a : UpK P H H1) (b : UpK P H1 H2) : UpK P H H2 := fun c o e n => b c o (a c o e n) n
theorem UpK.lay {P : Addr} {H J : Hp} {q : Addr} {o : HO} (u : UpK P H J) (n : J q = none) : UpK P H (upd J q o) := u.trans (.of_same (same_lay n))
theorem UpK.set {P : Addr} {H J : Hp} {q : Addr} {o : HO} (u : UpK P H J) (n : H q = none) : UpK P H (upd J q o) := fun b p e z => by rw [upd_ne (ne_of_none e n)]; exact u b p e z
theorem UpK.n {P : Addr} {H H' : Hp} (u : UpK P H H') (t : GxR.TabG H P) : UpN H H' := fun b o e z => u b o e fun q => by
  obtain ⟨ps, e2, _⟩ := t
  rw [q, e2] at e
  exact z ps (Option.some.inj e).symm
/-- another table -/
theorem UpK.tab {P Q : Addr} {H H' : Hp} (u : UpK P H H') (tP : GxR.TabG H' P) (tQ : GxR.TabG H Q) : GxR.TabG H' Q := by
  by_cases e : Q = P
  · rw [e]
    exact tP
  · obtain ⟨ps, e2, r⟩ := tQ
    exact ⟨ps, u _ _ e2 e, r⟩
end HM
namespace HM
open PySem PySem.Spec PyProof.Rows L2
section
variable {P : Program} {w : World} {A : Around} {E : Value → Shared → Prop} {s : Shared} {a : Addr} {L : List (Addr × List Int)} {es : Array (Int × Value)} {ep : Nat} {t : SetTable}
abbrev wk (m : Nat) (h : Int) (c : Nat) : SetTable.Probe := nth m (runAt m (SetTable.bits h % (m + 1)) (SetTable.bits h)) c
end
end HM
namespace HM
open PySem PySem.Spec PyProof.Rows L2
end HM
namespace TG
open PySem PySem.Spec PyProof.Rows L2
/-- the round, not yet cut -/
def su : Nat → Nat
  | 0 => 0
  | n + 1 => su n * 5 + 1
theorem su_add (a d : Nat) : su (a + d) = su a * 5 ^ d + su d := by
  induction d with
  | zero => simp [su]
  | succ d ih =>
    show su (a + d) * 5 + 1 = su a * 5 ^ (d + 1) + (su d * 5 + 1)
    rw [ih, Nat.pow_succ, Nat.add_mul, ← Nat.mul_assoc, Nat.add_assoc]
theorem su_odd (n : Nat) : su n % 2 = n % 2 := by
  induction n with
  | zero => rfl
  | succ n ih =>
    show (su n * 5 + 1) % 2 = (n + 1) % 2
    omega
theorem five_odd (n : Nat) : 5 ^ n % 4 = 1 := by
  induction n with
  | zero => rfl
  | succ n ih =>
    rw [Nat.pow_succ]
    omega
theorem su_two (e : Nat) : ∃ o, o % 2 = 1 ∧ su (e + e) = 2 * (o * su e) := by
  have h := five_odd e
  refine ⟨(5 ^ e + 1) / 2, by omega, ?_⟩
  rw [su_add]
  obtain ⟨q, hq⟩ : ∃ q, 5 ^ e = 4 * q + 1 := ⟨5 ^ e / 4, by omega⟩
  have e1 : (5 ^ e + 1) / 2 = 2 * q + 1 := by omega
  rw [e1, hq, Nat.mul_add, Nat.mul_one, Nat.add_mul, Nat.one_mul, Nat.mul_add, Nat.mul_comm (su e) (4 * q), show 2 * (2 * q * su e) = 4 * q * su e by rw [← Nat.mul_assoc, ← Nat.mul_assoc]]
  omega
theorem odd_dvd : ∀ (k : Nat) {o x : Nat}, o % 2 = 1 → 2 ^ k ∣ o * x → 2 ^ k ∣ x
  | 0, _, _, _, _ => by rw [Nat.pow_zero]; exact Nat.one_dvd _
  | k + 1, o, x, ho, h => by
    have he : x % 2 = 0 := by
      have h2 : 2 ∣ o * x := Nat.dvd_trans ⟨2 ^ k, by rw [Nat.pow_succ, Nat.mul_comm]⟩ h
      have h3 := Nat.mod_eq_zero_of_dvd h2
      rw [Nat.mul_mod, ho, Nat.one_mul, Nat.mod_mod] at h3
      exact h3
    obtain ⟨y, rfl⟩ : ∃ y, x = 2 * y := ⟨x / 2, by omega⟩
    rw [Nat.pow_succ, Nat.mul_comm (2 ^ k) 2] at h ⊢
    have h4 : 2 * 2 ^ k ∣ 2 * (o * y) := by
      rw [show 2 * (o * y) = o * (2 * y) by rw [← Nat.mul_assoc, ← Nat.mul_assoc, Nat.mul_comm 2 o]]
      exact h
    exact Nat.mul_dvd_mul_left 2 (odd_dvd k ho (Nat.dvd_of_mul_dvd_mul_left (by decide) h4))
theorem su_dvd : ∀ (k d : Nat), 2 ^ k ∣ su d → 2 ^ k ∣ d
  | 0, d, _ => by rw [Nat.pow_zero]; exact Nat.one_dvd _
  | k + 1, d, h => by
    have h2 : su d % 2 = 0 := Nat.mod_eq_zero_of_dvd (Nat.dvd_trans ⟨2 ^ k, by rw [Nat.pow_succ, Nat.mul_comm]⟩ h)
    rw [su_odd] at h2
    obtain ⟨e, rfl⟩ : ∃ e, d = e + e := ⟨d / 2, by omega⟩
    obtain ⟨o, ho, es⟩ := su_two e
    rw [es, Nat.pow_succ, Nat.mul_comm (2 ^ k) 2] at h
    have h3 := su_dvd k e (odd_dvd k ho (Nat.dvd_of_mul_dvd_mul_left (by decide) h))
    rw [← Nat.two_mul, Nat.pow_succ, Nat.mul_comm (2 ^ k) 2]
    exact Nat.mul_dvd_mul_left 2 h3
/-- the masks that come -/
def MG (m : Nat) : Prop := m = 7 ∨ m = 31 ∨ m = 127 ∨ m = 511 ∨ m = 2047 ∨ m = 8191
theorem MG.pow {m : Nat} (h : MG m) : ∃ k, 3 ≤ k ∧ k ≤ 13 ∧ m + 1 = 2 ^ k := by
  rcases h with rfl | rfl | rfl | rfl | rfl | rfl
  · exact ⟨3, by decide, by decide, by decide⟩
  · exact ⟨5, by decide, by decide, by decide⟩
  · exact ⟨7, by decide, by decide, by decide⟩
  · exact ⟨9, by decide, by decide, by decide⟩
  · exact ⟨11, by decide, by decide, by decide⟩
  · exact ⟨13, by decide, by decide, by decide⟩
theorem lcgN_su (m : Nat) : ∀ n, lcgN m n = su n % (m + 1)
  | 0 => (Nat.zero_mod _).symm
  | n + 1 => by
    show (lcgN m n * 5 + 1) % (m + 1) = (su n * 5 + 1) % (m + 1)
    rw [lcgN_su m n, Nat.add_mod, Nat.mul_mod, Nat.mod_mod, ← Nat.mul_mod, ← Nat.add_mod]
theorem lcg_far {m : Nat} (h : MG m) {a d d2 : Nat} (h1 : d ≤ d2) (h2 : d2 ≤ m) (e : lcgN m (a + d) = lcgN m (a + d2)) : d = d2 := by
  obtain ⟨k, _, _, ek⟩ := h.pow
  rw [lcgN_su, lcgN_su, ek] at e
  obtain ⟨x, rfl⟩ : ∃ x, d2 = d + x := ⟨d2 - d, by omega⟩
  have e1 : su (a + (d + x)) = su (x + (a + d)) := by rw [Nat.add_comm x, Nat.add_assoc]
  rw [e1, su_add x (a + d)] at e
  have dv : 2 ^ k ∣ su x * 5 ^ (a + d) := by
    have z := Nat.sub_mod_eq_zero_of_mod_eq e.symm
    rw [Nat.add_sub_cancel] at z
    exact Nat.dvd_of_mod_eq_zero z
  have h5 : 5 ^ (a + d) % 2 = 1 := by
    have := five_odd (a + d)
    omega
  rw [Nat.mul_comm] at dv
  have := su_dvd k x (odd_dvd k h5 dv)
  rcases Nat.eq_zero_or_pos x with z | z
  · omega
  · have := Nat.le_of_dvd z this
    omega
/-- from anywhere each slot begins a run -/
theorem meets {m : Nat} (h : MG m) {i j : Nat} (hi : i ≤ m) (hj : j ≤ m) : ∃ k, k ≤ m ∧ lcgI m i k = j := by
  have onto : ∀ a j, j ≤ m → ∃ k, k ≤ m ∧ lcgN m (a + k) = j := fun a j hj => by
    have nd : ((List.range (m + 1)).map fun k => lcgN m (a + k)).Nodup := List.pairwise_map.mpr (List.Pairwise.imp_of_mem (fun {x y} hx hy hxy e => by
      have := lcg_far h (Nat.le_of_lt hxy) (Nat.le_of_lt_succ (List.mem_range.mp hy)) e
      omega) (List.pairwise_lt_range (n := m + 1)))
    have lt : ∀ b, lcgN m b ≤ m := fun b => by
      rw [lcgN_su]
      exact Nat.le_of_lt_succ (Nat.mod_lt _ (Nat.succ_pos m))
    refine Classical.byContradiction fun no => ?_
    have h1 := nat_nodup_len (j :: (List.range (m + 1)).map fun k => lcgN m (a + k)) (List.range (m + 1)) (List.nodup_cons.mpr ⟨fun hm => no ?_, nd⟩) fun x hx => ?_
    · rw [List.length_cons, List.length_map] at h1
      omega
    · obtain ⟨k, hk, e⟩ := List.mem_map.mp hm
      exact ⟨k, Nat.le_of_lt_succ (List.mem_range.mp hk), e⟩
    · rcases List.mem_cons.mp hx with rfl | hx
      · exact List.mem_range.mpr (Nat.lt_succ_of_le hj)
      · obtain ⟨k, _, rfl⟩ := List.mem_map.mp hx
        exact List.mem_range.mpr (Nat.lt_succ_of_le (lt _))
  obtain ⟨a, _, ea⟩ := onto 0 i hi
  rw [Nat.zero_add] at ea
  obtain ⟨k, hk, e⟩ := onto a j hj
  exact ⟨k, hk, by rw [← ea, lcgN_add]; exact e⟩
/-- the n-th run begins at slot j, for some n -/
theorem run_at {m : Nat} (hm : MG m) (h : Int) {j : Nat} (hj : j ≤ m) : ∃ n, n ≤ m + 12 ∧ runI m (SetTable.bits h) n = j := by
  obtain ⟨k, hk, e⟩ := meets hm (runI_le m (SetTable.bits h) 12) hj
  exact ⟨12 + k, by omega, (runI_tail (bits_lt h) k).trans e⟩
theorem way_in (m : Nat) (h : Int) (k : Nat) : way m h k ≤ m := by
  have r := runEnd_bd (m := m) (i := SetTable.bits h % (m + 1)) (Nat.le_of_lt_succ (Nat.mod_lt _ (Nat.succ_pos m)))
  have := nth_in (m := m) k (runAt m (SetTable.bits h % (m + 1)) (SetTable.bits h)) (show SetTable.bits h % (m + 1) + (SetTable.runEnd m (SetTable.bits h % (m + 1)) - SetTable.bits h % (m + 1)) ≤ m by omega)
  show (nth m _ k).j ≤ m
  omega
end TG
namespace TG
open PySem PySem.Spec PyProof.Rows L2
structure TabG (t : SetTable) (hs : List Int) : Prop where
  ris : Ris t.place.toList
  dm : t.dummies = #[]
  sz : t.place.size = hs.length
  mok : MG t.mask
  bd : ∀ x ∈ t.place.toList, x ≤ t.mask
  reach : ∀ (i : Nat) (h : Int) (j : Nat), hs[i]? = some h → t.place.toList[i]? = some j → ∃ k, way t.mask h k = j ∧ ∀ q, q < k → way t.mask h q ∈ t.place.toList
section
variable {t : SetTable} {hs : List Int} {h : Int}
theorem TabG.len (T : TabG t hs) : t.place.toList.length = hs.length := by rw [Array.length_toList]; exact T.sz
end
/-- who sits where: the numbers of the hashes laid so far -/
structure Lay (m : Nat) (done : List Int) (owner : Array (Option Nat)) : Prop where
  sz : owner.size = m + 1
  why : ∀ j k, j ≤ m → oAt owner j = some k → ∃ h K, done[k]? = some h ∧ way m h K = j ∧ ∀ q, q < K → oAt owner (way m h q) ≠ none
  all : ∀ k, k < done.length → ∃ j, j ≤ m ∧ oAt owner j = some k
  one : ∀ j j' k, j ≤ m → j' ≤ m → oAt owner j = some k → oAt owner j' = some k → j = j'
section
variable {m : Nat} {done : List Int} {owner : Array (Option Nat)}
theorem Lay.start (m : Nat) : Lay m [] (Array.replicate (m + 1) none) :=
  ⟨by simp, fun j k hj e => by rw [oAt_init hj] at e; (cases e), fun k hk => absurd hk (Nat.not_lt_zero k), fun j _ k hj _ e _ => by rw [oAt_init hj] at e; (cases e)⟩
theorem Lay.room (W : Lay m done owner) (hl : done.length ≤ m) : ∃ j, j ≤ m ∧ oAt owner j = none := by
  refine Classical.byContradiction fun no => ?_
  have occ : ∀ j, j ≤ m → ∃ k, oAt owner j = some k := fun j hj => by
    cases e : oAt owner j with
    | none => exact absurd ⟨j, hj, e⟩ no
    | some k => exact ⟨k, rfl⟩
  have h1 := nat_nodup_len ((List.range (m + 1)).map fun j => (oAt owner j).getD 0) (List.range done.length) (List.pairwise_map.mpr (List.Pairwise.imp_of_mem (fun {x y} hx hy hxy e => ?_) (List.pairwise_lt_range (n := m + 1)))) fun k hk => ?_
  · rw [List.length_map, List.length_range, List.length_range] at h1
    omega
  · have hx' := Nat.le_of_lt_succ (List.mem_range.mp hx)
    have hy' := Nat.le_of_lt_succ (List.mem_range.mp hy)
    obtain ⟨a, ea⟩ := occ x hx'
    obtain ⟨b, eb⟩ := occ y hy'
    rw [ea, eb] at e
    have e' : a = b := e
    subst e'
    have := W.one x y a hx' hy' ea eb
    omega
  · obtain ⟨j, hj, rfl⟩ := List.mem_map.mp hk
    have hj' := Nat.le_of_lt_succ (List.mem_range.mp hj)
    obtain ⟨a, ea⟩ := occ j hj'
    obtain ⟨h, K, q1, _⟩ := W.why j a hj' ea
    rw [ea]
    exact List.mem_range.mpr (List.getElem?_eq_some_iff.mp q1).1
/-- the search for a free slot ends at the first one of the way -/
theorem free_at (hm : MG m) (h : Int) {j : Nat} (hj : j ≤ m) (hf : oAt owner j = none) :
    ∃ K, SetTable.layClean.free m owner (SetTable.turns m) (SetTable.bits h % (m + 1)) (SetTable.bits h) = some (way m h K) ∧ oAt owner (way m h K) = none ∧ ∀ q, q < K → oAt owner (way m h q) ≠ none := by
  obtain ⟨n, hn, e⟩ := run_at hm h hj
  have ew : way m h (off m (SetTable.bits h % (m + 1)) (SetTable.bits h) n) = j := by
    show (nth m _ _).j = j
    rw [nth_off, itL_run]
    exact e
  obtain ⟨K, k1, k2, k3⟩ := st_least (p := fun k => oAt owner (way m h k) = none) (off m (SetTable.bits h % (m + 1)) (SetTable.bits h) n) (by rw [ew]; exact hf)
  refine ⟨K, free_spec m owner (SetTable.turns m) n _ _ K (by unfold SetTable.turns; omega) k1 (fun q hq => ?_) (by rw [show oAt owner (nth m _ K).j = none from k2]; rfl), k2, k3⟩
  cases z : oAt owner (nth m (runAt m (SetTable.bits h % (m + 1)) (SetTable.bits h)) q).j with
  | none => exact absurd z (k3 q hq)
  | some _ => rfl
theorem Lay.next (hm : MG m) (W : Lay m done owner) (hl : done.length ≤ m) (h : Int) :
    ∃ j, SetTable.layClean.free m owner (SetTable.turns m) (SetTable.bits h % (m + 1)) (SetTable.bits h) = some j ∧ Lay m (done ++ [h]) (owner.setIfInBounds j (some done.length)) := by
  obtain ⟨j0, hj0, e0⟩ := W.room hl
  obtain ⟨K, e1, e2, e3⟩ := free_at hm h hj0 e0
  obtain ⟨j, ej⟩ : ∃ j, way m h K = j := ⟨_, rfl⟩
  rw [ej] at e1 e2
  have hjm : j ≤ m := ej ▸ way_in m h K
  have self : oAt (owner.setIfInBounds j (some done.length)) j = some done.length := oAt_set_self _ (by rw [W.sz]; omega)
  have kept : ∀ {i : Nat}, oAt owner i ≠ none → oAt (owner.setIfInBounds j (some done.length)) i = oAt owner i := fun {i} hi => oAt_set_ne _ fun z => hi (by rw [z]; exact e2)
  have kept' : ∀ {i : Nat}, oAt owner i ≠ none → oAt (owner.setIfInBounds j (some done.length)) i ≠ none := fun {i} hi => by rw [kept hi]; exact hi
  have short : ∀ {i k : Nat}, i ≤ m → oAt owner i = some k → k < done.length := fun {i k} hi e => by
    obtain ⟨_, _, q, _⟩ := W.why i k hi e
    exact (List.getElem?_eq_some_iff.mp q).1
  have split : ∀ {i k : Nat}, oAt (owner.setIfInBounds j (some done.length)) i = some k → (i = j ∧ k = done.length) ∨ (i ≠ j ∧ oAt owner i = some k) := fun {i k} e => by
    by_cases c : i = j
    · rw [c, self] at e
      exact .inl ⟨c, (Option.some.inj e).symm⟩
    · rw [oAt_set_ne _ c] at e
      exact .inr ⟨c, e⟩
  refine ⟨j, e1, by rw [Array.size_setIfInBounds]; exact W.sz, fun i k hi e => ?_, fun k hk => ?_, fun i i' k hi hi' e e' => ?_⟩
  · rcases split e with ⟨rfl, rfl⟩ | ⟨_, e⟩
    · exact ⟨h, K, by rw [List.getElem?_append_right (Nat.le_refl _), Nat.sub_self]; rfl, ej, fun q hq => kept' (e3 q hq)⟩
    · obtain ⟨g, Q, a1, a2, a3⟩ := W.why i k hi e
      exact ⟨g, Q, by rw [List.getElem?_append_left (short hi e)]; exact a1, a2, fun q hq => kept' (a3 q hq)⟩
  · rw [List.length_append, List.length_singleton] at hk
    by_cases c : k = done.length
    · exact ⟨j, hjm, by rw [c]; exact self⟩
    · obtain ⟨i, hi, e⟩ := W.all k (by omega)
      exact ⟨i, hi, by rw [kept (by rw [e]; exact fun z => nomatch z)]; exact e⟩
  · rcases split e with ⟨rfl, rfl⟩ | ⟨_, e⟩
    · rcases split e' with ⟨rfl, _⟩ | ⟨_, e'⟩
      · rfl
      · exact absurd (short hi' e') (Nat.lt_irrefl _)
    · rcases split e' with ⟨_, rfl⟩ | ⟨_, e'⟩
      · exact absurd (short hi e) (Nat.lt_irrefl _)
      · exact W.one i i' k hi hi' e e'
end
end TG
namespace TG
open PySem PySem.Spec PyProof.Rows L2 HM
structure SetG (P : Program) (w : World) (h : Heap) (a : Addr) (L : List (Addr × List Int)) (es : Array (Int × Value)) (ep : Nat) (t : SetTable) : Prop where
  ob : ∃ o, h.get? a = some o ∧ o.ExactSet ∧ o.data = .set es ep t
  rows : es.toList = rowsOf P w L
  tab : TabG t (L.map fun p => thash P w p.2)
  nd : (L.map (·.2)).Nodup
  tup : ∀ p ∈ L, IsT P w h p.2 p.1
  plain : t.plain = true
  led : w.params.followText "set-order" = true ∨ t.led = true
  room : L.length * 5 < t.mask * 3
section
variable {P : Program} {w : World} {A : Around} {E : Value → Shared → Prop} {s : Shared} {a : Addr} {L : List (Addr × List Int)} {es : Array (Int × Value)} {ep : Nat} {t : SetTable}
/-- what the heap has of the set, its tuples left out -/
structure SetG0 (P : Program) (w : World) (h : Heap) (a : Addr) (L : List (Addr × List Int)) : Prop where
  ex : ∃ (es : Array (Int × Value)) (ep : Nat) (t : SetTable), (∃ o, h.get? a = some o ∧ o.ExactSet ∧ o.data = .set es ep t) ∧ es.toList = rowsOf P w L ∧ TabG t (L.map fun p => thash P w p.2) ∧ (L.map (·.2)).Nodup ∧ t.plain = true ∧
    (w.params.followText "set-order" = true ∨ t.led = true) ∧ L.length * 5 < t.mask * 3
theorem SetG.type (R : SetG P w s.heap a L es ep t) : s.TypeIs (.ref a) "set" := let ⟨o, g1, g2, _⟩ := R.ob; ⟨o, g1, g2.1⟩
end
/-- the set as a thing of the heap -/
def SetGO (P : Program) (w : World) (a : Addr) (L : List (Addr × List Int)) : HO := .ext fun h => SetG0 P w h a L
theorem SetG0.ok {P : Program} {w : World} {H : Hp} {h : Heap} {a : Addr} {L : List (Addr × List Int)} (R : SetG0 P w h a L) : ObjOk P w H h a (SetGO P w a L) := by
  have ⟨es, ep, t, ⟨o, ho, r⟩, q⟩ := R.ex
  refine ⟨R, ⟨o, ho⟩, fun h1 h2 p k => ?_⟩
  have ⟨es', ep', t', ⟨o', ho', r'⟩, q'⟩ := SetG0.ex p
  exact ⟨es', ep', t', ⟨o', k o' ho', r'⟩, q'⟩
end TG
namespace VL
open PySem PySem.Spec PyProof.Rows L2 HM
inductive Dt where
  | non | bl (b : Bool) | int (i : Int) | str (x : Str) | ty (n : String) | obj (a : Addr)
  | lst (ds : List Dt) | tup (ds : List Dt)
  | dic (ks : List (List Key)) (ds : List Dt) | dik (ks : List Key) (ds : List Dt)
  /-- a tuple whose object has no dict of its own -/
  | tuP (ds : List Dt)
mutual
inductive Rp (F : Hp) : V → Dt → Prop
  | non : Rp F .non .non
  | bl (b : Bool) : Rp F (.bl b) (.bl b)
  | int (i : Int) : Rp F (.int i) (.int i)
  | str (x : Str) : Rp F (.str x) (.str x)
  | ty (n : String) : Rp F (.ty n) (.ty n)
  | obj (a : Addr) : Rp F (.ref a) (.obj a)
  | lst {a : Addr} {xs : List V} {ds : List Dt} : F a = some (.lst xs) → Rps F xs ds → Rp F (.ref a) (.lst ds)
  | tup {a : Addr} {xs : List V} {ds : List Dt} : F a = some (.tup xs) → Rps F xs ds → Rp F (.ref a) (.tup ds)
  | dic {a : Addr} {od : Obj} {kvs : List (List Key × V)} {ks : List (List Key)} {ds : List Dt} : F a = some (.frz od (.dT kvs)) → kvs.map (·.1) = ks → Rps F (kvs.map (·.2)) ds → Rp F (.ref a) (.dic ks ds)
  | dik {a : Addr} {od : Obj} {kvs : List (Key × V)} {ks : List Key} {ds : List Dt} : F a = some (.frz od (.dK kvs)) → kvs.map (·.1) = ks → Rps F (kvs.map (·.2)) ds → Rp F (.ref a) (.dik ks ds)
  | tuP {a : Addr} {xs : List V} {ds : List Dt} : HM.TF F a xs → Rps F xs ds → Rp F (.ref a) (.tuP ds)
inductive Rps (F : Hp) : List V → List Dt → Prop
  | nil : Rps F [] []
  | cons {v : V} {vs : List V} {d : Dt} {ds : List Dt} : Rp F v d → Rps F vs ds → Rps F (v :: vs) (d :: ds)
end
/-- all of F is in F' -/
def Up (F F' : Hp) : Prop := ∀ a o, F a = some o → F' a = some o
theorem Up.refl (F : Hp) : Up F F := fun _ _ e => e
theorem Up.trans {a b c : Hp} (x : Up a b) (y : Up b c) : Up a c := fun q o e => y q o (x q o e)
theorem up_lay {H : Hp} {q : Addr} {o : HO} (n : H q = none) : Up H (upd H q o) := fun b u e => by rw [upd_ne (ne_of_none e n)]; exact e
theorem tf_up {F F' : Hp} {a : Addr} {xs : List V} (h : HM.TF F a xs) (u : Up F F') : HM.TF F' a xs := let ⟨o, hd, e⟩ := h; ⟨o, hd, u _ _ e⟩
mutual
theorem Rp.up {F F' : Hp} (u : Up F F') : ∀ {v : V} {d : Dt}, Rp F v d → Rp F' v d
  | _, _, .non => .non
  | _, _, .bl b => .bl b
  | _, _, .int i => .int i
  | _, _, .str x => .str x
  | _, _, .ty x => .ty x
  | _, _, .obj x => .obj x
  | _, _, .lst h t => .lst (u _ _ h) (Rps.up u t)
  | _, _, .tup h t => .tup (u _ _ h) (Rps.up u t)
  | _, _, .dic h e t => .dic (u _ _ h) e (Rps.up u t)
  | _, _, .dik h e t => .dik (u _ _ h) e (Rps.up u t)
  | _, _, .tuP h t => .tuP (tf_up h u) (Rps.up u t)
theorem Rps.up {F F' : Hp} (u : Up F F') : ∀ {v : List V} {d : List Dt}, Rps F v d → Rps F' v d
  | _, _, .nil => .nil
  | _, _, .cons h t => .cons (Rp.up u h) (Rps.up u t)
end
mutual
/-- no lists in it -/
def flat : Dt → Bool
  | .lst _ => false
  | .tup ds => flats ds
  | .dic _ _ => false
  | .dik _ _ => false
  | .tuP _ => false
  | _ => true
def flats : List Dt → Bool
  | [] => true
  | d :: ds => flat d && flats ds
end
mutual
theorem Rp.flat {F F' : Hp} (u : ∀ a xs, F a = some (.tup xs) → F' a = some (.tup xs)) : ∀ {v : V} {d : Dt}, Rp F v d → flat d = true → Rp F' v d
  | _, _, .non, _ => .non
  | _, _, .bl b, _ => .bl b
  | _, _, .int i, _ => .int i
  | _, _, .str x, _ => .str x
  | _, _, .ty x, _ => .ty x
  | _, _, .obj x, _ => .obj x
  | _, _, .lst h t, e => by simp [VL.flat] at e
  | _, _, .tup h t, e => .tup (u _ _ h) (Rps.flat u t (by simpa [VL.flat] using e))
  | _, _, .dic h _ t, e => by simp [VL.flat] at e
  | _, _, .dik h _ t, e => by simp [VL.flat] at e
  | _, _, .tuP h t, e => by simp [VL.flat] at e
theorem Rps.flat {F F' : Hp} (u : ∀ a xs, F a = some (.tup xs) → F' a = some (.tup xs)) : ∀ {v : List V} {d : List Dt}, Rps F v d → flats d = true → Rps F' v d
  | _, _, .nil, _ => .nil
  | _, d :: ds, .cons h t, e => by
    have e' : (VL.flat d && flats ds) = true := by simpa [flats] using e
    rw [Bool.and_eq_true] at e'
    exact .cons (Rp.flat u h e'.1) (Rps.flat u t e'.2)
end
theorem Rps.len {F : Hp} : ∀ {vs : List V} {ds : List Dt}, Rps F vs ds → vs.length = ds.length
  | _, _, .nil => rfl
  | _, _, .cons _ t => by rw [List.length_cons, List.length_cons, Rps.len t]
theorem Rps.get {F : Hp} : ∀ {vs : List V} {ds : List Dt} {i : Nat} {d : Dt}, Rps F vs ds → ds[i]? = some d → ∃ v, vs[i]? = some v ∧ Rp F v d
  | _, _, _, _, .nil, e => by simp at e
  | _, _, 0, _, .cons r _, e => by simp at e; subst e; exact ⟨_, rfl, r⟩
  | _, _, i + 1, d, .cons _ t, e => by
    obtain ⟨u, h1, h2⟩ := Rps.get (i := i) (d := d) t (by simpa using e)
    exact ⟨u, by simpa using h1, h2⟩
theorem Rps.append {F : Hp} : ∀ {vs ws : List V} {ds es : List Dt}, Rps F vs ds → Rps F ws es → Rps F (vs ++ ws) (ds ++ es)
  | _, _, _, _, .nil, s => s
  | _, _, _, _, .cons r t, s => .cons r (Rps.append t s)
theorem Rps.set {F : Hp} {v : V} {d : Dt} (r : Rp F v d) : ∀ {vs : List V} {ds : List Dt} (i : Nat), Rps F vs ds → Rps F (vs.set i v) (ds.set i d)
  | _, _, _, .nil => .nil
  | _, _, 0, .cons _ t => .cons r t
  | _, _, i + 1, .cons q t => .cons q (Rps.set r i t)
theorem Rps.erase {F : Hp} : ∀ {vs : List V} {ds : List Dt} (i : Nat), Rps F vs ds → Rps F (vs.eraseIdx i) (ds.eraseIdx i)
  | _, _, _, .nil => .nil
  | _, _, 0, .cons _ t => t
  | _, _, i + 1, .cons q t => .cons q (Rps.erase i t)
theorem Rps.dropLast {F : Hp} : ∀ {vs : List V} {ds : List Dt}, Rps F vs ds → Rps F vs.dropLast ds.dropLast
  | _, _, .nil => .nil
  | _, _, .cons _ .nil => .nil
  | _, _, .cons q (.cons r t) => .cons q (Rps.dropLast (.cons r t))
theorem Rps.take {F : Hp} : ∀ {vs : List V} {ds : List Dt} (i : Nat), Rps F vs ds → Rps F (vs.take i) (ds.take i)
  | _, _, 0, _ => .nil
  | _, _, _ + 1, .nil => .nil
  | _, _, i + 1, .cons q t => .cons q (Rps.take i t)
theorem Rps.drop {F : Hp} : ∀ {vs : List V} {ds : List Dt} (i : Nat), Rps F vs ds → Rps F (vs.drop i) (ds.drop i)
  | _, _, 0, r => r
  | _, _, _ + 1, .nil => .nil
  | _, _, i + 1, .cons q t => Rps.drop i t
theorem Rps.ints {F : Hp} : ∀ (ns : List Int), Rps F (ns.map V.int) (ns.map Dt.int)
  | [] => .nil
  | n :: ns => .cons (.int n) (Rps.ints ns)
theorem Rps.of_ints {F : Hp} : ∀ {vs : List V} {ns : List Int}, Rps F vs (ns.map Dt.int) → vs = ns.map V.int
  | _, [], .nil => rfl
  | _, n :: ns, .cons (.int _) t => by rw [List.map_cons, Rps.of_ints t]
/-- a thing that only its slot holds, and that may be written -/
inductive Con where
  | lst (ds : List Dt)
  | dK (kvs : List (Key × Dt))
  | dT (kvs : List (List Key × Dt))
  | set (w : World) (S : Int → Bool) (n : Nat)
  | setT (P : Program) (w : World) (ks : List (List Int))
inductive Sl where
  | no | fz (d : Dt) | ow (c : Con)
abbrev Ev := List Sl
def PrK {κ : Type} (F : Hp) : List (κ × V) → List (κ × Dt) → Prop := Paired fun (p : κ × V) (q : κ × Dt) => p.1 = q.1 ∧ Rp F p.2 q.2
def OwOk (F : Hp) (a : Addr) (o : HO) : Con → Prop
  | .lst ds => ∃ xs, o = .lst xs ∧ Rps F xs ds
  | .dK kvs => ∃ ks, o = .dK ks ∧ PrK F ks kvs
  | .dT kvs => ∃ ks, o = .dT ks ∧ PrK F ks kvs
  | .set w S n => o = SetO w a S n
  | .setT P w ks => ∃ L : List (Addr × List Int), o = TG.SetGO P w a L ∧ (L.map (·.2)).Perm ks ∧ ∀ p ∈ L, F p.1 = some (.tup (p.2.map V.int))
theorem PrK.up {κ : Type} {F F' : Hp} {a : List (κ × V)} {b : List (κ × Dt)} (u : Up F F') (h : PrK F a b) : PrK F' a b := Paired.mapP h fun _ _ z => ⟨z.1, z.2.up u⟩
theorem OwOk.up {F F' : Hp} {a : Addr} {o : HO} (u : Up F F') : ∀ {c : Con}, OwOk F a o c → OwOk F' a o c
  | .lst _, ⟨xs, e, r⟩ => ⟨xs, e, r.up u⟩
  | .dK _, ⟨ks, e, r⟩ => ⟨ks, e, PrK.up u r⟩
  | .dT _, ⟨ks, e, r⟩ => ⟨ks, e, PrK.up u r⟩
  | .set _ _ _, e => e
  | .setT _ _ _, ⟨L, e, h, r⟩ => ⟨L, e, h, fun p hp => u _ _ (r p hp)⟩
/-- no tuple -/
def NT (o : HO) : Prop := ∀ xs, o ≠ .tup xs
theorem OwOk.nt {F : Hp} {a : Addr} {o : HO} : ∀ {c : Con}, OwOk F a o c → NT o
  | .lst _, ⟨_, e, _⟩, _, z => by rw [e] at z; cases z
  | .dK _, ⟨_, e, _⟩, _, z => by rw [e] at z; cases z
  | .dT _, ⟨_, e, _⟩, _, z => by rw [e] at z; cases z
  | .set _ _ _, e, _, z => by
    have e' : o = SetO _ _ _ _ := e
    rw [e'] at z; cases z
  | .setT _ _ _, ⟨_, e, _⟩, _, z => by rw [e] at z; cases z
/-- code objects are kept -/
def CodeK (H H' : Hp) : Prop := ∀ b oc x, H b = some (.frz oc (.own x)) → H' b = H b
theorem codeK_upd {H : Hp} {p : Addr} {o : HO} (h : ∀ oc x, H p ≠ some (.frz oc (.own x))) : CodeK H (upd H p o) := fun b oc x e => upd_ne fun z => h oc x (z ▸ e)
theorem OwOk.nfrz {F : Hp} {a : Addr} {o : HO} : ∀ {c : Con}, OwOk F a o c → ∀ oc x, o ≠ .frz oc (.own x)
  | .lst _, ⟨_, e, _⟩, _, _, z => by rw [e] at z; cases z
  | .dK _, ⟨_, e, _⟩, _, _, z => by rw [e] at z; cases z
  | .dT _, ⟨_, e, _⟩, _, _, z => by rw [e] at z; cases z
  | .set _ _ _, e, _, _, z => by
    have e' : o = SetO _ _ _ _ := e
    rw [e'] at z; cases z
  | .setT _ _ _, ⟨_, e, _⟩, _, _, z => by rw [e] at z; cases z
/-- what runs along: the pen, the tables of generators -/
structure Am where
  sp : Addr → Prop
  ok : Nat → Hp → Prop
  trk : ∀ {n H a}, ok n H → sp a → H a ≠ none
  ntp : ∀ {n H a xs}, ok n H → sp a → H a ≠ some (.tup xs)
  mono : ∀ {n H H'}, ok n H → (∀ b, sp b → H' b = H b) → CodeK H H' → ok n H'
/-- where a def was entered: what was still, what stood -/
structure Fc where
  am : Am
  F0 : Hp
  H0 : Hp
def SlOk (c : Fc) (F H : Hp) (x : Option (Option V)) : Sl → Prop
  | .no => True
  | .fz d => ∃ v, x = some (some v) ∧ Rp F v d
  | .ow k => ∃ a o, x = some (some (.ref a)) ∧ F a = none ∧ c.H0 a = none ∧ ¬ c.am.sp a ∧ H a = some o ∧ OwOk F a o k
structure Rel (c : Fc) (F H : Hp) (σ : L2.St) (env : Ev) (n : Nat) : Prop where
  sub : Up F H
  spf : ∀ a, c.am.sp a → F a = none
  amb : c.am.ok n H
  up0 : Up c.F0 F
  out0 : ∀ a o, c.H0 a = some o → NT o → c.F0 a = none → F a = none
  keep0 : ∀ a o, c.H0 a = some o → ¬ c.am.sp a → H a = some o
  len : σ.length = env.length
  sl : ∀ (i : Nat) (s : Sl), env[i]? = some s → SlOk c F H σ[i]? s
  apart : ∀ (i j : Nat) (a : Addr) (k k' : Con), i ≠ j → env[i]? = some (.ow k) → env[j]? = some (.ow k') → σ[i]? = some (some (.ref a)) → σ[j]? ≠ some (some (.ref a))
section
variable {c : Fc} {F H : Hp} {σ : L2.St} {env : Ev} {n : Nat} {p a : Addr} {o : HO}
theorem Rel.new0 (r : Rel c F H σ env n) (hp : H p = none) : c.H0 p = none ∧ ¬ c.am.sp p ∧ F p = none := by
  have h2 : ¬ c.am.sp p := fun z => c.am.trk r.amb z hp
  refine ⟨?_, h2, ?_⟩
  · cases e : c.H0 p with
    | none => rfl
    | some o => rw [r.keep0 p o e h2] at hp; cases hp
  · cases e : F p with
    | none => rfl
    | some o => rw [r.sub p o e] at hp; cases hp
theorem Rel.amb' (r : Rel c F H σ env n) {H' : Hp} (h : ∀ b, c.am.sp b → H' b = H b) (hc : CodeK H H') : c.am.ok n H' := c.am.mono r.amb h hc
theorem SlOk.up {F' H' : Hp} {x : Option (Option V)} (u : Up F F') (k : ∀ a o, F a = none → H a = some o → c.H0 a = none → ¬ c.am.sp a → F' a = none ∧ H' a = some o) : ∀ {s : Sl}, SlOk c F H x s → SlOk c F' H' x s
  | .no, _ => trivial
  | .fz _, ⟨v, e, r⟩ => ⟨v, e, r.up u⟩
  | .ow _, ⟨a, o, e, f, h0, ns, h, w⟩ => ⟨a, o, e, (k a o f h h0 ns).1, h0, ns, (k a o f h h0 ns).2, w.up u⟩
/-- a new thing, not still -/
theorem Rel.lay (r : Rel c F H σ env n) (hp : H p = none) (o : HO) : Rel c F (upd H p o) σ env n := by
  obtain ⟨h0, ns, hf⟩ := r.new0 hp
  exact ⟨fun b u e => up_lay hp b u (r.sub b u e), r.spf, r.amb' (fun b hb => upd_ne fun z => ns (z ▸ hb)) (codeK_upd fun _ _ z => by rw [hp] at z; cases z), r.up0, r.out0, fun b u e nb => up_lay hp b u (r.keep0 b u e nb), r.len,
    fun i s e => (r.sl i s e).up (Up.refl F) fun b u fb hb _ _ => ⟨fb, up_lay hp b u hb⟩, r.apart⟩
/-- a new thing, still from now on -/
theorem Rel.layF (r : Rel c F H σ env n) (hp : H p = none) (o : HO) : Rel c (upd F p o) (upd H p o) σ env n := by
  obtain ⟨h0, ns, hf⟩ := r.new0 hp
  have r2 := r.lay hp o
  refine ⟨fun b u e => ?_, fun b hb => ?_, r2.amb, r.up0.trans (up_lay hf), fun b ob h1 nt h2 => ?_, r2.keep0, r.len, fun i s e => (r.sl i s e).up (up_lay hf) fun b u fb hb h0 nb => ?_, r.apart⟩
  · by_cases z : b = p
    · subst z; rw [upd_same] at e ⊢; exact e
    · rw [upd_ne z] at e ⊢; exact r.sub b u e
  · rw [upd_ne (fun (z : b = _) => ns (by rw [← z]; exact hb))]; exact r.spf b hb
  · rw [upd_ne (fun (z : b = _) => by rw [z, h0] at h1; cases h1)]; exact r.out0 b ob h1 nt h2
  · have z : b ≠ p := fun z => by rw [z, hp] at hb; cases hb
    rw [upd_ne z, upd_ne z]
    exact ⟨fb, hb⟩
/-- what is still may grow by what stands nowhere -/
theorem Rel.setF {v : V} {d : Dt} {i : Nat} (r : Rel c F H σ env n) (h : Rp F v d) : Rel c F H (σ.set i (some v)) (env.set i (.fz d)) n := by
  refine ⟨r.sub, r.spf, r.amb, r.up0, r.out0, r.keep0, by rw [List.length_set, List.length_set]; exact r.len, fun j s e => ?_, fun j l b k k' hjl e1 e2 e3 => ?_⟩
  · by_cases z : j = i
    · subst z
      have hl : j < env.length := by
        have := (List.getElem?_eq_some_iff.mp e).1
        rwa [List.length_set] at this
      rw [List.getElem?_set_self hl] at e
      cases e
      exact ⟨v, by rw [List.getElem?_set_self (by rw [r.len]; exact hl)], h⟩
    · rw [List.getElem?_set_ne (Ne.symm z)] at e ⊢
      exact r.sl j s e
  · have f : ∀ {j : Nat} {k : Con}, (env.set i (.fz d))[j]? = some (.ow k) → j ≠ i ∧ env[j]? = some (.ow k) := fun {j k} e => by
      by_cases z : j = i
      · subst z
        have hl : j < env.length := by
          have := (List.getElem?_eq_some_iff.mp e).1
          rwa [List.length_set] at this
        rw [List.getElem?_set_self hl] at e
        cases e
      · rw [List.getElem?_set_ne (Ne.symm z)] at e
        exact ⟨z, e⟩
    obtain ⟨n1, f1⟩ := f e1
    obtain ⟨n2, f2⟩ := f e2
    rw [List.getElem?_set_ne (Ne.symm n1)] at e3
    rw [List.getElem?_set_ne (Ne.symm n2)]
    exact r.apart j l b k k' hjl f1 f2 e3
/-- a new thing goes to its own slot -/
theorem Rel.setO {k : Con} {i : Nat} (r : Rel c F H σ env n) (hF : F a = none) (h0 : c.H0 a = none) (ns : ¬ c.am.sp a) (hH : H a = some o) (w : OwOk F a o k) (ha : ∀ (j : Nat) k', env[j]? = some (.ow k') → σ[j]? ≠ some (some (.ref a))) : Rel c F H (σ.set i (some (.ref a))) (env.set i (.ow k)) n := by
  refine ⟨r.sub, r.spf, r.amb, r.up0, r.out0, r.keep0, by rw [List.length_set, List.length_set]; exact r.len, fun j s e => ?_, fun j l b k1 k2 hjl e1 e2 e3 => ?_⟩
  · by_cases z : j = i
    · subst z
      have hl : j < env.length := by
        have := (List.getElem?_eq_some_iff.mp e).1
        rwa [List.length_set] at this
      rw [List.getElem?_set_self hl] at e
      cases e
      exact ⟨a, o, by rw [List.getElem?_set_self (by rw [r.len]; exact hl)], hF, h0, ns, hH, w⟩
    · rw [List.getElem?_set_ne (Ne.symm z)] at e ⊢
      exact r.sl j s e
  · by_cases zj : j = i
    · subst zj
      have hl : j < env.length := by
        have := (List.getElem?_eq_some_iff.mp e1).1
        rwa [List.length_set] at this
      rw [List.getElem?_set_self (by rw [r.len]; exact hl)] at e3
      cases e3
      rw [List.getElem?_set_ne hjl] at e2 ⊢
      exact ha l k2 e2
    · rw [List.getElem?_set_ne (Ne.symm zj)] at e1 e3
      by_cases zl : l = i
      · subst zl
        have hl : l < env.length := by
          have := (List.getElem?_eq_some_iff.mp e2).1
          rwa [List.length_set] at this
        rw [List.getElem?_set_self (by rw [r.len]; exact hl)]
        intro z
        cases z
        exact ha j k1 e1 e3
      · rw [List.getElem?_set_ne (Ne.symm zl)] at e2 ⊢
        exact r.apart j l b k1 k2 hjl e1 e2 e3
/-- the thing of a slot is written -/
theorem Rel.write {k k' : Con} {o' : HO} {i : Nat} (r : Rel c F H σ env n) (hi : env[i]? = some (.ow k)) (ha : σ[i]? = some (some (.ref a))) (w : OwOk F a o' k') : Rel c F (upd H a o') σ (env.set i (.ow k')) n := by
  obtain ⟨a', o, e1, hF, h0, ns, hH, wo⟩ := r.sl i _ hi
  rw [ha] at e1
  cases e1
  refine ⟨fun b u e => ?_, r.spf, r.amb' (fun b hb => upd_ne fun z => ns (z ▸ hb)) (codeK_upd fun oc x z => wo.nfrz oc x (by rw [hH] at z; exact Option.some.inj z)), r.up0, r.out0, fun b u e nb => ?_, by rw [List.length_set]; exact r.len, fun j s e => ?_, fun j l b k1 k2 hjl e1 e2 e3 => ?_⟩
  · rw [upd_ne fun z => by rw [z, hF] at e; cases e]; exact r.sub b u e
  · rw [upd_ne fun z => by rw [z, h0] at e; cases e]; exact r.keep0 b u e nb
  · by_cases z : j = i
    · subst z
      rw [List.getElem?_set_self (List.getElem?_eq_some_iff.mp hi).1] at e
      cases e
      exact ⟨a, o', ha, hF, h0, ns, upd_same, w⟩
    · rw [List.getElem?_set_ne (Ne.symm z)] at e
      have q := r.sl j s e
      cases s with
      | no => trivial
      | fz d => exact q
      | ow kk =>
        obtain ⟨a2, o2, g1, g2, g3, g4, g5, g6⟩ := q
        refine ⟨a2, o2, g1, g2, g3, g4, ?_, g6⟩
        rw [upd_ne fun z2 => r.apart i j a k kk (Ne.symm z) hi e ha (by rw [g1, z2])]
        exact g5
  · have f : ∀ {j : Nat} {k1 : Con}, (env.set i (.ow k'))[j]? = some (.ow k1) → ∃ k2, env[j]? = some (.ow k2) := fun {j k1} e => by
      by_cases z : j = i
      · exact ⟨k, z ▸ hi⟩
      · rw [List.getElem?_set_ne (Ne.symm z)] at e
        exact ⟨_, e⟩
    obtain ⟨_, f1⟩ := f e1
    obtain ⟨_, f2⟩ := f e2
    exact r.apart j l b _ _ hjl f1 f2 e3
/-- slots may be forgotten -/
theorem Rel.weak {σ' : L2.St} {env' : Ev} (r : Rel c F H σ env n) (hl : σ'.length = env'.length) (h : ∀ (i : Nat) s, env'[i]? = some s → s = .no ∨ (env[i]? = some s ∧ σ'[i]? = σ[i]?)) : Rel c F H σ' env' n := by
  refine ⟨r.sub, r.spf, r.amb, r.up0, r.out0, r.keep0, hl, fun i s e => ?_, fun j l b k1 k2 hjl e1 e2 e3 => ?_⟩
  · rcases h i s e with rfl | ⟨h1, h2⟩
    · trivial
    · rw [h2]; exact r.sl i s h1
  · rcases h j _ e1 with z | ⟨h1, h2⟩
    · cases z
    · rcases h l _ e2 with z | ⟨h3, h4⟩
      · cases z
      · rw [h2] at e3
        rw [h4]
        exact r.apart j l b k1 k2 hjl h1 h3 e3
/-- behind a call that wrote nothing of ours -/
theorem Rel.call {F' H' : Hp} {n' : Nat} (r : Rel c F H σ env n) (u : Up F F') (sb : Up F' H') (sf : ∀ a, c.am.sp a → F' a = none) (ot : ∀ a o, H a = some o → NT o → F a = none → F' a = none) (kp : ∀ a o, H a = some o → ¬ c.am.sp a → H' a = some o) (am : c.am.ok n' H') : Rel c F' H' σ env n' := by
  refine ⟨sb, sf, am, r.up0.trans u, fun b ob h1 nt h2 => ?_, fun b o e nb => kp b o (r.keep0 b o e nb) nb, r.len, fun i s e => ?_, r.apart⟩
  · by_cases hs : c.am.sp b
    · exact sf b hs
    · exact ot b ob (r.keep0 b ob h1 hs) nt (r.out0 b ob h1 nt h2)
  · have q := r.sl i s e
    cases s with
    | no => trivial
    | fz d => exact let ⟨v, g1, g2⟩ := q; ⟨v, g1, g2.up u⟩
    | ow k =>
      obtain ⟨a, o, g1, g2, g3, g4, g5, g6⟩ := q
      exact ⟨a, o, g1, ot a o g5 g6.nt g2, g3, g4, kp a o g5 g4, g6.up u⟩
/-- a tuple that stands may be held still -/
theorem Rel.addT {xs : List V} (r : Rel c F H σ env n) (h : H a = some (.tup xs)) : Rel c (upd F a (.tup xs)) H σ env n ∧ Up F (upd F a (.tup xs)) := by
  have up : Up F (upd F a (.tup xs)) := fun b o e => by
    by_cases z : b = a
    · subst z
      rw [r.sub _ _ e] at h
      cases h
      exact upd_same
    · rw [upd_ne z]; exact e
  refine ⟨⟨fun b o e => ?_, fun b hb => ?_, r.amb, r.up0.trans up, fun b ob h1 nt h2 => ?_, r.keep0, r.len, fun i s e => ?_, r.apart⟩, up⟩
  · by_cases z : b = a
    · subst z; rw [upd_same] at e; cases e; exact h
    · rw [upd_ne z] at e; exact r.sub b o e
  · rw [upd_ne (fun (z : b = a) => c.am.ntp r.amb hb (by rw [z]; exact h))]; exact r.spf b hb
  · by_cases z : b = a
    · subst z
      by_cases hs : c.am.sp b
      · exact absurd h (c.am.ntp r.amb hs)
      · have := r.keep0 b ob h1 hs
        rw [h] at this
        cases this
        exact absurd rfl (nt xs)
    · rw [upd_ne z]; exact r.out0 b ob h1 nt h2
  · have q := r.sl i s e
    cases s with
    | no => trivial
    | fz d => exact let ⟨v, g1, g2⟩ := q; ⟨v, g1, g2.up up⟩
    | ow k =>
      obtain ⟨a2, o, g1, g2, g3, g4, g5, g6⟩ := q
      refine ⟨a2, o, g1, ?_, g3, g4, g5, g6.up up⟩
      rw [upd_ne fun z => by
        rw [z, h] at g5
        cases g5
        exact absurd rfl (g6.nt xs)]
      exact g2
end
end VL
namespace VL
open PySem PySem.Spec PyProof.Rows L2 HM
abbrev VTE := Ev → Nat → (Dt → Ev → Nat → Prop) → Prop
abbrev VTT := Ev → Nat → (Bool → Ev → Nat → Prop) → Prop
abbrev VTA := Ev → Nat → (List Dt → Ev → Nat → Prop) → Prop
abbrev VTN := Ev → Nat → (Con → Ev → Nat → Prop) → Prop
structure VEn where
  nx : Ev → Nat → Prop
  rt : Dt → Nat → Prop
  bk : Ev → Nat → Prop := fun _ _ => False
  ct : Ev → Nat → Prop := fun _ _ => False
abbrev VTS := VEn → Ev → Nat → Prop
abbrev VTG := Dt → Ev → Nat → (Ev → Nat → Prop) → Prop
abbrev VTGs := List Dt → Ev → Nat → (Ev → Nat → Prop) → Prop
abbrev VTI := Ev → Nat → (List Dt → Ev → Nat → Prop) → Prop
/-- a still value -/
def tOf (c : Fc) (te : VTE) : TE := fun σ H R => ∃ F env n Q, Rel c F H σ env n ∧ te env n Q ∧ ∀ v H' F' d env' n', Rel c F' H' σ env' n' → Up F F' → Rp F' v d → Q d env' n' → R v H'
/-- what is still, and some lists of one's own beside -/
structure Gx (c : Fc) (F H G : Hp) : Prop where
  u1 : Up F G
  u2 : Up G H
  sp : ∀ a, c.am.sp a → G a = none
  tp : ∀ a xs, G a = some (.tup xs) → F a = some (.tup xs)
theorem Rel.gx {c : Fc} {F H : Hp} {σ : L2.St} {env : Ev} {n : Nat} (r : Rel c F H σ env n) : Gx c F H F := ⟨Up.refl F, r.sub, r.spf, fun _ _ e => e⟩
/-- a value that is read at once -/
def rOf (c : Fc) (te : VTE) : TE := fun σ H R => ∃ F env n Q, Rel c F H σ env n ∧ te env n Q ∧ ∀ v H' F' G d env' n', Rel c F' H' σ env' n' → Up F F' → Gx c F' H' G → Rp G v d → Q d env' n' → R v H'
/-- a new thing -/
def nOf (c : Fc) (te : VTN) : TE := fun σ H R => ∃ F env n Q, Rel c F H σ env n ∧ te env n Q ∧ ∀ a o H' F' k env' n', Rel c F' H' σ env' n' → Up F F' → F' a = none → c.H0 a = none → ¬ c.am.sp a → H' a = some o → OwOk F' a o k → (∀ (j : Nat) k', env'[j]? = some (.ow k') → σ[j]? ≠ some (some (.ref a))) → Q k env' n' → R (.ref a) H'
def aOf (c : Fc) (ta : VTA) : TA := fun σ H R => ∃ F env n Q, Rel c F H σ env n ∧ ta env n Q ∧ ∀ vs H' F' ds env' n', Rel c F' H' σ env' n' → Up F F' → Rps F' vs ds → Q ds env' n' → R vs H'
def bOf (c : Fc) (ta : VTA) : TA := fun σ H R => ∃ F env n Q, Rel c F H σ env n ∧ ta env n Q ∧ ∀ vs H' F' G ds env' n', Rel c F' H' σ env' n' → Up F F' → Gx c F' H' G → Rps G vs ds → Q ds env' n' → R vs H'
def cOf (c : Fc) (tt : VTT) : TT := fun σ H R => ∃ F env n Q, Rel c F H σ env n ∧ tt env n Q ∧ ∀ b H' F' env' n', Rel c F' H' σ env' n' → Up F F' → Q b env' n' → R b H'
structure EnOk (c : Fc) (F : Hp) (V : VEn) (D : Ends) : Prop where
  nx : ∀ F' H' σ' env' n', Rel c F' H' σ' env' n' → Up F F' → V.nx env' n' → D.nx σ' H'
  rt : ∀ F' H' σ' env' n' v d, Rel c F' H' σ' env' n' → Up F F' → Rp F' v d → V.rt d n' → D.rt v H'
  bk : ∀ F' H' σ' env' n', Rel c F' H' σ' env' n' → Up F F' → V.bk env' n' → D.bk σ' H'
  ct : ∀ F' H' σ' env' n', Rel c F' H' σ' env' n' → Up F F' → V.ct env' n' → D.ct σ' H'
theorem EnOk.up {c : Fc} {F F' : Hp} {V : VEn} {D : Ends} (h : EnOk c F V D) (u : Up F F') : EnOk c F' V D :=
  ⟨fun F2 H' σ' env' n' r w => h.nx F2 H' σ' env' n' r (u.trans w), fun F2 H' σ' env' n' v d r w => h.rt F2 H' σ' env' n' v d r (u.trans w), fun F2 H' σ' env' n' r w => h.bk F2 H' σ' env' n' r (u.trans w), fun F2 H' σ' env' n' r w => h.ct F2 H' σ' env' n' r (u.trans w)⟩
def sOf (c : Fc) (ts : VTS) : TS := fun D σ H => ∃ F env n V, Rel c F H σ env n ∧ ts V env n ∧ EnOk c F V D
def gOf (c : Fc) (g : VTG) : TG := fun v σ H R => ∃ F env n d Q, Rel c F H σ env n ∧ Rp F v d ∧ g d env n Q ∧ ∀ σ' H' F' env' n', Rel c F' H' σ' env' n' → Up F F' → Q env' n' → R σ' H'
def gsOf (c : Fc) (g : VTGs) : TGs := fun vs σ H R => ∃ F env n ds Q, Rel c F H σ env n ∧ Rps F vs ds ∧ g ds env n Q ∧ ∀ σ' H' F' env' n', Rel c F' H' σ' env' n' → Up F F' → Q env' n' → R σ' H'
/-- what is walked: the things xs, one by one -/
def Wk (am : Am) (J : It) (F0 : Hp) (xs : List Dt) : Prop := ∀ (c : Fc), c.am = am → ∀ F H σ env n, Rel c F H σ env n → Up F0 F → ∀ i : Nat,
  (i < xs.length → J.go i H ∧ ∀ x H', J.yld i H x H' → ∃ F' d, Rel c F' H' σ env n ∧ Up F F' ∧ xs[i]? = some d ∧ Rp F' x d) ∧ (xs.length ≤ i → J.stop i H)
def iOf (c : Fc) (wi : VTI) : TI := fun σ H R => ∃ F env n Q, Rel c F H σ env n ∧ wi env n Q ∧ ∀ J H' F' xs env' n', Rel c F' H' σ env' n' → Up F F' → Wk c.am J F' xs → Q xs env' n' → R J H'
theorem PE.imp {X : Cx} {e : Expr} {t t' : TE} (h : PE X e t) (k : ∀ σ H R, t' σ H R → t σ H R) : PE X e t' := ⟨fun pins s σ H Q I q => h.run pins s σ H Q I (k _ _ _ q)⟩
theorem PT.imp {X : Cx} {e : Expr} {t t' : TT} (h : PT X e t) (k : ∀ σ H R, t' σ H R → t σ H R) : PT X e t' := ⟨fun pins s σ H Q I q => h.run pins s σ H Q I (k _ _ _ q)⟩
theorem PW.imp {X : Cx} {e : Expr} {t t' : TT} (h : PW X e t) (k : ∀ σ H R, t' σ H R → t σ H R) : PW X e t' := ⟨fun wh pins s σ H Q I q => h.run wh pins s σ H Q I (k _ _ _ q)⟩
theorem PA.imp {X : Cx} {e : List Expr} {t t' : TA} (h : PA X e t) (k : ∀ σ H R, t' σ H R → t σ H R) : PA X e t' := ⟨fun pos pins s σ H Q I q => h.run pos pins s σ H Q I (k _ _ _ q)⟩
theorem PS.imp {X : Cx} {e : Stmt} {t t' : TS} (h : PS X e t) (k : ∀ D σ H, t' D σ H → t D σ H) : PS X e t' := ⟨fun pins s σ H D I q => h.run pins s σ H D I (k _ _ _ q)⟩
theorem PSs.imp {X : Cx} {e : List Stmt} {t t' : TS} (h : PSs X e t) (k : ∀ D σ H, t' D σ H → t D σ H) : PSs X e t' := ⟨fun pins s σ H D I q => h.run pins s σ H D I (k _ _ _ q)⟩
theorem PG.imp {X : Cx} {e : Expr} {t t' : TG} (h : PG X e t) (k : ∀ v σ H R, t' v σ H R → t v σ H R) : PG X e t' := ⟨fun pins s σ H v u Q I r q => h.run pins s σ H v u Q I r (k _ _ _ _ q)⟩
theorem PGs.imp {X : Cx} {e : List Expr} {t t' : TGs} (h : PGs X e t) (k : ∀ v σ H R, t' v σ H R → t v σ H R) : PGs X e t' := ⟨fun pins s σ H v u Q I r q => h.run pins s σ H v u Q I r (k _ _ _ _ q)⟩
theorem PI.imp {X : Cx} {tg e : Expr} {t t' : TI} (h : PI X tg e t) (k : ∀ σ H R, t' σ H R → t σ H R) : PI X tg e t' := ⟨fun pins s σ H Q I q => h.run pins s σ H Q I (k _ _ _ q)⟩
section
variable {c : Fc} {X : Cx} {a b : Expr} {ta tb : VTE} {pos : Pos}
def vVar (i : Nat) : VTE := fun env n Q => ∃ d, env[i]? = some (.fz d) ∧ Q d env n
/-- a thing of one's own, or a still one, just read -/
def vRd (i : Nat) : VTE := fun env n Q => ∃ d, (env[i]? = some (.fz d) ∨ ∃ ds, env[i]? = some (.ow (.lst ds)) ∧ d = .lst ds) ∧ Q d env n
def vC (d : Dt) : VTE := fun env n Q => Q d env n
theorem tVar_of {i : Nat} {σ : L2.St} {H : Hp} {R : VK} (h : tOf c (vVar i) σ H R) : tVar i σ H R := by
  obtain ⟨F, env, n, Q, r, ⟨d, e, q⟩, k⟩ := h
  obtain ⟨v, e2, rp⟩ := r.sl i _ e
  exact ⟨v, e2, k v H F d env n r (Up.refl F) rp q⟩
theorem ve_var {i : Nat} {x : Str} (h : PE X (.Name x pos) (tVar i)) : PE X (.Name x pos) (tOf c (vVar i)) := PE.imp h fun _ _ _ => tVar_of
theorem Rel.rdOwn {F H : Hp} {σ : L2.St} {env : Ev} {n : Nat} {i : Nat} {ds : List Dt} (r : Rel c F H σ env n) (e : env[i]? = some (.ow (.lst ds))) : ∃ a xs, σ[i]? = some (some (.ref a)) ∧ H a = some (.lst xs) ∧ Rps F xs ds := by
  obtain ⟨a, o, e2, _, _, _, hH, xs, rfl, rx⟩ := r.sl i _ e
  exact ⟨a, xs, e2, hH, rx⟩
/-- a list of one's own beside what is still -/
theorem Gx.add {F H G : Hp} {σ : L2.St} {env : Ev} {n : Nat} {i : Nat} {ds : List Dt} (r : Rel c F H σ env n) (g : Gx c F H G) (e : env[i]? = some (.ow (.lst ds))) : ∃ a G', σ[i]? = some (some (.ref a)) ∧ Gx c F H G' ∧ Up G G' ∧ Rp G' (.ref a) (.lst ds) := by
  obtain ⟨a, o, e2, hF, h0, ns, hH, xs, rfl, rx⟩ := r.sl i _ e
  have up : Up G (upd G a (.lst xs)) := fun b u q => by
    by_cases z : b = a
    · subst z
      rw [g.u2 _ _ q] at hH
      cases hH
      exact upd_same
    · rw [upd_ne z]; exact q
  refine ⟨a, upd G a (.lst xs), e2, ⟨g.u1.trans up, fun b u q => ?_, fun b hb => ?_, fun b ys q => ?_⟩, up, .lst upd_same (rx.up (g.u1.trans up))⟩
  · by_cases z : b = a
    · subst z; rw [upd_same] at q; cases q; exact hH
    · rw [upd_ne z] at q; exact g.u2 b u q
  · rw [upd_ne (fun (z : b = a) => ns (by rw [← z]; exact hb))]; exact g.sp b hb
  · by_cases z : b = a
    · subst z; rw [upd_same] at q; cases q
    · rw [upd_ne z] at q; exact g.tp b ys q
theorem vr_var {i : Nat} {x : Str} (h : PE X (.Name x pos) (tVar i)) : PE X (.Name x pos) (rOf c (vRd i)) := PE.imp h fun σ H R ⟨F, env, n, Q, r, ⟨d, e, q⟩, k⟩ => by
  rcases e with e | ⟨ds, e, rfl⟩
  · obtain ⟨v, e2, rp⟩ := r.sl i _ e
    exact ⟨v, e2, k v H F F d env n r (Up.refl F) r.gx rp q⟩
  · obtain ⟨a, G, e2, g, _, rp⟩ := r.gx.add r e
    exact ⟨_, e2, k _ H F G _ env n r (Up.refl F) g rp q⟩
theorem vr_of {te : VTE} {e : Expr} (h : PE X e (tOf c te)) : PE X e (rOf c te) := PE.imp h fun σ H R ⟨F, env, n, Q, r, h, k⟩ => ⟨F, env, n, Q, r, h, fun v H' F' d env' n' r' u rp q => k v H' F' F' d env' n' r' u r'.gx rp q⟩
theorem ve_c {e : Expr} {v : V} {d : Dt} (h : PE X e (tC v)) (hd : ∀ F, Rp F v d) : PE X e (tOf c (vC d)) := PE.imp h fun σ H R ⟨F, env, n, Q, r, q, k⟩ => k v H F d env n r (Up.refl F) (hd F) q
theorem ve_int {i j} : PE X (.Constant (.int i) j pos) (tOf c (vC (.int i))) := ve_c pe_int fun _ => .int i
theorem ve_bl {i j} : PE X (.Constant (.bool i) j pos) (tOf c (vC (.bl i))) := ve_c pe_bl fun _ => .bl i
theorem ve_non {j} : PE X (.Constant .none j pos) (tOf c (vC .non)) := ve_c pe_non fun _ => .non
/-- a new list, still from now on -/
theorem ve_new {te : VTN} {e : Expr} (h : PE X e (nOf c te)) : PE X e (tOf c (fun env n Q => te env n fun k env' n' => ∃ ds, k = .lst ds ∧ Q (.lst ds) env' n')) := PE.imp h fun σ H R ⟨F, env, n, Q, r, h, k⟩ => ⟨F, env, n, _, r, h, fun a o H' F' kk env' n' r' u hF h0 ns hH w ha q => by
    obtain ⟨ds, rfl, q⟩ := q
    obtain ⟨xs, rfl, rx⟩ := w
    have rp : Rp (upd F' a (.lst xs)) (.ref a) (.lst ds) := .lst upd_same (rx.up (up_lay hF))
    refine k _ H' (upd F' a (.lst xs)) _ env' n' ⟨fun b ob e => ?_, fun b hb => ?_, r'.amb, r'.up0.trans (up_lay hF), fun b ob h1 nt h2 => ?_, r'.keep0, r'.len, fun i s e => ?_, r'.apart⟩ (u.trans (up_lay hF)) rp q
    · by_cases z : b = a
      · subst z; rw [upd_same] at e; cases e; exact hH
      · rw [upd_ne z] at e; exact r'.sub b ob e
    · rw [upd_ne (fun (z : b = a) => ns (by rw [← z]; exact hb))]; exact r'.spf b hb
    · rw [upd_ne (fun (z : b = a) => by rw [z, h0] at h1; cases h1)]; exact r'.out0 b ob h1 nt h2
    · have q := r'.sl i s e
      cases s with
      | no => trivial
      | fz d => exact let ⟨v, g1, g2⟩ := q; ⟨v, g1, g2.up (up_lay hF)⟩
      | ow kk =>
        obtain ⟨a2, o2, g1, g2, g3, g4, g5, g6⟩ := q
        refine ⟨a2, o2, g1, ?_, g3, g4, g5, g6.up (up_lay hF)⟩
        rw [upd_ne fun z2 => ha i kk e (by rw [g1, z2])]
        exact g2⟩
def v2 (ta tb : VTE) (k : Dt → Dt → Ev → Nat → Prop) : Ev → Nat → Prop := fun env n => ta env n fun x env1 n1 => tb env1 n1 fun y env2 n2 => k x y env2 n2
theorem t2_of {σ : L2.St} {H : Hp} {F : Hp} {env : Ev} {n : Nat} {k : Dt → Dt → Ev → Nat → Prop} {K : V → V → Hp → Prop} (r : Rel c F H σ env n) (h : v2 ta tb k env n)
    (hk : ∀ x y d1 d2 H' F' env' n', Rel c F' H' σ env' n' → Up F F' → Rp F' x d1 → Rp F' y d2 → k d1 d2 env' n' → K x y H') : tOf c ta σ H fun x H1 => tOf c tb σ H1 fun y H2 => K x y H2 :=
  ⟨F, env, n, _, r, h, fun x H1 F1 d1 env1 n1 r1 u1 p1 q1 => ⟨F1, env1, n1, _, r1, q1, fun y H2 F2 d2 env2 n2 r2 u2 p2 q2 => hk x y d1 d2 H2 F2 env2 n2 r2 (u1.trans u2) (p1.up u2) p2 q2⟩⟩
theorem Rp.int_inv {F : Hp} {v : V} {i : Int} (h : Rp F v (.int i)) : v = .int i := by cases h; rfl
theorem Rp.bl_inv {F : Hp} {v : V} {i : Bool} (h : Rp F v (.bl i)) : v = .bl i := by cases h; rfl
theorem Rp.non_inv {F : Hp} {v : V} (h : Rp F v .non) : v = .non := by cases h; rfl
theorem Rp.str_inv {F : Hp} {v : V} {i : Str} (h : Rp F v (.str i)) : v = .str i := by cases h; rfl
theorem Rp.lst_inv {F : Hp} {v : V} {ds : List Dt} (h : Rp F v (.lst ds)) : ∃ a xs, v = .ref a ∧ F a = some (.lst xs) ∧ Rps F xs ds := by cases h with | lst h t => exact ⟨_, _, rfl, h, t⟩
theorem Rp.tup_inv {F : Hp} {v : V} {ds : List Dt} (h : Rp F v (.tup ds)) : ∃ a xs, v = .ref a ∧ F a = some (.tup xs) ∧ Rps F xs ds := by cases h with | tup h t => exact ⟨_, _, rfl, h, t⟩
end
end VL
namespace VL
open PySem PySem.Spec PyProof.Rows L2 HM
abbrev R2D := Dt → Dt → (Dt → Prop) → Prop
def Lft2 (r : R2) (r' : R2D) : Prop := ∀ (F H : Hp) x y d1 d2 (Q : Dt → Prop) (R : VK), Up F H → Rp F x d1 → Rp F y d2 → r' d1 d2 Q → (∀ v d, Rp F v d → Q d → R v H) → r x y H R
def vOp (r' : R2D) (ta tb : VTE) : VTE := fun env n Q => v2 ta tb (fun x y env' n' => r' x y fun d => Q d env' n') env n
/-- what slot i holds, to be read -/
def rdS (env : Ev) (i : Nat) (d : Dt) : Prop := env[i]? = some (.fz d) ∨ ∃ ds, env[i]? = some (.ow (.lst ds)) ∧ d = .lst ds
/-- the left one a name whose thing is read at the end -/
def vOpN (r' : R2D) (i : Nat) (tb : VTE) : VTE := fun env n Q => (∃ d0, rdS env i d0) ∧ tb env n fun y env' n' => ∃ x, rdS env' i x ∧ r' x y fun d => flat d = true ∧ Q d env' n'
def vOpR (r' : R2D) (ta tb : VTE) : VTE := fun env n Q => v2 ta tb (fun x y env' n' => r' x y fun d => flat d = true ∧ Q d env' n') env n
section
variable {c : Fc} {X : Cx} {a b : Expr} {ta tb : VTE} {pos : Pos}
theorem Rel.rdS {F H G : Hp} {σ : L2.St} {env : Ev} {n : Nat} {i : Nat} {d : Dt} (r : Rel c F H σ env n) (g : Gx c F H G) (e : rdS env i d) : ∃ v G', σ[i]? = some (some v) ∧ Gx c F H G' ∧ Up G G' ∧ Rp G' v d := by
  rcases e with e | ⟨ds, e, rfl⟩
  · obtain ⟨v, e2, rp⟩ := r.sl i _ e
    exact ⟨v, G, e2, g, Up.refl G, rp.up g.u1⟩
  · obtain ⟨a, G', e2, g', u, rp⟩ := g.add r e
    exact ⟨_, G', e2, g', u, rp⟩
theorem op_of {r : R2} {r' : R2D} (L : Lft2 r r') {σ : L2.St} {H : Hp} {R : VK} (h : tOf c (vOp r' ta tb) σ H R) : tOp r (tOf c ta) (tOf c tb) σ H R := by
  obtain ⟨F, env, n, Q, rr, h, k⟩ := h
  exact t2_of rr h fun x y d1 d2 H' F' env' n' r' u p1 p2 q => L F' H' x y d1 d2 _ R r'.sub p1 p2 q fun v d rv qd => k v H' F' d env' n' r' u rv qd
/-- the right one just read -/
theorem opR_of {r : R2} {r' : R2D} (L : Lft2 r r') {σ : L2.St} {H : Hp} {R : VK} (h : tOf c (vOpR r' ta tb) σ H R) : tOp r (tOf c ta) (rOf c tb) σ H R := by
  obtain ⟨F, env, n, Q, rr, h, k⟩ := h
  exact ⟨F, env, n, _, rr, h, fun x H1 F1 d1 env1 n1 r1 u1 p1 q1 => ⟨F1, env1, n1, _, r1, q1, fun y H2 F2 G d2 env2 n2 r2 u2 g p2 q2 =>
    L G H2 x y d1 d2 _ R g.u2 ((p1.up u2).up g.u1) p2 q2 fun v d rv qd => k v H2 F2 d env2 n2 r2 (u1.trans u2) (rv.flat g.tp qd.1) qd.2⟩⟩
theorem opN_of {i : Nat} {r : R2} {r' : R2D} (L : Lft2 r r') {σ : L2.St} {H : Hp} {R : VK} (h : tOf c (vOpN r' i tb) σ H R) : tOp r (tVar i) (rOf c tb) σ H R := by
  obtain ⟨F, env, n, Q, rr, ⟨⟨d0, e0⟩, h⟩, k⟩ := h
  obtain ⟨v0, _, ev, _⟩ := rr.rdS rr.gx e0
  refine ⟨v0, ev, F, env, n, _, rr, h, fun y H2 F2 G d2 env2 n2 r2 u2 g p2 q2 => ?_⟩
  obtain ⟨x, ex, q2⟩ := q2
  obtain ⟨v1, G', ev1, g', ug, px⟩ := r2.rdS g ex
  rw [ev] at ev1
  cases ev1
  exact L G' H2 v0 y x d2 _ R g'.u2 px (p2.up ug) q2 fun v d rv qd => k v H2 F2 d env2 n2 r2 u2 (rv.flat g'.tp qd.1) qd.2
theorem ve_op {op : Operator} {r : R2} {r' : R2D} (ho : OpR X (binaryOp op) r) (L : Lft2 r r') (ha : PE X a (tOf c ta)) (hb : PE X b (tOf c tb)) : PE X (.BinOp a op b pos) (tOf c (vOp r' ta tb)) := PE.imp (pe_op ho ha hb) fun _ _ _ => op_of L
def vB (te : VTE) : VTT := fun env n Q => te env n fun d env' n' => ∃ b, d = .bl b ∧ Q b env' n'
theorem test_of {te : VTE} {t : TE} (h : ∀ {σ H R}, tOf c te σ H R → t σ H R) {σ : L2.St} {H : Hp} {R : Bool → Hp → Prop} (q : cOf c (vB te) σ H R) : tTest t σ H R := by
  obtain ⟨F, env, n, Q, rr, q, k⟩ := q
  refine h ⟨F, env, n, _, rr, q, fun v H' F' d env' n' r' u rp qd => ?_⟩
  obtain ⟨bb, rfl, qd⟩ := qd
  exact ⟨bb, rp.bl_inv, k bb H' F' env' n' r' u qd⟩
theorem vt_cmp {op : CmpOp} {r : R2} {r' : R2D} (ho : OpR X (compareOp op) r) (L : Lft2 r r') (ha : PE X a (tOf c ta)) (hb : PE X b (tOf c tb)) (hm : behindInMarks op b = false) : PT X (.Compare a [op] [b] pos) (cOf c (vB (vOp r' ta tb))) := PT.imp (pt_cmpR ho ha hb hm) fun _ _ _ => test_of (op_of L)
theorem vt_cmpR {op : CmpOp} {r : R2} {r' : R2D} (ho : OpR X (compareOp op) r) (L : Lft2 r r') (ha : PE X a (tOf c ta)) (hb : PE X b (rOf c tb)) (hm : behindInMarks op b = false) : PT X (.Compare a [op] [b] pos) (cOf c (vB (vOpR r' ta tb))) := PT.imp (pt_cmpR ho ha hb hm) fun _ _ _ => test_of (opR_of L)
theorem vt_cmpN {i : Nat} {op : CmpOp} {r : R2} {r' : R2D} (ho : OpR X (compareOp op) r) (L : Lft2 r r') (ha : PE X a (tVar i)) (hb : PE X b (rOf c tb)) (hm : behindInMarks op b = false) : PT X (.Compare a [op] [b] pos) (cOf c (vB (vOpN r' i tb))) := PT.imp (pt_cmpR ho ha hb hm) fun _ _ _ => test_of (opN_of L)
def vOr (t u : VTT) : VTT := fun env n Q => t env n fun b env1 n1 => if b = true then Q true env1 n1 else u env1 n1 Q
variable {tA tB : VTT} {rest : List Expr}
theorem vt_or1 (h : PT X a (cOf c tA)) : PW X (.BoolOp .Or [a] pos) (cOf c tA) := pw_or1 h
theorem vt_or (ha : PT X a (cOf c tA)) (hb : PW X (.BoolOp .Or (b :: rest) pos) (cOf c tB)) : PW X (.BoolOp .Or (a :: b :: rest) pos) (cOf c (vOr tA tB)) := PW.imp (pw_or ha hb) fun σ H R q => by
  obtain ⟨F, env, n, Q, rr, q, k⟩ := q
  refine ⟨F, env, n, _, rr, q, fun b H' F' env' n' r' u qd => ?_⟩
  cases b with
  | false => exact ⟨F', env', n', _, r', qd, fun b2 H2 F2 env2 n2 r2 u2 q2 => k b2 H2 F2 env2 n2 r2 (u.trans u2) q2⟩
  | true => exact k true H' F' env' n' r' u qd
def vNil : VTA := fun env n Q => Q [] env n
def vCons (te : VTE) (ta : VTA) : VTA := fun env n Q => te env n fun d env1 n1 => ta env1 n1 fun ds env2 n2 => Q (d :: ds) env2 n2
/-- a name whose thing is read when all stand -/
def vConsR (i : Nat) (ta : VTA) : VTA := fun env n Q => (∃ d0, rdS env i d0) ∧ ta env n fun ds env2 n2 => ∃ d, rdS env2 i d ∧ Q (d :: ds) env2 n2
variable {te : VTE} {tas : VTA} {e : Expr} {es : List Expr}
theorem va_nil : PA X [] (aOf c vNil) := PA.imp pa_nil fun σ H R ⟨F, env, n, Q, rr, q, k⟩ => k [] H F [] env n rr (Up.refl F) .nil q
theorem va_cons (ha : PE X e (tOf c te)) (hr : PA X es (aOf c tas)) (hs : starEach (e :: es) X.env = (false, eval e X.env) :: starEach es X.env := by rfl) : PA X (e :: es) (aOf c (vCons te tas)) := PA.imp (pa_cons ha hr hs) fun σ H R ⟨F, env, n, Q, rr, q, k⟩ =>
  ⟨F, env, n, _, rr, q, fun v H1 F1 d env1 n1 r1 u1 p1 q1 => ⟨F1, env1, n1, _, r1, q1, fun vs H2 F2 ds env2 n2 r2 u2 p2 q2 => k _ H2 F2 _ env2 n2 r2 (u1.trans u2) (.cons (p1.up u2) p2) q2⟩⟩
theorem vb_of (h : PA X es (aOf c tas)) : PA X es (bOf c tas) := PA.imp h fun σ H R ⟨F, env, n, Q, rr, q, k⟩ => ⟨F, env, n, _, rr, q, fun vs H2 F2 ds env2 n2 r2 u2 p2 q2 => k _ H2 F2 F2 _ env2 n2 r2 u2 r2.gx p2 q2⟩
theorem vb_nil : PA X [] (bOf c vNil) := vb_of va_nil
theorem vb_cons (ha : PE X e (tOf c te)) (hr : PA X es (bOf c tas)) (hs : starEach (e :: es) X.env = (false, eval e X.env) :: starEach es X.env := by rfl) : PA X (e :: es) (bOf c (vCons te tas)) := PA.imp (pa_cons ha hr hs) fun σ H R ⟨F, env, n, Q, rr, q, k⟩ =>
  ⟨F, env, n, _, rr, q, fun v H1 F1 d env1 n1 r1 u1 p1 q1 => ⟨F1, env1, n1, _, r1, q1, fun vs H2 F2 G ds env2 n2 r2 u2 g p2 q2 => k _ H2 F2 G _ env2 n2 r2 (u1.trans u2) g (.cons ((p1.up u2).up g.u1) p2) q2⟩⟩
theorem vb_rd {i : Nat} (ha : PE X e (tVar i)) (hr : PA X es (bOf c tas)) (hs : starEach (e :: es) X.env = (false, eval e X.env) :: starEach es X.env := by rfl) : PA X (e :: es) (bOf c (vConsR i tas)) := PA.imp (pa_cons ha hr hs) fun σ H R ⟨F, env, n, Q, rr, ⟨⟨d0, e0⟩, q⟩, k⟩ => by
  obtain ⟨v0, _, ev, _⟩ := rr.rdS rr.gx e0
  refine ⟨v0, ev, F, env, n, _, rr, q, fun vs H2 F2 G ds env2 n2 r2 u2 g p2 q2 => ?_⟩
  obtain ⟨d, ed, q2⟩ := q2
  obtain ⟨v1, G', ev1, g', ug, pd⟩ := r2.rdS g ed
  rw [ev] at ev1
  cases ev1
  exact k _ H2 F2 G' _ env2 n2 r2 u2 g' (.cons pd (p2.up ug)) q2
theorem small1000 {n : Nat} (h : n ≤ 5000) : n < sizeLine := Nat.lt_of_le_of_lt h (by decide)
theorem small1k {n : Nat} (h : n ≤ 5000) : n ≤ sizeLine := Nat.le_of_lt (small1000 h)
def vTup (ta : VTA) : VTE := fun env n Q => ta env n fun ds env1 n1 => ds.length ≤ 5000 ∧ Q (.tup ds) env1 n1
def vLst (ta : VTA) : VTN := fun env n Q => ta env n fun ds env1 n1 => ds.length ≤ 5000 ∧ Q (.lst ds) env1 n1
theorem ve_tup {x1} (h : PA X es (aOf c tas)) : PE X (.Tuple es x1 pos) (tOf c (vTup tas)) := PE.imp (pe_tup h) fun σ H R ⟨F, env, n, Q, rr, q, k⟩ => ⟨F, env, n, _, rr, q, fun vs H2 F2 ds env2 n2 r2 u2 p2 q2 => by
  refine ⟨small1k (by rw [p2.len]; exact q2.1), fun p np => ?_⟩
  obtain ⟨_, _, nf⟩ := r2.new0 np
  exact k _ _ (upd F2 p (.tup vs)) _ env2 n2 (r2.layF np _) (u2.trans (up_lay nf)) (.tup upd_same (p2.up (up_lay nf))) q2.2⟩
theorem nOf_new {σ : L2.St} {H F : Hp} {env : Ev} {n : Nat} {p : Addr} {o : HO} {kk : Con} {F0 : Hp} {Q : Con → Ev → Nat → Prop} {R : VK} (rr : Rel c F H σ env n) (u : Up F0 F) (np : H p = none) (w : OwOk F p o kk) (q : Q kk env n)
    (k : ∀ a o H' F' kk env' n', Rel c F' H' σ env' n' → Up F0 F' → F' a = none → c.H0 a = none → ¬ c.am.sp a → H' a = some o → OwOk F' a o kk → (∀ (j : Nat) k', env'[j]? = some (.ow k') → σ[j]? ≠ some (some (.ref a))) → Q kk env' n' → R (.ref a) H') : R (.ref p) (upd H p o) := by
  obtain ⟨h0, ns, nf⟩ := rr.new0 np
  refine k p o (upd H p o) F kk env n (rr.lay np o) u nf h0 ns upd_same w (fun j k' e z => ?_) q
  obtain ⟨a2, o2, g1, _, _, _, g5, _⟩ := rr.sl j _ e
  rw [g1] at z
  cases z
  rw [g5] at np
  cases np
theorem vn_lst (h : PA X es (aOf c tas)) : PE X (.List es pos) (nOf c (vLst tas)) := PE.imp (pe_lst h) fun σ H R ⟨F, env, n, Q, rr, q, k⟩ => ⟨F, env, n, _, rr, q, fun vs H2 F2 ds env2 n2 r2 u2 p2 q2 =>
  ⟨small1k (by rw [p2.len]; exact q2.1), fun p np => nOf_new r2 u2 np (kk := .lst ds) ⟨vs, rfl, p2⟩ q2.2 k⟩⟩
end
end VL
namespace VL
open PySem PySem.Spec PyProof.Rows L2 HM
section
variable {c : Fc} {X : Cx} {a b e : Expr} {es : List Expr} {te ta tb : VTE} {tas : VTA} {pos : Pos}
def vNext : VTS := fun V env n => V.nx env n
def vSeq (t u : VTS) : VTS := fun V env n => t { V with nx := u V } env n
theorem EnOk.seq {F : Hp} {V : VEn} {D : Ends} {u : VTS} {u' : TS} (h : EnOk c F V D) (k : ∀ F' H' σ' env' n', Rel c F' H' σ' env' n' → Up F F' → u V env' n' → u' D σ' H') : EnOk c F { V with nx := u V } { D with nx := u' D } :=
  ⟨fun F' H' σ' env' n' r w q => k F' H' σ' env' n' r w q, h.rt, h.bk, h.ct⟩
variable {st : Stmt} {rest body els : List Stmt} {t u : VTS}
theorem vss_nil : PSs X [] (sOf c vNext) := PSs.imp pss_nil fun D σ H ⟨F, env, n, V, r, q, k⟩ => k.nx F H σ env n r (Up.refl F) q
theorem vss_cons (h1 : PS X st (sOf c t)) (h2 : PSs X rest (sOf c u)) : PSs X (st :: rest) (sOf c (vSeq t u)) := PSs.imp (pss_cons h1 h2) fun D σ H ⟨F, env, n, V, r, q, k⟩ =>
  ⟨F, env, n, _, r, q, k.seq fun F' H' σ' env' n' r' w q' => ⟨F', env', n', V, r', q', k.up w⟩⟩
theorem vss_one (h1 : PS X st (sOf c t)) : PSs X [st] (sOf c t) := pss_one h1
def vNever : VTS := fun _ _ _ => False
theorem vs_never : PS X st (sOf c vNever) := PS.imp ps_never fun D σ H ⟨F, env, n, V, r, q, k⟩ => q
def vDrop (te : VTE) : VTS := fun V env n => te env n fun _ env1 n1 => V.nx env1 n1
theorem vs_expr (he : PE X e (tOf c te)) (hs : swapsWith e none pos.line X.env = pure false := by rfl) : PS X (.Expr e pos) (sOf c (vDrop te)) := PS.imp (ps_expr he hs) fun D σ H ⟨F, env, n, V, r, q, k⟩ =>
  ⟨F, env, n, _, r, q, fun v H' F' d env' n' r' u rp qd => k.nx F' H' σ env' n' r' u qd⟩
def vRet (te : VTE) : VTS := fun V env n => te env n fun d _ n1 => V.rt d n1
theorem vs_ret (he : PE X e (tOf c te)) : PS X (.Return (some e) pos) (sOf c (vRet te)) := PS.imp (ps_ret he) fun D σ H ⟨F, env, n, V, r, q, k⟩ =>
  ⟨F, env, n, _, r, q, fun v H' F' d env' n' r' u rp qd => k.rt F' H' σ env' n' v d r' u rp qd⟩
def vIf (tc : VTT) (t u : VTS) : VTS := fun V env n => tc env n fun b env1 n1 => if b = true then t V env1 n1 else u V env1 n1
theorem vs_if {tc : VTT} (hc : PT X e (cOf c tc)) (ha : PSs X body (sOf c t)) (hb : PSs X els (sOf c u)) : PS X (.If e body els pos) (sOf c (vIf tc t u)) := PS.imp (ps_if hc ha hb) fun D σ H ⟨F, env, n, V, r, q, k⟩ =>
  ⟨F, env, n, _, r, q, fun b H' F' env' n' r' w qd => by
    cases b with
    | true => exact ⟨F', env', n', V, r', qd, k.up w⟩
    | false => exact ⟨F', env', n', V, r', qd, k.up w⟩⟩
def vgName (i : Nat) : VTG := fun d env n Q => Q (env.set i (.fz d)) n
theorem vg_name {i : Nat} {x : Str} (h : PG X (.Name x pos) (gName i)) : PG X (.Name x pos) (gOf c (vgName i)) := PG.imp h fun v σ H R ⟨F, env, n, d, Q, r, rp, q, k⟩ => k _ H F _ n (r.setF rp) (Up.refl F) q
def vgNil : VTGs := fun ds env n Q => ds = [] ∧ Q env n
def vgCons (t : VTG) (u : VTGs) : VTGs := fun ds env n Q => ∃ d r, ds = d :: r ∧ t d env n fun env' n' => u r env' n' Q
theorem vgs_nil : PGs X [] (gsOf c vgNil) := PGs.imp pgs_nil fun v σ H R ⟨F, env, n, ds, Q, r, rp, ⟨e, q⟩, k⟩ => by
  subst e
  cases rp
  exact ⟨rfl, k _ H F _ n r (Up.refl F) q⟩
theorem vgs_cons {g : VTG} {gs : VTGs} (h1 : PG X e (gOf c g)) (h2 : PGs X es (gsOf c gs)) (hs : (assignEach (e :: es) X.env).map (·.2) = assign e X.env :: (assignEach es X.env).map (·.2) := by rfl) : PGs X (e :: es) (gsOf c (vgCons g gs)) := PGs.imp (pgs_cons h1 h2 hs) fun v σ H R ⟨F, env, n, ds, Q, r, rp, ⟨d, ds', e, q⟩, k⟩ => by
  subst e
  cases rp with
  | cons p ps => exact ⟨_, _, rfl, F, env, n, d, _, r, p, q, fun σ' H' F' env' n' r' w q' => ⟨F', env', n', ds', _, r', ps.up w, q', fun σ2 H2 F2 env2 n2 r2 w2 q2 => k σ2 H2 F2 env2 n2 r2 (w.trans w2) q2⟩⟩
def vgTup (m : Nat) (g : VTGs) : VTG := fun d env n Q => ∃ ds, d = .tup ds ∧ ds.length = m ∧ g ds env n Q
theorem vg_tup {k m : Nat} {gs : VTGs} (hc : X.calm = true) (h : PGs X es (gsOf c gs)) (hn : (assignEach es X.env).length = m := by rfl) (hst : (assignEach es X.env).findIdx? (·.1) = none := by rfl) : PG X (.Tuple es k pos) (gOf c (vgTup m gs)) := PG.imp (pg_tup hc h hn hst) fun v σ H R ⟨F, env, n, d, Q, r, rp, ⟨ds, e, hl, q⟩, k⟩ => by
  subst e
  obtain ⟨a, xs, rfl, hF, rx⟩ := rp.tup_inv
  exact ⟨a, xs, rfl, .inl (.inl (r.sub _ _ hF)), by rw [rx.len, hl], F, env, n, ds, Q, r, rx, q, k⟩
def vAsg (te : VTE) (g : VTG) : VTS := fun V env n => te env n fun d env1 n1 => g d env1 n1 V.nx
theorem asg_of {g : VTG} {σ : L2.St} {H : Hp} {D : Ends} (h : sOf c (vAsg te g) D σ H) : tAsg (tOf c te) (gOf c g) D σ H := by
  obtain ⟨F, env, n, V, r, q, k⟩ := h
  exact ⟨F, env, n, _, r, q, fun v H' F' d env' n' r' w rp qd => ⟨F', env', n', d, V.nx, r', rp, qd, fun σ2 H2 F2 env2 n2 r2 w2 q2 => k.nx F2 H2 σ2 env2 n2 r2 (w.trans w2) q2⟩⟩
theorem vs_asg {tg : Expr} {g : VTG} (he : PE X e (tOf c te)) (hg : PG X tg (gOf c g)) (hs : swapsWithSole [tg] e pos.line X.env = pure false := by rfl) (hw : swappedStores [tg] e X.env = pure none := by rfl)
    (h1 : (assignEach [tg] X.env).map (·.2) = [assign tg X.env] := by rfl) : PS X (.Assign [tg] e pos) (sOf c (vAsg te g)) := PS.imp (ps_asg he hg hs hw h1) fun D σ H => asg_of
/-- x = e -/
def vSet (i : Nat) (te : VTE) : VTS := fun V env n => te env n fun d env1 n1 => V.nx (env1.set i (.fz d)) n1
theorem set_of {i : Nat} {σ : L2.St} {H : Hp} {D : Ends} (h : sOf c (vSet i te) D σ H) : tAsg (tOf c te) (gName i) D σ H := by
  obtain ⟨F, env, n, V, r, q, k⟩ := h
  exact ⟨F, env, n, _, r, q, fun v H' F' d env' n' r' w rp qd => k.nx F' H' _ _ n' (r'.setF rp) w qd⟩
theorem vs_set {i : Nat} {x : Str} {pos' : Pos} (hN : X.N.Nodup) (hi : X.N[i]? = some x) (hx : Loc X.env.scope x) (he : PE X e (tOf c te)) (hs : swapsWith e (some (.Name x pos')) pos.line X.env = pure false := by rfl) (hf : X.fn x = true ∨ X.env.scope.names.lookup x = some .local := by first | exact .inl rfl | exact .inr rfl | assumption) :
    PS X (.Assign [.Name x pos'] e pos) (sOf c (vSet i te)) := PS.imp (ps_set hN hi hx he hs hf) fun D σ H => set_of
/-- x = a new thing -/
def vSetN (i : Nat) (tn : VTN) : VTS := fun V env n => tn env n fun k env1 n1 => V.nx (env1.set i (.ow k)) n1
theorem setN_of {i : Nat} {tn : VTN} {σ : L2.St} {H : Hp} {D : Ends} (h : sOf c (vSetN i tn) D σ H) : tAsg (nOf c tn) (gName i) D σ H := by
  obtain ⟨F, env, n, V, r, q, k⟩ := h
  exact ⟨F, env, n, _, r, q, fun a o H' F' kk env' n' r' w hF h0 ns hH ow ha qd => k.nx F' H' _ _ n' (r'.setO hF h0 ns hH ow ha) w qd⟩
theorem vs_setN {i : Nat} {tn : VTN} {x : Str} {pos' : Pos} (hN : X.N.Nodup) (hi : X.N[i]? = some x) (hx : Loc X.env.scope x) (he : PE X e (nOf c tn)) (hs : swapsWith e (some (.Name x pos')) pos.line X.env = pure false := by rfl) (hf : X.fn x = true ∨ X.env.scope.names.lookup x = some .local := by first | exact .inl rfl | exact .inr rfl | assumption) :
    PS X (.Assign [.Name x pos'] e pos) (sOf c (vSetN i tn)) := PS.imp (ps_set hN hi hx he hs hf) fun D σ H => setN_of
def vWhile (tc : VTT) (tb : VTS) : VTS := fun V env n => ∃ W : Nat → Ev → Nat → Prop, (∃ m, W m env n) ∧ ∀ m env n, W m env n →
  tc env n fun b env1 n1 => if b = true then tb { nx := fun e' n' => ∃ m', m' < m ∧ W m' e' n', ct := fun e' n' => ∃ m', m' < m ∧ W m' e' n', bk := V.nx, rt := V.rt } env1 n1 else V.nx env1 n1
theorem vs_while {tc : VTT} {tb : VTS} (hp : PassesOwn (model X.prog X.w) X.A X.env X.xe) (hc : PT X e (cOf c tc)) (hb : PSs X body (sOf c tb)) : PS X (.While e body [] pos) (sOf c (vWhile tc tb)) := PS.imp (ps_while hp hc hb) fun D σ H ⟨F, env, n, V, r, ⟨W, ⟨m0, w0⟩, turn⟩, k⟩ => by
  refine ⟨fun m σ H => ∃ F' env n, Rel c F' H σ env n ∧ Up F F' ∧ W m env n, ⟨m0, F, env, n, r, Up.refl F, w0⟩, ?_⟩
  rintro m σ1 H1 ⟨F1, env1, n1, r1, u1, w1⟩
  refine ⟨F1, env1, n1, _, r1, turn m env1 n1 w1, fun b H2 F2 env2 n2 r2 u2 q2 => ?_⟩
  cases b with
  | true => exact ⟨fun σ' H' => ∃ m', m' < m ∧ ∃ F' env n, Rel c F' H' σ' env n ∧ Up F F' ∧ W m' env n, fun σ' H' h => h, F2, env2, n2, _, r2, q2,
      ⟨fun F3 H3 σ3 env3 n3 r3 u3 q3 => let ⟨m', hm, w'⟩ := q3; ⟨m', hm, F3, env3, n3, r3, (u1.trans u2).trans u3, w'⟩, (k.up (u1.trans u2)).rt, (k.up (u1.trans u2)).nx, fun F3 H3 σ3 env3 n3 r3 u3 q3 => let ⟨m', hm, w'⟩ := q3; ⟨m', hm, F3, env3, n3, r3, (u1.trans u2).trans u3, w'⟩⟩⟩
  | false => exact k.nx F2 H2 σ1 env2 n2 r2 (u1.trans u2) q2
def vFor (wi : VTI) (g : VTG) (tb : VTS) : VTS := fun V env n => wi env n fun xs env1 n1 => ∃ P : Nat → Ev → Nat → Prop, P 0 env1 n1 ∧
  (∀ i x env n, xs[i]? = some x → P i env n → g x env n fun env2 n2 => tb { nx := P (i + 1), ct := P (i + 1), bk := V.nx, rt := V.rt } env2 n2) ∧ ∀ env n, P xs.length env n → V.nx env n
theorem vs_for {tg iter : Expr} {wi : VTI} {g : VTG} {tb : VTS} (hp : PassesOwn (model X.prog X.w) X.A X.env X.xe) (hc : X.calm = true) (hi : PI X tg iter (iOf c wi)) (hg : PG X tg (gOf c g)) (hb : PSs X body (sOf c tb))
    (hs : ∀ x, foldedSetIterable iter X.env x = pure x := by intro _; rfl) : PS X (.For tg iter body [] pos) (sOf c (vFor wi g tb)) := PS.imp (ps_for hp hc hi hg hb hs) fun D σ H ⟨F, env, n, V, r, q, k⟩ => by
  refine ⟨F, env, n, _, r, q, fun J H1 F1 xs env1 n1 r1 u1 wk q1 => ?_⟩
  obtain ⟨P, p0, turn, fin⟩ := q1
  refine ⟨fun i m σ H => m = xs.length - i ∧ i ≤ xs.length ∧ ∃ F' env n, Rel c F' H σ env n ∧ Up F1 F' ∧ P i env n, ⟨_, rfl, Nat.zero_le _, F1, env1, n1, r1, Up.refl F1, p0⟩, ?_⟩
  rintro i m σ2 H2 ⟨rfl, hi, F2, env2, n2, r2, u2, p2⟩
  obtain ⟨wg, ws⟩ := wk c rfl F2 H2 σ2 env2 n2 r2 u2 i
  by_cases hlt : i < xs.length
  · obtain ⟨go, yl⟩ := wg hlt
    refine .inr ⟨go, fun σ' H' => ∃ F' env n, Rel c F' H' σ' env n ∧ Up F1 F' ∧ P (i + 1) env n, fun σ' H' h => ⟨xs.length - (i + 1), by omega, rfl, hlt, h⟩, fun x H3 y => ?_⟩
    obtain ⟨F3, d, r3, u3, ed, rd⟩ := yl x H3 y
    refine ⟨F3, env2, n2, d, _, r3, rd, turn i d env2 n2 ed p2, fun σ4 H4 F4 env4 n4 r4 u4 q4 => ?_⟩
    have u14 := (u2.trans u3).trans u4
    exact ⟨F4, env4, n4, _, r4, q4, ⟨fun F5 H5 σ5 env5 n5 r5 u5 q5 => ⟨F5, env5, n5, r5, u14.trans u5, q5⟩, (k.up (u1.trans u14)).rt, (k.up (u1.trans u14)).nx, fun F5 H5 σ5 env5 n5 r5 u5 q5 => ⟨F5, env5, n5, r5, u14.trans u5, q5⟩⟩⟩
  · have e : i = xs.length := by omega
    subst e
    exact .inl ⟨ws (Nat.le_refl _), k.nx F2 H2 σ2 env2 n2 r2 (u1.trans u2) (fin env2 n2 p2)⟩
def viSeq (te : VTE) : VTI := fun env n Q => te env n fun d env1 n1 => ∃ ds, (d = .lst ds) ∧ Q ds env1 n1
def viTup (te : VTE) : VTI := fun env n Q => te env n fun d env1 n1 => ∃ ds, (d = .tup ds) ∧ Q ds env1 n1
theorem wk_list {K : PySem.W.Frag} {F : Hp} {a : Addr} {xs : List V} {ds : List Dt} (h : F a = some (.lst xs)) (rx : Rps F xs ds) : Wk c.am (Itl K a) F ds := fun c _ F1 H σ env n r u i => by
  have hH : SqL K H a xs := .inl (.inl (r.sub _ _ (u _ _ h)))
  refine ⟨fun hi => ?_, fun hi => ⟨xs, hH, by rw [rx.len]; exact hi⟩⟩
  obtain ⟨v, e1, e2⟩ := rx.get (List.getElem?_eq_getElem hi)
  refine ⟨⟨xs, v, hH, e1⟩, fun x H' y => ?_⟩
  obtain ⟨rfl, y⟩ := y
  have := y xs hH
  rw [e1] at this
  cases this
  exact ⟨F1, _, r, Up.refl F1, List.getElem?_eq_getElem hi, e2.up u⟩
theorem wk_tup {K : PySem.W.Frag} {F : Hp} {a : Addr} {xs : List V} {ds : List Dt} (h : F a = some (.tup xs)) (rx : Rps F xs ds) : Wk c.am (Itt K a) F ds := fun c _ F1 H σ env n r u i => by
  have hH : SqT K H a xs := .inl (.inl (r.sub _ _ (u _ _ h)))
  refine ⟨fun hi => ?_, fun hi => ⟨xs, hH, by rw [rx.len]; exact hi⟩⟩
  obtain ⟨v, e1, e2⟩ := rx.get (List.getElem?_eq_getElem hi)
  refine ⟨⟨xs, v, hH, e1⟩, fun x H' y => ?_⟩
  obtain ⟨rfl, y⟩ := y
  have := y xs hH
  rw [e1] at this
  cases this
  exact ⟨F1, _, r, Up.refl F1, List.getElem?_eq_getElem hi, e2.up u⟩
/-- lo, lo + 1, .., n of them -/
def rngD (lo : Int) (n : Nat) : List Dt := (List.range n).map fun i : Nat => Dt.int (lo + (i : Int))
theorem wk_range {F : Hp} {lo : Int} {n : Nat} : Wk c.am (Itr lo n) F (rngD lo n) := fun c _ F1 H σ env m r u i => by
  have hl : (rngD lo n).length = n := by simp [rngD]
  refine ⟨fun hi => ?_, fun hi => by rw [hl] at hi; exact hi⟩
  rw [hl] at hi
  refine ⟨hi, fun x H' y => ?_⟩
  obtain ⟨rfl, rfl⟩ := y
  exact ⟨F1,   .int (lo + (i : Int)), r, Up.refl F1, by simp [rngD, hi], .int _⟩
theorem vi_list {tg l : Expr} (hl : PE X l (tOf c te)) : PI X tg l (iOf c (viSeq te)) := PI.imp (pi_list hl) fun σ H R ⟨F, env, n, Q, r, q, k⟩ => ⟨F, env, n, _, r, q, fun v H' F' d env' n' r' w rp qd => by
  obtain ⟨ds, rfl, qd⟩ := qd
  obtain ⟨a, xs, rfl, hF, rx⟩ := rp.lst_inv
  exact ⟨a, rfl, ⟨xs, .inl (.inl (r'.sub _ _ hF))⟩, k _ H' F' ds env' n' r' w (wk_list hF rx) qd⟩⟩
theorem vi_tup {tg l : Expr} (hl : PE X l (tOf c te)) : PI X tg l (iOf c (viTup te)) := PI.imp (pi_tup hl) fun σ H R ⟨F, env, n, Q, r, q, k⟩ => ⟨F, env, n, _, r, q, fun v H' F' d env' n' r' w rp qd => by
  obtain ⟨ds, rfl, qd⟩ := qd
  obtain ⟨a, xs, rfl, hF, rx⟩ := rp.tup_inv
  exact ⟨a, rfl, ⟨xs, .inl (.inl (r'.sub _ _ hF))⟩, k _ H' F' ds env' n' r' w (wk_tup hF rx) qd⟩⟩
def viR1 (ta : VTA) : VTI := fun env n Q => ta env n fun ds env1 n1 => ∃ j : Int, ds = [.int j] ∧ (-1000000 ≤ j ∧ j ≤ 1000000) ∧ Q (rngD 0 j.toNat) env1 n1
theorem vi_range1 {tg : Expr} {p : Pos} (hg : Gl X "range") (hm : X.mg "range" = none) (ha : PA X [a] (bOf c tas)) (hs : starEach [a] X.env = [(false, eval a X.env)] := by rfl) : PI X tg (.Call (.Name "range" p) [a] [] pos) (iOf c (viR1 tas)) := PI.imp (pi_range1 hg hm ha hs) fun σ H R ⟨F, env, n, Q, r, q, k⟩ =>
  ⟨F, env, n, _, r, q, fun vs H' F' G ds env' n' r' w g rp qd => by
    obtain ⟨j, rfl, hj, qd⟩ := qd
    cases rp with
    | cons p ps =>
      cases ps
      rw [p.int_inv]
      exact ⟨j, rfl, by omega, by omega, k _ H' F' _ env' n' r' w wk_range qd⟩⟩
abbrev RCD := List Dt → (Dt → Prop) → Prop
abbrev RCN := List Dt → (Con → Prop) → Prop
abbrev RC := List V → Hp → VK → Prop
def LftC (r : RC) (r' : RCD) : Prop := ∀ (F H : Hp) vs ds (Q : Dt → Prop) (R : VK), Up F H → Rps F vs ds → r' ds Q → (∀ v d, Rp F v d → Q d → R v H) → r vs H R
def LftT (r : RC) (r' : RCD) : Prop := ∀ (F H : Hp) vs ds (Q : Dt → Prop) (R : VK), Up F H → Rps F vs ds → r' ds Q → (∀ p xs zs, H p = none → Rps F xs zs → Q (.tup zs) → R (.ref p) (upd H p (.tup xs))) → r vs H R
def vCBR (r' : RCD) (ta : VTA) : VTE := fun env n Q => ta env n fun ds env1 n1 => r' ds fun d => flat d = true ∧ Q d env1 n1
def flatC : Con → Bool
  | .lst ds => flats ds
  | .dK kvs => flats (kvs.map (·.2))
  | .dT kvs => flats (kvs.map (·.2))
  | .set _ _ _ => true
  | .setT _ _ _ => true
variable {r : RC} {r' : RCD} {rn : RCN}
theorem PrK.flat {κ : Type} {F F' : Hp} (u : ∀ a xs, F a = some (.tup xs) → F' a = some (.tup xs)) : ∀ {a : List (κ × V)} {b : List (κ × Dt)}, PrK F a b → flats (b.map (·.2)) = true → PrK F' a b
  | _, _, .nil, _ => .nil
  | _, q :: qs, .cons h t, e => by
    have e' : (VL.flat q.2 && flats (qs.map (·.2))) = true := by simpa [flats] using e
    rw [Bool.and_eq_true] at e'
    exact .cons ⟨h.1, h.2.flat u e'.1⟩ (PrK.flat u t e'.2)
theorem OwOk.flat {F F' : Hp} (u : ∀ a xs, F a = some (.tup xs) → F' a = some (.tup xs)) {a : Addr} {o : HO} : ∀ {k : Con}, OwOk F a o k → flatC k = true → OwOk F' a o k
  | .lst _, ⟨xs, e, r⟩, h => ⟨xs, e, r.flat u h⟩
  | .dK _, ⟨xs, e, r⟩, h => ⟨xs, e, PrK.flat u r h⟩
  | .dT _, ⟨xs, e, r⟩, h => ⟨xs, e, PrK.flat u r h⟩
  | .set _ _ _, e, _ => e
  | .setT _ _ _, ⟨L, e, h, r⟩, _ => ⟨L, e, h, fun p hp => u _ _ (r p hp)⟩
theorem cbR_of (L : LftC r r') {σ : L2.St} {H : Hp} {R : VK} (h : tOf c (vCBR r' tas) σ H R) : tCB r (bOf c tas) σ H R := by
  obtain ⟨F, env, n, Q, rr, q, k⟩ := h
  exact ⟨F, env, n, _, rr, q, fun vs H' F' G ds env' n' r2 w g rp qd => L G H' vs ds _ R g.u2 rp qd fun v d rv qv => k v H' F' d env' n' r2 w (rv.flat g.tp qv.1) qv.2⟩
theorem ctR_of (L : LftT r r') {σ : L2.St} {H : Hp} {R : VK} (h : tOf c (vCBR r' tas) σ H R) : tCB r (bOf c tas) σ H R := by
  obtain ⟨F, env, n, Q, rr, q, k⟩ := h
  refine ⟨F, env, n, _, rr, q, fun vs H' F' G ds env' n' r2 w g rp qd => L G H' vs ds _ R g.u2 rp qd fun p xs zs np rz qv => ?_⟩
  obtain ⟨_, _, nf⟩ := r2.new0 np
  exact k _ _ (upd F' p (.tup xs)) _ env' n' (r2.layF np _) (w.trans (up_lay nf)) (.tup upd_same ((rz.flat g.tp (by have := qv.1; simpa [VL.flat] using this)).up (up_lay nf))) qv.2
end
end VL
namespace VL
open PySem PySem.Spec PyProof.Rows L2 HM
def dI0 (g : Int → Int → Dt) : R2D := fun x y Q => ∃ i j, x = .int i ∧ y = .int j ∧ Q (g i j)
theorem lft_I0 {g : Int → Int → Int} : Lft2 (rI0 fun i j => .int (g i j)) (dI0 fun i j => .int (g i j)) := fun F H x y d1 d2 Q R u p1 p2 h k => by
  obtain ⟨i, j, rfl, rfl, h⟩ := h
  rw [p1.int_inv, p2.int_inv]
  exact ⟨i, j, rfl, rfl, k _ _ (.int _) h⟩
theorem lft_B0 {g : Int → Int → Bool} : Lft2 (rI0 fun i j => .bl (g i j)) (dI0 fun i j => .bl (g i j)) := fun F H x y d1 d2 Q R u p1 p2 h k => by
  obtain ⟨i, j, rfl, rfl, h⟩ := h
  rw [p1.int_inv, p2.int_inv]
  exact ⟨i, j, rfl, rfl, k _ _ (.bl _) h⟩
/-- == of two whole numbers, of two truths -/
def dEq : R2D := fun x y Q => (∃ i j, x = .int i ∧ y = .int j ∧ Q (.bl (decide (i = j)))) ∨ (∃ i j, x = .bl i ∧ y = .bl j ∧ Q (.bl (decide (i = j))))
def dNe : R2D := fun x y Q => (∃ i j, x = .int i ∧ y = .int j ∧ Q (.bl (!decide (i = j)))) ∨ (∃ i j, x = .bl i ∧ y = .bl j ∧ Q (.bl (!decide (i = j))))
theorem dec_int (i j : Int) : decide (V.int i = V.int j) = decide (i = j) := by
  by_cases e : i = j
  · subst e; simp
  · rw [decide_eq_false e, decide_eq_false fun z => e (V.int.inj z)]
theorem dec_bl (i j : Bool) : decide (V.bl i = V.bl j) = decide (i = j) := by
  by_cases e : i = j
  · subst e; simp
  · rw [decide_eq_false e, decide_eq_false fun z => e (V.bl.inj z)]
theorem lft_eq : Lft2 rEq dEq := fun F H x y d1 d2 Q R u p1 p2 h k => by
  rcases h with ⟨i, j, rfl, rfl, h⟩ | ⟨i, j, rfl, rfl, h⟩
  · rw [p1.int_inv, p2.int_inv]
    exact ⟨rfl, by rw [dec_int]; exact k _ _ (.bl _) h⟩
  · rw [p1.bl_inv, p2.bl_inv]
    exact ⟨rfl, by rw [dec_bl]; exact k _ _ (.bl _) h⟩
theorem lft_ne : Lft2 rNe dNe := fun F H x y d1 d2 Q R u p1 p2 h k => by
  rcases h with ⟨i, j, rfl, rfl, h⟩ | ⟨i, j, rfl, rfl, h⟩
  · rw [p1.int_inv, p2.int_inv]
    exact ⟨rfl, by rw [dec_int]; exact k _ _ (.bl _) h⟩
  · rw [p1.bl_inv, p2.bl_inv]
    exact ⟨rfl, by rw [dec_bl]; exact k _ _ (.bl _) h⟩
mutual
def py : Dt → PyData
  | .bl b => .bool b
  | .int i => .int i
  | .str x => .str x
  | .lst ds => .list (pys ds)
  | .tup ds => .tuple (pys ds)
  | .tuP ds => .tuple (pys ds)
  | _ => .none
def pys : List Dt → List PyData
  | [] => []
  | d :: ds => py d :: pys ds
end
mutual
def isPy : Dt → Bool
  | .obj _ => false
  | .ty _ => false
  | .lst ds => isPys ds
  | .tup ds => isPys ds
  | .dic _ _ => false
  | .dik _ _ => false
  | .tuP ds => isPys ds
  | _ => true
def isPys : List Dt → Bool
  | [] => true
  | d :: ds => isPy d && isPys ds
end
mutual
theorem Rp.dp {K : PySem.W.Frag} {F H : Hp} (u : Up F H) : ∀ {v : V} {d : Dt}, Rp F v d → isPy d = true → Dp K H v (py d)
  | _, _, .non, _ => by rw [py]; exact .non; all_goals (intros; contradiction)
  | _, _, .bl b, _ => by rw [py]; exact .bl b
  | _, _, .int b, _ => by rw [py]; exact .int b
  | _, _, .str b, _ => by rw [py]; exact .str b
  | _, _, .ty b, h => by simp [isPy] at h
  | _, _, .obj b, h => by simp [isPy] at h
  | _, _, .dic _ _ _, h => by simp [isPy] at h
  | _, _, .dik _ _ _, h => by simp [isPy] at h
  | _, _, .tuP e t, h => by rw [py]; exact .tup (tf_up e u).sq (Rps.dps u t (by simpa [isPy] using h))
  | _, _, .lst e t, h => by rw [py]; exact .lst (.inl (.inl (u _ _ e))) (Rps.dps u t (by simpa [isPy] using h))
  | _, _, .tup e t, h => by rw [py]; exact .tup (.inl (.inl (u _ _ e))) (Rps.dps u t (by simpa [isPy] using h))
theorem Rps.dps {K : PySem.W.Frag} {F H : Hp} (u : Up F H) : ∀ {v : List V} {d : List Dt}, Rps F v d → isPys d = true → DpAll K H v (pys d)
  | _, _, .nil, _ => by rw [pys]; exact .nil
  | _, d :: ds, .cons e t, h => by
    have h' : (isPy d && isPys ds) = true := by simpa [isPys] using h
    rw [Bool.and_eq_true] at h'
    rw [pys]
    exact .cons (Rp.dp u e h'.1) (Rps.dps u t h'.2)
end
def dNeD : R2D := fun x y Q => isPy x = true ∧ isPy y = true ∧ SeqAt.shaped (py x) = true ∧ SeqAt.shaped (py y) = true ∧ Q (.bl (!PyData.eqv (py x) (py y)))
theorem lft_neD {K : PySem.W.Frag} : Lft2 (rNeD K) dNeD := fun F H x y d1 d2 Q R u p1 p2 ⟨h1, h2, h3, h4, h⟩ k => ⟨_, _, p1.dp u h1, p2.dp u h2, h3, h4, k _ _ (.bl _) h⟩
theorem atI_rps {F : Hp} {xs : List V} {ds : List Dt} {i : Int} {d : Dt} (r : Rps F xs ds) (h : atI ds i = some d) : ∃ v, atI xs i = some v ∧ Rp F v d := by
  unfold atI at h ⊢
  rw [r.len]
  cases e : ixN ds.length i with
  | none => rw [e] at h; cases h
  | some j =>
    rw [e] at h
    obtain ⟨v, h1, h2⟩ := r.get (show ds[j]? = some d from h)
    exact ⟨v, h1, h2⟩
theorem flat_ints (ns : List Int) : (ns.map V.int).all flatV = true := by
  rw [List.all_eq_true]
  intro x hx
  obtain ⟨n, _, rfl⟩ := List.mem_map.mp hx
  rfl
def dLen : RCD := fun ds Q => ∃ zs, (ds = [.lst zs] ∨ ds = [.tup zs]) ∧ Q (.int zs.length)
theorem Rps.one {F : Hp} {vs : List V} {d : Dt} (h : Rps F vs [d]) : ∃ v, vs = [v] ∧ Rp F v d := by
  cases h with
  | cons p t => cases t; exact ⟨_, rfl, p⟩
theorem lft_len {K : PySem.W.Frag} : LftC (fun xs H Q => ∃ p ys, xs = [.ref p] ∧ (SqL K H p ys ∨ SqT K H p ys) ∧ Q (.int ys.length) H) dLen := fun F H vs ds Q R u rp ⟨zs, h, q⟩ k => by
  rcases h with rfl | rfl
  · obtain ⟨v, rfl, p⟩ := rp.one
    obtain ⟨a, xs, rfl, hF, rx⟩ := p.lst_inv
    exact ⟨a, xs, rfl, .inl (.inl (.inl (u _ _ hF))), by rw [rx.len]; exact k _ _ (.int _) q⟩
  · obtain ⟨v, rfl, p⟩ := rp.one
    obtain ⟨a, xs, rfl, hF, rx⟩ := p.tup_inv
    exact ⟨a, xs, rfl, .inr (.inl (.inl (u _ _ hF))), by rw [rx.len]; exact k _ _ (.int _) q⟩
def dTupleOf : RCD := fun ds Q => ∃ zs, ds = [.lst zs] ∧ Q (.tup zs)
theorem lft_tupleOf {K : PySem.W.Frag} : LftT (fun xs H Q => ∃ p ys, xs = [.ref p] ∧ ((SqL K H p ys ∧ ∀ l, H l = none → Q (.ref l) (upd H l (.tup ys))) ∨ (SqT K H p ys ∧ Q (.ref p) H))) dTupleOf := fun F H vs ds Q R u rp ⟨zs, h, q⟩ k => by
  subst h
  obtain ⟨v, rfl, p⟩ := rp.one
  obtain ⟨a, xs, rfl, hF, rx⟩ := p.lst_inv
  exact ⟨a, xs, rfl, .inl ⟨.inl (.inl (u _ _ hF)), fun l hl => k l xs zs hl rx q⟩⟩
section
variable {c : Fc} {X : Cx} {a b e : Expr} {es : List Expr} {te ta tb : VTE} {tas : VTA} {pos p : Pos} {x : Str} {r : RC} {r' : RCD} {rn : RCN} {id T : String}
theorem ve_cbR (hc : CallR X (.builtin id) r) (L : LftC r r') (hg : Gl X x) (hm : X.mg x = none) (hv : bootBuiltins x = some (.builtin id)) (ha : PA X (e :: es) (bOf c tas)) (hn : x ≠ "__name__" := by decide) (hdb : (x == ("__debug__" : Str)) = false := by decide)
    (he : starEach (e :: es) X.env = (false, eval e X.env) :: starEach es X.env := by rfl) (hpl : (backTo pos (starEach es X.env)).any (·.1) = false := by rfl) : PE X (.Call (.Name x p) (e :: es) [] pos) (tOf c (vCBR r' tas)) := PE.imp (pe_callB hc hg hm hv ha hn hdb he hpl) fun _ _ _ => cbR_of L
theorem ve_tyTR (hc : CallR X (.type T) r) (L : LftT r r') (hg : Gl X x) (hm : X.mg x = none) (hv : bootBuiltins x = some (.type T)) (ha : PA X (e :: es) (bOf c tas)) (hn : x ≠ "__name__" := by decide) (hdb : (x == ("__debug__" : Str)) = false := by decide)
    (he : starEach (e :: es) X.env = (false, eval e X.env) :: starEach es X.env := by rfl) (hpl : (backTo pos (starEach es X.env)).any (·.1) = false := by rfl) : PE X (.Call (.Name x p) (e :: es) [] pos) (tOf c (vCBR r' tas)) := PE.imp (pe_callTy hc hg hm hv ha hn hdb he hpl) fun _ _ _ => ctR_of L
theorem ve_ix {r : R2} {rd : R2D} (hr : IxR X r) (L : Lft2 r rd) (ha : PE X a (tOf c ta)) (hb : PE X b (tOf c tb)) (hs : PlainIx b) : PE X (.Subscript a b pos) (tOf c (vOp rd ta tb)) := PE.imp (pe_ix hr ha hb hs) fun _ _ _ => op_of L
/-- of a list of one's own -/
def vIxO (i : Nat) (tb : VTE) : VTE := fun env n Q => (∃ d0, rdS env i d0) ∧ tb env n fun y env' n' => ∃ ds k d, rdS env' i (.lst ds) ∧ y = .int k ∧ atI ds k = some d ∧ Q d env' n'
theorem Rel.rdL {F H : Hp} {σ : L2.St} {env : Ev} {n : Nat} {i : Nat} {ds : List Dt} (r : Rel c F H σ env n) (e : VL.rdS env i (.lst ds)) : ∃ a xs, σ[i]? = some (some (.ref a)) ∧ H a = some (.lst xs) ∧ Rps F xs ds := by
  rcases e with e | ⟨ds', e, h⟩
  · obtain ⟨v, e2, rp⟩ := r.sl i _ e
    obtain ⟨a, xs, rfl, hF, rx⟩ := rp.lst_inv
    exact ⟨a, xs, e2, r.sub _ _ hF, rx⟩
  · cases h
    exact r.rdOwn e
theorem ve_ixO {i : Nat} (ha : PE X a (tVar i)) (hb : PE X b (tOf c tb)) (hs : PlainIx b) : PE X (.Subscript a b pos) (tOf c (vIxO i tb)) := PE.imp (pe_ix ix_list ha hb hs) fun σ H R ⟨F, env, n, Q, r, ⟨⟨d0, e0⟩, q⟩, k⟩ => by
  obtain ⟨v0, _, ev, _⟩ := r.rdS r.gx e0
  refine ⟨v0, ev, F, env, n, _, r, q, fun y H2 F2 d2 env2 n2 r2 u2 p2 q2 => ?_⟩
  obtain ⟨ds, kk, d, ed, rfl, hat, q2⟩ := q2
  obtain ⟨a, xs, ea, hH, rx⟩ := r2.rdL ed
  rw [ev] at ea
  cases ea
  obtain ⟨v, h1, h2⟩ := atI_rps rx hat
  exact ⟨a, xs, kk, v, rfl, p2.int_inv, .inl (.inl hH), h1, k _ H2 F2 d env2 n2 r2 u2 h2 q2⟩
end
end VL
namespace VL
open PySem PySem.Spec PyProof.Rows L2 HM
/-- from F, H to F', H': nothing that stood is written, but what runs along -/
structure Out (am : Am) (F H F' H' : Hp) (n' : Nat) : Prop where
  u : Up F F'
  s : Up F' H'
  f : ∀ a, am.sp a → F' a = none
  o : ∀ a ob, H a = some ob → NT ob → F a = none → F' a = none
  k : ∀ a o, H a = some o → ¬ am.sp a → H' a = some o
  a : am.ok n' H'
abbrev VXK := Value → Option (List (Str × V)) → Nat → Prop
abbrev VSp := List Dt → Nat → (Dt → Nat → Prop) → VXK → Prop
/-- how an exception's own dict lies -/
def XOk (H H' F' : Hp) (od : Option Addr) (fs : Option (List (Str × V))) : Prop := (od = none ∧ fs = none) ∨ ∃ d l, od = some d ∧ fs = some l ∧ H d = none ∧ H' d = some (.xd l) ∧ F' d = none
def vsp (am : Am) (sp : VSp) : Sp := fun vs H Q E => ∃ F ds n Q' E', Up F H ∧ (∀ a, am.sp a → F a = none) ∧ am.ok n H ∧ Rps F vs ds ∧ sp ds n Q' E' ∧ (∀ v F' H' d n', Out am F H F' H' n' → Rp F' v d → Q' d n' → Q v H') ∧
  ∀ cls od fs F' H' n', Out am F H F' H' n' → XOk H H' F' od fs → E' cls fs n' → E cls od H'
abbrev VFn (gd : Around → Prop) (P : Program) (w : World) (K : PySem.W.Frag) (mg : Str → Option Value) (base : Heap) (CX : CXT) (k : Nat) (f : Addr) (fd : FuncData) (ps : List Str) (am : Am) (sp : VSp) : Prop := PFn gd P w K mg base CX k f fd ps (vsp am sp)
def startE (N : List Str) (ds : List Dt) : Ev := ds.map Sl.fz ++ List.replicate (N.length - ds.length) Sl.no
theorem rel_start {am : Am} {F H : Hp} {N : List Str} {vs : List V} {ds : List Dt} {n : Nat} (u : Up F H) (hs : ∀ a, am.sp a → F a = none) (ha : am.ok n H) (r : Rps F vs ds) : Rel ⟨am, F, H⟩ F H (L2.start N vs) (startE N ds) n := by
  have hl := r.len
  refine ⟨u, hs, ha, Up.refl F, fun _ _ _ _ e => e, fun _ _ e _ => e, by simp [L2.start, startE, hl], fun i s e => ?_, fun i j a k k' _ e1 _ _ => ?_⟩
  · unfold startE at e
    by_cases hi : i < ds.length
    · rw [List.getElem?_append_left (by simpa using hi), List.getElem?_map] at e
      obtain ⟨d, hd, rfl⟩ := Option.map_eq_some_iff.mp e
      obtain ⟨v, hv, rv⟩ := r.get hd
      refine ⟨v, ?_, rv⟩
      unfold L2.start
      rw [List.getElem?_append_left (by simp; omega), List.getElem?_map, hv]
      rfl
    · rw [List.getElem?_append_right (by simp; omega)] at e
      have := List.mem_of_getElem? e
      rw [List.mem_replicate] at this
      rw [this.2]
      trivial
  · unfold startE at e1
    by_cases hi : i < ds.length
    · rw [List.getElem?_append_left (by simpa using hi), List.getElem?_map] at e1
      obtain ⟨d, hd, z⟩ := Option.map_eq_some_iff.mp e1
      cases z
    · rw [List.getElem?_append_right (by simp; omega)] at e1
      have := List.mem_of_getElem? e1
      rw [List.mem_replicate] at this
      cases this.2
theorem Rel.out {am : Am} {F0 H0 F H : Hp} {σ : L2.St} {env : Ev} {n : Nat} (r : Rel ⟨am, F0, H0⟩ F H σ env n) : Out am F0 H0 F H n := ⟨r.up0, r.sub, r.spf, r.out0, r.keep0, r.amb⟩
section
variable {P : Program} {w : World} {K : PySem.W.Frag} {mg : Str → Option Value} {base : Heap} {am : Am} {gd : Around → Prop} {x qual : Str} {st : Stmt} {f : Addr} {fd : FuncData} {N ps : List Str} {k : Nat} {sp : VSp}
/-- a def that lets no exception out -/
theorem vfn_of (F : Fun K x qual st f fd) (S : FnScope N ps (defScope st)) (len : ∀ ds n Q E, sp ds n Q E → ds.length = ps.length)
    (body : ∃ ts : VTS, (∀ (cdv : Value) (A : Around) (out : List Env) (s : Shared) (H : Hp) (E : XK) (F0 H0 : Hp), fd.code = cdv → gd A → Room k (A.deeper (envOfC qual (defScope st) s.heap.objs.size f cdv)) → PSs (cxOf CX0 P w K mg base N qual (defScope st) f cdv A out s H E).nox (defBody st) (sOf ⟨am, F0, H0⟩ ts)) ∧
      ∀ ds n Q E, sp ds n Q E → ts { nx := fun _ n' => Q .non n', rt := Q } (startE N ds) n) : VFn gd P w K mg base CX0 (k + 1) f fd ps am sp := by
  obtain ⟨ts, hts, hsp⟩ := body
  refine pfn_of F S (fun vs H Q E h => ?_) (fun cdv A out s H vs Q E hcd hgd hr h => ?_)
  · obtain ⟨F0, ds, n, Q', E', _, _, _, r, h, _⟩ := h
    rw [r.len]
    exact len ds n Q' E' h
  · obtain ⟨F0, ds, n, Q', E', u, hs, ha, r, h, kq, ke⟩ := h
    refine ⟨_, hts cdv A out s H E F0 H hcd hgd hr, F0, startE N ds, n, _, rel_start u hs ha r, hsp ds n Q' E' h, ⟨fun F' H' σ' env' n' r' _ q => kq .non F' H' .non n' r'.out .non q, fun F' H' σ' env' n' v d r' _ rv q => kq v F' H' d n' r'.out rv q, fun _ _ _ _ _ _ _ z => z.elim, fun _ _ _ _ _ _ _ z => z.elim⟩⟩
variable {X : Cx} {c : Fc} {CX : CXT} {E : XK} {p pos : Pos} {e : Expr} {es : List Expr} {tas : VTA}
/-- f(..) -/
def vCall (sp : VSp) (ta : VTA) : VTE := fun env n Q => ta env n fun ds env1 n1 => sp ds n1 (fun d n2 => Q d env1 n2) fun _ _ _ => False
theorem call_of {σ : L2.St} {H : Hp} {R : VK} (h : tOf c (vCall sp tas) σ H R) : tCall (vsp c.am sp) [] E (aOf c tas) σ H R := by
  obtain ⟨F, env, n, Q, r, q, k⟩ := h
  refine ⟨F, env, n, _, r, q, fun vs H1 F1 ds env1 n1 r1 u1 p1 q1 => ?_⟩
  show vsp c.am sp (vs ++ []) H1 R E
  rw [List.append_nil]
  exact ⟨F1, ds, n1, _, _, r1.sub, r1.spf, r1.amb, p1, q1, fun v F' H' d n' o rv qv => k v H' F' d env1 n' (r1.call o.u o.s o.f o.o o.k o.a) (u1.trans o.u) rv qv, fun _ _ _ _ _ _ _ _ z => z.elim⟩
theorem ve_call (G : VFn gd X.prog X.w X.K X.mg X.base CX k f fd ps c.am sp) (hgd : gd X.A) (hr : Room k X.A) (hg : Gl X x) (hm : X.mg x = some (.ref f)) (hk : PySem.W.keepIn X.K (.ref f) = true) (hb : Binds X.K fd ps []) (hx : Passes CX X (fun _ _ _ => False)) (ha : PA X (e :: es) (aOf c tas)) (hdb : (x == ("__debug__" : Str)) = false := by decide)
    (he : starEach (e :: es) X.env = (false, eval e X.env) :: starEach es X.env := by rfl) (hpl : (backTo pos (starEach es X.env)).any (·.1) = false := by rfl) : PE X (.Call (.Name x p) (e :: es) [] pos) (tOf c (vCall sp tas)) := PE.imp (pe_callP G hgd hr hg hm hk hb hx ha hdb he hpl) fun _ _ _ => call_of
end
def Fc.wth (c : Fc) (D : Addr) (o : HO) : Fc := ⟨c.am, c.F0, upd c.H0 D o⟩
section
variable {c : Fc} {F H : Hp} {σ : L2.St} {env : Ev} {n : Nat} {D : Addr} {o : HO}
theorem Rel.push (r : Rel c F H σ env n) (hH : H D = some o) (hF : F D = none) (ns : ¬ c.am.sp D) (hn : ∀ (j : Nat) k', env[j]? = some (.ow k') → σ[j]? ≠ some (some (.ref D))) : Rel (c.wth D o) F H σ env n := by
  refine ⟨r.sub, r.spf, r.amb, r.up0, fun a oa h1 nt h2 => ?_, fun a ob e na => ?_, r.len, fun i s e => ?_, r.apart⟩
  · by_cases z : a = D
    · rw [z]; exact hF
    · exact r.out0 a oa (by have : upd c.H0 D o a = some oa := h1; rwa [upd_ne z] at this) nt h2
  · by_cases z : a = D
    · have e' : upd c.H0 D o a = some ob := e
      rw [z, upd_same] at e'
      cases e'
      rw [z]; exact hH
    · have e' : upd c.H0 D o a = some ob := e
      rw [upd_ne z] at e'
      exact r.keep0 a ob e' na
  · have q := r.sl i s e
    cases s with
    | no => trivial
    | fz d => exact q
    | ow k =>
      obtain ⟨a, ob, g1, g2, g3, g4, g5, g6⟩ := q
      exact ⟨a, ob, g1, g2, by show upd c.H0 D o a = none; rw [upd_ne fun z => hn i k e (by rw [g1, z])]; exact g3, g4, g5, g6⟩
theorem Rel.pop (nto : NT o) (r : Rel (c.wth D o) F H σ env n) (h0 : c.H0 D = none) (hF0 : c.F0 D = none) (ns : ¬ c.am.sp D) : Rel c F H σ env n ∧ H D = some o ∧ F D = none ∧ ∀ (j : Nat) k', env[j]? = some (.ow k') → σ[j]? ≠ some (some (.ref D)) := by
  refine ⟨⟨r.sub, r.spf, r.amb, r.up0, fun a oa h1 nt h2 => ?_, fun a ob e na => ?_, r.len, fun i s e => ?_, r.apart⟩, ?_, ?_, fun j k' e z => ?_⟩
  · refine r.out0 a oa ?_ nt h2
    show upd c.H0 D o a = some oa
    rw [upd_ne fun z => by rw [z, h0] at h1; cases h1]
    exact h1
  · refine r.keep0 a ob ?_ na
    show upd c.H0 D o a = some ob
    rw [upd_ne fun z => by rw [z, h0] at e; cases e]
    exact e
  · have q := r.sl i s e
    cases s with
    | no => trivial
    | fz d => exact q
    | ow k =>
      obtain ⟨a, ob, g1, g2, g3, g4, g5, g6⟩ := q
      refine ⟨a, ob, g1, g2, ?_, g4, g5, g6⟩
      have g3' : upd c.H0 D o a = none := g3
      by_cases z : a = D
      · rw [z]; exact h0
      · rw [upd_ne z] at g3'; exact g3'
  · exact r.keep0 D o (show upd c.H0 D o D = some o from upd_same) ns
  · exact r.out0 D o (show upd c.H0 D o D = some o from upd_same) nto hF0
  · obtain ⟨a, ob, g1, _, g3, _⟩ := r.sl j _ e
    rw [g1] at z
    cases z
    have g3' : upd c.H0 D o D = none := g3
    rw [upd_same] at g3'
    cases g3'
end
end VL
namespace VL
open PySem PySem.Spec PyProof.Rows L2 HM
def wipeE (env : Ev) : List Nat → Ev
  | [] => env
  | v :: vs => (wipeE env vs).set v .no
def restE (env1 env : Ev) : List Nat → Ev
  | [] => env
  | v :: vs => (restE env1 env vs).set v (env1.getD v .no)
theorem wipeE_length (env : Ev) : ∀ vs : List Nat, (wipeE env vs).length = env.length
  | [] => rfl
  | v :: vs => by unfold wipeE; rw [List.length_set, wipeE_length env vs]
theorem restE_length (env1 env : Ev) : ∀ vs : List Nat, (restE env1 env vs).length = env.length
  | [] => rfl
  | v :: vs => by unfold restE; rw [List.length_set, restE_length env1 env vs]
theorem wipeE_get {env : Ev} {i : Nat} {s : Sl} : ∀ {vs : List Nat}, (wipeE env vs)[i]? = some s → s = .no ∨ (env[i]? = some s ∧ i ∉ vs)
  | [], h => .inr ⟨h, by simp⟩
  | v :: vs, h => by
    unfold wipeE at h
    by_cases z : i = v
    · subst z
      have hl := (List.getElem?_eq_some_iff.mp h).1
      rw [List.length_set] at hl
      rw [List.getElem?_set_self hl] at h
      exact .inl (Option.some.inj h).symm
    · rw [List.getElem?_set_ne (Ne.symm z)] at h
      rcases wipeE_get h with h | ⟨h1, h2⟩
      · exact .inl h
      · exact .inr ⟨h1, by simp [z, h2]⟩
theorem restE_get {env1 env : Ev} {i : Nat} {s : Sl} : ∀ {vs : List Nat}, (restE env1 env vs)[i]? = some s → (s = env1.getD i .no ∧ i ∈ vs) ∨ (env[i]? = some s ∧ i ∉ vs)
  | [], h => .inr ⟨h, by simp⟩
  | v :: vs, h => by
    unfold restE at h
    by_cases z : i = v
    · subst z
      have hl := (List.getElem?_eq_some_iff.mp h).1
      rw [List.length_set] at hl
      rw [List.getElem?_set_self hl] at h
      exact .inl ⟨(Option.some.inj h).symm, by simp⟩
    · rw [List.getElem?_set_ne (Ne.symm z)] at h
      rcases restE_get h with ⟨h1, h2⟩ | ⟨h1, h2⟩
      · exact .inl ⟨h1, by simp [h2]⟩
      · exact .inr ⟨h1, by simp [z, h2]⟩
theorem wipe_get (σ : L2.St) (i : Nat) : ∀ vs : List Nat, (wipe σ vs)[i]? = if i ∈ vs ∧ i < σ.length then some none else σ[i]?
  | [] => by simp [wipe]
  | v :: vs => by
    unfold wipe
    by_cases z : i = v
    · subst z
      by_cases hl : i < σ.length
      · rw [List.getElem?_set_self (by rw [wipe_length]; exact hl), if_pos ⟨by simp, hl⟩]
      · rw [if_neg (fun h => hl h.2), List.getElem?_eq_none (by rw [List.length_set, wipe_length]; omega), List.getElem?_eq_none (by omega)]
    · rw [List.getElem?_set_ne (Ne.symm z), wipe_get σ i vs]
      simp [z]
theorem wipe_set {σ : L2.St} {i : Nat} {x : Option V} {vs : List Nat} (h : i ∈ vs) : wipe (σ.set i x) vs = wipe σ vs := by
  refine List.ext_getElem? fun j => ?_
  rw [wipe_get, wipe_get, List.length_set]
  by_cases z : j = i
  · subst z
    by_cases hl : j < σ.length
    · rw [if_pos ⟨h, hl⟩, if_pos ⟨h, hl⟩]
    · rw [if_neg (fun q => hl q.2), if_neg (fun q => hl q.2), List.getElem?_eq_none (by rw [List.length_set]; omega), List.getElem?_eq_none (by omega)]
  · rw [List.getElem?_set_ne (Ne.symm z)]
theorem Rel.wipe {c : Fc} {F H : Hp} {σ : L2.St} {env : Ev} {n : Nat} (r : Rel c F H σ env n) (vs : List Nat) : Rel c F H (L2.wipe σ vs) (wipeE env vs) n :=
  r.weak (by rw [wipe_length, wipeE_length, r.len]) fun i s e => by
    rcases wipeE_get e with h | ⟨h1, h2⟩
    · exact .inl h
    · exact .inr ⟨h1, wipe_out h2⟩
theorem Rel.wipe2 {c : Fc} {F H : Hp} {σ σ2 : L2.St} {env : Ev} {n : Nat} {vs : List Nat} (r : Rel c F H σ2 env n) (h : L2.wipe σ2 vs = L2.wipe σ vs) : Rel c F H (L2.wipe σ vs) (wipeE env vs) n := h ▸ r.wipe vs
theorem Rel.rest {c : Fc} {F1 H1 F H : Hp} {σ : L2.St} {env1 env : Ev} {n1 n : Nat} {vs : List Nat} (r1 : Rel c F1 H1 σ env1 n1) (u : Up F1 F) (no : ∀ i ∈ vs, ∀ k, env1[i]? ≠ some (.ow k)) (r : Rel c F H (L2.wipe σ vs) env n) : Rel c F H σ (restE env1 env vs) n := by
  have hl : σ.length = env.length := by rw [← r.len, wipe_length]
  refine ⟨r.sub, r.spf, r.amb, r.up0, r.out0, r.keep0, by rw [restE_length]; exact hl, fun i s e => ?_, fun i j a k k' hij e1 e2 e3 => ?_⟩
  · rcases restE_get e with ⟨rfl, h2⟩ | ⟨h1, h2⟩
    · cases e4 : env1[i]? with
      | none =>
        have : env1.getD i .no = .no := by rw [List.getD_eq_getElem?_getD, e4]; rfl
        rw [this]; trivial
      | some s =>
        have : env1.getD i .no = s := by rw [List.getD_eq_getElem?_getD, e4]; rfl
        rw [this]
        have q := r1.sl i s e4
        cases s with
        | no => trivial
        | fz d => exact let ⟨v, g1, g2⟩ := q; ⟨v, g1, g2.up u⟩
        | ow k => exact absurd e4 (no i h2 k)
    · have q := r.sl i s h1
      rw [wipe_out h2] at q
      exact q
  · have f : ∀ {i : Nat} {k : Con}, (restE env1 env vs)[i]? = some (.ow k) → i ∉ vs ∧ env[i]? = some (.ow k) := fun {i k} e => by
      rcases restE_get e with ⟨h1, h2⟩ | ⟨h1, h2⟩
      · cases e4 : env1[i]? with
        | none =>
          have : env1.getD i .no = .no := by rw [List.getD_eq_getElem?_getD, e4]; rfl
          rw [this] at h1; cases h1
        | some s =>
          have : env1.getD i .no = s := by rw [List.getD_eq_getElem?_getD, e4]; rfl
          rw [this] at h1
          rw [← h1] at e4
          exact absurd e4 (no i h2 k)
      · exact ⟨h2, h1⟩
    obtain ⟨n1, f1⟩ := f e1
    obtain ⟨n2, f2⟩ := f e2
    have q := r.apart i j a k k' hij f1 f2 (by rw [wipe_out n1]; exact e3)
    rw [wipe_out n2] at q
    exact q
/-- the target of a comprehension -/
def TgOk (g : TG) (gv : VTG) (vs : List Nat) : Prop := ∀ (c : Fc) F H σ env n v d (Q : Ev → Nat → Prop) (R : L2.St → Hp → Prop), Rel c F H σ env n → Rp F v d → gv d env n Q → (∀ σ' env' n', Rel c F H σ' env' n' → L2.wipe σ' vs = L2.wipe σ vs → Q env' n' → R σ' H) → g v σ H R
theorem tg_name {i : Nat} {vs : List Nat} (h : i ∈ vs) : TgOk (gName i) (vgName i) vs := fun c F H σ env n v d Q R r rp q k => k _ _ n (r.setF rp) (wipe_set h) q
def vYes : VTT := fun env n Q => Q true env n
theorem vts_nil {c : Fc} {X : Cx} : PTs X [] (cOf c vYes) := ⟨fun pins s σ H Q I ⟨F, env, n, Q', r, q, k⟩ => (pts_nil (X := X)).run pins s σ H Q I (k true H F env n r (Up.refl F) q)⟩
def LcBody (g : VTG) (tt : VTT) (te : VTE) (vs : List Nat) (xs : List Dt) (env1 : Ev) (n1 : Nat) (Q : Con → Ev → Nat → Prop) : Prop := (∀ i ∈ vs, ∀ k, env1[i]? ≠ some (.ow k)) ∧ xs.length ≤ 5000 ∧ ∃ P : Nat → List Dt → Ev → Nat → Prop, P 0 [] (wipeE env1 vs) n1 ∧
  (∀ i x acc env n, xs[i]? = some x → P i acc env n → g x env n fun env2 n2 => tt env2 n2 fun b env3 n3 => if b = true then te env3 n3 fun y env4 n4 => P (i + 1) (acc ++ [y]) (wipeE env4 vs) n4 else P (i + 1) acc (wipeE env3 vs) n3) ∧
  ∀ acc env n, acc.length ≤ xs.length → P xs.length acc env n → Q (.lst acc) (restE env1 env vs) n
def vLc (wi : VTI) (g : VTG) (tt : VTT) (te : VTE) (vs : List Nat) : VTN := fun env n Q => wi env n fun xs env1 n1 => LcBody g tt te vs xs env1 n1 Q
section
variable {am : Am} {F0 H0 : Hp} {X : Cx}
theorem lc_of {wi : VTI} {g : TG} {gv : VTG} {tt : VTT} {te : VTE} {vs : List Nat} {tt' : TT} {te' : TE} (hg : TgOk g gv vs) (ht : ∀ (F0 H0 : Hp) {σ H R}, cOf ⟨am, F0, H0⟩ tt σ H R → tt' σ H R) (he : ∀ (F0 H0 : Hp) {σ H R}, tOf ⟨am, F0, H0⟩ te σ H R → te' σ H R) {σ : L2.St} {H : Hp} {R : VK} (h : nOf ⟨am, F0, H0⟩ (vLc wi gv tt te vs) σ H R) :
    tLc (iOf ⟨am, F0, H0⟩ wi) g tt' te' vs σ H R := by
  obtain ⟨F, env, n, Q, r, q, k⟩ := h
  refine ⟨F, env, n, _, r, q, fun J H1 F1 xs env1 n1 r1 u1 wk q1 => ?_⟩
  obtain ⟨no, hlen, P, p0, turn, fin⟩ := q1
  intro D nD
  obtain ⟨h0, ns, nf⟩ := r1.new0 nD
  have hF0 : F0 D = none := by
    cases e : F0 D with
    | none => rfl
    | some o => rw [r1.up0 D o e] at nf; cases nf
  -- at each turn: what is made so far stands at D, apart
  refine ⟨fun i m H => m = xs.length - i ∧ i ≤ xs.length ∧ ∃ F' av acc env n, Rel (Fc.wth ⟨am, F0, H0⟩ D (.lst av)) F' H (L2.wipe σ vs) env n ∧ Up F1 F' ∧ Rps F' av acc ∧ acc.length ≤ i ∧ P i acc env n, ⟨_, rfl, Nat.zero_le _, F1, [], [], _, n1, (((r1.wipe vs).lay nD _).push upd_same nf ns fun j k' e z => ?_), Up.refl F1, .nil, Nat.zero_le _, p0⟩, ?_⟩
  · obtain ⟨a, o, g1, _, _, _, g5, _⟩ := (r1.wipe vs).sl j _ e
    rw [g1] at z
    cases z
    rw [g5] at nD
    cases nD
  · rintro i m H2 ⟨rfl, hi, F2, av, acc, env2, n2, r2, u2, ra, hal, p2⟩
    obtain ⟨wg, ws⟩ := wk (Fc.wth ⟨am, F0, H0⟩ D (.lst av)) rfl F2 H2 _ env2 n2 r2 u2 i
    by_cases hlt : i < xs.length
    · obtain ⟨go, yl⟩ := wg hlt
      refine .inr ⟨go, fun H' => ∃ F' av acc env n, Rel (Fc.wth ⟨am, F0, H0⟩ D (.lst av)) F' H' (L2.wipe σ vs) env n ∧ Up F1 F' ∧ Rps F' av acc ∧ acc.length ≤ i + 1 ∧ P (i + 1) acc env n, fun H' hN => ⟨xs.length - (i + 1), by omega, rfl, hlt, hN⟩, fun x H3 y => ?_⟩
      obtain ⟨F3, d, r3, u3, ed, rd⟩ := yl x H3 y
      refine hg _ F3 H3 _ env2 n2 x d _ _ r3 rd (turn i d acc env2 n2 ed p2) fun σ4 env4 n4 r4 hw q4 => ?_
      have hw' : L2.wipe σ4 vs = L2.wipe σ vs := hw.trans (List.ext_getElem? fun j => by
        rw [wipe_get, wipe_get, wipe_length]
        by_cases h : j ∈ vs ∧ j < σ.length
        · rw [if_pos h, if_pos h]
        · rw [if_neg h, if_neg h])
      refine ⟨hw', ht F0 (upd H0 D (.lst av)) ⟨F3, env4, n4, _, r4, q4, fun b H5 F5 env5 n5 r5 u5 q5 => ?_⟩⟩
      cases b with
      | true =>
        refine he F0 (upd H0 D (.lst av)) ⟨F5, env5, n5, _, r5, q5, fun v H6 F6 d6 env6 n6 r6 u6 rv q6 => ?_⟩
        obtain ⟨r7, eD, fD, nD7⟩ := Rel.pop (c := ⟨am, F0, H0⟩) (fun _ z => by cases z) r6 h0 hF0 ns
        have ulen : av.length = acc.length := ra.len
        refine ⟨av, eD, small1000 (by rw [ulen]; omega), F6, av ++ [v], acc ++ [d6], _, n6, ?_, ((u2.trans u3).trans u5).trans u6, (((ra.up u3).up u5).up u6).append (.cons rv .nil), by rw [List.length_append]; exact Nat.succ_le_succ hal, q6⟩
        have r8 : Rel ⟨am, F0, H0⟩ F6 (upd H6 D (.lst (av ++ [v]))) σ4 env6 n6 := by
          refine ⟨fun b o e => ?_, r7.spf, r7.amb' (fun b hb => upd_ne fun z => ns (z ▸ hb)) (codeK_upd fun oc x z => by rw [eD] at z; cases z), r7.up0, r7.out0, fun b o e nb => ?_, r7.len, fun j s e => ?_, r7.apart⟩
          · rw [upd_ne fun z => by rw [z, fD] at e; cases e]; exact r7.sub b o e
          · rw [upd_ne fun z => by
              have e' : H0 b = some o := e
              have h0' : H0 D = none := h0
              rw [z, h0'] at e'; cases e']
            exact r7.keep0 b o e nb
          · have q := r7.sl j s e
            cases s with
            | no => trivial
            | fz d => exact q
            | ow kk =>
              obtain ⟨a, o, g1, g2, g3, g4, g5, g6⟩ := q
              exact ⟨a, o, g1, g2, g3, g4, by rw [upd_ne fun z => nD7 j kk e (by rw [g1, z])]; exact g5, g6⟩
        exact (r8.push upd_same fD ns nD7).wipe2 hw'
      | false =>
        exact ⟨F5, av, acc, _, n5, r5.wipe2 hw', (u2.trans u3).trans u5, (ra.up u3).up u5, Nat.le_succ_of_le hal, q5⟩
    · have e : i = xs.length := by omega
      subst e
      refine .inl ⟨ws (Nat.le_refl _), ?_⟩
      obtain ⟨r7, eD, fD, nD7⟩ := Rel.pop (c := ⟨am, F0, H0⟩) (fun _ z => by cases z) r2 h0 hF0 ns
      refine k D (.lst av) H2 F2 (.lst acc) _ n2 (r1.rest u2 no r7) (u1.trans u2) fD h0 ns eD ⟨av, rfl, ra⟩ (fun j k' e z => ?_) (fin acc env2 n2 hal p2)
      have rr := r1.rest u2 no r7
      rcases restE_get e with ⟨h1, h2⟩ | ⟨h1, h2⟩
      · cases e4 : env1[j]? with
        | none =>
          have : env1.getD j .no = .no := by rw [List.getD_eq_getElem?_getD, e4]; rfl
          rw [this] at h1; cases h1
        | some s =>
          have : env1.getD j .no = s := by rw [List.getD_eq_getElem?_getD, e4]; rfl
          rw [this] at h1
          rw [← h1] at e4
          exact absurd e4 (no j h2 k')
      · exact nD7 j k' h1 (by rw [wipe_out h2]; exact z)
theorem vn_lc {elt tg iter : Expr} {ifs : List Expr} {scope : Scope} {own : List (Str × Nat)} {pos : Pos} {wi : VTI} {g : TG} {gv : VTG} {tt : VTT} {te : VTE} (hc : X.calm = true) (hN : X.N.Nodup) (hi : PI X tg iter (iOf ⟨am, F0, H0⟩ wi)) (ok : BlkOk X.N X.env.scope scope own) (hgk : TgOk g gv (own.map (·.2)))
    (hg : ∀ (s : Shared) (H : Hp) (C : Addr) (cl : List (Str × Addr)) (fp : List Addr), PG (X.blk s H scope (compEnvC scope cl C X.env) fp) tg g)
    (ht : ∀ (F0 H0 : Hp) (s : Shared) (H : Hp) (C : Addr) (cl : List (Str × Addr)) (fp : List Addr), PTs (X.blk s H scope (compEnvC scope cl C X.env) fp) ifs (cOf ⟨am, F0, H0⟩ tt))
    (he : ∀ (F0 H0 : Hp) (s : Shared) (H : Hp) (C : Addr) (cl : List (Str × Addr)) (fp : List Addr), PE (X.blk s H scope (compEnvC scope cl C X.env) fp) elt (tOf ⟨am, F0, H0⟩ te)) (hs : ∀ x, foldedSetIterable iter X.env x = pure x := by intro _; rfl) :
    PE X (.ListComp elt [⟨tg, iter, ifs, 0⟩] scope pos) (nOf ⟨am, F0, H0⟩ (vLc wi gv tt te (own.map (·.2)))) :=
  PE.imp (pe_lc (tt := fun σ H R => ∃ F0 H0, cOf ⟨am, F0, H0⟩ tt σ H R) (te := fun σ H R => ∃ F0 H0, tOf ⟨am, F0, H0⟩ te σ H R) hc hN hi ok hg
    (fun s H C cl fp => ⟨fun pins s' σ H' Q I ⟨F0, H0, q⟩ => (ht F0 H0 s H C cl fp).run pins s' σ H' Q I q⟩) (fun s H C cl fp => ⟨fun pins s' σ H' Q I ⟨F0, H0, q⟩ => (he F0 H0 s H C cl fp).run pins s' σ H' Q I q⟩) hs)
    fun σ H R h => lc_of hgk (fun F0 H0 _ _ _ q => ⟨F0, H0, q⟩) (fun F0 H0 _ _ _ q => ⟨F0, H0, q⟩) h
end
end VL
namespace VL
open PySem PySem.Spec PyProof.Rows L2 HM
abbrev RM := V → List V → Hp → VK → Prop
abbrev RMD := List Dt → List Dt → (Dt → List Dt → Prop) → Prop
def LftM (r : RM) (m : RMD) : Prop := ∀ (F H : Hp) (a : Addr) xs ds vs as (Q : Dt → List Dt → Prop) (R : VK), Up F H → F a = none → H a = some (.lst xs) → Rps F xs ds → Rps F vs as → m ds as Q → (∀ v d xs' ds', Rp F v d → Rps F xs' ds' → Q d ds' → R v (upd H a (.lst xs'))) → r (.ref a) vs H R
def vM (i : Nat) (m : RMD) (ta : VTA) : VTE := fun env n Q => (∃ ds0, env[i]? = some (.ow (.lst ds0))) ∧ ta env n fun as env1 n1 => ∃ ds, env1[i]? = some (.ow (.lst ds)) ∧ m ds as fun d ds' => Q d (env1.set i (.ow (.lst ds'))) n1
section
variable {c : Fc} {X : Cx} {a b e o : Expr} {es : List Expr} {te ta tb : VTE} {tas : VTA} {pos apos : Pos} {r : RM} {m : RMD} {name : Str} {id : String}
theorem m_of {i : Nat} (L : LftM r m) {σ : L2.St} {H : Hp} {R : VK} {K : PySem.W.Frag} (h : tOf c (vM i m tas) σ H R) : tBM K "list" r (tVar i) (aOf c tas) σ H R := by
  obtain ⟨F, env, n, Q, rr, ⟨⟨ds0, e0⟩, q⟩, k⟩ := h
  obtain ⟨a, xs, ea, hH, _⟩ := rr.rdOwn e0
  refine ⟨_, ea, .inl ⟨rfl, xs, .inl (.inl hH)⟩, F, env, n, _, rr, q, fun vs H' F' as env' n' r' u rp q' => ?_⟩
  obtain ⟨ds, ed, q'⟩ := q'
  obtain ⟨a', o', g1, g2, g3, g4, g5, xs', rfl, rx⟩ := r'.sl i _ ed
  rw [ea] at g1
  cases g1
  exact L F' H' a xs' ds vs as _ R r'.sub g2 g5 rx rp q' fun v d ys zs rv ry qv => k v _ F' d _ n' (r'.write (k' := .lst zs) ed ea ⟨ys, rfl, ry⟩) u rv qv
theorem m0_of {i : Nat} (L : LftM r m) {σ : L2.St} {H : Hp} {R : VK} {K : PySem.W.Frag} (h : tOf c (vM i m vNil) σ H R) : tBM0 K "list" r (tVar i) σ H R := by
  obtain ⟨F, env, n, Q, rr, ⟨⟨ds0, e0⟩, q⟩, k⟩ := h
  obtain ⟨a, xs, ea, hH, _⟩ := rr.rdOwn e0
  refine ⟨_, ea, .inl ⟨rfl, xs, .inl (.inl hH)⟩, ?_⟩
  obtain ⟨ds, ed, q'⟩ := q
  obtain ⟨a', o', g1, g2, g3, g4, g5, xs', rfl, rx⟩ := rr.sl i _ ed
  rw [ea] at g1
  cases g1
  exact L F H a xs' ds [] [] _ R rr.sub g2 g5 rx .nil q' fun v d ys zs rv ry qv => k v _ F d _ n (rr.write (k' := .lst zs) ed ea ⟨ys, rfl, ry⟩) (Up.refl F) rv qv
def mAppend : RMD := fun ds as Q => ∃ y, as = [y] ∧ ds.length ≤ 5000 ∧ Q .non (ds ++ [y])
theorem lft_append : LftM rAppend mAppend := fun F H a xs ds vs as Q R u hF hH rx ra ⟨y, e, hl, q⟩ k => by
  subst e
  obtain ⟨v, rfl, p⟩ := ra.one
  exact ⟨a, xs, v, rfl, rfl, hH, small1000 (by rw [rx.len]; exact hl), k _ _ _ _ .non (rx.append (.cons p .nil)) q⟩
def mPop : RMD := fun ds as Q => ∃ y, as = [] ∧ ds[ds.length - 1]? = some y ∧ Q y ds.dropLast
theorem lft_pop : LftM rPop mPop := fun F H a xs ds vs as Q R u hF hH rx ra ⟨y, e, hl, q⟩ k => by
  subst e
  cases ra
  obtain ⟨v, h1, h2⟩ := rx.get hl
  exact ⟨a, xs, v, rfl, rfl, hH, by rw [rx.len]; exact h1, k _ _ _ _ h2 rx.dropLast q⟩
def mPopAt : RMD := fun ds as Q => ∃ (j : Nat) (y : Dt), as = [.int (j : Int)] ∧ ds.length ≤ 5000 ∧ ds[j]? = some y ∧ Q y (ds.eraseIdx j)
theorem lft_popAt : LftM rPopAt mPopAt := fun F H a xs ds vs as Q R u hF hH rx ra ⟨j, y, e, hl, hj, q⟩ k => by
  subst e
  obtain ⟨v, rfl, p⟩ := ra.one
  rw [p.int_inv]
  obtain ⟨w, h1, h2⟩ := rx.get hj
  have hlt := (List.getElem?_eq_some_iff.mp hj).1
  obtain ⟨j', g1, g2, _⟩ := atI_get (atI_nat h1)
  have : j' = j := by
    have z := (ixN_seq (n := xs.length) (i := (j : Int)) (j := j) (by unfold ixN; rw [if_pos (by omega), if_pos (by rw [rx.len]; omega)]; simp)).1
    rw [z] at g1
    exact (Option.some.inj g1).symm
  subst this
  exact ⟨a, xs, (j' : Int), j', w, rfl, rfl, hH, by omega, by omega, g1, h1, k _ _ _ _ h2 (rx.erase j') q⟩
/-- x[i] = e -/
def vSetIx (j : Nat) (ti te : VTE) : VTS := fun V env n => te env n fun d env1 n1 => (∃ ds0, env1[j]? = some (.ow (.lst ds0))) ∧ ti env1 n1 fun y env2 n2 => ∃ (ds : List Dt) (k : Nat), env2[j]? = some (.ow (.lst ds)) ∧ y = .int (k : Int) ∧ k < ds.length ∧ V.nx (env2.set j (.ow (.lst (ds.set k d)))) n2
theorem ixN_nat {m k : Nat} (h : k < m) : ixN m (k : Int) = some k := by unfold ixN; rw [if_pos (by omega), if_pos (by omega)]; simp
theorem vs_setIx {j : Nat} {i v : Expr} {ti tv : VTE} {p2 : Pos} (ho : PE X o (tVar j)) (hi : PE X i (tOf c ti)) (hv : PE X v (tOf c tv)) (ha : ∀ v, assign (.Subscript o i p2) X.env v = (do
      let ov ← holding [v] (eval o X.env)
      let iv ← holding [v, ov] (eval i X.env)
      standAt p2
      holding [v, ov, iv] (setItem ov iv v)
      release [v, ov, iv] []) := by intro _; rfl) (hs : swapsWithSole [.Subscript o i p2] v pos.line X.env = pure false := by rfl) (hw : swappedStores [.Subscript o i p2] v X.env = pure none := by rfl)
    (h1 : (assignEach [.Subscript o i p2] X.env).map (·.2) = [assign (.Subscript o i p2) X.env] := by rfl) : PS X (.Assign [.Subscript o i p2] v pos) (sOf c (vSetIx j ti tv)) := PS.imp (ps_asg hv (pg_sub ho hi set_list ha) hs hw h1) fun D σ H ⟨F, env, n, V, rr, q, k⟩ => by
  refine ⟨F, env, n, _, rr, q, fun v H1 F1 d env1 n1 r1 u1 rv q1 => ?_⟩
  obtain ⟨⟨ds0, e0⟩, q1⟩ := q1
  obtain ⟨a, xs, ea, hH, _⟩ := r1.rdOwn e0
  refine ⟨_, ea, F1, env1, n1, _, r1, q1, fun y H2 F2 d2 env2 n2 r2 u2 p2 q2 => ?_⟩
  obtain ⟨ds, kk, ed, rfl, hk, q2⟩ := q2
  obtain ⟨a', o', g1, g2, g3, g4, g5, xs', rfl, rx⟩ := r2.sl j _ ed
  rw [ea] at g1
  cases g1
  exact ⟨a, xs', _, kk, rfl, p2.int_inv, g5, ixN_nat (by rw [rx.len]; exact hk), k.nx F2 _ σ _ n2 (r2.write (k' := .lst (ds.set kk d)) ed ea ⟨_, rfl, rx.set (rv.up u2) kk⟩) (u1.trans u2) q2⟩
/-- an operator that makes a new list -/
def LftO (r : R2) (r' : Dt → Dt → (List Dt → Prop) → Prop) : Prop := ∀ (F H : Hp) x y d1 d2 (Q : List Dt → Prop) (R : VK), Up F H → Rp F x d1 → Rp F y d2 → r' d1 d2 Q → (∀ p xs zs, H p = none → Rps F xs zs → Q zs → R (.ref p) (upd H p (.lst xs))) → r x y H R
def vOpNew (r' : Dt → Dt → (List Dt → Prop) → Prop) (ta tb : VTE) : VTN := fun env n Q => v2 ta tb (fun x y env' n' => r' x y fun ds => Q (.lst ds) env' n') env n
theorem vn_op {op : Operator} {r : R2} {r' : Dt → Dt → (List Dt → Prop) → Prop} (ho : OpR X (binaryOp op) r) (L : LftO r r') (ha : PE X a (tOf c ta)) (hb : PE X b (tOf c tb)) : PE X (.BinOp a op b pos) (nOf c (vOpNew r' ta tb)) := PE.imp (pe_op ho ha hb) fun σ H R ⟨F, env, n, Q, rr, h, k⟩ =>
  t2_of rr h fun x y d1 d2 H' F' env' n' r2 u p1 p2 q => L F' H' x y d1 d2 _ R r2.sub p1 p2 q fun p xs zs np rx qz => nOf_new r2 u np (kk := .lst zs) ⟨xs, rfl, rx⟩ qz k
def dCat : Dt → Dt → (List Dt → Prop) → Prop := fun x y Q => ∃ a b, x = .lst a ∧ y = .lst b ∧ a.length + b.length ≤ 5000 ∧ Q (a ++ b)
theorem lft_cat : LftO rCat dCat := fun F H x y d1 d2 Q R u p1 p2 ⟨a, b, e1, e2, hl, q⟩ k => by
  subst e1 e2
  obtain ⟨l, xs, rfl, h1, r1⟩ := p1.lst_inv
  obtain ⟨l2, ys, rfl, h2, r2⟩ := p2.lst_inv
  exact ⟨l, l2, xs, ys, rfl, rfl, u _ _ h1, u _ _ h2, small1k (by rw [r1.len, r2.len]; exact hl), fun p np => k p _ _ np (r1.append r2) q⟩
theorem rgV_ints (a b : Int) : rgV a b = ((List.range (b - a).toNat).map fun i : Nat => a + (i : Int)).map V.int := by
  unfold rgV
  rw [List.map_map]
  rfl
theorem rps_rg {F : Hp} (a b : Int) : Rps F (rgV a b) (rngD a (b - a).toNat) := by
  rw [rgV_ints]
  have : rngD a (b - a).toNat = ((List.range (b - a).toNat).map fun i : Nat => a + (i : Int)).map Dt.int := by unfold rngD; rw [List.map_map]; rfl
  rw [this]
  exact Rps.ints _
abbrev VRG := Ev → Nat → (Int → Int → Ev → Nat → Prop) → Prop
def rgOf (c : Fc) (tr : VRG) : L2.St → Hp → (Int → Int → Hp → Prop) → Prop := fun σ H R => ∃ F env n Q, Rel c F H σ env n ∧ tr env n Q ∧ ∀ i j H' F' env' n', Rel c F' H' σ env' n' → Up F F' → Q i j env' n' → R i j H'
theorem PRg.imp {X : Cx} {e : Expr} {t t' : L2.St → Hp → (Int → Int → Hp → Prop) → Prop} (h : PRg X e t) (k : ∀ σ H R, t' σ H R → t σ H R) : PRg X e t' := fun pins s σ H Q I q => h pins s σ H Q I (k _ _ _ q)
def vRg1 (ta : VTE) : VRG := fun env n Q => ta env n fun d env1 n1 => ∃ j, d = .int j ∧ Q 0 j env1 n1
theorem vrg_1 {p pos : Pos} (hg : Gl X "range") (hm : X.mg "range" = none) (ha : PE X a (tOf c ta)) (na : starEach [a] X.env = (false, eval a X.env) :: starEach [] X.env := by rfl) : PRg X (.Call (.Name "range" p) [a] [] pos) (rgOf c (vRg1 ta)) := PRg.imp (prg_1 hg hm ha na) fun σ H R ⟨F, env, n, Q, rr, h, k⟩ =>
  ⟨F, env, n, _, rr, h, fun v H' F' d env' n' r' u rp q => by
    obtain ⟨j, rfl, q⟩ := q
    exact ⟨j, rp.int_inv, k _ _ _ _ _ _ r' u q⟩⟩
def vLRg (tr : VRG) : VTN := fun env n Q => tr env n fun i j env1 n1 => (0 ≤ i ∧ j ≤ 1000000 ∧ i ≤ 1000000 ∧ 0 ≤ j) ∧ Q (.lst (rngD i (j - i).toNat)) env1 n1
def vTRg (tr : VRG) : VTE := fun env n Q => tr env n fun i j env1 n1 => (0 ≤ i ∧ j ≤ 1000000 ∧ i ≤ 1000000 ∧ 0 ≤ j) ∧ Q (.tup (rngD i (j - i).toNat)) env1 n1
theorem vn_listRg {tr : VRG} {p pos : Pos} (hc : X.calm = true) (hg : Gl X "list") (hm : X.mg "list" = none) (he : PRg X e (rgOf c tr)) (na : starEach [e] X.env = (false, eval e X.env) :: starEach [] X.env := by rfl) : PE X (.Call (.Name "list" p) [e] [] pos) (nOf c (vLRg tr)) := PE.imp (pe_listRg hc hg hm he na) fun σ H R ⟨F, env, n, Q, rr, h, k⟩ =>
  ⟨F, env, n, _, rr, h, fun i j H' F' env' n' r' u q => ⟨RgOk.of_le q.1.1 (by omega) (by omega) q.1.2.2.2, fun p np => nOf_new r' u np (kk := .lst (rngD i (j - i).toNat)) ⟨_, rfl, rps_rg i j⟩ q.2 k⟩⟩
theorem ve_tupRg {tr : VRG} {p pos : Pos} (hc : X.calm = true) (hg : Gl X "tuple") (hm : X.mg "tuple" = none) (he : PRg X e (rgOf c tr)) (na : starEach [e] X.env = (false, eval e X.env) :: starEach [] X.env := by rfl) : PE X (.Call (.Name "tuple" p) [e] [] pos) (tOf c (vTRg tr)) := PE.imp (pe_tupRg hc hg hm he na) fun σ H R ⟨F, env, n, Q, rr, h, k⟩ =>
  ⟨F, env, n, _, rr, h, fun i j H' F' env' n' r' u q => ⟨RgOk.of_le q.1.1 (by omega) (by omega) q.1.2.2.2, fun p np => by
    obtain ⟨_, _, nf⟩ := r'.new0 np
    exact k _ _ (upd F' p _) _ env' n' (r'.layF np _) (u.trans (up_lay nf)) (.tup upd_same (rps_rg i j)) q.2⟩⟩
def dRep : Dt → Dt → (List Dt → Prop) → Prop := fun x y Q => ∃ (a : List Dt) (k : Nat), x = .lst a ∧ y = .int (k : Int) ∧ k ≤ 5000 ∧ a.length * k ≤ 5000 ∧ Q (List.flatten (List.replicate k a))
theorem Rps.rep {F : Hp} {xs : List V} {ds : List Dt} (h : Rps F xs ds) : ∀ k : Nat, Rps F (List.flatten (List.replicate k xs)) (List.flatten (List.replicate k ds))
  | 0 => .nil
  | k + 1 => by
    rw [List.replicate_succ, List.replicate_succ, List.flatten_cons, List.flatten_cons]
    exact h.append (Rps.rep h k)
theorem lft_rep : LftO rRep dRep := fun F H x y d1 d2 Q R u p1 p2 ⟨a, kk, e1, e2, hk, hl, q⟩ k => by
  subst e1 e2
  obtain ⟨l, xs, rfl, h1, r1⟩ := p1.lst_inv
  rw [p2.int_inv]
  exact ⟨l, _, xs, rfl, rfl, u _ _ h1, by omega, by omega, small1k (by rw [Int.toNat_natCast, r1.len]; exact hl), fun p np => k p _ _ np (by rw [Int.toNat_natCast]; exact r1.rep kk) q⟩
abbrev VTO := Ev → Nat → (Option Int → Ev → Nat → Prop) → Prop
def oOf (c : Fc) (to : VTO) : TO := fun σ H R => ∃ F env n Q, Rel c F H σ env n ∧ to env n Q ∧ ∀ i H' F' env' n', Rel c F' H' σ env' n' → Up F F' → Q i env' n' → R i H'
def vNoPart : VTO := fun env n Q => Q none env n
def vPart (te : VTE) : VTO := fun env n Q => te env n fun d env1 n1 => ∃ i, d = .int i ∧ Q (some i) env1 n1
theorem PO.imp {X : Cx} {e : Option Expr} {t t' : TO} (h : PO X e t) (k : ∀ σ H R, t' σ H R → t σ H R) : PO X e t' := ⟨fun pins s σ H Q I q => h.run pins s σ H Q I (k _ _ _ q)⟩
theorem vo_none : PO X none (oOf c vNoPart) := PO.imp po_none fun σ H R ⟨F, env, n, Q, rr, h, k⟩ => k none H F env n rr (Up.refl F) h
theorem vo_some (he : PE X e (tOf c te)) : PO X (some e) (oOf c (vPart te)) := PO.imp (po_some he) fun σ H R ⟨F, env, n, Q, rr, h, k⟩ => ⟨F, env, n, _, rr, h, fun v H' F' d env' n' r' u rp q => by
  obtain ⟨i, rfl, q⟩ := q
  exact ⟨i, rp.int_inv, k _ H' F' env' n' r' u q⟩⟩
def cutD (xs : List Dt) (lo hi : Option Int) : List Dt := (xs.drop (HT.sIx xs.length 0 lo)).take (HT.sIx xs.length xs.length hi - HT.sIx xs.length 0 lo)
def vSlL (te : VTE) (tl th : VTO) : VTN := fun env n Q => te env n fun d env1 n1 => tl env1 n1 fun l env2 n2 => th env2 n2 fun h env3 n3 => ∃ ds, d = .lst ds ∧ Q (.lst (cutD ds l h)) env3 n3
theorem Rps.cut {F : Hp} {xs : List V} {ds : List Dt} (h : Rps F xs ds) (lo hi : Option Int) : Rps F (cutV xs lo hi) (cutD ds lo hi) := by
  unfold cutV cutD
  rw [h.len]
  exact (h.drop _).take _
theorem vn_slL {lo hi : Option Expr} {tl th : VTO} {p2 : Pos} (he : PE X e (tOf c te)) (hl : PO X lo (oOf c tl)) (hu : PO X hi (oOf c th)) : PE X (.Subscript e (.Slice lo hi none p2) pos) (nOf c (vSlL te tl th)) := PE.imp (pe_slice sl_list he hl hu) fun σ H R ⟨F, env, n, Q, rr, h, k⟩ =>
  ⟨F, env, n, _, rr, h, fun v H1 F1 d env1 n1 r1 u1 p1 q1 => ⟨F1, env1, n1, _, r1, q1, fun l H2 F2 env2 n2 r2 u2 q2 => ⟨F2, env2, n2, _, r2, q2, fun hh H3 F3 env3 n3 r3 u3 q3 => by
    obtain ⟨ds, rfl, q3⟩ := q3
    obtain ⟨a, xs, rfl, hF, rx⟩ := (p1.up (u2.trans u3)).lst_inv
    exact ⟨a, xs, rfl, .inl (.inl (r3.sub _ _ hF)), fun p np => nOf_new r3 ((u1.trans u2).trans u3) np (kk := .lst (cutD ds l hh)) ⟨_, rfl, rx.cut l hh⟩ q3 k⟩⟩⟩⟩
end
end VL
namespace HM
open PySem PySem.Spec PyProof.Rows L2
section
variable {P : Program} {w : World} {A : Around} {E : Value → Shared → Prop} {s : Shared} {a : Addr} {o : Obj} {es : Array DictEntry} {ep : Nat}
theorem walks_keys (hh : A.handled = none) (I : Addr) (hne : a ≠ I) (hd : o.data = .dict es ep) :
    Walks P w A I [I, a] [I] es.size (fun i v => (es.toList.map (·.key))[i]? = some v) (fun i h => h.IsKeyIter I a i es.size ep ∧ h.get? a = some o) where
  sub := fun b hb => by simp at hb; simp [hb]
  frame := fun _ _ _ st hk => ⟨st.1.at fun o e => hk I (by simp) o e, hk a (by simp) o st.2⟩
  item := fun i s Q E hi st hQ => by
    have hx : es[i]? = some es[i] := Array.getElem?_eq_getElem hi
    refine next_key_item st.1 st.2 hd rfl hx fun h' hit' hs' => ?_
    exact hQ es[i].key h' s.toks (by rw [List.getElem?_map, Array.getElem?_toList, hx]; rfl) ⟨hit', (hs'.2 a hne).trans st.2⟩ fun b o hb e => (hs'.2 b (fun h => hb (by simp [h]))).trans e
  done := fun s Q E st hQ => next_key_end hh st.1 st.2 hd rfl (Nat.le_refl _) fun h' he' => hQ h' s.toks fun b o hb e => he' b o (fun h => hb (by simp [h])) e
  self := fun _ _ _ _ st hQ => wpAny_pyIter_keyiter st.1 hQ
theorem collect_dict {Q : List Value → Shared → Prop} (hh : A.handled = none) (hsys : (a == sysModules) = false) (ho : s.heap.get? a = some o) (hx : o.ExactDict) (hd : o.data = .dict es ep) (hsz : es.size ≤ sizeLine)
    (hQ : ∀ s', (∀ b o, s.heap.get? b = some o → s'.heap.get? b = some o) → s.heap.objs.size ≤ s'.heap.objs.size → s'.gens = s.gens → s'.os = s.os → Q (es.toList.map (·.key)) s') :
    wpAny (model P w) A (collect (.ref a)) Q E s := by
  have hlt : a < s.heap.objs.size := Heap.lt_size ho
  have hSa : s.heap.objs.size ≠ a := Nat.ne_of_gt hlt
  unfold collect
  refine wpAny_bind (wpAny_runValue (codeAny_builtin PySem.F.entry_proto_collect ?_))
  rw [Around.under_plainId PySem.F.plain_proto_collect _]
  show wpAny _ A.in1 (newList [] >>= fun l => again (.builtin "list.__iadd__" ⟨[l, .ref a], []⟩)) _ _ s
  refine wpAny_bind (wpAny_newObj_type ?_)
  refine wpAny_pure ⟨plainId_quiet PySem.F.plain_list_iadd _, codeAny_builtin PySem.F.entry_list_iadd ?_⟩
  rw [Around.under_plainId PySem.F.plain_list_iadd _]
  have hS : (s.heap.push { cls := .type "list", data := .seq ([] : List Value).toArray }).get? s.heap.objs.size = some { cls := .type "list", data := .seq ([] : List Value).toArray } := Heap.get?_push_size _ rfl
  have ho1 : (s.heap.push { cls := .type "list", data := .seq ([] : List Value).toArray }).get? a = some o := Heap.get?_push_of_some _ ho
  have hz1 : (s.heap.push { cls := .type "list", data := .seq ([] : List Value).toArray }).objs.size = s.heap.objs.size + 1 := size_push' _ _
  show wpAny _ A.in1 (Builtin.List.listExtendWith (.ref s.heap.objs.size) (.ref a) (.ref s.heap.objs.size)) _ _ _
  unfold Builtin.List.listExtendWith
  refine wpAny_bind (wpAny_typeOf (T := "dict") ⟨o, ho1, hx.1⟩ ?_)
  have h1 : Builtin.List.listSameRef (.ref s.heap.objs.size) (.ref a) = false := by simp [Builtin.List.listSameRef, hSa]
  have h2 : (Value.type "dict" == Value.type "list") = false := by decide
  have h3 : (Value.type "dict" == Value.type "tuple") = false := by decide
  simp only [h1, h2, h3, Bool.or_false, Bool.false_eq_true, if_false]
  refine wpAny_bind (iter_keys (s := { s with heap := s.heap.push { cls := .type "list", data := .seq ([] : List Value).toArray } }) hsys ho1 hx hd ?_)
  dsimp only
  rw [hz1]
  generalize hh2 : (s.heap.push { cls := .type "list", data := .seq ([] : List Value).toArray }).push { cls := .type "dict_keyiterator", data := .fields #[.ref a, .int 0 0, .int es.size 0, .int ep 0] } = h2'
  have k2 : ∀ b u, (s.heap.push { cls := .type "list", data := .seq ([] : List Value).toArray }).get? b = some u → h2'.get? b = some u := fun b u e => by rw [← hh2]; exact Heap.get?_push_of_some _ e
  have ho2 : h2'.get? a = some o := k2 _ _ ho1
  have hT2 : Shared.TypeIs { s with heap := h2' } (.ref a) "dict" := ⟨o, ho2, hx.1⟩
  have hI : h2'.get? (s.heap.objs.size + 1) = some { cls := .type "dict_keyiterator", data := .fields #[.ref a, .int 0 0, .int es.size 0, .int ep 0] } := by
    rw [← hh2, ← hz1]
    exact Heap.get?_push_size _ rfl
  refine wpAny_bind (wpAny_holding ?_)
  unfold Builtin.List.listLengthHint
  refine wpAny_bind (wpAny_specialOf hT2 PySem.F.slot_dict_len.lookup ?_)
  (generalize hid : ("dict.__len__" : String) = id0; (fail_if_success (clear hid id0)); wp_delta; rw [show splitId id0 = some ("dict", "__len__") from by subst hid; decide +kernel]; subst hid)
  refine wpAny_bind (wpAny_isInstance (b := true) hT2 (by rw [isSubtype_type]; kernel_rfl) ?_)
  show wpAny _ A.in1 (typeOf (.ref a) >>= _) _ _ _
  refine wpAny_bind (wpAny_typeOf hT2 ?_)
  refine wpAny_pure ?_
  show wpAny _ A.in1 (rule "list.extend.makes-room" >>= fun _ => Builtin.List.listTouch (.ref s.heap.objs.size) >>= fun _ =>
    again (.builtin "list.extend.loop" ⟨[.ref s.heap.objs.size, .ref (s.heap.objs.size + 1), .ref s.heap.objs.size], []⟩)) _ _ _
  refine wpAny_bind (wpAny_rule ?_)
  have hS2 := k2 _ _ hS
  refine wpAny_bind ?_
  show wpAny _ A.in1 (updateSeq s.heap.objs.size (·.push .none) >>= fun _ => updateSeq s.heap.objs.size (·.pop)) _ _ _
  refine wpAny_bind (wpAny_updateSeq hS2 rfl ?_)
  have hS3 := Heap.get?_update_self (Obj.mapSeq (·.push Value.none)) hS2 rfl
  refine wpAny_updateSeq hS3 rfl ?_
  have hS4 := Heap.get?_update_self (Obj.mapSeq (·.pop)) hS3 rfl
  have oth : ∀ b u, b ≠ s.heap.objs.size → h2'.get? b = some u → ((h2'.update s.heap.objs.size (Obj.mapSeq (·.push Value.none))).update s.heap.objs.size (Obj.mapSeq (·.pop))).get? b = some u :=
    fun b u hb e => (Heap.get?_update_other _ _ (Ne.symm hb)).trans ((Heap.get?_update_other _ _ (Ne.symm hb)).trans e)
  have hne : a ≠ s.heap.objs.size + 1 := Nat.ne_of_lt (Nat.lt_succ_of_lt hlt)
  have W := walks_keys (P := P) (w := w) (A := A.in1) hh (s.heap.objs.size + 1) hne hd
  have hSf : s.heap.objs.size ∉ [s.heap.objs.size + 1, a] := by
    simp only [List.mem_cons, List.not_mem_nil, or_false, not_or]
    exact ⟨Nat.ne_of_lt (Nat.lt_succ_self _), hSa⟩
  refine wpAny_pure ⟨plainId_quiet PySem.F.plain_extend_loop _, codeAny_extend_loopS W.toS hsz _ hSf _ es.size 0 _ _ _ rfl (Nat.zero_le _) ⟨⟨_, oth _ _ (Nat.succ_ne_self _) hI, rfl, rfl⟩, oth _ _ (Ne.symm hSa) ho2⟩ hS4 (ItemsOf.nil _) fun s' acc' c' hm hS' hacc => ?_⟩
  show wpAny _ A (load s.heap.objs.size >>= _) _ _ s'
  refine wpAny_bind (wpAny_load hS' ?_)
  have hacc' : ItemsOf (fun i v => (es.toList.map (·.key))[i]? = some v) acc' (es.toList.map (·.key)).length := by
    rw [List.length_map, Array.length_toList]
    exact hacc
  have eo := items_out hacc' fun j v q => q
  refine wpAny_pure ?_
  show Q acc'.toList s'
  rw [eo]
  refine hQ s' (fun b u e => ?_) (Nat.le_of_lt (Heap.lt_size hS')) hm.gens hm.os
  have hbl : b < s.heap.objs.size := Heap.lt_size e
  refine hm.heap b u (fun z => ?_) (oth b u (Nat.ne_of_lt hbl) (k2 b u (Heap.get?_push_of_some _ e)))
  simp only [List.mem_cons, List.not_mem_nil, or_false] at z
  rcases z with z | z
  · exact absurd hbl (by rw [z]; exact Nat.lt_irrefl _)
  · exact absurd hbl (by rw [z]; exact Nat.not_lt_of_le (Nat.le_succ _))
end
end HM
namespace HM
open PySem PySem.Spec PyProof.Rows L2
theorem permInv {α β : Type} {f : α → β} : ∀ {F : List α} {ys : List β}, ys.Perm (F.map f) → ∃ F' : List α, F'.Perm F ∧ ys = F'.map f
  | [], ys, h => ⟨[], List.Perm.refl _, List.Perm.eq_nil h⟩
  | a :: F, ys, h => by
    have hm : f a ∈ ys := h.mem_iff.mpr List.mem_cons_self
    obtain ⟨l1, l2, rfl⟩ := List.append_of_mem hm
    have h2 : (l1 ++ l2).Perm (F.map f) := List.Perm.cons_inv (List.perm_middle.symm.trans h)
    obtain ⟨F', g1, g2⟩ := permInv h2
    obtain ⟨A, B, rfl, e1, e2⟩ := List.map_eq_append_iff.mp g2.symm
    exact ⟨A ++ a :: B, List.perm_middle.trans (List.Perm.cons _ g1), by rw [List.map_append, List.map_cons, e1, e2]⟩
section
variable {P : Program} {w : World} {A : Around} {E : Value → Shared → Prop} {s : Shared} {a : Addr} {o : Obj} {es : Array DictEntry} {ep : Nat}
/-- sorted(d), the keys tuples of whole numbers -/
theorem sorted_dictT {L : List (Addr × List Int)} {Q : Value → Shared → Prop} (hh : A.handled = none) (hsys : (a == sysModules) = false) (ho : s.heap.get? a = some o) (hx : o.ExactDict) (hd : o.data = .dict es ep) (h64 : es.size < 64)
    (hes : es.toList.map (·.key) = L.map fun q => Value.ref q.1) (hT : ∀ q ∈ L, IsT P w s.heap q.2 q.1) {d : Nat} {B : Int} (hd1 : 1 ≤ d) (hB : ∀ p ∈ L, p.2.length = d ∧ TS.Bd B p.2)
    (hQ : ∀ s' p (out : Array Value) (c : Nat) (L' : List (Addr × List Int)), (∀ b o, s.heap.get? b = some o → s'.heap.get? b = some o) → s'.gens = s.gens → s'.os = s.os → s.heap.objs.size ≤ p →
      s'.heap.get? p = some (seqObj "list" out c) → out.toList = L'.map (fun q => Value.ref q.1) → L'.Perm L → L'.Pairwise (fun q r => TS.code B q.2 ≤ TS.code B r.2) → Q (.ref p) s') :
    wpAny (model P w) A (call (.builtin "sorted") [.ref a]) Q E s := by
  refine Calls.call_function_entry kind_sorted plain_sorted entry_sorted (args_sorted1 _) ?_
  unfold Builtin.«sorted»
  refine wpAny_bind (m := checkCount "sorted" 1 1 _) (wpAny_pure ?_)
  refine wpAny_bind (collect_dict (A := A.in1) hh hsys ho hx hd (by rw [sizeLine_eq]; omega) fun s1 k1 hz g1 o1 => ?_)
  have hvl : (es.toList.map (·.key)).length < 64 := by rw [List.length_map, Array.length_toList]; exact h64
  generalize hvs : es.toList.map (·.key) = vs at hes hvl ⊢
  refine wpAny_bind (wpAny_newList ?_ (by rw [sizeLine_eq]; omega))
  have hoL : (s1.heap.push (seqObj "list" vs.toArray 0)).get? s1.heap.objs.size = some (seqObj "list" vs.toArray 0) := Heap.get?_push_size _ rfl
  have tk : ∀ q ∈ L, TS.TupInts (s1.heap.push (seqObj "list" vs.toArray 0)) (.ref q.1) q.2 := fun q hq => tupInts_of (P := P) (w := w) (isT_keep (hT q hq) fun b u e => Heap.get?_push_of_some _ (k1 b u e))
  have x : TS.TupsOk (s1.heap.push (seqObj "list" vs.toArray 0)) d B vs := fun v hv => by
    rw [hes] at hv
    obtain ⟨q, hq, e⟩ := List.mem_map.mp hv
    rw [← e]
    exact ⟨q.2, tk q hq, (hB q hq).1, (hB q hq).2⟩
  refine wpAny_bind (wpAny_holding (TS.call_sort_tups (s := { s1 with heap := s1.heap.push (seqObj "list" vs.toArray 0) }) hoL hvl hd1 x fun out a1 a2 => ?_))
  obtain ⟨c, hc⟩ := sortedHeap_at (vs := vs) (out := out) hoL
  obtain ⟨L', pL, e'⟩ := permInv (F := L) (f := fun q => Value.ref q.1) (ys := out.toList) (by rw [← hes]; exact a1)
  have hs' : ∀ q ∈ L', q ∈ L := fun q hq => pL.mem_iff.mp hq
  have pw : L'.Pairwise (fun q r => TS.code B q.2 ≤ TS.code B r.2) := by
    rw [e'] at a2
    refine List.Pairwise.imp_of_mem (fun {q r} hq hr hle => ?_) (List.pairwise_map.mp a2)
    have f1 : TS.intsOf (s1.heap.push (seqObj "list" vs.toArray 0)) (.ref q.1) = q.2 := (tk q (hs' q hq)).ints
    have f2 : TS.intsOf (s1.heap.push (seqObj "list" vs.toArray 0)) (.ref r.1) = r.2 := (tk r (hs' r hr)).ints
    rw [← f1, ← f2]
    exact hle
  refine wpAny_pure ⟨_, rfl, hQ _ s1.heap.objs.size out c L' (fun b u e => ?_) g1 o1 hz hc e' pL pw⟩
  have q := k1 b u e
  have hlt := Heap.lt_size q
  show (sortedHeap (s1.heap.push (seqObj "list" vs.toArray 0)) s1.heap.objs.size vs out).get? b = some u
  rw [sortedHeap_old (Nat.ne_of_lt hlt) (by rw [size_push']; exact Nat.lt_succ_of_lt hlt)]
  exact Heap.get?_push_of_some _ q
end
section
variable {X : Cx}
/-- the keys as tuples of whole numbers -/
def ikey (k : List Int) : List Key := k.map Sum.inl
theorem ikey_kV (k : List Int) : (ikey k).map kV = k.map V.int := by
  unfold ikey
  rw [List.map_map]
  rfl
def rSortedDT (P : Program) (w : World) : List V → Hp → VK → Prop := fun vs H Q => ∃ (a : Addr) (kvs : List (List Key × V)) (ks : List (List Int)) (d : Nat) (B : Int), vs = [V.ref a] ∧ H a = some (.dT kvs) ∧ kvs.map (·.1) = ks.map ikey ∧ ks.length < 64 ∧ 1 ≤ d ∧ (∀ k ∈ ks, k.length = d ∧ TS.Bd B k) ∧
  ∀ (L : List (Addr × List Int)) (p : Addr), (L.map (·.2)).Perm ks → L.Pairwise (fun q r => TS.code B q.2 ≤ TS.code B r.2) → (∀ q ∈ L, H q.1 = some (.tup (q.2.map V.int))) → H p = none → Q (.ref p) (upd H p (.lst (L.map fun q => V.ref q.1)))
theorem kt_list {P : Program} {w : World} {H : Hp} : ∀ {kvs : List (List Key × V)} {xs : List (List Key × Addr × Value)} {ks : List (List Int)}, KT H kvs xs → kvs.map (·.1) = ks.map ikey → ∃ L : List (Addr × List Int), xs.map (fun x => x.2.1) = L.map (·.1) ∧ L.map (·.2) = ks ∧ ∀ q ∈ L, H q.1 = some (.tup (q.2.map V.int))
  | [], _, [], .nil, _ => ⟨[], rfl, rfl, fun q hq => by cases hq⟩
  | [], _, _ :: _, .nil, e => by cases e
  | _ :: _, _, [], .cons _ _, e => by cases e
  | p :: kvs, x :: xs, k :: ks, .cons h t, e => by
    rw [List.map_cons, List.map_cons] at e
    injection e with e1 e2
    obtain ⟨L, h1, h2, h3⟩ := kt_list (P := P) (w := w) t e2
    obtain ⟨g1, g2, g3⟩ := h
    refine ⟨(x.2.1, k) :: L, by rw [List.map_cons, List.map_cons, h1], by rw [List.map_cons, h2], fun q hq => ?_⟩
    rcases List.mem_cons.mp hq with rfl | hq
    · rw [e1, ikey_kV] at g2
      exact g2
    · exact h3 q hq
theorem cr_sortedDT (hc : X.calm = true) : CallR X (.builtin "sorted") (rSortedDT X.prog X.w) := by
  intro pins s σ H vs us Q I r h
  obtain ⟨a, kvs, ks, d, B, rfl, ha, hk, h64, hd1, hB, q⟩ := h
  rw [Vals.ref1 r]
  obtain ⟨_, hsys, xs, rel, dof⟩ := dt_of I.hok ha
  obtain ⟨ob, es, ep, ho, hex, hdat, hes, _, hnd⟩ := id dof
  obtain ⟨L, h1, h2, h3⟩ := kt_list (P := X.prog) (w := X.w) rel hk
  have hes2 : es.toList.map (·.key) = L.map fun q => Value.ref q.1 := by
    have : es.toList.map (·.key) = (xs.map (fun x => x.2.1)).map Value.ref := by
      rw [hes, List.map_map, List.map_map]
      rfl
    rw [this, h1, List.map_map]
    rfl
  have hlen : es.size < 64 := by
    have e1 := congrArg List.length hes2
    rw [List.length_map, List.length_map, Array.length_toList] at e1
    have e2 := congrArg List.length h2
    rw [List.length_map] at e2
    omega
  have hT : ∀ q ∈ L, IsT X.prog X.w s.heap q.2 q.1 := fun q hq => I.isT (.inl (.inl (h3 q hq)))
  refine sorted_dictT (I.ok.hd hc) hsys ho hex hdat hlen hes2 hT hd1 (fun p hp => hB p.2 (by rw [← h2]; exact List.mem_map.mpr ⟨p, hp, rfl⟩)) fun s' p out c L' k g o hp hg hi hpm hpw => ?_
  have hz : (L'.map fun q => V.ref q.1).length ≤ sizeLine := by
    have e2 := congrArg List.length h2
    rw [List.length_map] at e2
    rw [List.length_map, hpm.length_eq, sizeLine_eq]
    omega
  have hn : H p = none := I.hok.fresh hp
  have J : Inv X pins σ (upd H p (.lst (L'.map fun q => V.ref q.1))) { s with heap := s'.heap, gens := s'.gens, drawn := s'.drawn, toks := s'.toks } :=
    I.call (ch := []) (Un.laid k hp hn) (I.hok.laid k hp ⟨hz, out.toList, c, by rw [hi]; exact vals_of_refs L', hg⟩) (by rw [g]; exact I.bare) (fun _ z => nomatch z)
  have e : s' = { s with heap := s'.heap, gens := s'.gens, drawn := s'.drawn, toks := s'.toks } := by
    cases s'
    have o' : _ = s.os := o
    subst o'
    rfl
  rw [e]
  exact ⟨.ref p, _, J, rfl, q L' p (by rw [← h2]; exact hpm.map _) hpw (fun q hq => h3 q (hpm.mem_iff.mp hq)) hn⟩
end
end HM
namespace HM
open PySem PySem.Spec PyProof.Rows L2
end HM
namespace HM
open PySem PySem.Spec PyProof.Rows L2
section
variable {X : Cx}
def tDispT (tk tv : TE) : TE := fun σ H Q => ∀ p, H p = none → tk σ (upd H p (.dT [])) fun x H1 => tv σ H1 fun y H2 => ∃ b k, x = .ref b ∧ H2 b = some (.tup (k.map kV)) ∧ H2 p = some (.dT []) ∧ Q (.ref p) (upd H2 p (.dT [(k, y)]))
theorem pe_dispT {ke ve : Expr} {tk tv : TE} {pos : Pos} (hu : X.A.units + 1 < cLine) (hk : PE X ke tk) (hv : PE X ve tv) : PE X (.Dict [some ke] [ve] pos) (tDispT tk tv) := by
  refine ⟨fun pins s σ H Q I h => ?_⟩
  have hsh : (evalEachOpt [some ke] X.env).zip ((evalEach [ve] X.env).map fun v => do let x ← v; standAt pos; pure x) = ([(eval ke X.env, do let x ← eval ve X.env; standAt pos; pure x)] : List (Sem Value × Sem Value)).map fun p => (some p.1, p.2) := rfl
  rw [arm_eval_Dict, hsh, dictDisplay_pairs _ (by simp) (by simp)]
  refine wpAny_bind (wpAny_standAt (wpAny_bind ?_))
  unfold subDict
  refine wpAny_bind (wpAny_alloc ?_)
  have hn : H s.heap.objs.size = none := I.hok.fresh (Nat.le_refl _)
  have I1 := I.laid (a := s.heap.objs.size) (o := .dT []) (t' := s.toks) (fun _ _ q => Heap.get?_push_of_some _ q) (Nat.le_refl _) (dt_empty s.heap I.big)
  refine wpAny_bind (wpAny_holding ?_)
  rw [if_pos (by simp)]
  refine wpAny_bind (evalPairs_cons (thn (hk.run pins _ σ _ _ I1 (h _ hn)) fun u s1 ⟨x, H1, J1, rx, q1⟩ => wpAny_bind (thn (hv.run pins s1 σ H1 _ J1 q1) fun v s2 ⟨y, H2, J2, ry, b, k, ex, eb, ep, q2⟩ => wpAny_bind (wpAny_standAt (wpAny_pure (evalPairs_nil ?_))))))
  subst ex
  cases rx
  refine wpAny_holding ?_
  simp only [List.forIn_cons, List.forIn_nil]
  obtain ⟨z, hd, xs, rel, dd⟩ := dt_of J2.hok ep
  cases rel
  refine wpAny_bind (wpAny_bind (wpAny_bind (wpAny_dictSet_heap (hsz := by simp) (show X.A.units < cLine by omega) (key_of J2.hok eb) dd fun h' dd' hs => wpAny_pure (wpAny_pure (wpAny_pure (wpAny_pure (wpAny_pure ?_)))))))
  obtain ⟨q, es, ep', hq, h2, h3, h4, _, h5⟩ := dd'
  refine ⟨.ref s.heap.objs.size, upd H2 s.heap.objs.size (.dT [(k, y)]), d_write J2 (by rw [ep]; exact True.intro) hs ⟨q, hq⟩ ⟨by show 1 ≤ sizeLine; decide, hd, _, .cons ⟨rfl, ?_, ry⟩ .nil, q, es, ep', hq, h2, h3, h4, h5⟩, rfl, q2⟩
  rw [upd_ne (ne_of eb ep (fun z => nomatch z))]
  exact eb
end
end HM
namespace VL
open PySem PySem.Spec PyProof.Rows L2 HM
def keyD : Key → Dt
  | .inl i => .int i
  | .inr s => .str s
def tupD (k : List Key) : Dt := .tup (k.map keyD)
section
variable {κ : Type} [DecidableEq κ]
def valD (kvs : List (κ × Dt)) (k : κ) : Option Dt := (kvs.find? fun kv => decide (kv.1 = k)).map (·.2)
def putD (kvs : List (κ × Dt)) (k : κ) (v : Dt) : List (κ × Dt) :=
  if (kvs.any fun kv => decide (kv.1 = k)) = true then kvs.map (fun kv => if kv.1 = k then (kv.1, v) else kv) else kvs ++ [(k, v)]
theorem PrK.val {F : Hp} {k : κ} : ∀ {a : List (κ × V)} {b : List (κ × Dt)}, PrK F a b → (valV a k = none ∧ valD b k = none) ∨ ∃ v d, valV a k = some v ∧ valD b k = some d ∧ Rp F v d
  | _, _, .nil => .inl ⟨rfl, rfl⟩
  | p :: a, q :: b, .cons h t => by
    obtain ⟨h1, h2⟩ := h
    unfold valV valD
    by_cases e : p.1 = k
    · refine .inr ⟨p.2, q.2, ?_, ?_, h2⟩
      · rw [List.find?_cons_of_pos (by simpa using e)]; rfl
      · rw [List.find?_cons_of_pos (by rw [← h1]; simpa using e)]; rfl
    · rw [List.find?_cons_of_neg (by simpa using e), List.find?_cons_of_neg (by rw [← h1]; simpa using e)]
      exact PrK.val t
theorem PrK.any {F : Hp} {k : κ} : ∀ {a : List (κ × V)} {b : List (κ × Dt)}, PrK F a b → (a.any fun kv => decide (kv.1 = k)) = b.any fun kv => decide (kv.1 = k)
  | _, _, .nil => rfl
  | p :: a, q :: b, .cons h t => by rw [List.any_cons, List.any_cons, h.1, PrK.any t]
theorem PrK.mapp {F : Hp} {k : κ} {v : V} {d : Dt} (r : Rp F v d) : ∀ {a : List (κ × V)} {b : List (κ × Dt)}, PrK F a b → PrK F (a.map fun kv => if kv.1 = k then (kv.1, v) else kv) (b.map fun kv => if kv.1 = k then (kv.1, d) else kv)
  | _, _, .nil => .nil
  | p :: a, q :: b, .cons h t => by
    rw [List.map_cons, List.map_cons]
    refine .cons ?_ (PrK.mapp r t)
    by_cases e : p.1 = k
    · rw [if_pos e, if_pos (by rw [← h.1]; exact e)]
      exact ⟨h.1, r⟩
    · rw [if_neg e, if_neg (by rw [← h.1]; exact e)]
      exact h
theorem PrK.app {F : Hp} : ∀ {a a2 : List (κ × V)} {b b2 : List (κ × Dt)}, PrK F a b → PrK F a2 b2 → PrK F (a ++ a2) (b ++ b2)
  | _, _, _, _, .nil, s => s
  | _, _, _, _, .cons h t, s => .cons h (PrK.app t s)
theorem PrK.put {F : Hp} {k : κ} {v : V} {d : Dt} (r : Rp F v d) {a : List (κ × V)} {b : List (κ × Dt)} (h : PrK F a b) : PrK F (putK a k v) (putD b k d) := by
  unfold putK putD
  rw [h.any]
  split
  · exact PrK.mapp r h
  · exact PrK.app h (.cons ⟨rfl, r⟩ .nil)
theorem PrK.len {F : Hp} {a : List (κ × V)} {b : List (κ × Dt)} (h : PrK F a b) : a.length = b.length := Paired.length h
theorem PrK.keys {F : Hp} : ∀ {a : List (κ × V)} {b : List (κ × Dt)}, PrK F a b → a.map (·.1) = b.map (·.1)
  | _, _, .nil => rfl
  | _, _, .cons h t => by rw [List.map_cons, List.map_cons, h.1, PrK.keys t]
end
theorem Rp.key {F : Hp} {v : V} {k : Key} (h : Rp F v (keyD k)) : v = kV k := by
  cases k with
  | inl i => exact h.int_inv
  | inr s => exact h.str_inv
theorem Rps.keys {F : Hp} : ∀ {vs : List V} {k : List Key}, Rps F vs (k.map keyD) → vs = k.map kV
  | _, [], .nil => rfl
  | _, k :: ks, .cons h t => by rw [List.map_cons, h.key, Rps.keys t]
theorem Rp.tupk {F : Hp} {v : V} {k : List Key} (h : Rp F v (tupD k)) : ∃ b, v = .ref b ∧ F b = some (.tup (k.map kV)) := by
  obtain ⟨a, xs, rfl, hF, rx⟩ := Rp.tup_inv h
  exact ⟨a, rfl, by rw [← rx.keys]; exact hF⟩
section
variable {c : Fc} {X : Cx} {a b e o : Expr} {es : List Expr} {te ta tb : VTE} {tas : VTA} {pos apos p : Pos}
/-- slot i holds a dict: what stands at k -/
def hasD (env : Ev) (i : Nat) (d : Dt) (r : Option Dt) : Prop := (∃ kvs k, env[i]? = some (.ow (.dK kvs)) ∧ d = keyD k ∧ r = valD kvs k) ∨ ∃ kvs k, env[i]? = some (.ow (.dT kvs)) ∧ d = tupD k ∧ r = valD kvs k
def isDk (env : Ev) (i : Nat) : Prop := (∃ kvs, env[i]? = some (.ow (.dK kvs))) ∨ ∃ kvs, env[i]? = some (.ow (.dT kvs))
theorem Rel.slotA {F H : Hp} {σ : L2.St} {env : Ev} {n i : Nat} {k : Con} (r : Rel c F H σ env n) (e : env[i]? = some (.ow k)) : ∃ a o, σ[i]? = some (some (.ref a)) ∧ H a = some o ∧ OwOk F a o k := by
  obtain ⟨a, o, g1, _, _, _, g5, g6⟩ := r.sl i _ e
  exact ⟨a, o, g1, g5, g6⟩
theorem hasD.get {F H : Hp} {σ : L2.St} {env : Ev} {n i : Nat} {y : V} {d : Dt} {r : Option Dt} (rr : Rel c F H σ env n) (ry : Rp F y d) (h : hasD env i d r) : ∃ a v, σ[i]? = some (some (.ref a)) ∧ DGet H a y v ∧ ((v = none ∧ r = none) ∨ ∃ x z, v = some x ∧ r = some z ∧ Rp F x z) := by
  rcases h with ⟨kvs, k, e, rfl, rfl⟩ | ⟨kvs, k, e, rfl, rfl⟩
  · obtain ⟨a, o, g1, g5, ks, rfl, pr⟩ := rr.slotA e
    rw [ry.key]
    refine ⟨a, valV ks k, g1, .inl ⟨ks, k, .inl g5, rfl, rfl⟩, ?_⟩
    rcases pr.val (k := k) with ⟨h1, h2⟩ | ⟨x, z, h1, h2, h3⟩
    · exact .inl ⟨h1, h2⟩
    · exact .inr ⟨x, z, h1, h2, h3⟩
  · obtain ⟨a, o, g1, g5, ks, rfl, pr⟩ := rr.slotA e
    obtain ⟨bb, rfl, hb⟩ := ry.tupk
    refine ⟨a, valV ks k, g1, .inr ⟨ks, k, bb, .inl g5, rfl, rr.sub _ _ hb, rfl⟩, ?_⟩
    rcases pr.val (k := k) with ⟨h1, h2⟩ | ⟨x, z, h1, h2, h3⟩
    · exact .inl ⟨h1, h2⟩
    · exact .inr ⟨x, z, h1, h2, h3⟩
theorem isDk.at {F H : Hp} {σ : L2.St} {env : Ev} {n i : Nat} (rr : Rel c F H σ env n) (h : isDk env i) : ∃ a, σ[i]? = some (some (.ref a)) := by
  rcases h with ⟨kvs, e⟩ | ⟨kvs, e⟩
  · obtain ⟨a, _, g, _⟩ := rr.slotA e
    exact ⟨a, g⟩
  · obtain ⟨a, _, g, _⟩ := rr.slotA e
    exact ⟨a, g⟩
/-- k in d -/
def vDIn (neg : Bool) (i : Nat) (te : VTE) : VTE := fun env n Q => te env n fun d env1 n1 => ∃ r, hasD env1 i d r ∧ Q (.bl (if neg then !r.isSome else r.isSome)) env1 n1
theorem dnotin_of {i : Nat} {σ : L2.St} {H : Hp} {R : VK} (h : tOf c (vDIn true i te) σ H R) : tDNotIn (tOf c te) (tVar i) σ H R := by
  obtain ⟨F, env, n, Q, rr, h, k⟩ := h
  refine ⟨F, env, n, _, rr, h, fun y H1 F1 d env1 n1 r1 u1 p1 q1 => ?_⟩
  obtain ⟨r, hd, q1⟩ := q1
  obtain ⟨a, v, e1, g, hv⟩ := hd.get r1 p1
  refine ⟨_, e1, a, v, rfl, g, ?_⟩
  have : v.isSome = r.isSome := by rcases hv with ⟨rfl, rfl⟩ | ⟨x, z, rfl, rfl, _⟩ <;> rfl
  rw [this]
  exact k _ H1 F1 _ env1 n1 r1 u1 (.bl _) q1
theorem testB_of {te : VTE} {t : TE} (h : ∀ {σ H R}, tOf c te σ H R → t σ H R) {σ : L2.St} {H : Hp} {R : Bool → Hp → Prop} (q : cOf c (vB te) σ H R) : tB t σ H R := by
  obtain ⟨F, env, n, Q, rr, q, k⟩ := q
  refine h ⟨F, env, n, _, rr, q, fun v H' F' d env' n' r' u rp qd => ?_⟩
  obtain ⟨bb, rfl, qd⟩ := qd
  exact ⟨bb, rp.bl_inv, k bb H' F' env' n' r' u qd⟩
theorem vt_dnotin {i : Nat} (hu : X.A.units + 1 < cLine) (ha : PE X a (tOf c te)) (hb : PE X b (tVar i)) (h1 : behindInMarks .NotIn b = false := by rfl) : PT X (.Compare a [.NotIn] [b] pos) (cOf c (vB (vDIn true i te))) := PT.imp (pt_cmp (pc_dnotin hu ha hb) h1) fun _ _ _ => testB_of dnotin_of
/-- d[k] -/
def vDGet (i : Nat) (te : VTE) : VTE := fun env n Q => isDk env i ∧ te env n fun d env1 n1 => ∃ z, hasD env1 i d (some z) ∧ Q z env1 n1
theorem ve_dget {i : Nat} (hu : X.A.units + 1 < cLine) (ho : PE X o (tVar i)) (hi : PE X e (tOf c te)) (hs : NoSl e) : PE X (.Subscript o e pos) (tOf c (vDGet i te)) := PE.imp (pe_dget hu ho hi hs) fun σ H R ⟨F, env, n, Q, rr, ⟨h0, h⟩, k⟩ => by
  obtain ⟨a, ea⟩ := h0.at rr
  refine ⟨_, ea, F, env, n, _, rr, h, fun y H1 F1 d env1 n1 r1 u1 p1 q1 => ?_⟩
  obtain ⟨z, hd, q1⟩ := q1
  obtain ⟨a2, v, e1, g, hv⟩ := hd.get r1 p1
  rw [ea] at e1
  cases e1
  rcases hv with ⟨_, z2⟩ | ⟨x, z2, rfl, e2, rz⟩
  · cases z2
  · cases e2
    exact ⟨a, x, rfl, g, k _ H1 F1 _ env1 n1 r1 u1 rz q1⟩
/-- d[k] = v -/
def vDPut (i : Nat) (tk tv : VTE) : VTS := fun V env n => tv env n fun z env1 n1 => isDk env1 i ∧ tk env1 n1 fun d env2 n2 =>
  (∃ kvs k, env2[i]? = some (.ow (.dK kvs)) ∧ d = keyD k ∧ kvs.length ≤ 5000 ∧ V.nx (env2.set i (.ow (.dK (putD kvs k z)))) n2) ∨ (∃ kvs k, env2[i]? = some (.ow (.dT kvs)) ∧ d = tupD k ∧ kvs.length ≤ 5000 ∧ V.nx (env2.set i (.ow (.dT (putD kvs k z)))) n2)
theorem vs_dput {i : Nat} {v : Expr} {tk tv : VTE} {p2 : Pos} (hu : X.A.units + 1 < cLine) (ho : PE X o (tVar i)) (hi : PE X e (tOf c tk)) (hv : PE X v (tOf c tv)) (hs : swapsWith v (some (.Subscript o e p2)) pos.line X.env = pure false) : PS X (.Assign [.Subscript o e p2] v pos) (sOf c (vDPut i tk tv)) := PS.imp (ps_dput hu ho hi hv hs) fun D σ H ⟨F, env, n, V, rr, h, k⟩ => by
  refine ⟨F, env, n, _, rr, h, fun v H1 F1 z env1 n1 r1 u1 p1 q1 => ?_⟩
  obtain ⟨h0, q1⟩ := q1
  obtain ⟨a, ea⟩ := h0.at r1
  refine ⟨_, ea, F1, env1, n1, _, r1, q1, fun y H2 F2 d env2 n2 r2 u2 p2 q2 => ?_⟩
  rcases q2 with ⟨kvs, kk, e, rfl, hl, q2⟩ | ⟨kvs, kk, e, rfl, hl, q2⟩
  · obtain ⟨a2, o2, g1, g5, ks, rfl, pr⟩ := r2.slotA e
    rw [ea] at g1
    cases g1
    rw [p2.key]
    exact ⟨a, _, rfl, .inl ⟨ks, kk, g5, rfl, small1000 (by rw [pr.len]; exact hl), rfl⟩, k.nx F2 _ σ _ n2 (r2.write (k' := .dK (putD kvs kk z)) e ea ⟨_, rfl, pr.put (p1.up u2)⟩) (u1.trans u2) q2⟩
  · obtain ⟨a2, o2, g1, g5, ks, rfl, pr⟩ := r2.slotA e
    rw [ea] at g1
    cases g1
    obtain ⟨bb, rfl, hb⟩ := p2.tupk
    exact ⟨a, _, rfl, .inr ⟨ks, kk, bb, g5, rfl, r2.sub _ _ hb, small1000 (by rw [pr.len]; exact hl), rfl⟩, k.nx F2 _ σ _ n2 (r2.write (k' := .dT (putD kvs kk z)) e ea ⟨_, rfl, pr.put (p1.up u2)⟩) (u1.trans u2) q2⟩
/-- len(d), keys tuples -/
def vDLenT (i : Nat) : VTE := fun env n Q => ∃ kvs, env[i]? = some (.ow (.dT kvs)) ∧ Q (.int kvs.length) env n
theorem ve_dlenT {i : Nat} {p : Pos} (hg : Gl X "len") (hm : X.mg "len" = none) (ho : PE X o (tVar i)) (he : starEach [o] X.env = (false, eval o X.env) :: starEach [] X.env := by rfl) (hpl : (backTo pos (starEach [] X.env)).any (·.1) = false := by rfl) :
    PE X (.Call (.Name "len" p) [o] [] pos) (tOf c (vDLenT i)) := PE.imp (pe_callB call_len_dT hg hm PySem.boot_len (pa_cons ho pa_nil he) (by decide) (by decide) he hpl) fun σ H R ⟨F, env, n, Q, rr, ⟨kvs, e, q⟩, k⟩ => by
  obtain ⟨a, o, g1, g5, ks, rfl, pr⟩ := rr.slotA e
  exact ⟨_, g1, a, ks, rfl, g5, by rw [pr.len]; exact k _ H F _ env n rr (Up.refl F) (.int _) q⟩
/-- {} -/
theorem vn_dnewK : PE X (.Dict [] [] pos) (nOf c (fun env n Q => Q (.dK []) env n)) := PE.imp pe_dnewK fun σ H R ⟨F, env, n, Q, rr, q, k⟩ p np => nOf_new rr (Up.refl F) np (kk := .dK []) ⟨[], rfl, .nil⟩ q k
def vDSortT (i : Nat) : VTN := fun env n Q => ∃ kvs ks d B, env[i]? = some (.ow (.dT kvs)) ∧ kvs.map (·.1) = ks.map ikey ∧ ks.length < 64 ∧ 1 ≤ d ∧ (∀ k ∈ ks, k.length = d ∧ TS.Bd B k) ∧ ∀ ls : List (List Int), ls.Perm ks → ls.Pairwise (fun q r => TS.code B q ≤ TS.code B r) → Q (.lst (ls.map fun l => .tup (l.map Dt.int))) env n
end
end VL
namespace VL
open PySem PySem.Spec PyProof.Rows L2 HM
section
variable {c : Fc} {X : Cx} {a b e o : Expr} {es : List Expr} {te ta tb : VTE} {tas : VTA} {pos apos p : Pos}
theorem Rel.addTs {F H : Hp} {σ : L2.St} {env : Ev} {n : Nat} : ∀ {L : List (Addr × List Int)} (r : Rel c F H σ env n), (∀ q ∈ L, H q.1 = some (.tup (q.2.map V.int))) → ∃ F', Rel c F' H σ env n ∧ Up F F' ∧ Rps F' (L.map fun q => V.ref q.1) (L.map fun q => Dt.tup (q.2.map Dt.int))
  | [], r, _ => ⟨F, r, Up.refl F, .nil⟩
  | q :: L, r, h => by
    obtain ⟨r1, u1⟩ := r.addT (h q List.mem_cons_self)
    obtain ⟨F', r2, u2, rp⟩ := Rel.addTs (L := L) r1 fun p hp => h p (List.mem_cons_of_mem _ hp)
    exact ⟨F', r2, u1.trans u2, .cons (.tup (u2 _ _ upd_same) (Rps.ints _)) rp⟩
theorem vn_dsortT {i : Nat} {p : Pos} (hc : X.calm = true) (hg : Gl X "sorted") (hm : X.mg "sorted" = none) (ho : PE X o (tVar i)) (he : starEach [o] X.env = (false, eval o X.env) :: starEach [] X.env := by rfl) (hpl : (backTo pos (starEach [] X.env)).any (·.1) = false := by rfl) :
    PE X (.Call (.Name "sorted" p) [o] [] pos) (nOf c (vDSortT i)) := PE.imp (pe_callB (cr_sortedDT hc) hg hm (by decide +kernel) (pa_cons ho pa_nil he) (by decide) (by decide) he hpl) fun σ H R ⟨F, env, n, Q, rr, ⟨kvs, ks, d, B, e, hk, hl, hd, hB, q⟩, k⟩ => by
  obtain ⟨a, o, g1, g5, kws, rfl, pr⟩ := rr.slotA e
  refine ⟨_, g1, a, kws, ks, d, B, rfl, g5, by rw [pr.keys]; exact hk, hl, hd, hB, fun L p h1 h2 h3 np => ?_⟩
  obtain ⟨F', r', u', rp⟩ := rr.addTs h3
  have e1 : L.map (fun q => Dt.tup (q.2.map Dt.int)) = (L.map (·.2)).map fun l => Dt.tup (l.map Dt.int) := by rw [List.map_map]; rfl
  rw [e1] at rp
  exact nOf_new r' u' np (kk := .lst ((L.map (·.2)).map fun l => Dt.tup (l.map Dt.int))) ⟨_, rfl, rp⟩ (q (L.map (·.2)) h1 (List.pairwise_map.mpr h2)) k
end
section
variable {am : Am} {F0 H0 : Hp} {X : Cx} {a b e o : Expr} {te ta tb tk tv : VTE} {pos : Pos}
theorem Rel.laid {c : Fc} {F H : Hp} {σ : L2.St} {env : Ev} {n : Nat} {p : Addr} (r : Rel c F H σ env n) (np : H p = none) (o : HO) : Rel (c.wth p o) F (upd H p o) σ env n ∧ c.H0 p = none ∧ c.F0 p = none ∧ ¬ c.am.sp p := by
  obtain ⟨h0, ns, nf⟩ := r.new0 np
  refine ⟨(r.lay np o).push upd_same nf ns fun j k' e z => ?_, h0, ?_, ns⟩
  · obtain ⟨a2, o2, g1, _, _, _, g5, _⟩ := r.sl j _ e
    rw [g1] at z
    cases z
    rw [g5] at np
    cases np
  · cases e : c.F0 p with
    | none => rfl
    | some o => rw [r.up0 p o e] at nf; cases nf
/-- a kept thing is written, and is new -/
theorem nOf_wth {σ : L2.St} {H F F1 : Hp} {env : Ev} {n : Nat} {p : Addr} {o o' : HO} {kk : Con} {Q : Con → Ev → Nat → Prop} {R : VK} {c : Fc} (nto : NT o) (r : Rel (c.wth p o) F H σ env n) (h0 : c.H0 p = none) (hF0 : c.F0 p = none) (ns : ¬ c.am.sp p) (u : Up F1 F) (w : OwOk F p o' kk) (q : Q kk env n)
    (k : ∀ a o H' F' kk env' n', Rel c F' H' σ env' n' → Up F1 F' → F' a = none → c.H0 a = none → ¬ c.am.sp a → H' a = some o → OwOk F' a o kk → (∀ (j : Nat) k', env'[j]? = some (.ow k') → σ[j]? ≠ some (some (.ref a))) → Q kk env' n' → R (.ref a) H') (nf : ∀ oc x, o ≠ .frz oc (.own x) := by intro _ _ z; cases z) : R (.ref p) (upd H p o') := by
  obtain ⟨r7, eD, fD, nD7⟩ := Rel.pop nto r h0 hF0 ns
  have r8 : Rel c F (upd H p o') σ env n := by
    refine ⟨fun b o e => ?_, r7.spf, r7.amb' (fun b hb => upd_ne fun z => ns (z ▸ hb)) (codeK_upd fun oc x z => nf oc x (by rw [eD] at z; exact Option.some.inj z)), r7.up0, r7.out0, fun b o e nb => ?_, r7.len, fun j s e => ?_, r7.apart⟩
    · rw [upd_ne fun z => by rw [z, fD] at e; cases e]; exact r7.sub b o e
    · rw [upd_ne fun z => by rw [z, h0] at e; cases e]; exact r7.keep0 b o e nb
    · have q := r7.sl j s e
      cases s with
      | no => trivial
      | fz d => exact q
      | ow kk =>
        obtain ⟨a, o, g1, g2, g3, g4, g5, g6⟩ := q
        exact ⟨a, o, g1, g2, g3, g4, by rw [upd_ne fun z => nD7 j kk e (by rw [g1, z])]; exact g5, g6⟩
  exact k p o' _ F kk env n r8 u fD h0 ns upd_same w nD7 q
/-- {k: v}, k a tuple; k a number or a text -/
def vDispT (tk tv : VTE) : VTN := fun env n Q => tk env n fun d env1 n1 => tv env1 n1 fun z env2 n2 => ∃ k, d = tupD k ∧ Q (.dT [(k, z)]) env2 n2
theorem vn_dispT {ke ve : Expr} (hu : X.A.units + 1 < cLine) (hk : ∀ F0 H0, PE X ke (tOf ⟨am, F0, H0⟩ tk)) (hv : ∀ F0 H0, PE X ve (tOf ⟨am, F0, H0⟩ tv)) : PE X (.Dict [some ke] [ve] pos) (nOf ⟨am, F0, H0⟩ (vDispT tk tv)) :=
  PE.imp (pe_dispT (tk := fun σ H R => ∃ F0 H0, tOf ⟨am, F0, H0⟩ tk σ H R) (tv := fun σ H R => ∃ F0 H0, tOf ⟨am, F0, H0⟩ tv σ H R) hu
    ⟨fun pins s σ H Q I ⟨F0, H0, q⟩ => (hk F0 H0).run pins s σ H Q I q⟩ ⟨fun pins s σ H Q I ⟨F0, H0, q⟩ => (hv F0 H0).run pins s σ H Q I q⟩) fun σ H R ⟨F, env, n, Q, rr, q, k⟩ p np => by
  obtain ⟨r1, h0, hF0, ns⟩ := rr.laid np (.dT [])
  refine ⟨F0, upd H0 p (.dT []), F, env, n, _, r1, q, fun x H2 F2 d env2 n2 r2 u2 p2 q2 => ⟨F0, upd H0 p (.dT []), F2, env2, n2, _, r2, q2, fun y H3 F3 z env3 n3 r3 u3 p3 q3 => ?_⟩⟩
  obtain ⟨kk, rfl, q3⟩ := q3
  obtain ⟨bb, rfl, hb⟩ := (p2.up u3).tupk
  obtain ⟨r7, eD, _, _⟩ := Rel.pop (c := ⟨am, F0, H0⟩) (fun _ z => by cases z) r3 h0 hF0 ns
  exact ⟨bb, kk, rfl, r3.sub _ _ hb, eD, nOf_wth (c := ⟨am, F0, H0⟩) (fun _ z => by cases z) r3 h0 hF0 ns (u2.trans u3) (kk := .dT [(kk, z)]) ⟨[(kk, y)], rfl, .cons ⟨rfl, p3⟩ .nil⟩ q3 k⟩
end
end VL
namespace VL
open PySem PySem.Spec PyProof.Rows L2 HM
section
variable {c : Fc} {X : Cx} {a b d e o : Expr} {es : List Expr} {te ta tb tc : VTE} {tas : VTA} {tn : VTN} {pos apos cpos p : Pos} {x : Str}
theorem ve_m {i : Nat} {r : RM} {m : RMD} (h : PE X e (tBM X.K "list" r (tVar i) (aOf c tas))) (L : LftM r m) : PE X e (tOf c (vM i m tas)) := PE.imp h fun _ _ _ => m_of L
theorem ve_m0 {i : Nat} {r : RM} {m : RMD} (h : PE X e (tBM0 X.K "list" r (tVar i))) (L : LftM r m) : PE X e (tOf c (vM i m vNil)) := PE.imp h fun _ _ _ => m0_of L
/-- x = a new list, which is still from then on -/
def vSetF (i : Nat) (tn : VTN) : VTS := fun V env n => tn env n fun k env1 n1 => ∃ ds, k = .lst ds ∧ V.nx (env1.set i (.fz (.lst ds))) n1
theorem Rel.frzNew {F H : Hp} {σ : L2.St} {env : Ev} {n : Nat} {a : Addr} {xs : List V} {ds : List Dt} (r : Rel c F H σ env n) (hF : F a = none) (h0 : c.H0 a = none) (ns : ¬ c.am.sp a) (hH : H a = some (.lst xs)) (rx : Rps F xs ds) (ha : ∀ (j : Nat) k', env[j]? = some (.ow k') → σ[j]? ≠ some (some (.ref a))) :
    Rel c (upd F a (.lst xs)) H σ env n ∧ Rp (upd F a (.lst xs)) (.ref a) (.lst ds) := by
  refine ⟨⟨fun b ob e => ?_, fun b hb => ?_, r.amb, r.up0.trans (up_lay hF), fun b ob h1 nt h2 => ?_, r.keep0, r.len, fun i s e => ?_, r.apart⟩, .lst upd_same (rx.up (up_lay hF))⟩
  · by_cases z : b = a
    · subst z; rw [upd_same] at e; cases e; exact hH
    · rw [upd_ne z] at e; exact r.sub b ob e
  · rw [upd_ne (fun (z : b = a) => ns (by rw [← z]; exact hb))]; exact r.spf b hb
  · rw [upd_ne (fun (z : b = a) => by rw [z, h0] at h1; cases h1)]; exact r.out0 b ob h1 nt h2
  · have q := r.sl i s e
    cases s with
    | no => trivial
    | fz d => exact let ⟨v, g1, g2⟩ := q; ⟨v, g1, g2.up (up_lay hF)⟩
    | ow kk =>
      obtain ⟨a2, o2, g1, g2, g3, g4, g5, g6⟩ := q
      refine ⟨a2, o2, g1, ?_, g3, g4, g5, g6.up (up_lay hF)⟩
      rw [upd_ne fun z2 => ha i kk e (by rw [g1, z2])]
      exact g2
theorem setF_of {i : Nat} {σ : L2.St} {H : Hp} {D : Ends} (h : sOf c (vSetF i tn) D σ H) : tAsg (nOf c tn) (gName i) D σ H := by
  obtain ⟨F, env, n, V, r, q, k⟩ := h
  refine ⟨F, env, n, _, r, q, fun a o H' F' kk env' n' r' w hF h0 ns hH ow ha qd => ?_⟩
  obtain ⟨ds, rfl, qd⟩ := qd
  obtain ⟨xs, rfl, rx⟩ := ow
  obtain ⟨r2, rp⟩ := r'.frzNew hF h0 ns hH rx ha
  exact k.nx _ H' _ _ n' (r2.setF rp) (w.trans (up_lay hF)) qd
end
section
variable {am : Am} {F0 H0 : Hp} {X : Cx}
theorem vs_setLcF {i : Nat} {y : Str} {py : Pos} {elt tg iter : Expr} {ifs : List Expr} {scope : Scope} {own : List (Str × Nat)} {pos spos : Pos} {wi : VTI} {g : TG} {gv : VTG} {tt : VTT} {te : VTE} (hc : X.calm = true) (hN : X.N.Nodup) (hy : X.N[i]? = some y) (hyl : X.env.scope.names.lookup y = some .local)
    (hsw : swapsWith (.ListComp elt [⟨tg, iter, ifs, 0⟩] scope pos) (some (.Name y py)) spos.line X.env = pure true) (hi : PI X tg iter (iOf ⟨am, F0, H0⟩ wi)) (ok : BlkOk X.N X.env.scope scope own) (hgk : TgOk g gv (own.map (·.2)))
    (hg : ∀ (s : Shared) (H : Hp) (C : Addr) (cl : List (Str × Addr)) (fp : List Addr), PG (X.blk s H scope (compEnvC scope cl C X.env) fp) tg g)
    (ht : ∀ (F0 H0 : Hp) (s : Shared) (H : Hp) (C : Addr) (cl : List (Str × Addr)) (fp : List Addr), PTs (X.blk s H scope (compEnvC scope cl C X.env) fp) ifs (cOf ⟨am, F0, H0⟩ tt))
    (he : ∀ (F0 H0 : Hp) (s : Shared) (H : Hp) (C : Addr) (cl : List (Str × Addr)) (fp : List Addr), PE (X.blk s H scope (compEnvC scope cl C X.env) fp) elt (tOf ⟨am, F0, H0⟩ te)) (hs : ∀ x, foldedSetIterable iter X.env x = pure x := by intro _; rfl) :
    PS X (.Assign [.Name y py] (.ListComp elt [⟨tg, iter, ifs, 0⟩] scope pos) spos) (sOf ⟨am, F0, H0⟩ (vSetF i (vLc wi gv tt te (own.map (·.2))))) :=
  PS.imp (ps_setLc (tt := fun σ H R => ∃ F0 H0, cOf ⟨am, F0, H0⟩ tt σ H R) (te := fun σ H R => ∃ F0 H0, tOf ⟨am, F0, H0⟩ te σ H R) hc hN hy hyl hsw hi ok hg
    (fun s H C cl fp => ⟨fun pins s' σ H' Q I ⟨F0, H0, q⟩ => (ht F0 H0 s H C cl fp).run pins s' σ H' Q I q⟩) (fun s H C cl fp => ⟨fun pins s' σ H' Q I ⟨F0, H0, q⟩ => (he F0 H0 s H C cl fp).run pins s' σ H' Q I q⟩) hs)
    fun D σ H h => by
      have h2 := setF_of h
      exact lc_of hgk (fun F0 H0 _ _ _ q => ⟨F0, H0, q⟩) (fun F0 H0 _ _ _ q => ⟨F0, H0, q⟩) h2
end
end VL
namespace VL
open PySem PySem.Spec PyProof.Rows L2 HM
mutual
def pl : Dt → Bool
  | .int _ => true
  | .lst ds => pls ds
  | .tup ds => pls ds
  | _ => false
def pls : List Dt → Bool
  | [] => true
  | d :: ds => pl d && pls ds
end
mutual
def dep : Dt → Nat
  | .lst ds => deps ds + 1
  | .tup ds => deps ds + 1
  | .tuP ds => deps ds + 1
  | _ => 0
def deps : List Dt → Nat
  | [] => 0
  | d :: ds => max (dep d) (deps ds)
end
mutual
theorem pl_isPy : ∀ {d : Dt}, pl d = true → isPy d = true
  | .int _, _ => rfl
  | .lst ds, h => pls_isPy (ds := ds) h
  | .tup ds, h => pls_isPy (ds := ds) h
  | .non, h => by cases h
  | .bl _, h => by cases h
  | .str _, h => by cases h
  | .ty _, h => by cases h
  | .obj _, h => by cases h
  | .dic _ _, h => by cases h
  | .dik _ _, h => by cases h
  | .tuP _, h => by cases h
theorem pls_isPy : ∀ {ds : List Dt}, pls ds = true → isPys ds = true
  | [], _ => rfl
  | d :: ds, h => by
    have h' : (pl d && pls ds) = true := h
    rw [Bool.and_eq_true] at h'
    show (isPy d && isPys ds) = true
    rw [pl_isPy h'.1, pls_isPy h'.2]
    rfl
end
mutual
theorem pl_lay : ∀ {d : Dt}, pl d = true → (py d).canLay0 = true ∧ (py d).depth = dep d
  | .int _, _ => ⟨rfl, rfl⟩
  | .lst ds, h => by
    obtain ⟨h1, h2⟩ := pls_lay (ds := ds) h
    exact ⟨h1, by show PyData.depthAll (pys ds) + 1 = deps ds + 1; rw [h2]⟩
  | .tup ds, h => by
    obtain ⟨h1, h2⟩ := pls_lay (ds := ds) h
    exact ⟨h1, by show PyData.depthAll (pys ds) + 1 = deps ds + 1; rw [h2]⟩
  | .non, h => by cases h
  | .bl _, h => by cases h
  | .str _, h => by cases h
  | .ty _, h => by cases h
  | .obj _, h => by cases h
  | .dic _ _, h => by cases h
  | .dik _ _, h => by cases h
  | .tuP _, h => by cases h
theorem pls_lay : ∀ {ds : List Dt}, pls ds = true → PyData.canLayAll0 (pys ds) = true ∧ PyData.depthAll (pys ds) = deps ds
  | [], _ => ⟨rfl, rfl⟩
  | d :: ds, h => by
    have h' : (pl d && pls ds) = true := h
    rw [Bool.and_eq_true] at h'
    obtain ⟨a1, a2⟩ := pl_lay h'.1
    obtain ⟨b1, b2⟩ := pls_lay h'.2
    refine ⟨?_, ?_⟩
    · show ((py d).canLay0 && PyData.canLayAll0 (pys ds)) = true
      rw [a1, b1]
      rfl
    · show max (py d).depth (PyData.depthAll (pys ds)) = max (dep d) (deps ds)
      rw [a2, b2]
end
theorem pl_shaped {d : Dt} (h : pl d = true) (hd : dep d ≤ 64) : SeqAt.shaped (py d) = true := by
  obtain ⟨a1, a2⟩ := pl_lay h
  show ((py d).canLay0 && decide ((py d).depth ≤ 64)) = true
  rw [a1, a2, decide_eq_true hd]
  rfl
mutual
theorem pl_eqv : ∀ {d e : Dt}, pl d = true → pl e = true → (PyData.eqv (py d) (py e) = true ↔ d = e)
  | .int i, .int j, _, _ => by
    show PyData.eqv (.int i) (.int j) = true ↔ _
    have e : PyData.eqv (.int i) (.int j) = (i == j) := by simp [PyData.eqv]
    rw [e, beq_iff_eq]
    exact ⟨fun h => by rw [h], fun h => by injection h⟩
  | .int i, .lst es, _, _ => by
    have e : PyData.eqv (py (.int i)) (py (.lst es)) = false := by simp [py, PyData.eqv]
    rw [e]
    exact ⟨(fun h => nomatch h), (fun h => nomatch h)⟩
  | .int i, .tup es, _, _ => by
    have e : PyData.eqv (py (.int i)) (py (.tup es)) = false := by simp [py, PyData.eqv]
    rw [e]
    exact ⟨(fun h => nomatch h), (fun h => nomatch h)⟩
  | .lst ds, .int i, _, _ => by
    have e : PyData.eqv (py (.lst ds)) (py (.int i)) = false := by simp [py, PyData.eqv]
    rw [e]
    exact ⟨(fun h => nomatch h), (fun h => nomatch h)⟩
  | .tup ds, .int i, _, _ => by
    have e : PyData.eqv (py (.tup ds)) (py (.int i)) = false := by simp [py, PyData.eqv]
    rw [e]
    exact ⟨(fun h => nomatch h), (fun h => nomatch h)⟩
  | .lst ds, .tup es, _, _ => by
    have e : PyData.eqv (py (.lst ds)) (py (.tup es)) = false := by simp [py, PyData.eqv]
    rw [e]
    exact ⟨(fun h => nomatch h), (fun h => nomatch h)⟩
  | .tup ds, .lst es, _, _ => by
    have e : PyData.eqv (py (.tup ds)) (py (.lst es)) = false := by simp [py, PyData.eqv]
    rw [e]
    exact ⟨(fun h => nomatch h), (fun h => nomatch h)⟩
  | .lst ds, .lst es, h1, h2 => by
    have e : PyData.eqv (py (.lst ds)) (py (.lst es)) = PyData.eqvAll (pys ds) (pys es) := by simp [py, PyData.eqv]
    rw [e, pls_eqv (ds := ds) (es := es) h1 h2]
    exact ⟨fun h => by rw [h], fun h => by injection h⟩
  | .tup ds, .tup es, h1, h2 => by
    have e : PyData.eqv (py (.tup ds)) (py (.tup es)) = PyData.eqvAll (pys ds) (pys es) := by simp [py, PyData.eqv]
    rw [e, pls_eqv (ds := ds) (es := es) h1 h2]
    exact ⟨fun h => by rw [h], fun h => by injection h⟩
  | .non, _, h, _ => by cases h
  | .bl _, _, h, _ => by cases h
  | .str _, _, h, _ => by cases h
  | .ty _, _, h, _ => by cases h
  | .obj _, _, h, _ => by cases h
  | .dic _ _, _, h, _ => by cases h
  | .dik _ _, _, h, _ => by cases h
  | .tuP _, _, h, _ => by cases h
  | _, .non, _, h => by cases h
  | _, .bl _, _, h => by cases h
  | _, .str _, _, h => by cases h
  | _, .ty _, _, h => by cases h
  | _, .obj _, _, h => by cases h
  | _, .dic _ _, _, h => by cases h
  | _, .dik _ _, _, h => by cases h
  | _, .tuP _, _, h => by cases h
theorem pls_eqv : ∀ {ds es : List Dt}, pls ds = true → pls es = true → (PyData.eqvAll (pys ds) (pys es) = true ↔ ds = es)
  | [], [], _, _ => by simp [pys, PyData.eqvAll]
  | [], e :: es, _, _ => by simp [pys, PyData.eqvAll]
  | d :: ds, [], _, _ => by simp [pys, PyData.eqvAll]
  | d :: ds, e :: es, h1, h2 => by
    have h1' : (pl d && pls ds) = true := h1
    have h2' : (pl e && pls es) = true := h2
    rw [Bool.and_eq_true] at h1' h2'
    have z : PyData.eqvAll (pys (d :: ds)) (pys (e :: es)) = (PyData.eqv (py d) (py e) && PyData.eqvAll (pys ds) (pys es)) := by simp [pys, PyData.eqvAll]
    rw [z, Bool.and_eq_true, pl_eqv h1'.1 h2'.1, pls_eqv h1'.2 h2'.2, List.cons.injEq]
end
theorem dNeD_pl {x y : Dt} {Q : Dt → Prop} (px : pl x = true) (qy : pl y = true) (dx : dep x ≤ 64) (dy : dep y ≤ 64) (h : ∀ b : Bool, (b = true ↔ x ≠ y) → Q (.bl b)) : dNeD x y Q :=
  ⟨pl_isPy px, pl_isPy qy, pl_shaped px dx, pl_shaped qy dy, h _ (by
    have := pl_eqv px qy
    cases e : PyData.eqv (py x) (py y) with
    | true => rw [e] at this; simp [this.mp rfl]
    | false =>
      rw [e] at this
      have hn : x ≠ y := fun z => by have := this.mpr z; cases this
      simp [hn])⟩
theorem pls_map {α : Type} {f : α → Dt} (h : ∀ a, pl (f a) = true) : ∀ l : List α, pls (l.map f) = true
  | [] => rfl
  | a :: l => by
    show (pl (f a) && pls (l.map f)) = true
    rw [h a, pls_map h l]
    rfl
theorem deps_map {α : Type} {f : α → Dt} {k : Nat} (h : ∀ a, dep (f a) ≤ k) : ∀ l : List α, deps (l.map f) ≤ k
  | [] => Nat.zero_le _
  | a :: l => Nat.max_le.mpr ⟨h a, deps_map h l⟩
end VL
namespace VL
open PySem PySem.Spec PyProof.Rows L2 HM
theorem wipeE_at (env : Ev) (i : Nat) : ∀ vs : List Nat, (wipeE env vs)[i]? = if i ∈ vs ∧ i < env.length then some .no else env[i]?
  | [] => by simp [wipeE]
  | v :: vs => by
    unfold wipeE
    by_cases z : i = v
    · subst z
      by_cases hl : i < env.length
      · rw [List.getElem?_set_self (by rw [wipeE_length]; exact hl), if_pos ⟨by simp, hl⟩]
      · rw [if_neg (fun h => hl h.2), List.getElem?_eq_none (by rw [List.length_set, wipeE_length]; omega), List.getElem?_eq_none (by omega)]
    · rw [List.getElem?_set_ne (Ne.symm z), wipeE_at env i vs]
      simp [z]
theorem wipeE_set {env : Ev} {i : Nat} {x : Sl} {vs : List Nat} (h : i ∈ vs) : wipeE (env.set i x) vs = wipeE env vs := by
  refine List.ext_getElem? fun j => ?_
  rw [wipeE_at, wipeE_at, List.length_set]
  by_cases z : j = i
  · subst z
    by_cases hl : j < env.length
    · rw [if_pos ⟨h, hl⟩, if_pos ⟨h, hl⟩]
    · rw [if_neg (fun q => hl q.2), if_neg (fun q => hl q.2), List.getElem?_eq_none (by rw [List.length_set]; omega), List.getElem?_eq_none (by omega)]
  · rw [List.getElem?_set_ne (Ne.symm z)]
theorem wipeE_idem (env : Ev) (vs : List Nat) : wipeE (wipeE env vs) vs = wipeE env vs := by
  refine List.ext_getElem? fun j => ?_
  rw [wipeE_at, wipeE_length, wipeE_at]
  by_cases h : j ∈ vs ∧ j < env.length
  · rw [if_pos h, if_pos h]
  · rw [if_neg h, if_neg h]
theorem restE_at (env1 env : Ev) (i : Nat) : ∀ vs : List Nat, (restE env1 env vs)[i]? = if i ∈ vs ∧ i < env.length then some (env1.getD i .no) else env[i]?
  | [] => by simp [restE]
  | v :: vs => by
    unfold restE
    by_cases z : i = v
    · subst z
      by_cases hl : i < env.length
      · rw [List.getElem?_set_self (by rw [restE_length]; exact hl), if_pos ⟨by simp, hl⟩]
      · rw [if_neg (fun h => hl h.2), List.getElem?_eq_none (by rw [List.length_set, restE_length]; omega), List.getElem?_eq_none (by omega)]
    · rw [List.getElem?_set_ne (Ne.symm z), restE_at env1 env i vs]
      simp [z]
theorem rest_wipe (env : Ev) (vs : List Nat) : restE env (wipeE env vs) vs = env := by
  refine List.ext_getElem? fun j => ?_
  rw [restE_at, wipeE_length, wipeE_at]
  by_cases h : j ∈ vs ∧ j < env.length
  · rw [if_pos h, List.getD_eq_getElem?_getD, List.getElem?_eq_getElem h.2]
    rfl
  · rw [if_neg h, if_neg h]
/-- [e for x in xs], e without draws: by what e is at each place -/
theorem lc_map {te : VTE} {vs : List Nat} {xs : List Dt} {env1 : Ev} {n1 : Nat} {Q : Con → Ev → Nat → Prop} {i : Nat} (f : Nat → Dt) (hi : i ∈ vs) (no : ∀ i ∈ vs, ∀ k, env1[i]? ≠ some (.ow k)) (hl : xs.length ≤ 5000)
    (h : ∀ (j : Nat) (x : Dt), xs[j]? = some x → ∀ R : Dt → Ev → Nat → Prop, R (f j) ((wipeE env1 vs).set i (.fz x)) n1 → te ((wipeE env1 vs).set i (.fz x)) n1 R) (q : Q (.lst ((List.range xs.length).map f)) env1 n1) : LcBody (vgName i) vYes te vs xs env1 n1 Q := by
  refine ⟨no, hl, fun j acc env n => acc = (List.range j).map f ∧ env = wipeE env1 vs ∧ n = n1, ⟨rfl, rfl, rfl⟩, fun j x acc env n hx hP => ?_, fun acc env n _ hP => ?_⟩
  · obtain ⟨rfl, rfl, rfl⟩ := hP
    show te _ _ _
    refine h j x hx _ ⟨by rw [List.range_succ, List.map_append]; rfl, by rw [wipeE_set hi, wipeE_idem], rfl⟩
  · obtain ⟨rfl, rfl, rfl⟩ := hP
    rw [rest_wipe]
    exact q
/-- [e for x in xs], e by draws -/
theorem lc_any {te : VTE} {vs : List Nat} {xs : List Dt} {env1 : Ev} {n1 : Nat} {Q : Con → Ev → Nat → Prop} {i : Nat} (P : Nat → List Dt → Prop) (hi : i ∈ vs) (no : ∀ i ∈ vs, ∀ k, env1[i]? ≠ some (.ow k)) (hl : xs.length ≤ 5000) (p0 : P 0 [])
    (h : ∀ (j : Nat) (x : Dt) (acc : List Dt), xs[j]? = some x → P j acc → ∀ R : Dt → Ev → Nat → Prop, (∀ y, P (j + 1) (acc ++ [y]) → R y ((wipeE env1 vs).set i (.fz x)) n1) → te ((wipeE env1 vs).set i (.fz x)) n1 R) (q : ∀ acc, P xs.length acc → Q (.lst acc) env1 n1) : LcBody (vgName i) vYes te vs xs env1 n1 Q := by
  refine ⟨no, hl, fun j acc env n => P j acc ∧ env = wipeE env1 vs ∧ n = n1, ⟨p0, rfl, rfl⟩, fun j x acc env n hx hP => ?_, fun acc env n _ hP => ?_⟩
  · obtain ⟨hp, rfl, rfl⟩ := hP
    show te _ _ _
    refine h j x acc hx hp _ fun y hy => ⟨hy, by rw [wipeE_set hi, wipeE_idem], rfl⟩
  · obtain ⟨hp, rfl, rfl⟩ := hP
    rw [rest_wipe]
    exact q acc hp
theorem noOw1 {env : Ev} {i : Nat} {s : Sl} (h : env[i]? = some s) (hs : ∀ k, s ≠ .ow k) : ∀ j ∈ [i], ∀ k, env[j]? ≠ some (.ow k) := fun j hj k e => by
  rw [List.mem_singleton.mp hj, h] at e
  exact hs k (Option.some.inj e)
theorem no_ow (k : Con) : Sl.no ≠ .ow k := nofun
theorem vseq_set {i : Nat} {te : VTE} {B : VTS} {V : VEn} {env : Ev} {n : Nat} (h : te env n fun d env1 n1 => B V (env1.set i (.fz d)) n1) : vSeq (vSet i te) B V env n := h
theorem vseq_setN {i : Nat} {tn : VTN} {B : VTS} {V : VEn} {env : Ev} {n : Nat} (h : tn env n fun k env1 n1 => B V (env1.set i (.ow k)) n1) : vSeq (vSetN i tn) B V env n := h
/-- cut: what is so behind the first row -/
theorem vcut {A B : VTS} {V : VEn} {env : Ev} {n : Nat} (M : Ev → Nat → Prop) (h1 : ∀ N : Ev → Nat → Prop, (∀ e n', M e n' → N e n') → A { V with nx := N } env n) (h2 : ∀ e n', M e n' → B V e n') : vSeq A B V env n := h1 _ h2
theorem rngD_len (lo : Int) (n : Nat) : (rngD lo n).length = n := by simp [rngD]
theorem rngD_get {lo : Int} {n i : Nat} {x : Dt} (h : (rngD lo n)[i]? = some x) : x = .int (lo + (i : Int)) ∧ i < n := by
  have hl := (List.getElem?_eq_some_iff.mp h).1
  rw [rngD_len] at hl
  unfold rngD at h
  rw [List.getElem?_map, List.getElem?_range hl] at h
  exact ⟨(Option.some.inj h).symm, hl⟩
theorem rngD_get0 {n i : Nat} {x : Dt} (h : (rngD 0 n)[i]? = some x) : x = .int (i : Int) ∧ i < n := by
  obtain ⟨h1, h2⟩ := rngD_get h
  rw [Int.zero_add] at h1
  exact ⟨h1, h2⟩
section
variable {c : Fc} {X : Cx} {es : List Expr} {e : Expr} {pos : Pos} {ds : List Dt} {d : Dt} {t t' : VTE}
theorem ve_weak (h : PE X e (tOf c t)) (w : ∀ env n Q, t' env n Q → t env n Q) : PE X e (tOf c t') := PE.imp h fun σ H R ⟨F, env, n, Q, rr, q, k⟩ => ⟨F, env, n, Q, rr, w env n Q q, k⟩
def vKs (ds : List Dt) : VTA := fun env n Q => Q ds env n
theorem ka_nil : PA X [] (aOf c (vKs [])) := va_nil
theorem ka_cons (h : PE X e (tOf c (vC d))) (hr : PA X es (aOf c (vKs ds))) (hs : starEach (e :: es) X.env = (false, eval e X.env) :: starEach es X.env := by rfl) : PA X (e :: es) (aOf c (vKs (d :: ds))) := va_cons h hr hs
theorem ve_tupK {x1} (h : PA X es (aOf c (vKs ds))) (hl : ds.length ≤ 5000) : PE X (.Tuple es x1 pos) (tOf c (vC (.tup ds))) := ve_weak (ve_tup h) fun env n Q q => ⟨hl, q⟩
theorem ve_lstK (h : PA X es (aOf c (vKs ds))) (hl : ds.length ≤ 5000) : PE X (.List es pos) (tOf c (vC (.lst ds))) := ve_weak (ve_new (vn_lst h)) fun env n Q q => ⟨hl, _, rfl, q⟩
end
end VL
namespace VL
open PySem PySem.Spec PyProof.Rows L2 HM
end VL
namespace VL
open PySem PySem.Spec PyProof.Rows L2 HM
open Classical in
/-- H0, and rows r 0, .., r (n - 1) at A 0, .., A (n - 1) -/
noncomputable def mat (H0 : Hp) (n : Nat) (A : Nat → Addr) (r : Nat → List Int) : Hp := fun a => if h : ∃ i, i < n ∧ A i = a then some (.lst ((r h.choose).map V.int)) else H0 a
structure MatOk (am : Am) (F0 H0 : Hp) (n : Nat) (A : Nat → Addr) : Prop where
  inj : ∀ i j, i < n → j < n → A i = A j → i = j
  h0 : ∀ i, i < n → H0 (A i) = none
  f0 : ∀ i, i < n → F0 (A i) = none
  ns : ∀ i, i < n → ¬ am.sp (A i)
section
variable {am : Am} {F0 H0 F H : Hp} {n t : Nat} {A : Nat → Addr} {r r' : Nat → List Int} {σ : L2.St} {env : Ev} {a : Addr}
theorem mat_at (inj : ∀ i j, i < n → j < n → A i = A j → i = j) {i : Nat} (hi : i < n) : mat H0 n A r (A i) = some (.lst ((r i).map V.int)) := by
  have h : ∃ j, j < n ∧ A j = A i := ⟨i, hi, rfl⟩
  unfold mat
  rw [dif_pos h, inj _ i h.choose_spec.1 hi h.choose_spec.2]
theorem mat_out (h : ∀ i, i < n → A i ≠ a) : mat H0 n A r a = H0 a := by
  unfold mat
  rw [dif_neg fun ⟨i, hi, e⟩ => h i hi e]
def addA (n : Nat) (A : Nat → Addr) (p : Addr) : Nat → Addr := fun i => if i = n then p else A i
theorem addA_old {p : Addr} {i : Nat} (h : i < n) : addA n A p i = A i := if_neg (by omega)
theorem addA_new {p : Addr} : addA n A p n = p := if_pos rfl
theorem MatOk.add {p : Addr} (m : MatOk am F0 H0 n A) (hp : mat H0 n A r p = none) (hf : F0 p = none) (hs : ¬ am.sp p) : MatOk am F0 H0 (n + 1) (addA n A p) := by
  have ne : ∀ i, i < n → A i ≠ p := fun i hi z => by rw [← z, mat_at m.inj hi] at hp; cases hp
  have h0 : H0 p = none := by rw [mat_out ne] at hp; exact hp
  refine ⟨fun i j hi hj e => ?_, fun i hi => ?_, fun i hi => ?_, fun i hi => ?_⟩
  · by_cases ei : i = n
    · by_cases ej : j = n
      · omega
      · rw [ei, addA_new, addA_old (by omega)] at e
        exact absurd e.symm (ne j (by omega))
    · by_cases ej : j = n
      · rw [ej, addA_new, addA_old (by omega)] at e
        exact absurd e (ne i (by omega))
      · rw [addA_old (by omega), addA_old (by omega)] at e
        exact m.inj i j (by omega) (by omega) e
  · by_cases ei : i = n
    · rw [ei, addA_new]; exact h0
    · rw [addA_old (by omega)]; exact m.h0 i (by omega)
  · by_cases ei : i = n
    · rw [ei, addA_new]; exact hf
    · rw [addA_old (by omega)]; exact m.f0 i (by omega)
  · by_cases ei : i = n
    · rw [ei, addA_new]; exact hs
    · rw [addA_old (by omega)]; exact m.ns i (by omega)
/-- a row is written -/
theorem Rel.row (m : MatOk am F0 H0 n A) (q : Rel ⟨am, F0, mat H0 n A r⟩ F H σ env t) {i : Nat} (hi : i < n) (l : List Int) : Rel ⟨am, F0, mat H0 n A (fun j => if j = i then l else r j)⟩ F (upd H (A i) (.lst (l.map V.int))) σ env t := by
  have hm : mat H0 n A r (A i) = some (.lst ((r i).map V.int)) := mat_at m.inj hi
  have fi : F (A i) = none := q.out0 (A i) _ hm (fun _ z => by cases z) (m.f0 i hi)
  have out : ∀ b, b ≠ A i → mat H0 n A (fun j => if j = i then l else r j) b = mat H0 n A r b := fun b hb => by
    by_cases e : ∃ j, j < n ∧ A j = b
    · obtain ⟨j, hj, rfl⟩ := e
      rw [mat_at m.inj hj, mat_at m.inj hj, if_neg fun z => hb (by rw [z])]
    · have e' : ∀ j, j < n → A j ≠ b := fun j hj z => e ⟨j, hj, z⟩
      rw [mat_out e', mat_out e']
  refine ⟨fun b u e => ?_, q.spf, q.amb' (fun b hb => upd_ne fun z => m.ns i hi (z ▸ hb)) (codeK_upd fun oc x z => by rw [q.keep0 (A i) _ hm (m.ns i hi)] at z; cases z), q.up0, fun b ob h1 nt h2 => ?_, fun b u e nb => ?_, q.len, fun j s e => ?_, q.apart⟩
  · rw [upd_ne fun z => by rw [z, fi] at e; cases e]; exact q.sub b u e
  · by_cases z : b = A i
    · rw [z]; exact fi
    · have h1' : mat H0 n A (fun j => if j = i then l else r j) b = some ob := h1
      rw [out b z] at h1'
      exact q.out0 b ob h1' nt h2
  · have e' : mat H0 n A (fun j => if j = i then l else r j) b = some u := e
    by_cases z : b = A i
    · rw [z, mat_at m.inj hi, if_pos rfl] at e'
      rw [z, upd_same]; exact e'
    · rw [out b z] at e'
      rw [upd_ne z]; exact q.keep0 b u e' nb
  · have qs := q.sl j s e
    cases s with
    | no => trivial
    | fz d => exact qs
    | ow kk =>
      obtain ⟨a2, o2, g1, g2, g3, g4, g5, g6⟩ := qs
      have g3' : mat H0 n A r a2 = none := g3
      have z : a2 ≠ A i := fun z => by rw [z, hm] at g3'; cases g3'
      exact ⟨a2, o2, g1, g2, (out a2 z).trans g3', g4, by rw [upd_ne z]; exact g5, g6⟩
end
structure XEn where
  nx : Hp → Ev → Nat → Prop
  rt : Hp → Dt → Nat → Prop
  bk : Hp → Ev → Nat → Prop := fun _ _ _ => False
  ct : Hp → Ev → Nat → Prop := fun _ _ _ => False
abbrev XTS := XEn → Hp → Ev → Nat → Prop
structure EnX (am : Am) (F0 F : Hp) (V : XEn) (D : Ends) : Prop where
  nx : ∀ H0 F' H' σ' env' n', Rel ⟨am, F0, H0⟩ F' H' σ' env' n' → Up F F' → V.nx H0 env' n' → D.nx σ' H'
  rt : ∀ H0 F' H' σ' env' n' v d, Rel ⟨am, F0, H0⟩ F' H' σ' env' n' → Up F F' → Rp F' v d → V.rt H0 d n' → D.rt v H'
  bk : ∀ H0 F' H' σ' env' n', Rel ⟨am, F0, H0⟩ F' H' σ' env' n' → Up F F' → V.bk H0 env' n' → D.bk σ' H'
  ct : ∀ H0 F' H' σ' env' n', Rel ⟨am, F0, H0⟩ F' H' σ' env' n' → Up F F' → V.ct H0 env' n' → D.ct σ' H'
theorem EnX.up {am : Am} {F0 F F' : Hp} {V : XEn} {D : Ends} (h : EnX am F0 F V D) (u : Up F F') : EnX am F0 F' V D :=
  ⟨fun H0 F2 H' σ' env' n' r w => h.nx H0 F2 H' σ' env' n' r (u.trans w), fun H0 F2 H' σ' env' n' v d r w => h.rt H0 F2 H' σ' env' n' v d r (u.trans w), fun H0 F2 H' σ' env' n' r w => h.bk H0 F2 H' σ' env' n' r (u.trans w), fun H0 F2 H' σ' env' n' r w => h.ct H0 F2 H' σ' env' n' r (u.trans w)⟩
end VL
namespace VL
open PySem PySem.Spec PyProof.Rows L2 HM
end VL
namespace VL
open PySem PySem.Spec PyProof.Rows L2 HM
end VL
namespace VL
open PySem PySem.Spec PyProof.Rows L2 HM
def zipD (xs ys : List Dt) : List Dt := List.zipWith (fun a b => Dt.tup [a, b]) xs ys
theorem zipD_get {xs ys : List Dt} {i : Nat} {z : Dt} (h : (zipD xs ys)[i]? = some z) : ∃ a b, xs[i]? = some a ∧ ys[i]? = some b ∧ z = .tup [a, b] := by
  unfold zipD at h
  rw [List.getElem?_zipWith] at h
  cases ea : xs[i]? with
  | none => rw [ea] at h; cases h
  | some a =>
    cases eb : ys[i]? with
    | none => rw [ea, eb] at h; cases h
    | some b =>
      rw [ea, eb] at h
      exact ⟨a, b, rfl, rfl, (Option.some.inj h).symm⟩
theorem zipD_len (xs ys : List Dt) : (zipD xs ys).length = min xs.length ys.length := by unfold zipD; rw [List.length_zipWith]
end VL
namespace VL
open PySem PySem.Spec PyProof.Rows L2 HM
section
variable {P : Program} {w : World} {K : PySem.W.Frag} {mg : Str → Option Value} {base : Heap} {am : Am} {gd : Around → Prop} {f : Addr} {fd : FuncData} {ps : List Str} {k : Nat} {sp sp' : VSp} {CX : CXT}
/-- a promise that asks more -/
theorem VFn.imp (h : VFn gd P w K mg base CX k f fd ps am sp) (i : ∀ ds n Q E, sp' ds n Q E → sp ds n Q E) : VFn gd P w K mg base CX k f fd ps am sp' :=
  ⟨fun vs H Q E ⟨F, ds, n, Q', E', h1, h2, h3, h4, h5, h6⟩ => h.len vs H Q E ⟨F, ds, n, Q', E', h1, h2, h3, h4, i _ _ _ _ h5, h6⟩,
   fun A out s H args us vs Q E hg hr hb hu hI ⟨F, ds, n, Q', E', h1, h2, h3, h4, h5, h6⟩ => h.go A out s H args us vs Q E hg hr hb hu hI ⟨F, ds, n, Q', E', h1, h2, h3, h4, i _ _ _ _ h5, h6⟩⟩
end
end VL
namespace VL
open PySem PySem.Spec PyProof.Rows L2 HM
theorem PrK.get {κ : Type} {F : Hp} : ∀ {a : List (κ × V)} {b : List (κ × Dt)} {i : Nat} {k : κ} {v : V}, PrK F a b → a[i]? = some (k, v) → ∃ q, b[i]? = some q ∧ Rp F v q.2
  | _, _, _, _, _, .nil, e => by simp at e
  | _, q :: _, 0, _, _, .cons h _, e => by simp at e; subst e; exact ⟨q, rfl, h.2⟩
  | _, _, i + 1, k, v, .cons _ t, e => by
    obtain ⟨q, h1, h2⟩ := PrK.get (i := i) (k := k) (v := v) t (by simpa using e)
    exact ⟨q, by simpa using h1, h2⟩
end VL
namespace HG
open PySem PySem.Spec PyProof.Rows L2 HM GenW
/-- the frame of a generator expression: A where it runs; s, H what stood when it was made; fp its iterator's objects; pn its own object -/
abbrev gx (X : Cx) (A : Around) (s : Shared) (H : Hp) (cenv : Env) (fp : List Addr) (pn : List (Addr × Obj)) : Cx :=
  { X with A := A, s_0 := s, H_0 := H, env := cenv, outer := X.stack, stack := cenv :: X.stack, ex := fp, fn := fun _ => false, pn := pn, xe := fun _ _ => False }
section
variable {X : Cx} {pins : List (Addr × Obj)} {σ : L2.St} {H : Hp} {s : Shared}
theorem gen_start {scope : Scope} {own : List (Str × Nat)} {fp : List Addr} {A : Around} {code : Value} {C : Addr} {pn ip : List (Addr × Obj)} {s2 : Shared} {m0 : Str → Option Value} (I : Inv X pins σ H s) (ok : BlkOk X.N X.env.scope scope own) (hN : X.N.Nodup) (nc : ∀ y ∈ scope.names, y.2 ≠ .cell)
    (hfp : ∀ b ∈ fp, FpOk X pins H b ∧ b < s.heap.objs.size) (hC : s.heap.objs.size ≤ C) (hA : X.calm = true → A.handled = none) (hfr : A.frames = some (genEnv scope (cloFrom X.env.cells scope.names []) C code builtinsNs X.env :: X.stack))
    (kp : ∀ b o, s.heap.get? b = some o → s2.heap.get? b = some o) (hns : s2.heap.Ns C m0) (os : s2.os = s.os) (bare : AllBare s2.gens)
    (hp : ∀ p ∈ pn ++ ip, s2.heap.get? p.1 = some p.2 ∧ H p.1 = none ∧ p.1 ≠ C ∧ p.1 ∉ frs X.stack ∧ ∀ v, p.2.data ≠ .cell v) :
    Inv (gx X A s H (genEnv scope (cloFrom X.env.cells scope.names []) C code builtinsNs X.env) fp pn) ip (wipe σ (own.map (·.2))) H s2 := by
  have hfree : ∀ y ∈ scope.names, y.2 = .free → ∃ c, X.env.cells.lookup y.1 = some c := fun y hy e => by
    rcases ok.free y hy e with k | k
    · exact I.ok.has _ (.inl k)
    · exact I.ok.has _ (.inr k)
  generalize hcenv : genEnv scope (cloFrom X.env.cells scope.names []) C code builtinsNs X.env = cenv at hfr
  have hL : cenv.locals = C := by rw [← hcenv]; rfl
  have hcl : cenv.cells = cloFrom X.env.cells scope.names [] := by rw [← hcenv]; rfl
  have hsc : cenv.scope = scope := by rw [← hcenv]; rfl
  have cm : ∀ {y c}, cenv.cells.lookup y = some c → X.env.cells.lookup y = some c ∧ c < s.heap.objs.size := fun {y c} e => by
    rw [hcl] at e
    rcases cloFrom_mem (PySem.mem_of_lookup e) with hm | ⟨h1, rfl⟩
    · cases hm
    · obtain ⟨c, hc⟩ := hfree _ h1 rfl
      rw [hc]
      obtain ⟨w, z⟩ := I.cell _ _ hc
      exact ⟨rfl, z.lt⟩
  have look : ∀ {y}, scope.names.lookup y = some .free → ∃ c, cenv.cells.lookup y = some c ∧ X.env.cells.lookup y = some c := fun {y} hl => by
    obtain ⟨c', e'⟩ := mem_lookup (cloFrom_has (cells := X.env.cells) (acc := []) (PySem.mem_of_lookup hl))
    rw [← hcl] at e'
    exact ⟨c', e', (cm e').1⟩
  have okB : (gx X A s H cenv fp pn).Ok := by
    refine ⟨I.ok.mod, by show cenv.scope.kind = _; rw [hsc]; exact ok.kind, by show cenv.globals = _; rw [← hcenv]; exact I.ok.glob, by show cenv.builtins = _; rw [← hcenv]; rfl, by show s.heap.objs.size ≤ cenv.locals; rw [hL]; exact hC,
      fun y z c e1 e2 => I.ok.inj y z c (cm e1).1 (cm e2).1, fun y hy => ?_, fun y c z _ => (by cases z), hA, hfr, .inr ⟨rfl, by show cenv.frame = some cenv.locals; rw [← hcenv]; rfl⟩, fun b hb => ⟨?_, fun y c e => (hfp b hb).1.2.2.2.2.1 y c (cm e).1⟩, I.bs, Nat.le_trans I.ok.bsz I.sz, fun b o e hb => ?_, fun b hb z => ?_, I.stack, I.stkFree⟩
    · show ∃ c, cenv.cells.lookup y = some c
      rcases hy with hy | hy
      · have hy : cenv.kindOf y = some .cell := hy
        unfold Env.kindOf at hy
        rw [hsc] at hy
        exact absurd rfl (nc _ (PySem.mem_of_lookup hy))
      · have hy : cenv.kindOf y = some .free := hy
        unfold Env.kindOf at hy
        rw [hsc] at hy
        obtain ⟨c, h1, _⟩ := look hy
        exact ⟨c, h1⟩
    · show b ≠ cenv.locals
      rw [hL]; exact Nat.ne_of_lt (Nat.lt_of_lt_of_le (hfp b hb).2 hC)
    · rcases (hfp b hb).1.2.2.2.1 with z | z
      · exact I.ok.noex b o e z
      · exact absurd (Nat.lt_of_lt_of_le (Heap.lt_size e) (Nat.le_trans I.ok.bsz z)) (Nat.lt_irrefl _)
    · rcases List.mem_cons.mp (I.stkSub b z) with z | z
      · exact (hfp b hb).1.2.1 z
      · exact (hfp b hb).1.2.2.1 z
  refine ⟨okB, os, bare, Un.kept kp, ⟨m0, by show s2.heap.Ns cenv.locals m0; rw [hL]; exact hns, fun i y av e1 e2 e3 => ?_⟩, fun y c e => ?_, ?_, fun y c e => I.freeC y c (cm e).1, fun p hp' => ?_, I.hok.kept kp, by rw [wipe_length]; exact I.len⟩
  · obtain ⟨e2, hne⟩ := wipe_some e2
    have hfr2 : scope.names.lookup y = some .free := by
      have e3 : Vis cenv.scope y := e3
      rw [hsc] at e3
      have no : ∀ {k : NameKind}, scope.names.lookup y = some k → ¬ (k = .local ∨ k = .cell) := fun {k} e hh => by
        rcases ok.own _ (PySem.mem_of_lookup e) hh with e' | e'
        · obtain ⟨p, hp, hpy⟩ := List.mem_map.mp e'
          have e3 := ok.ix p hp
          have : p.1 = y := hpy
          rw [this] at e3
          exact hne (List.mem_map.mpr ⟨p, hp, nodup_ix hN e3 e1⟩)
        · exact e' (List.mem_of_getElem? e1)
      rcases e3 with e3 | e3 | e3
      · exact absurd (.inl rfl) (no e3)
      · exact absurd (.inr rfl) (no e3)
      · exact e3
    obtain ⟨m, hn, hl⟩ := I.loc
    have hvis : Vis X.env.scope y := (ok.free _ (PySem.mem_of_lookup hfr2) rfl).elim (fun k => .inr (.inl k)) (fun k => .inr (.inr k))
    obtain ⟨w, r, q⟩ := hl i y av e1 e2 hvis
    refine ⟨w, r, .inr ⟨.inr (by show cenv.scope.names.lookup y = _; rw [hsc]; exact hfr2), ?_⟩⟩
    obtain ⟨c, h1, h2⟩ := look hfr2
    rcases q with ⟨k, _⟩ | ⟨_, c', e', z⟩
    · have k : X.env.scope.names.lookup y = some .local := k
      rcases ok.free _ (PySem.mem_of_lookup hfr2) rfl with k' | k' <;> rw [show X.env.scope.names.lookup y = _ from k'] at k <;> cases k
    · rw [h2] at e'; cases e'
      exact ⟨c, h1, z.keeps kp⟩
  · obtain ⟨w, z⟩ := I.cell y c (cm e).1
    exact ⟨w, z.keeps kp⟩
  · show H cenv.locals = none
    rw [hL]; exact I.hok.fresh hC
  · obtain ⟨p1, p2, p3, p4, p5⟩ := hp p hp'
    exact ⟨p1, p2, by show p.1 ≠ cenv.locals; rw [hL]; exact p3, p4, p5⟩
end
end HG
namespace HG
open PySem PySem.Spec PyProof.Rows L2 HM GenW
section
variable {X : Cx}
abbrev geLoop (elt tg iter : Expr) (ifs : List Expr) (scope : Scope) (pos : Pos) (it : Addr) (cenv : Env) : Code := .compLoop (.GeneratorExp elt [⟨tg, iter, ifs, 0⟩] scope pos) 0 (.ref it) .none cenv
theorem over_frames {A : Around} {elt tg iter : Expr} {ifs : List Expr} {scope : Scope} {pos : Pos} {it : Addr} {cenv : Env} {l : List Env} (h : A.frames = some l) : (A.over (geLoop elt tg iter ifs scope pos it cenv) []).frames = some (cenv :: l) := by
  show pushEnvs [cenv] (pushEnvs [] A.frames) = _
  rw [h]
  rfl
theorem over_room {A : Around} {elt tg iter : Expr} {ifs : List Expr} {scope : Scope} {pos : Pos} {it : Addr} {cenv : Env} {k : Nat} (r : Room (k + 1) A) : Room k (A.over (geLoop elt tg iter ifs scope pos it cenv) []) :=
  ⟨r.hd, by have := r.dp; show A.depth + 0 + 1 + 3 * k + 5 < _; omega, by have := r.un; show A.units + 0 + 3 + 16 * k + 200 < _; omega⟩
theorem seg_geLoop {elt tg iter : Expr} {ifs : List Expr} {scope : Scope} {pos : Pos} {it : Addr} {fp : List Addr} {tn : Nat → Heap → Prop} {J : It} {A : Around} {sc : Shared} {Hc : Hp} {cenv : Env} {a S : Addr} {g : Nat} {go : Obj} {σ : L2.St} {vs : List Nat} {cont : List V → Hp → Prop} {gt : TG} {tt : TT} {te : TE} {W : Nat → Nat → List V → Hp → Prop} {E : XK}
    (hc : X.calm = true) (hco : cenv.scope.isCoroutine = false) (T : Turn X.prog X.w X.K tg J fp it tn)
    (pg : PG (gx X (A.over (geLoop elt tg iter ifs scope pos it cenv) []) sc Hc cenv fp [(a, go)]) tg gt) (pt : PTs (gx X (A.over (geLoop elt tg iter ifs scope pos it cenv) []) sc Hc cenv fp [(a, go)]) ifs tt) (pe : PE (gx X (A.over (geLoop elt tg iter ifs scope pos it cenv) []) sc Hc cenv fp [(a, go)]) elt te)
    (hgo : ∀ h : Heap, h.get? a = some go → h.IsGen a g) (haS : a ≠ S) (hfa : ∀ b ∈ fp, b ≠ a ∧ b ≠ S) (hAp : Apart (gx X (A.over (geLoop elt tg iter ifs scope pos it cenv) []) sc Hc cenv fp [(a, go)]) S)
    (turn : ∀ i m ys H, W i m ys H → (J.stop i H ∧ cont ys H) ∨ (J.go i H ∧ ∃ Nx : List V → Hp → Prop, (∀ ys' H', Nx ys' H' → ∃ m', m' < m ∧ W (i + 1) m' ys' H') ∧ ∀ x H', J.yld i H x H' → gt x (wipe σ vs) H' fun σ2 H2 => wipe σ2 vs = wipe σ vs ∧ tt σ2 H2 fun b H3 =>
      if b = true then te σ2 H3 fun y H4 => ys.length < sizeLine ∧ Nx (ys ++ [y]) H4 else Nx ys H3)) :
    ∀ (m i n : Nat) (ys : List V) (H : Hp) (s₀ s : Shared), n + ys.length = sizeLine → GI (gx X (A.over (geLoop elt tg iter ifs scope pos it cenv) []) sc Hc cenv fp [(a, go)]) S [] ys (wipe σ vs) H s → tn i s.heap → (∀ b ∈ fp, H b = none) → W i m ys H →
      Seg (model X.prog X.w) A (REnd X.prog X.w X.stack Hc sc fp S a g cont E) (YItem sc S a g) n s₀ (geLoop elt tg iter ifs scope pos it cenv) ((model X.prog X.w).den (geLoop elt tg iter ifs scope pos it cenv)) [] s := by
  generalize hXg : gx X (A.over (geLoop elt tg iter ifs scope pos it cenv) []) sc Hc cenv fp [(a, go)] = Xg at pg pt pe hAp
  have xA : Xg.A = A.over (geLoop elt tg iter ifs scope pos it cenv) [] := by rw [← hXg]
  have xP : Xg.prog = X.prog := by rw [← hXg]
  have xw : Xg.w = X.w := by rw [← hXg]
  have xK : Xg.K = X.K := by rw [← hXg]
  have xc : Xg.calm = true := by rw [← hXg]; exact hc
  have xpn : Xg.pn = [(a, go)] := by rw [← hXg]
  have xex : Xg.ex = fp := by rw [← hXg]
  have xenv : Xg.env = cenv := by rw [← hXg]
  have xxe : ∀ e s, ¬ Xg.xe e s := fun e s z => by rw [← hXg] at z; exact z
  have stat : ∀ {σ' : L2.St} {H' : Hp} {s' : Shared} {ip : List (Addr × Obj)}, Inv Xg ip σ' H' s' → (∀ b ∈ fp, H' b = none) → (∀ p ∈ ip, ∀ b ∈ fp, p.1 ≠ b) → ∀ b ∈ fp, FpOk Xg ip H' b := fun {σ' H' s' ip} I' hn hi b hb =>
    ⟨hn b hb, (I'.ok.exf b (by rw [xex]; exact hb)).1, I'.ok.exfs b (by rw [xex]; exact hb), .inl (by rw [xex]; exact hb), fun x c e => (I'.ok.exf b (by rw [xex]; exact hb)).2 x c e, fun p hp => by
      rcases List.mem_append.mp hp with z | z
      · rw [xpn] at z
        rw [List.mem_singleton.mp z]
        exact Ne.symm (hfa b hb).1
      · exact hi p z b hb⟩
  have hpn : ∀ p ∈ Xg.pn, p.1 ≠ S := fun p hp => by
    rw [xpn] at hp
    rw [List.mem_singleton.mp hp]
    exact haS
  intro m
  induction m using Nat.strongRecOn with
  | ind m ih =>
  intro i n ys H s₀ s hn hI st hfn w
  show Seg _ A _ _ _ s₀ _ ((compTurn (.GeneratorExp elt [⟨tg, iter, ifs, 0⟩] scope pos) 0 (.ref it) .none cenv).onRaise (leaving cenv)) [] s
  rw [compTurn_gen, Sem.onRaise_eq_wrap]
  refine seg_bind_wrap (wpAny_standAt ?_)
  obtain ⟨hS0, hSL, hSf, _⟩ := hI.at
  obtain ⟨acc, c, ra, I⟩ := hI
  have hip : ∀ p ∈ [(S, lstObj acc c)], ∀ b ∈ fp, p.1 ≠ b := fun p hp b hb => by rw [List.mem_singleton.mp hp]; exact Ne.symm (hfa b hb).2
  rcases turn i m ys H w with ⟨stop, qq⟩ | ⟨gof, Nx, hNx, step⟩
  · have td := T.done Xg xP xw xK xc i [(S, lstObj acc c)] s _ H (fun _ _ => False) I (stat I hfn hip) st stop
    rw [xA] at td
    refine seg_bind_wrap (wpAny_mono td (fun r s6 ⟨hr, I6⟩ => ?_) fun _ _ e => e.elim)
    subst hr
    have e6 : s6.heap.get? S = some (lstObj acc c) := (I6.pin (S, lstObj acc c) (List.mem_append_right _ List.mem_cons_self)).1
    refine seg_end (.ok .next) (.inl ⟨.inr rfl, H, ys, acc, c, ?_, I6.bare, ?_, ?_, hS0, e6, ra, by omega, qq⟩)
    · have := I6.os; rw [← hXg] at this; exact this
    · have := I6.base; rw [← hXg] at this; exact this
    · have := I6.hok; rw [← hXg] at this; exact this
  · have ti := T.item Xg xP xw xK xc i [(S, lstObj acc c)] s _ H (fun _ _ => False) I (stat I hfn hip) st gof
    rw [xA] at ti
    refine seg_bind_wrap (wpAny_mono ti (fun r s6 ⟨u, hr, h6⟩ => ?_) fun _ _ e => e.elim)
    subst hr
    refine seg_bind_wrap (wpAny_mono h6 (fun _ s7 ⟨x, H7, I7, r7, y7, st7, n7⟩ => ?_) fun _ _ e => e.elim)
    have I7' := I7.pinned (stat I7 n7 hip) (T.obj _ _ st7)
    have g1 := pg.run _ s7 _ H7 x u _ I7' r7 (step x H7 y7)
    rw [xA, xP, xw, xenv] at g1
    refine seg_bind_wrap (wpAny_mono g1 (fun _ s8 ⟨σ8, H8, I8, hw8, q8⟩ => ?_) fun e s' z => absurd z (xxe e s'))
    have g2 := pt.run _ s8 σ8 H8 _ I8 q8
    rw [xA, xP, xw, xenv] at g2
    refine seg_bind_wrap (wpAny_mono g2 (fun b s9 ⟨H9, I9, q9⟩ => ?_) fun e s' z => absurd z (xxe e s'))
    have hfpS : ∀ p ∈ pinsAt fp s7.heap, p.1 ≠ S := fun p hp => (hfa p.1 (of_pinsAt hp).1).2
    -- the turn's end
    have fin : ∀ {s' : Shared} {H' : Hp} {ys' : List V}, GI Xg S (pinsAt fp s7.heap) ys' σ8 H' s' → Nx ys' H' → ∀ (n : Nat) (s₀ : Shared), n + ys'.length = sizeLine →
        Seg (model X.prog X.w) A (REnd X.prog X.w X.stack Hc sc fp S a g cont E) (YItem sc S a g) n s₀ (geLoop elt tg iter ifs scope pos it cenv) ((model X.prog X.w).den (geLoop elt tg iter ifs scope pos it cenv)) [] s' := fun {s' H' ys'} hI' nx n s₀ hn' => by
      obtain ⟨m', hm, w'⟩ := hNx ys' H' nx
      obtain ⟨acc', c', ra', I'⟩ := hI'
      have pin' : ∀ b ∈ fp, ∀ o, s7.heap.get? b = some o → s'.heap.get? b = some o ∧ H' b = none := fun b hb o e =>
        let z := I'.pin (b, o) (List.mem_append_right _ (List.mem_cons_of_mem _ (mem_pinsAt hb e)))
        ⟨z.1, z.2.1⟩
      have hl : (wipe σ vs).length = σ8.length := by rw [← hw8, wipe_length]
      have I'' : Inv Xg [(S, lstObj acc' c')] σ8 H' s' := I'.pins_of fun p hp => I'.pin p (List.mem_append_right _ (by rw [List.mem_singleton.mp hp]; exact List.mem_cons_self))
      refine ih m' hm (i + 1) n ys' H' s₀ s' hn' ⟨acc', c', ra', I''.weak hl fun j v e => ?_⟩ (T.keep _ _ _ st7 fun b hb o e => (pin' b hb o e).1) (fun b hb => ?_) w'
      · rw [← hw8] at e
        exact (wipe_some e).1
      · obtain ⟨o, e, _⟩ := T.obj _ _ st7 b hb
        exact (pin' b hb o e).2
    cases b with
    | false =>
      simp only [Bool.false_eq_true, if_false] at q9 ⊢
      exact seg_again rfl (fin ⟨acc, c, ra, I9⟩ q9 n s₀ hn)
    | true =>
      simp only [if_true] at q9 ⊢
      have hy : ∀ v, yieldOut cenv v = yieldValue v := fun v => by simp only [yieldOut, hco, Bool.false_eq_true, if_false]
      simp only [hy]
      rw [Sem.bind_eq_wrap', Sem.bind_eq_wrap', Sem.wrap_wrap, Sem.wrap_wrap]
      have g3 := pe.run _ s9 σ8 H9 _ I9 q9
      rw [xA, xP, xw, xenv] at g3
      refine seg_wrap (wpAny_mono g3 (fun z s10 ⟨yv, H10, I10, r10, hlt, nx⟩ => ?_) fun e s' z => absurd z (xxe e s'))
      obtain ⟨n', rfl⟩ : ∃ n', n = n' + 1 := ⟨n - 1, by omega⟩
      have e10 : s10.heap.get? S = some (lstObj acc c) := (I10.pin (S, lstObj acc c) (List.mem_append_right _ List.mem_cons_self)).1
      have ea : s10.heap.get? a = some go := (I10.pin (a, go) (List.mem_append_left _ (by rw [xpn]; exact List.mem_cons_self))).1
      have hsz : acc.size = ys.length := by
        have e1 := ra.length
        have e2 : acc.toList.length = acc.size := by simp
        omega
      refine seg_at (seg_yield rfl rfl rfl ⟨?_, I10.bare, I10.nolimit, hgo _ ea, ⟨acc, c, e10, by omega⟩, fun s'' slept => ?_⟩)
      · have := I10.os; rw [← hXg] at this; exact this
      · exact seg_again rfl (fin (GI.woken hpn hfpS hAp ⟨acc, c, ra, I10⟩ r10 slept) nx n' s'' (by rw [List.length_append, List.length_singleton]; omega))
end
end HG
namespace HG
open PySem PySem.Spec PyProof.Rows L2 HM GenW
/-- what a generator expression will hand out: W by the turn, a measure, what is out; the table at P may have grown -/
def tGe (P : Addr) (wi : TI) (g : TG) (tt : TT) (te : TE) (vs : List Nat) : TGen := fun σ H cont => wi σ H fun J H1 => GxR.TabG H1 P ∧ ∀ H2, GxR.Tabbed P H1 H2 → ∃ W : Nat → Nat → List V → Hp → Prop, (∃ m, W 0 m [] H2) ∧ ∀ i m ys H, W i m ys H →
  (J.stop i H ∧ cont ys H) ∨ (J.go i H ∧ ∃ Nx : List V → Hp → Prop, (∀ ys' H', Nx ys' H' → ∃ m', m' < m ∧ W (i + 1) m' ys' H') ∧ ∀ x H', J.yld i H x H' → g x (wipe σ vs) H' fun σ2 H2 => wipe σ2 vs = wipe σ vs ∧ tt σ2 H2 fun b H3 =>
    if b = true then te σ2 H3 fun y H4 => ys.length < sizeLine ∧ Nx (ys ++ [y]) H4 else Nx ys H3)
/-- the names of a generator expression's frame -/
structure GeS (scope : Scope) : Prop where
  co : scope.isCoroutine = false
  cell : ∀ y ∈ scope.names, y.2 ≠ .cell
  dot : scope.names.lookup (".0" : Str) = some NameKind.local
section
variable {X : Cx}
theorem seg_geStart {A : Around} {R : GenEnd} {Y : Protocol} {n : Nat} {s₀ s : Shared} {elt tg iter : Expr} {ifs : List Expr} {scope : Scope} {pos : Pos} {it : Addr} {cenv : Env} {fp : List Addr} {tn : Nat → Heap → Prop} {J : It}
    (T : Turn X.prog X.w X.K tg J fp it tn) (st : tn 0 s.heap) (loop : Seg (model X.prog X.w) A R Y n s₀ (geLoop elt tg iter ifs scope pos it cenv) ((model X.prog X.w).den (geLoop elt tg iter ifs scope pos it cenv)) [] s) :
    Seg (model X.prog X.w) A R Y n s₀ (.compStart (.GeneratorExp elt [⟨tg, iter, ifs, 0⟩] scope pos) 0 (.ref it) .none cenv) ((model X.prog X.w).den (.compStart (.GeneratorExp elt [⟨tg, iter, ifs, 0⟩] scope pos) 0 (.ref it) .none cenv)) [] s := by
  show Seg _ A _ _ _ s₀ _ ((compStart (.GeneratorExp elt [⟨tg, iter, ifs, 0⟩] scope pos) 0 (.ref it) .none cenv).onRaise (leaving cenv)) [] s
  unfold compStart
  rw [Sem.onRaise_eq_wrap]
  show Seg _ A _ _ _ s₀ _ ((ask >>= _).wrap _ _ _ _) [] s
  refine seg_bind_wrap (wpAny_askSetting ?_)
  split
  · exact seg_again rfl loop
  · first
      | exact seg_bind_wrap (wpAny_rule (seg_bind_wrap (wpAny_standAt (seg_bind_wrap (T.self _ 0 s _ _ st (seg_again rfl loop))))))
      | (refine seg_bind_wrap (wpAny_rule ?_); show Seg _ A _ _ _ s₀ _ ((standAt iter.pos >>= _).wrap _ _ _ _) [] s; exact seg_bind_wrap (wpAny_standAt (seg_bind_wrap (T.self _ 0 s _ _ st (seg_again rfl loop)))))
/-- THE RULE: a generator expression, not begun -/
theorem pgen_ge {c P : Addr} {elt tg iter : Expr} {ifs : List Expr} {scope : Scope} {own : List (Str × Nat)} {gpos : Pos} {wi : TI} {gt : TG} {tt : TT} {te : TE} {k j : Nat} {E : XK}
    (hc : X.calm = true) (hN : X.N.Nodup) (hr : Room j X.A) (TB : GxR.TabB X.base X.mg c P) (hcode : X.env.code = .ref c) (ok : BlkOk X.N X.env.scope scope own) (Sc : GeS scope) (hi : PI X tg iter wi)
    (hg : ∀ (A : Around) (s : Shared) (H : Hp) (C : Addr) (code : Value) (fp : List Addr) (pn : List (Addr × Obj)), PG (gx X A s H (genEnv scope (cloFrom X.env.cells scope.names []) C code builtinsNs X.env) fp pn) tg gt)
    (ht : ∀ (A : Around) (s : Shared) (H : Hp) (C : Addr) (code : Value) (fp : List Addr) (pn : List (Addr × Obj)), Room k A → PTs (gx X A s H (genEnv scope (cloFrom X.env.cells scope.names []) C code builtinsNs X.env) fp pn) ifs tt)
    (he : ∀ (A : Around) (s : Shared) (H : Hp) (C : Addr) (code : Value) (fp : List Addr) (pn : List (Addr × Obj)), Room k A → PE (gx X A s H (genEnv scope (cloFrom X.env.cells scope.names []) C code builtinsNs X.env) fp pn) elt te)
    (hs : ∀ v, genFold iter X.env v = pure v := by intro _; rfl) : PGen X (k + 1) (.GeneratorExp elt [⟨tg, iter, ifs, 0⟩] scope gpos) (tGe P wi gt tt te (own.map (·.2))) E := by
  refine ⟨fun pins s σ H cont I h => ?_⟩
  have hfree : ∀ y ∈ scope.names, y.2 = .free → ∃ c, X.env.cells.lookup y.1 = some c := fun y hy e => by
    rcases ok.free y hy e with k | k
    · exact I.ok.has _ (.inl k)
    · exact I.ok.has _ (.inr k)
  refine wpAny_GeneratorExp_make Sc.co (closure_ok hfree) Sc.cell Sc.dot ok.kind (by have := hr.dp; omega) (L2.thn (hi.run pins s σ H _ I h) fun xv s1 hx => L2.thn hx fun itv s2 h2 => ?_) hs
  obtain ⟨it, fp, tn, J, H2, e, I2, T, st2, f2, ⟨ps, hP, htr⟩, q⟩ := h2
  subst e
  have hPs : s2.heap.get? P = some { cls := .none, data := .fields ps } := I2.hok P _ hP
  have cd : PySem.W.CodeHd s2.heap c P := TB.code.keeps fun b u e => I2.bk b u e
  refine ⟨I2.nolimit, ?_⟩
  have sz : ∀ b ∈ fp, b < s2.heap.objs.size := fun b hb => by
    obtain ⟨o, e, _⟩ := T.obj _ _ st2 b hb
    exact Heap.lt_size e
  have key : ∀ (code : Value) (h3 : Heap) (tk : Nat) (more : Array Value), Heap.ExtBut P s2.heap h3 → s2.heap.objs.size ≤ h3.objs.size → h3.get? P = some { cls := .none, data := .fields (ps ++ more) } → TriplesOk (ps ++ more).toList →
      wpAny (model X.prog X.w) X.A (builtinsFor X.env.globals X.env.builtins) (fun bi s₄ =>
        ∀ h', h'.Ns s₄.heap.objs.size (fun y => if y = ".0" then some (.ref it) else none) → Heap.SameBut s₄.heap.objs.size (s₄.heap.push { cls := .type "frame", data := .dict #[] }) h' →
          ∃ H1 sc ex, Inv X pins σ H1 sc ∧ ExOk X pins ex ∧ GMade X.prog X.w (k + 1) X.stack H1 sc ex cont E (.ref h'.objs.size) { s₄ with
            gens := s₄.gens.push (.fresh (.compStart (.GeneratorExp elt [⟨tg, iter, ifs, 0⟩] scope gpos) 0 (.ref it) .none (genEnv scope (cloFrom X.env.cells scope.names []) s₄.heap.objs.size code bi X.env))),
            toks := s₄.toks + 1 + 1 + 1,
            heap := h'.push { cls := .type "generator", data := .fields #[.int s₄.gens.size 0, .str "<genexpr>" (s₄.toks + 1), .str (X.env.qual ++ "<genexpr>") (s₄.toks + 1 + 1)] } }) X.xe { s2 with heap := h3, toks := tk } := by
    intro code h3 tk more hx hsz hP3 ht3
    obtain ⟨bm, ob, e1, e2, e3, e4, e5, e6, e7, e8⟩ := TB.bm
    refine wpAny_builtinsFor (m := X.mg) (by rw [I2.ok.glob]; exact ((I2.mod.glob.keeps I2.bk)).extBut hx TB.gP) e1 e2 (hx _ _ e4 (I2.bk _ _ e5)) e6 e7 e8 ?_
    intro h' hn' hs'
    have J3 : Inv X pins σ (upd H2 P (.tbl (ps ++ more))) { s2 with heap := h3, toks := tk } := GxR.inv_tab (more := more) (h' := h3) (g' := s2.gens) (d' := s2.drawn) (t' := tk) I2 hP (fun b u hb e => hx b u hb e) hP3 I2.bare
    generalize hs4 : ({ s2 with heap := h3, toks := tk } : Shared) = s4 at J3 hn' hs' ⊢
    have h4 : s4.heap = h3 := by rw [← hs4]
    have g4 : s4.gens = s2.gens := by rw [← hs4]
    generalize hH3 : upd H2 P (.tbl (ps ++ more)) = H3 at J3
    obtain ⟨W, ⟨m0, w0⟩, turn⟩ := q H3 (by rw [← hH3]; exact ⟨⟨ps ++ more, upd_same, ht3⟩, fun b hb => upd_ne hb⟩)
    have bP : ∀ b ∈ fp, b ≠ P := fun b hb z => by
      have := (f2 b hb).1
      rw [z, hP] at this
      cases this
    have n3 : ∀ b ∈ fp, H3 b = none := fun b hb => by rw [← hH3, upd_ne (bP b hb)]; exact (f2 b hb).1
    have hsz' : h'.objs.size = s4.heap.objs.size + 1 := by rw [hs'.1, Heap.size_push]
    have keep' : ∀ b o, s4.heap.get? b = some o → h'.get? b = some o := fun b o e => hs'.extBut b o (Nat.ne_of_lt (Heap.lt_size e)) (Heap.get?_push_of_some _ e)
    generalize hgo : ({ cls := .type "generator", data := .fields #[.int s4.gens.size 0, .str "<genexpr>" (s4.toks + 1), .str (X.env.qual ++ "<genexpr>") (s4.toks + 1 + 1)] } : Obj) = go
    have keep5 : ∀ b o, s4.heap.get? b = some o → (h'.push go).get? b = some o := fun b o e => Heap.get?_push_of_some _ (keep' b o e)
    have hpush : (h'.push go).get? h'.objs.size = some go := Heap.get?_push_size _ (by rw [← hgo]; rfl)
    have hgen : ∀ h : Heap, h.get? h'.objs.size = some go → h.IsGen h'.objs.size s4.gens.size := fun h e => ⟨go, _, _, e, by rw [← hgo], by rw [← hgo], by rw [← hgo]⟩
    refine ⟨H3, s4, fp, J3, fun b hb => ⟨(f2 b hb).2.2.2.1, (f2 b hb).2.1, (f2 b hb).2.2.2.2.1, (f2 b hb).2.2.2.2.2⟩, h'.objs.size, s4.gens.size, _, rfl, by omega, ?_, hgen _ hpush, Array.getElem?_push_size .., rfl, AllBare.push J3.bare rfl, J3.nolimit.keeps keep5, keep5, ?_⟩
    · show _ < (h'.push go).objs.size
      rw [Heap.size_push]; exact Nat.lt_succ_self _
    intro Aw S s6 hrw hfr hS hk6 hSo hos hba
    have hSz : h'.objs.size < S := by
      have z : (h'.push go).objs.size ≤ S := hS
      rw [Heap.size_push] at z
      exact z
    obtain ⟨cS, heS⟩ := hSo
    have h4' : s4.heap.objs.size < h'.objs.size := by omega
    have hS4 : s4.heap.objs.size < S := Nat.lt_trans h4' hSz
    have kp6 : ∀ b o, s4.heap.get? b = some o → s6.heap.get? b = some o := fun b o e => hk6 b o (keep5 b o e)
    have nfr : ∀ b, s4.heap.objs.size ≤ b → b ∉ frs X.stack := fun b hb z => by
      obtain ⟨_, o, e, _⟩ := J3.stack.mem z
      exact absurd (Nat.lt_of_lt_of_le (Heap.lt_size e) hb) (Nat.lt_irrefl _)
    have hfp4 : ∀ b ∈ fp, FpOk X pins H3 b ∧ b < s4.heap.objs.size := fun b hb => ⟨⟨n3 b hb, (f2 b hb).2⟩, Nat.lt_of_lt_of_le (sz b hb) (by rw [h4]; exact hsz)⟩
    have I6 : Inv (gx X (Aw.over (geLoop elt tg iter ifs scope gpos it (genEnv scope (cloFrom X.env.cells scope.names []) s4.heap.objs.size code builtinsNs X.env)) []) s4 H3 (genEnv scope (cloFrom X.env.cells scope.names []) s4.heap.objs.size code builtinsNs X.env) fp [(h'.objs.size, go)]) [(S, lstObj #[] cS)] (wipe σ (own.map (·.2))) H3 s6 := by
      refine gen_start J3 ok hN Sc.cell hfp4 (Nat.le_refl _) (fun _ => hrw.hd) (over_frames hfr) kp6 ((hn'.push go).keeps hk6) hos hba fun p hp => ?_
      rcases List.mem_append.mp hp with z | z
      · rw [List.mem_singleton.mp z]
        exact ⟨hk6 _ _ hpush, J3.hok.fresh (by omega), by show h'.objs.size ≠ s4.heap.objs.size; omega, nfr _ (by omega), fun v z2 => by rw [← hgo] at z2; cases z2⟩
      · rw [List.mem_singleton.mp z]
        exact ⟨heS, J3.hok.fresh (Nat.le_of_lt hS4), Nat.ne_of_gt hS4, nfr _ (Nat.le_of_lt hS4), fun v z2 => by cases z2⟩
    have st6 : tn 0 s6.heap := T.keep _ _ _ st2 fun b hb o e => kp6 b o (by rw [h4]; exact hx b o (bP b hb) e)
    refine seg_geStart T st6 (seg_geLoop (W := W) (σ := σ) (vs := own.map (·.2)) hc Sc.co T (hg _ _ _ _ _ _ _) (ht _ _ _ _ _ _ _ (over_room hrw)) (he _ _ _ _ _ _ _ (over_room hrw)) hgen (Nat.ne_of_lt hSz) (fun b hb => ?_) ⟨Nat.le_of_lt hS4, Nat.ne_of_gt hS4, fun y c e z => ?_⟩ turn m0 0 sizeLine [] H3 s6 s6 (Nat.add_zero _) ⟨#[], cS, .nil, I6⟩ st6 n3 w0)
    · have := (hfp4 b hb).2
      exact ⟨Nat.ne_of_lt (Nat.lt_trans this h4'), Nat.ne_of_lt (Nat.lt_trans this hS4)⟩
    · have e : (cloFrom X.env.cells scope.names []).lookup y = some c := e
      rcases cloFrom_mem (PySem.mem_of_lookup e) with hm | ⟨h1, rfl⟩
      · cases hm
      · obtain ⟨c, hc2⟩ := hfree _ h1 rfl
        rw [hc2] at z
        obtain ⟨v, zc⟩ := J3.cell _ _ hc2
        have h5 := zc.lt
        have z : c = S := z
        rw [z] at h5
        exact absurd (Nat.lt_trans h5 hS4) (Nat.lt_irrefl _)
  cases hf : codeAmong gpos ps.toList with
  | some cv =>
    refine wpAny_genexprCode_hit hcode (cd.code hPs htr) hf ?_
    have e0 : ps ++ (#[] : Array Value) = ps := by simp
    exact key cv s2.heap s2.toks #[] (Heap.ExtBut.refl _ _) (Nat.le_refl _) (by rw [e0]; exact hPs) (by rw [e0]; exact htr)
  | none =>
    refine wpAny_genexprCodeX hcode (cd.code hPs htr) (cd.tab hPs) hf fun c' h' tk hx hge hlt hco' _ htab' _ => ?_
    obtain ⟨o1, vs, f1, tf, fl, tgv, inF, tx, tt', op, _, _, _, _, _, _, _, _, _, htr', _⟩ := hco'
    exact key _ h' tk _ hx (Nat.le_trans hge (Nat.le_of_lt hlt)) htab'.2 htr'
end
end HG
namespace HG
open PySem PySem.Spec PyProof.Rows L2 HM GenW
abbrev noX : XK := fun _ _ _ => False
/-- all that a generator hands out -/
theorem collect_made {P : Program} {w : World} {outer : List Env} {H : Hp} {sc s : Shared} {ex : List Addr} {Q : List V → Hp → Prop} {A : Around} {k : Nat} {u : Value} {Q' : List Value → Shared → Prop} {E : Value → Shared → Prop}
    (hr : Room (k + 3) A) (hfr : A.frames = some outer) (h : GMade P w k outer H sc ex Q noX u s)
    (hQ : ∀ S s' acc c H' ys, s.heap.objs.size ≤ S → s'.heap.get? S = some (lstObj acc c) → Vals ys acc.toList → ys.length ≤ sizeLine → s'.os = sc.os → AllBare s'.gens → Un (frs outer) ex H H' sc.heap s'.heap → HOk P w H' s'.heap → H' S = none → Q ys H' → Q' acc.toList s') :
    wpAny (model P w) A (collect u) Q' E s := by
  obtain ⟨a, g, c, rfl, ha1, ha2, hg, hgs, hos, hb, hl, hkp, wake⟩ := h
  have hSa : s.heap.objs.size ≠ a := Nat.ne_of_gt ha2
  have hcl : cStatics < s.heap.objs.size := let ⟨_, hn, _⟩ := hl; hn.lt
  have hSc : s.heap.objs.size ≠ cStatics := Nat.ne_of_gt hcl
  unfold collect
  refine wpAny_bind (wpAny_runValue (codeAny_builtin F.entry_proto_collect ?_))
  rw [Around.under_plainId F.plain_proto_collect _]
  show wpAny _ A.in1 (newList [] >>= fun l => again (.builtin "list.__iadd__" ⟨[l, .ref a], []⟩)) _ _ s
  refine wpAny_bind (wpAny_newObj_type ?_)
  refine wpAny_pure ⟨plainId_quiet F.plain_list_iadd _, codeAny_builtin F.entry_list_iadd ?_⟩
  rw [Around.under_plainId F.plain_list_iadd _]
  have hS : (s.heap.push { cls := .type "list", data := .seq ([] : List Value).toArray }).get? s.heap.objs.size = some { cls := .type "list", data := .seq ([] : List Value).toArray } := Heap.get?_push_size _ rfl
  show wpAny _ A.in1 (Builtin.List.listExtendWith (.ref s.heap.objs.size) (.ref a) (.ref s.heap.objs.size)) _ _ _
  unfold Builtin.List.listExtendWith
  have up : ∀ (h : Heap) (f : Obj → Obj), (∀ b o, s.heap.get? b = some o → h.get? b = some o) → ∀ b o, s.heap.get? b = some o → (h.update s.heap.objs.size f).get? b = some o := fun h f q b o e =>
    (Heap.get?_update_other _ _ (Ne.symm (Nat.ne_of_lt (Heap.lt_size e)))).trans (q b o e)
  have k1 : ∀ b o, s.heap.get? b = some o → (s.heap.push { cls := .type "list", data := .seq ([] : List Value).toArray }).get? b = some o := fun b o e => Heap.get?_push_of_some _ e
  have gty : ∀ {h : Heap}, (∀ b o, s.heap.get? b = some o → h.get? b = some o) → h.IsGen a g := fun {h} q => hg.keeps q
  refine wpAny_bind (wpAny_typeOf (Heap.IsGen.typeIs (s := { s with heap := _ }) (gty k1)) ?_)
  have h1 : Builtin.List.listSameRef (.ref s.heap.objs.size) (.ref a) = false := by simp [Builtin.List.listSameRef, hSa]
  have h2 : (Value.type "generator" == Value.type "list") = false := by decide
  have h3 : (Value.type "generator" == Value.type "tuple") = false := by decide
  simp only [h1, h2, h3, Bool.or_false, Bool.false_eq_true, if_false]
  refine wpAny_bind (wpAny_pyIter_gen (s := { s with heap := _ }) (gty k1) ?_)
  refine wpAny_bind (wpAny_holding ?_)
  unfold Builtin.List.listLengthHint
  refine wpAny_bind (wpAny_specialOf (Heap.IsGen.typeIs (s := { s with heap := _ }) (gty k1)) F.gen_no_len ?_)
  show wpAny _ A.in1 (specialOf (Value.ref a) (Str.ofString "__length_hint__") >>= _) _ _ _
  refine wpAny_bind (wpAny_specialOf (Heap.IsGen.typeIs (s := { s with heap := _ }) (gty k1)) F.gen_no_hint ?_)
  refine wpAny_pure ?_
  show wpAny _ A.in1 (rule "list.extend.makes-room" >>= fun _ => Builtin.List.listTouch (.ref s.heap.objs.size) >>= fun _ =>
    again (.builtin "list.extend.loop" ⟨[.ref s.heap.objs.size, .ref a, .ref s.heap.objs.size], []⟩)) _ _ _
  refine wpAny_bind (wpAny_rule ?_)
  refine wpAny_bind ?_
  show wpAny _ A.in1 (updateSeq s.heap.objs.size (·.push .none) >>= fun _ => updateSeq s.heap.objs.size (·.pop)) _ _ _
  refine wpAny_bind (wpAny_updateSeq hS rfl ?_)
  have hS3 := Heap.get?_update_self (Obj.mapSeq (·.push Value.none)) hS rfl
  refine wpAny_updateSeq (hz := by seq_fits) hS3 rfl ?_
  have hS4 := Heap.get?_update_self (Obj.mapSeq (·.pop)) hS3 rfl
  have k4 := up _ (Obj.mapSeq (·.pop)) (up _ (Obj.mapSeq (·.push Value.none)) k1)
  refine wpAny_pure ⟨plainId_quiet F.plain_extend_loop _, ?_⟩
  refine drain (P := P) (w := w) (outer := outer) (H := H) (sc := sc) (ex := ex) (Q := Q) (EX := noX) (A := A) (g := g) hr.hd (by have := hr.dp; show A.depth < _; omega) hSa hSc
    (fun s' acc c H' ys q1 q2 q3 q4 q5 q6 q7 q8 q9 => ?_) (fun e s' hc => ?_)
    sizeLine _ (gty k4) (hl.keeps k4) ⟨_, hgs, rfl, ?_⟩
  · show wpAny _ A (load s.heap.objs.size >>= _) _ _ s'
    refine wpAny_bind (wpAny_load q1 ?_)
    exact wpAny_pure (hQ _ s' acc c H' ys (Nat.le_refl _) q1 q2 q3 q4 q5 q6 q7 q8 q9)
  · obtain ⟨_, _, _, _, _, _, _, _, _, _, _, _, hW⟩ := hc
    exact hW.elim
  refine wake _ _ _ ⟨hr.hd, ?_, ?_⟩ hfr (Nat.le_refl _) k4 ⟨_, hS4⟩ hos (allBare_setGen (s := { s with heap := _ }) hb rfl)
  · have := hr.dp
    show A.depth + 3 * k + 5 < _
    omega
  · have := hr.un
    show A.units + 1 + 1 + 16 * k + 200 < _
    omega
end HG
namespace HG
open PySem PySem.Spec PyProof.Rows L2 HM GenW
open AutoSeq1 (wpAny_loadPart')
theorem GMade.ty {P : Program} {w : World} {k : Nat} {outer : List Env} {H : Hp} {sc s : Shared} {ex : List Addr} {Q : List V → Hp → Prop} {E : XK} {u : Value} (h : GMade P w k outer H sc ex Q E u s) : s.TypeIs u "generator" := by
  obtain ⟨a, g, c, rfl, ha1, ha2, hg, _⟩ := h
  exact hg.typeIs
theorem GMade.sz {P : Program} {w : World} {k : Nat} {outer : List Env} {H : Hp} {sc s : Shared} {ex : List Addr} {Q : List V → Hp → Prop} {E : XK} {u : Value} (h : GMade P w k outer H sc ex Q E u s) : sc.heap.objs.size ≤ s.heap.objs.size := by
  obtain ⟨a, g, c, rfl, ha1, ha2, hg, _⟩ := h
  exact Nat.le_trans ha1 (Nat.le_of_lt ha2)
theorem code_tuple_made {P : Program} {w : World} {outer : List Env} {H : Hp} {sc s : Shared} {ex : List Addr} {Q : List V → Hp → Prop} {A : Around} {k : Nat} {u : Value} {Q₁ : Value → Shared → Prop} {E : Value → Shared → Prop}
    (hr : Room (k + 4) A) (hfr : A.frames = some outer) (h : GMade P w k outer H sc ex Q noX u s)
    (hQ : ∀ (S : Addr) (s' : Shared) (acc : Array Value) (c : Nat) (H' : Hp) (ys : List V), s.heap.objs.size ≤ S → s'.heap.get? S = some (lstObj acc c) → Vals ys acc.toList → ys.length ≤ sizeLine → s'.os = sc.os → AllBare s'.gens → Un (frs outer) ex H H' sc.heap s'.heap → HOk P w H' s'.heap → H' S = none → Q ys H' → Q₁ (.ref s'.heap.objs.size) { s' with heap := s'.heap.push { cls := .type "tuple", data := .seq acc } }) :
    codeAny (model P w) A (.call (.builtin "tuple.__new__") ⟨[.type "tuple", u], []⟩) (wants Q₁ E) s := by
  refine codeAny_of_tree ?_
  obtain ⟨a, g, c, rfl, h'⟩ := id h
  show wpAny _ A.in1 (do checkBuiltinCall "tuple.__new__" ⟨[.type "tuple", .ref a], []⟩; again (.builtin "tuple.__new__" ⟨[.type "tuple", .ref a], []⟩)) _ _ s
  refine wpAny_bind (wpAny_of_eq (F.newCall_tuple_1 _) (wpAny_pure ⟨plainId_quiet F.plain_tuple_new _, codeAny_builtin F.entry_tuple_new ?_⟩))
  rw [Around.under_plainId F.plain_tuple_new _]
  have hsub := sub_tuple_self
  have hinit := init_tuple_lookup
  have hmh := madeHere_tuple
  have hTI := GMade.ty h
  have hr1 : Room (k + 3) A.in1 := ⟨hr.hd, by have := hr.dp; show A.depth + _ + _ < _; omega, by have := hr.un; show A.units + 1 + _ + _ < _; omega⟩
  wp_walk using wpAny_typeOf hTI, collect_made hr1 hfr h
  intro S s' acc c' H' ys q0 q1 q2 q3 q4 q5 q6 q7 q8 q9
  show wpAny _ _ (Builtin.Tuple.tupleExact acc.toList.toArray >>= fun v => ret v) _ _ _
  unfold Builtin.Tuple.tupleExact
  have hsz : acc.size ≤ sizeLine := by
    have e1 := q2.length
    have e2 : acc.toList.length = acc.size := by simp
    omega
  refine wpAny_bind (wpAny_newObj_type ?_ (by show acc.toList.toArray.size ≤ sizeLine; simp only [Array.toArray_toList]; exact hsz))
  refine wpAny_pure ?_
  have e : acc.toList.toArray = acc := by simp
  rw [e]
  exact hQ S s' acc c' H' ys q0 q1 q2 q3 q4 q5 q6 q7 q8 q9
theorem call_tuple_made {P : Program} {w : World} {outer : List Env} {H : Hp} {sc s : Shared} {ex : List Addr} {Q : List V → Hp → Prop} {A : Around} {k : Nat} {u : Value} {Q' : Value → Shared → Prop} {E : Value → Shared → Prop}
    (hr : Room (k + 5) A) (hfr : A.frames = some outer) (h : GMade P w k outer H sc ex Q noX u s)
    (hQ : ∀ (S : Addr) (s' : Shared) (acc : Array Value) (c : Nat) (H' : Hp) (ys : List V), s.heap.objs.size ≤ S → s'.heap.get? S = some (lstObj acc c) → Vals ys acc.toList → ys.length ≤ sizeLine → s'.os = sc.os → AllBare s'.gens → Un (frs outer) ex H H' sc.heap s'.heap → HOk P w H' s'.heap → H' S = none → Q ys H' → Q' (.ref s'.heap.objs.size) { s' with heap := s'.heap.push { cls := .type "tuple", data := .seq acc } }) :
    wpAny (model P w) A (call (.type "tuple") [u]) Q' E s := by
  have hr1 : Room (k + 4) A.in1 := ⟨hr.hd, by have := hr.dp; show A.depth + _ + _ < _; omega, by have := hr.un; show A.units + 1 + _ + _ < _; omega⟩
  refine callType_codes (Q₁ := fun obj s₁ => s₁.TypeIs obj "tuple" ∧ Q' obj s₁) F.called_tuple (F.typeCall_tuple_1 _) F.entry_object_init
    (code_tuple_made hr1 hfr h fun S s' acc c H' ys q0 q1 q2 q3 q4 q5 q6 q7 q8 q9 => ⟨⟨_, Heap.get?_push_size _ rfl, rfl⟩, hQ S s' acc c H' ys q0 q1 q2 q3 q4 q5 q6 q7 q8 q9⟩) fun obj s₁ h₁ => ?_
  exact ⟨h₁.1, F.args_object_init_2 obj _, object_init_meets F.called_tuple.init.lookup F.called_tuple.made (by decide) P w A.in1 _ s₁ ⟨h₁.1, rfl, h₁.2⟩⟩
section
variable {X : Cx}
/-- tuple(.. for ..): a list of what came, and the tuple -/
def tTupGe (tg : TGen) : TE := fun σ H Q => tg σ H fun ys H2 => ∀ S T, H2 S = none → S ≠ T → H2 T = none → Q (.ref T) (upd (upd H2 S (.lst ys)) T (.tup ys))
theorem pe_tupGe {k : Nat} {e : Expr} {tg : TGen} {p pos : Pos} (h : PGen X k e tg noX) (hr : Room (k + 5) X.A) (hg : Gl X "tuple") (hm : X.mg "tuple" = none)
    (he : starEach [e] X.env = (false, eval e X.env) :: starEach [] X.env := by rfl) : PE X (.Call (.Name "tuple" p) [e] [] pos) (tTupGe tg) := by
  refine ⟨fun pins s σ H Q I hq => ?_⟩
  refine Call_ (ld_blt I hg hm boot_tuple (PyProof.Rows.callWith_type1 (PyProof.Rows.args_cons ?_ he) he rfl))
  refine L2.thn (h.run pins s σ H _ I hq) fun u s1 ⟨H1, sc, ex, I1, hex, hG⟩ => ?_
  refine PyProof.Rows.args_nil ?_
  refine call_tuple_made hr I1.ok.frames hG fun S s' acc c H' ys q0 q1 q2 q3 q4 q5 q6 q7 q8 q9 => ?_
  have J := Inv.drained I1 (Nat.le_trans (GMade.sz hG) q0) q3 q1 q2 hex q4 q5 q6 q7 q8
  have hST : S ≠ s'.heap.objs.size := Nat.ne_of_lt (Heap.lt_size q1)
  have J2 : Inv X pins σ (upd (upd H' S (.lst ys)) s'.heap.objs.size (.tup ys)) { s' with heap := s'.heap.push { cls := .type "tuple", data := .seq acc } } := by
    refine J.laid (t' := s'.toks) (fun b o e => Heap.get?_push_of_some _ e) (Nat.le_refl _) ⟨q3, acc.toList, q2, ?_⟩
    exact ⟨_, Heap.get?_push_size _ rfl, rfl, _, by simp; rfl⟩
  exact ⟨.ref s'.heap.objs.size, _, J2, rfl, q9 S _ q8 hST (q7.fresh (Nat.le_refl _))⟩
end
end HG
namespace HG
open PySem PySem.Spec PyProof.Rows L2 HM GenW
end HG
namespace HG
open PySem PySem.Spec PyProof.Rows L2 HM GenW
end HG
namespace HG
open PySem PySem.Spec PyProof.Rows L2 HM GenW
end HG
namespace HG
open PySem PySem.Spec PyProof.Rows L2 HM GenW
end HG
namespace VL
open PySem PySem.Spec PyProof.Rows L2 HM HG
/-- the table of generators at P runs along -/
structure TabIn (am : Am) (P : Addr) : Prop where
  sp : am.sp P
  rd : ∀ {n H}, am.ok n H → GxR.TabG H P
  wr : ∀ {n H H'}, am.ok n H → GxR.Tabbed P H H' → am.ok n H'
section
variable {c : Fc} {F H H' : Hp} {σ : L2.St} {env : Ev} {n : Nat} {P : Addr}
theorem Rel.tab (T : TabIn c.am P) (r : Rel c F H σ env n) (h : GxR.Tabbed P H H') : Rel c F H' σ env n := by
  have hF : F P = none := r.spf P T.sp
  refine ⟨fun b u e => ?_, r.spf, T.wr r.amb h, r.up0, r.out0, fun b u e nb => ?_, r.len, fun i s e => ?_, r.apart⟩
  · rw [h.2 b fun z => by rw [z, hF] at e; cases e]; exact r.sub b u e
  · rw [h.2 b fun z => nb (by rw [z]; exact T.sp)]; exact r.keep0 b u e nb
  · have q := r.sl i s e
    cases s with
    | no => trivial
    | fz d => exact q
    | ow kk =>
      obtain ⟨a, o, g1, g2, g3, g4, g5, g6⟩ := q
      exact ⟨a, o, g1, g2, g3, g4, by rw [h.2 a fun z => g4 (by rw [z]; exact T.sp)]; exact g5, g6⟩
end
section
variable {c : Fc} {P : Addr}
/-- what a generator expression hands out, by trees -/
theorem ge_of {wi : VTI} {g : TG} {gv : VTG} {tt : VTT} {te : VTE} {vs : List Nat} (T : TabIn c.am P) (hg : TgOk g gv vs) {σ : L2.St} {H : Hp} {cont : List V → Hp → Prop} {F : Hp} {env : Ev} {n : Nat} {Q : Con → Ev → Nat → Prop} (r : Rel c F H σ env n) (q : vLc wi gv tt te vs env n Q)
    (k : ∀ ys H' F' ds env' n', Rel c F' H' σ env' n' → Up F F' → Rps F' ys ds → Q (.lst ds) env' n' → cont ys H') : tGe P (iOf c wi) g (cOf c tt) (tOf c te) vs σ H cont := by
  refine ⟨F, env, n, _, r, q, fun J H1 F1 xs env1 n1 r1 u1 wk q1 => ?_⟩
  obtain ⟨no, hlen, Pv, p0, turn, fin⟩ := q1
  refine ⟨T.rd r1.amb, fun H2 hT => ?_⟩
  have r2 := r1.tab T hT
  refine ⟨fun i m ys H => m = xs.length - i ∧ i ≤ xs.length ∧ ∃ F' acc env n, Rel c F' H (L2.wipe σ vs) env n ∧ Up F1 F' ∧ Rps F' ys acc ∧ acc.length ≤ i ∧ Pv i acc env n, ⟨_, rfl, Nat.zero_le _, F1, [], _, n1, r2.wipe vs, Up.refl F1, .nil, Nat.zero_le _, p0⟩, ?_⟩
  rintro i m ys H3 ⟨rfl, hi, F3, acc, env3, n3, r3, u3, ra, hal, p3⟩
  obtain ⟨wg, ws⟩ := wk c rfl F3 H3 _ env3 n3 r3 u3 i
  by_cases hlt : i < xs.length
  · obtain ⟨go, yl⟩ := wg hlt
    refine .inr ⟨go, fun ys' H' => ∃ F' acc env n, Rel c F' H' (L2.wipe σ vs) env n ∧ Up F1 F' ∧ Rps F' ys' acc ∧ acc.length ≤ i + 1 ∧ Pv (i + 1) acc env n, fun ys' H' hN => ⟨xs.length - (i + 1), by omega, rfl, hlt, hN⟩, fun x H4 y => ?_⟩
    obtain ⟨F4, d, r4, u4, ed, rd⟩ := yl x H4 y
    refine hg _ F4 H4 _ env3 n3 x d _ _ r4 rd (turn i d acc env3 n3 ed p3) fun σ5 env5 n5 r5 hw q5 => ?_
    have hw' : L2.wipe σ5 vs = L2.wipe σ vs := hw.trans (List.ext_getElem? fun j => by
      rw [wipe_get, wipe_get, wipe_length]
      by_cases h : j ∈ vs ∧ j < σ.length
      · rw [if_pos h, if_pos h]
      · rw [if_neg h, if_neg h])
    refine ⟨hw', F4, env5, n5, _, r5, q5, fun b H6 F6 env6 n6 r6 u6 q6 => ?_⟩
    cases b with
    | true =>
      refine ⟨F6, env6, n6, _, r6, q6, fun v H7 F7 d7 env7 n7 r7 u7 rv q7 => ?_⟩
      have hyl : ys.length ≤ 5000 := by rw [ra.len]; omega
      exact ⟨small1000 hyl, F7, acc ++ [d7], _, n7, r7.wipe2 hw', ((u3.trans u4).trans u6).trans u7, (((ra.up u4).up u6).up u7).append (.cons rv .nil), by rw [List.length_append]; exact Nat.succ_le_succ hal, q7⟩
    | false => exact ⟨F6, acc, _, n6, r6.wipe2 hw', (u3.trans u4).trans u6, (ra.up u4).up u6, Nat.le_succ_of_le hal, q6⟩
  · have e : i = xs.length := by omega
    subst e
    exact .inl ⟨ws (Nat.le_refl _), k ys H3 F3 acc _ n3 (r2.rest u3 no r3) (u1.trans u3) ra (fin acc env3 n3 hal p3)⟩
/-- tuple(e for x in xs ..) -/
def vTupGe (wi : VTI) (g : VTG) (tt : VTT) (te : VTE) (vs : List Nat) : VTE := fun env n Q => vLc wi g tt te vs env n fun k env' n' => ∃ ds, k = .lst ds ∧ Q (.tup ds) env' n'
theorem tupGe_of {wi : VTI} {g : TG} {gv : VTG} {tt : VTT} {te : VTE} {vs : List Nat} (T : TabIn c.am P) (hg : TgOk g gv vs) {σ : L2.St} {H : Hp} {R : VK} (h : tOf c (vTupGe wi gv tt te vs) σ H R) : tTupGe (tGe P (iOf c wi) g (cOf c tt) (tOf c te) vs) σ H R := by
  obtain ⟨F, env, n, Q, r, q, k⟩ := h
  refine ge_of T hg r q fun ys H' F' ds env' n' r' u ra qd S T' hS hST hT => ?_
  obtain ⟨ds', e, qd⟩ := qd
  cases e
  have r2 := r'.lay hS (.lst ys)
  have hT2 : upd H' S (.lst ys) T' = none := by rw [upd_ne (Ne.symm hST)]; exact hT
  obtain ⟨_, _, nf⟩ := r2.new0 hT2
  exact k _ _ (upd F' T' (.tup ys)) _ env' n' (r2.layF hT2 _) (u.trans (up_lay nf)) (.tup upd_same (ra.up (up_lay nf))) qd
variable {X : Cx}
theorem ve_tupGe {cc : Addr} {elt tg iter : Expr} {ifs : List Expr} {scope : Scope} {own : List (Str × Nat)} {gpos p pos : Pos} {wi : VTI} {g : TG} {gv : VTG} {tt : VTT} {te : VTE} {k : Nat} (T : TabIn c.am P) (hc : X.calm = true) (hN : X.N.Nodup) (hr : Room (k + 6) X.A) (hgl : Gl X "tuple") (hm : X.mg "tuple" = none) (TB : GxR.TabB X.base X.mg cc P) (hcode : X.env.code = .ref cc)
    (Sc : GeS scope) (hi : PI X tg iter (iOf c wi)) (ok : BlkOk X.N X.env.scope scope own) (hgk : TgOk g gv (own.map (·.2)))
    (hg : ∀ (A : Around) (s : Shared) (H : Hp) (C : Addr) (code : Value) (fp : List Addr) (pn : List (Addr × Obj)), PG (gx X A s H (genEnv scope (cloFrom X.env.cells scope.names []) C code builtinsNs X.env) fp pn) tg g)
    (ht : ∀ (A : Around) (s : Shared) (H : Hp) (C : Addr) (code : Value) (fp : List Addr) (pn : List (Addr × Obj)), Room k A → PTs (gx X A s H (genEnv scope (cloFrom X.env.cells scope.names []) C code builtinsNs X.env) fp pn) ifs (cOf c tt))
    (he : ∀ (A : Around) (s : Shared) (H : Hp) (C : Addr) (code : Value) (fp : List Addr) (pn : List (Addr × Obj)), Room k A → PE (gx X A s H (genEnv scope (cloFrom X.env.cells scope.names []) C code builtinsNs X.env) fp pn) elt (tOf c te))
    (hs : ∀ v, genFold iter X.env v = pure v := by intro _; rfl) (hse : starEach [.GeneratorExp elt [⟨tg, iter, ifs, 0⟩] scope gpos] X.env = (false, eval (.GeneratorExp elt [⟨tg, iter, ifs, 0⟩] scope gpos) X.env) :: starEach [] X.env := by rfl) :
    PE X (.Call (.Name "tuple" p) [.GeneratorExp elt [⟨tg, iter, ifs, 0⟩] scope gpos] [] pos) (tOf c (vTupGe wi gv tt te (own.map (·.2)))) :=
  PE.imp (pe_tupGe (pgen_ge hc hN hr TB hcode ok Sc hi hg ht he hs) hr hgl hm hse) fun σ H R => tupGe_of T hgk
end
end VL
namespace HG
open PySem PySem.Spec PyProof.Rows L2 HM GenW
end HG
namespace VL
open PySem PySem.Spec PyProof.Rows L2 HM HG
end VL
namespace VL
open PySem PySem.Spec PyProof.Rows L2 HM
end VL
namespace VL
open PySem PySem.Spec PyProof.Rows L2 HM
theorem iteB {a b : Prop} {k : Bool} (h1 : k = true → a) (h2 : k = false → b) : if k = true then a else b := by
  cases k with
  | true => exact h1 rfl
  | false => exact h2 rfl
end VL
namespace VL
open PySem PySem.Spec PyProof.Rows L2 HM
end VL
namespace VL
open PySem PySem.Spec PyProof.Rows L2 HM
def nD (i : Nat) : Dt := .int (i : Int)
def nsD (l : List Nat) : List Dt := l.map nD
theorem flats_int : ∀ ns : List Int, flats (ns.map Dt.int) = true
  | [] => rfl
  | n :: ns => by rw [List.map_cons]; show (true && flats (ns.map Dt.int)) = true; rw [flats_int ns]; rfl
theorem nsD_len (l : List Nat) : (nsD l).length = l.length := List.length_map _
theorem nsD_get {l : List Nat} {i : Nat} {x : Nat} (h : l[i]? = some x) : atI (nsD l) (i : Int) = some (nD x) := atI_nat (by unfold nsD; rw [List.getElem?_map, h]; rfl)
theorem nsD_ints (l : List Nat) : nsD l = (l.map fun i : Nat => (i : Int)).map Dt.int := by unfold nsD; rw [List.map_map]; rfl
theorem nsD_inj : ∀ {a b : List Nat}, nsD a = nsD b → a = b
  | [], [], _ => rfl
  | [], _ :: _, h => by cases h
  | _ :: _, [], h => by cases h
  | x :: a, y :: b, h => by
    unfold nsD at h
    rw [List.map_cons, List.map_cons] at h
    injection h with h1 h2
    have : x = y := by
      unfold nD at h1
      injection h1 with h1
      omega
    rw [this, nsD_inj h2]
/-- what comes of some numbers, from 0 on -/
inductive Rch (m : Nat → Nat → Nat) (gs : List Nat) : Nat → Prop
  | zero : Rch m gs 0
  | step {a g : Nat} : Rch m gs a → g ∈ gs → Rch m gs (m a g)
theorem Rch.lt {n : Nat} {m : Nat → Nat → Nat} {gs : List Nat} (h0 : 0 < n) (hm : ∀ a b, a < n → b < n → m a b < n) (hg : ∀ g ∈ gs, g < n) : ∀ {x : Nat}, Rch m gs x → x < n
  | _, .zero => h0
  | _, .step h g => hm _ _ (Rch.lt h0 hm hg h) (hg _ g)
theorem Rch.mono {m : Nat → Nat → Nat} {gs hs : List Nat} (h : ∀ g ∈ gs, g ∈ hs) : ∀ {x : Nat}, Rch m gs x → Rch m hs x
  | _, .zero => .zero
  | _, .step a g => .step (Rch.mono h a) (h _ g)
/-- the part of some numbers: rising, all that comes of them -/
structure IsPt (m : Nat → Nat → Nat) (gs : List Nat) (l : List Nat) : Prop where
  up : l.Pairwise (· < ·)
  mem : ∀ x, x ∈ l ↔ Rch m gs x
theorem rising_eq {a b : List Nat} (ha : a.Pairwise (· < ·)) (hb : b.Pairwise (· < ·)) (h : ∀ x, x ∈ a ↔ x ∈ b) : a = b := by
  have na : a.Nodup := ha.imp fun h => Nat.ne_of_lt h
  have nb : b.Nodup := hb.imp fun h => Nat.ne_of_lt h
  refine List.Perm.eq_of_pairwise (le := (· < ·)) (fun x y _ _ h1 h2 => absurd (Nat.lt_trans h1 h2) (Nat.lt_irrefl _)) ha hb ((List.perm_ext_iff_of_nodup na nb).mpr h)
/-- what is found on the way -/
structure Fnd (m : Nat → Nat → Nat) (gs : List Nat) (fs : List Nat) (at_ : Nat) : Prop where
  nd : fs.Nodup
  rc : ∀ x ∈ fs, Rch m gs x
  ze : 0 ∈ fs
  cl : ∀ i x, i < at_ → fs[i]? = some x → ∀ g ∈ gs, m x g ∈ fs
theorem Fnd.start (m : Nat → Nat → Nat) (gs : List Nat) : Fnd m gs [0] 0 := ⟨by simp, fun x hx => by rw [List.mem_singleton.mp hx]; exact .zero, by simp, fun i x h => absurd h (Nat.not_lt_zero i)⟩
theorem Fnd.all {m : Nat → Nat → Nat} {gs fs : List Nat} (h : Fnd m gs fs fs.length) : ∀ x, x ∈ fs ↔ Rch m gs x := fun x => ⟨h.rc x, fun r => by
  induction r with
  | zero => exact h.ze
  | step _ hg ih =>
    obtain ⟨i, hi, e⟩ := List.getElem_of_mem ih
    exact h.cl i _ hi (by rw [List.getElem?_eq_getElem hi, e]) _ hg⟩
theorem few_of_nodup {n : Nat} {l : List Nat} (nd : l.Nodup) (h : ∀ x ∈ l, x < n) : l.length ≤ n := by
  have := List.Nodup.length_le_of_subset nd (l₂ := List.range n) fun x hx => List.mem_range.mpr (h x hx)
  rw [List.length_range] at this
  exact this
theorem take_snoc' {α : Type} {l : List α} {j : Nat} {x : α} (h : l[j]? = some x) : l.take (j + 1) = l.take j ++ [x] := by rw [List.take_add_one, h]; rfl
end VL
namespace VL
open PySem PySem.Spec PyProof.Rows L2 HM
end VL
namespace VL
open PySem PySem.Spec PyProof.Rows L2 HM
theorem valD_some {κ : Type} [DecidableEq κ] {kvs : List (κ × Dt)} {k : κ} : (valD kvs k).isSome = decide (k ∈ kvs.map (·.1)) := by
  induction kvs with
  | nil => rfl
  | cons p r ih =>
    unfold valD at ih ⊢
    by_cases h : p.1 = k
    · rw [List.find?_cons_of_pos (by simpa using h)]
      simp [h]
    · rw [List.find?_cons_of_neg (by simpa using h), ih]
      have h' : ¬ k = p.1 := fun z => h z.symm
      simp [h']
theorem putD_new {κ : Type} [DecidableEq κ] {kvs : List (κ × Dt)} {k : κ} {v : Dt} (h : k ∉ kvs.map (·.1)) : putD kvs k v = kvs ++ [(k, v)] := by
  unfold putD
  rw [if_neg]
  intro z
  rw [List.any_eq_true] at z
  obtain ⟨p, hp, e⟩ := z
  exact h (List.mem_map.mpr ⟨p, hp, of_decide_eq_true e⟩)
theorem keyN_mem {fs : List Nat} {x : Nat} : (Sum.inl (x : Int) : Key) ∈ fs.map (fun i : Nat => (Sum.inl (i : Int) : Key)) ↔ x ∈ fs := by
  rw [List.mem_map]
  constructor
  · rintro ⟨i, hi, e⟩
    have : (i : Int) = x := Sum.inl.inj e
    have : i = x := by omega
    rw [← this]; exact hi
  · exact fun h => ⟨x, h, rfl⟩
/-- what is found, and what waits -/
structure Wt (m : Nat → Nat → Nat) (gs : List Nat) (fs ws : List Nat) : Prop where
  nd : fs.Nodup
  rc : ∀ x ∈ fs, Rch m gs x
  ze : 0 ∈ fs
  sb : ∀ x ∈ ws, x ∈ fs
  wn : ws.Nodup
  cl : ∀ x ∈ fs, x ∉ ws → ∀ g ∈ gs, m x g ∈ fs
theorem Wt.all {m : Nat → Nat → Nat} {gs fs : List Nat} (h : Wt m gs fs []) : ∀ x, x ∈ fs ↔ Rch m gs x := fun x => ⟨h.rc x, fun r => by
  induction r with
  | zero => exact h.ze
  | step _ hg ih => exact h.cl _ ih (by simp) _ hg⟩
theorem pl_nt (l : List Nat) : pl (.tup (nsD l)) = true := pls_map (fun _ => rfl) l
end VL
namespace VL
open PySem PySem.Spec PyProof.Rows L2 HM
end VL
namespace VL
open PySem PySem.Spec PyProof.Rows L2 HM
end VL
namespace VL
open PySem PySem.Spec PyProof.Rows L2 HM
def pk4 (a : Addr) (t l : Int) (g : Bool) : List (Key × V) := [(.inr "script", .ref a), (.inr "at", .int t), (.inr "left", .int l), (.inr "great", .bl g)]
/-- the pen runs along -/
structure PenIn (K : PySem.W.Frag) (am : Am) (p : Addr) : Prop where
  sp : am.sp p
  rd : ∀ {n H}, am.ok n H → ∃ a ns t l g, H p = some (.dK (pk4 a t l g)) ∧ Scr K H a ns ∧ ns.length ≤ 63 ∧ 0 ≤ t ∧ 0 ≤ l
  wr : ∀ {n H a t l g}, am.ok n H → H p = some (.dK (pk4 a t l g)) → ∀ (t' l' : Int) (g' : Bool), 0 ≤ t' → 0 ≤ l' → am.ok n (upd H p (.dK (pk4 a t' l' g')))
/-- nothing but the pen is written -/
theorem PenIn.out {K : PySem.W.Frag} {am : Am} {p a : Addr} (h : PenIn K am p) {F H : Hp} {n : Nat} {t l : Int} {g : Bool} (u : Up F H) (hs : ∀ a, am.sp a → F a = none) (ha : am.ok n H) (hp : H p = some (.dK (pk4 a t l g))) {t' l' : Int} {g' : Bool} (h1 : 0 ≤ t') (h2 : 0 ≤ l') :
    Out am F H F (upd H p (.dK (pk4 a t' l' g'))) n :=
  ⟨Up.refl F, fun b o e => by rw [upd_ne (fun (z : b = p) => by rw [z, hs p h.sp] at e; cases e)]; exact u b o e, hs, fun _ _ _ _ e => e, fun b o e nb => by rw [upd_ne (fun (z : b = p) => nb (by rw [z]; exact h.sp))]; exact e, h.wr ha hp t' l' g' h1 h2⟩
end VL
namespace VL
open PySem PySem.Spec PyProof.Rows L2 HM
def spTake (p : Addr) : VSp := fun ds t Q _ => ∃ m : Nat, ds = [.obj p, nD m] ∧ 0 < m ∧ m ≤ 10000 ∧ ∀ r : Nat, r < m → Q (nD r) t
end VL
namespace VL
open PySem PySem.Spec PyProof.Rows L2 HM
end VL
namespace VL
open PySem PySem.Spec PyProof.Rows L2 HM
end VL
namespace VL
open PySem PySem.Spec PyProof.Rows L2 HM
def Tn (m : Nat) (l : List Nat) : Prop := l.Perm (List.range m)
theorem Tn.len {m : Nat} {l : List Nat} (h : Tn m l) : l.length = m := by rw [List.Perm.length_eq h, List.length_range]
theorem Tn.lt {m : Nat} {l : List Nat} (h : Tn m l) {x : Nat} (hx : x ∈ l) : x < m := List.mem_range.mp ((List.Perm.mem_iff h).mp hx)
theorem Tn.nd {m : Nat} {l : List Nat} (h : Tn m l) : l.Nodup := (List.Perm.nodup_iff h).mpr List.nodup_range
theorem Tn.all {m : Nat} {l : List Nat} (h : Tn m l) {x : Nat} (hx : x < m) : x ∈ l := (List.Perm.mem_iff h).mpr (List.mem_range.mpr hx)
theorem tn_of {m : Nat} {l : List Nat} (hl : l.length = m) (h : ∀ x ∈ l, x < m) (nd : l.Nodup) : Tn m l := by
  refine (List.perm_ext_iff_of_nodup nd List.nodup_range).mpr fun x => ⟨fun hx => List.mem_range.mpr (h x hx), fun hx => ?_⟩
  rcases Classical.em (x ∈ l) with z | z
  · exact z
  · have hx := List.mem_range.mp hx
    have := few_of_nodup (n := m) (l := x :: l) (List.nodup_cons.mpr ⟨z, nd⟩) fun y hy => by
      rcases List.mem_cons.mp hy with rfl | hy
      · exact hx
      · exact h y hy
    rw [List.length_cons, hl] at this
    omega
theorem flats_ns (l : List Nat) : flats (nsD l) = true := by rw [nsD_ints]; exact flats_int _
def tA (l : List Nat) (k : Nat) : Nat := l.getD k 0
theorem tA_get {l : List Nat} {k : Nat} (h : k < l.length) : l[k]? = some (tA l k) := by
  unfold tA
  rw [List.getD_eq_getElem?_getD, List.getElem?_eq_getElem h]
  rfl
theorem tA_mem {l : List Nat} {k : Nat} (h : k < l.length) : tA l k ∈ l := List.mem_of_getElem? (tA_get h)
theorem Tn.at_lt {m : Nat} {l : List Nat} (h : Tn m l) {k : Nat} (hk : k < m) : tA l k < m := h.lt (tA_mem (by rw [h.len]; exact hk))
theorem Tn.inj {m : Nat} {l : List Nat} (h : Tn m l) {i j : Nat} (hi : i < m) (hj : j < m) (e : tA l i = tA l j) : i = j := by
  have h1 : l[i]? = l[j]? := by rw [tA_get (by rw [h.len]; exact hi), tA_get (by rw [h.len]; exact hj), e]
  exact (List.getElem?_inj (by rw [h.len]; exact hi) h.nd).mp h1
theorem Tn.onto {m : Nat} {l : List Nat} (h : Tn m l) {x : Nat} (hx : x < m) : ∃ k, k < m ∧ tA l k = x := by
  obtain ⟨k, hk, e⟩ := List.getElem_of_mem (h.all hx)
  refine ⟨k, by rw [← h.len]; exact hk, ?_⟩
  have := tA_get hk
  rw [List.getElem?_eq_getElem hk, e] at this
  exact (Option.some.inj this).symm
theorem nsD_tA {l : List Nat} {k : Nat} (h : k < l.length) : atI (nsD l) (k : Int) = some (nD (tA l k)) := nsD_get (tA_get h)
end VL
namespace VL
open PySem PySem.Spec PyProof.Rows L2 HM
end VL
namespace VL
open PySem PySem.Spec PyProof.Rows L2 HM
def tnsD (ls : List (List Nat)) : List Dt := ls.map fun l => .tup (nsD l)
end VL
namespace VL
open PySem PySem.Spec PyProof.Rows L2 HM
end VL
namespace VL
open PySem PySem.Spec PyProof.Rows L2 HM
def thn (a b : List Nat) : List Nat := a.map (tA b)
def stay (m : Nat) : List Nat := List.range m
theorem thn_tn {m : Nat} {a b : List Nat} (ha : Tn m a) (hb : Tn m b) : Tn m (thn a b) := by
  refine tn_of (by unfold thn; rw [List.length_map, ha.len]) (fun x hx => ?_) ?_
  · obtain ⟨k, hk, rfl⟩ := List.mem_map.mp hx
    exact hb.at_lt (ha.lt hk)
  · unfold thn
    exact List.pairwise_map.mpr ((List.Pairwise.and_mem.mp ha.nd).imp fun {x y} h e => h.2.2 (hb.inj (ha.lt h.1) (ha.lt h.2.1) e))
theorem stay_tn (m : Nat) : Tn m (stay m) := List.Perm.refl _
theorem thn_stay {m : Nat} {a : List Nat} (ha : Tn m a) : thn a (stay m) = a := by
  unfold thn
  refine (List.map_congr_left fun x hx => ?_).trans (List.map_id a)
  unfold tA stay
  rw [List.getD_eq_getElem?_getD, List.getElem?_range (ha.lt hx)]
  rfl
theorem stay_thn {m : Nat} {a : List Nat} (ha : Tn m a) : thn (stay m) a = a := by
  refine List.ext_getElem? fun i => ?_
  unfold thn stay
  rw [List.getElem?_map]
  by_cases h : i < m
  · rw [List.getElem?_range h, tA_get (by rw [ha.len]; exact h)]
    rfl
  · rw [List.getElem?_eq_none (by rw [List.length_range]; omega), List.getElem?_eq_none (by rw [ha.len]; omega)]
    rfl
theorem tA_thn {a b : List Nat} {k : Nat} (h : k < a.length) : tA (thn a b) k = tA b (tA a k) := by
  have h1 : (thn a b)[k]? = some (tA b (tA a k)) := by
    unfold thn
    rw [List.getElem?_map, tA_get h]
    rfl
  unfold tA at h1 ⊢
  rw [List.getD_eq_getElem?_getD (l := thn a b), h1]
  rfl
theorem thn_assoc {m : Nat} {a b c : List Nat} (ha : Tn m a) (hb : Tn m b) : thn (thn a b) c = thn a (thn b c) := by
  unfold thn
  rw [List.map_map]
  refine List.map_congr_left fun x hx => ?_
  exact (tA_thn (b := c) (by rw [hb.len]; exact ha.lt hx)).symm
theorem thn_inj {m : Nat} {a b c : List Nat} (ha : Tn m a) (hb : Tn m b) (hc : Tn m c) (e : thn a b = thn a c) : b = c := by
  refine List.ext_getElem? fun i => ?_
  by_cases h : i < m
  · obtain ⟨k, hk, rfl⟩ := ha.onto h
    have e2 : tA (thn a b) k = tA (thn a c) k := by rw [e]
    rw [tA_thn (by rw [ha.len]; exact hk), tA_thn (by rw [ha.len]; exact hk)] at e2
    rw [tA_get (by rw [hb.len]; exact h), tA_get (by rw [hc.len]; exact h), e2]
  · rw [List.getElem?_eq_none (by rw [hb.len]; omega), List.getElem?_eq_none (by rw [hc.len]; omega)]
def itr (f : Nat → Nat) : Nat → Nat → Nat
  | 0, x => x
  | i + 1, x => f (itr f i x)
theorem itr_add (f : Nat → Nat) (i j x : Nat) : itr f (i + j) x = itr f i (itr f j x) := by
  induction i with
  | zero => rw [Nat.zero_add]; rfl
  | succ i ih => rw [Nat.succ_add]; show f _ = f _; rw [ih]
theorem itr_mul {f : Nat → Nat} {c x : Nat} (h : itr f c x = x) : ∀ q, itr f (q * c) x = x
  | 0 => by rw [Nat.zero_mul]; rfl
  | q + 1 => by rw [Nat.succ_mul, itr_add, h, itr_mul h q]
theorem itr_lt {m : Nat} {g : List Nat} (h : Tn m g) {x : Nat} (hx : x < m) : ∀ i, itr (tA g) i x < m
  | 0 => hx
  | i + 1 => h.at_lt (itr_lt h hx i)
theorem itr_inj {m : Nat} {g : List Nat} (h : Tn m g) {x y : Nat} (hx : x < m) (hy : y < m) : ∀ i, itr (tA g) i x = itr (tA g) i y → x = y
  | 0, e => e
  | i + 1, e => itr_inj h hx hy i (h.inj (itr_lt h hx i) (itr_lt h hy i) e)
theorem itr_back {m : Nat} {g : List Nat} (h : Tn m g) {x i j : Nat} (hx : x < m) (hij : i ≤ j) (e : itr (tA g) i x = itr (tA g) j x) : itr (tA g) (j - i) x = x := by
  have e2 : itr (tA g) i x = itr (tA g) i (itr (tA g) (j - i) x) := by rw [← itr_add, show i + (j - i) = j by omega]; exact e
  exact (itr_inj h hx (itr_lt h hx _) i e2).symm
theorem itr_ring {m : Nat} {g : List Nat} (h : Tn m g) {x : Nat} (hx : x < m) : ∃ c, 1 ≤ c ∧ c ≤ m ∧ itr (tA g) c x = x := by
  rcases Classical.em (∃ i j, i < j ∧ j ≤ m ∧ itr (tA g) i x = itr (tA g) j x) with ⟨i, j, hij, hj, e⟩ | no
  · exact ⟨j - i, by omega, by omega, itr_back h hx (by omega) e⟩
  · exfalso
    have nd : ((List.range (m + 1)).map fun i => itr (tA g) i x).Nodup := by
      refine List.pairwise_map.mpr (List.Pairwise.imp_of_mem (fun {a b} ha hb hab e => ?_) (List.pairwise_lt_range (n := m + 1)))
      exact no ⟨a, b, hab, by have := List.mem_range.mp hb; omega, e⟩
    have := few_of_nodup (n := m) nd fun y hy => by
      obtain ⟨i, _, rfl⟩ := List.mem_map.mp hy
      exact itr_lt h hx i
    rw [List.length_map, List.length_range] at this
    omega
theorem ring60 {m : Nat} {g : List Nat} (h : Tn m g) (hm : m ≤ 7) : (∀ x, x < m → itr (tA g) 60 x = x) ∨ ∀ x, x < m → itr (tA g) 7 x = x := by
  rcases Classical.em (∀ x, x < m → ∃ c, 1 ≤ c ∧ c ≤ 6 ∧ itr (tA g) c x = x) with al | no
  · refine .inl fun x hx => ?_
    obtain ⟨c, h1, h6, e⟩ := al x hx
    have hd : ∃ q, 60 = q * c := by
      rcases (by omega : c = 1 ∨ c = 2 ∨ c = 3 ∨ c = 4 ∨ c = 5 ∨ c = 6) with rfl | rfl | rfl | rfl | rfl | rfl
      · exact ⟨60, rfl⟩
      · exact ⟨30, rfl⟩
      · exact ⟨20, rfl⟩
      · exact ⟨15, rfl⟩
      · exact ⟨12, rfl⟩
      · exact ⟨10, rfl⟩
    obtain ⟨q, hq⟩ := hd
    rw [hq]
    exact itr_mul e q
  · refine .inr ?_
    obtain ⟨x, hn⟩ := Classical.not_forall.mp no
    obtain ⟨hx, hno⟩ := Classical.not_imp.mp hn
    clear hn
    obtain ⟨c, h1, hc, e⟩ := itr_ring h hx
    have hc7 : c = 7 := by
      rcases Nat.lt_or_ge c 7 with z | z
      · exact absurd ⟨c, h1, by omega, e⟩ hno
      · omega
    have hm7 : m = 7 := by omega
    subst hm7
    subst hc7
    have tn : Tn 7 ((List.range 7).map fun i => itr (tA g) i x) := by
      refine tn_of (by rw [List.length_map, List.length_range]) (fun y hy => ?_) ?_
      · obtain ⟨i, _, rfl⟩ := List.mem_map.mp hy
        exact itr_lt h hx i
      · refine List.pairwise_map.mpr (List.Pairwise.imp_of_mem (fun {a b} ha hb hab e2 => ?_) (List.pairwise_lt_range (n := 7)))
        have := List.mem_range.mp hb
        exact hno ⟨b - a, by omega, by omega, itr_back h hx (by omega) e2⟩
    intro y hy
    obtain ⟨i, _, rfl⟩ := List.mem_map.mp (tn.all hy)
    rw [← itr_add, Nat.add_comm, itr_add, e]
/-- what comes of some turns -/
inductive GR (m : Nat) (ts : List (List Nat)) : List Nat → Prop
  | stay : GR m ts (stay m)
  | step {a g : List Nat} : GR m ts a → g ∈ ts → GR m ts (thn a g)
theorem GR.tn {m : Nat} {ts : List (List Nat)} (h : ∀ g ∈ ts, Tn m g) : ∀ {a : List Nat}, GR m ts a → Tn m a
  | _, .stay => stay_tn m
  | _, .step a g => thn_tn (GR.tn h a) (h _ g)
theorem GR.mul {m : Nat} {ts : List (List Nat)} (h : ∀ g ∈ ts, Tn m g) {a : List Nat} (ha : GR m ts a) : ∀ {b : List Nat}, GR m ts b → GR m ts (thn a b)
  | _, .stay => by rw [thn_stay (ha.tn h)]; exact ha
  | _, .step b g => by rw [← thn_assoc (ha.tn h) (b.tn h)]; exact .step (GR.mul h ha b) g
def gpw (m : Nat) (g : List Nat) (i : Nat) : List Nat := (List.range m).map (itr (tA g) i)
theorem gpw_thn {m : Nat} {g : List Nat} (i : Nat) : thn (gpw m g i) g = gpw m g (i + 1) := by
  unfold thn gpw
  rw [List.map_map]
  rfl
theorem gpw_wrap {m : Nat} {g : List Nat} {c : Nat} (hc : ∀ x, x < m → itr (tA g) c x = x) : gpw m g c = gpw m g 0 := List.map_congr_left fun x hx => hc x (List.mem_range.mp hx)
theorem GR.one {m c : Nat} {g : List Nat} (h0 : 0 < c) (hc : ∀ x, x < m → itr (tA g) c x = x) : ∀ {a : List Nat}, GR m [g] a → ∃ i, i < c ∧ a = gpw m g i
  | _, .stay => ⟨0, h0, (List.map_id _).symm⟩
  | _, .step a g' => by
    obtain ⟨i, hi, rfl⟩ := GR.one h0 hc a
    rw [List.mem_singleton.mp g', gpw_thn]
    rcases Nat.lt_or_ge (i + 1) c with z | z
    · exact ⟨i + 1, z, rfl⟩
    · exact ⟨0, h0, by rw [show i + 1 = c by omega, gpw_wrap hc]⟩
theorem GR.few {m : Nat} {ts fs : List (List Nat)} (h : ∀ g ∈ ts, Tn m g) (hm : m ≤ 7) (h1 : ts.length ≤ 1) (nd : fs.Nodup) (hf : ∀ a ∈ fs, GR m ts a) : fs.length ≤ 60 := by
  match ts, h1 with
  | [], _ =>
    have : fs.length ≤ [VL.stay m].length := List.Nodup.length_le_of_subset nd fun a ha => by
      cases hf a ha with
      | stay => exact List.mem_singleton.mpr rfl
      | step _ z => cases z
    exact Nat.le_trans this (show 1 ≤ 60 by decide)
  | [g], _ =>
    obtain ⟨c, h0, h60, hc⟩ : ∃ c, 0 < c ∧ c ≤ 60 ∧ ∀ x, x < m → itr (tA g) c x = x := by
      rcases ring60 (h g (List.mem_singleton.mpr rfl)) hm with z | z
      · exact ⟨60, by decide, by decide, z⟩
      · exact ⟨7, by decide, by decide, z⟩
    have : fs.length ≤ ((List.range c).map (gpw m g)).length := List.Nodup.length_le_of_subset nd fun a ha => by
      obtain ⟨i, hi, rfl⟩ := GR.one h0 hc (hf a ha)
      exact List.mem_map.mpr ⟨i, List.mem_range.mpr hi, rfl⟩
    rw [List.length_map, List.length_range] at this
    omega
  | _ :: _ :: _, z => simp at z
end VL
namespace VL
open PySem PySem.Spec PyProof.Rows L2 HM
/-- a group of turns, the stay first -/
structure IsGr (m : Nat) (gl : List (List Nat)) : Prop where
  few : gl.length ≤ 60
  nd : gl.Nodup
  tn : ∀ a ∈ gl, Tn m a
  mul : ∀ a ∈ gl, ∀ b ∈ gl, thn a b ∈ gl
  hd : gl[0]? = some (stay m)
def iN (l : List Nat) : List Int := l.map fun i : Nat => (i : Int)
def kN (l : List Nat) : List Key := l.map fun i : Nat => (Sum.inl (i : Int) : Key)
theorem tup_key (l : List Nat) : Dt.tup (nsD l) = tupD (kN l) := by
  unfold tupD kN nsD
  rw [List.map_map]
  rfl
theorem kN_ikey (l : List Nat) : ikey (iN l) = kN l := by
  unfold ikey iN kN
  rw [List.map_map]
  rfl
theorem kN_inj : ∀ {a b : List Nat}, kN a = kN b → a = b := fun {a b} h => by
  refine nsD_inj ?_
  have : Dt.tup (nsD a) = Dt.tup (nsD b) := by rw [tup_key, tup_key, h]
  injection this
theorem kN_mem {fs : List (List Nat)} {x : List Nat} : kN x ∈ fs.map kN ↔ x ∈ fs := by
  rw [List.mem_map]
  exact ⟨fun ⟨y, hy, e⟩ => kN_inj e ▸ hy, fun h => ⟨x, h, rfl⟩⟩
theorem tns_int (gl : List (List Nat)) : (gl.map iN).map (fun l => Dt.tup (l.map Dt.int)) = tnsD gl := by
  unfold tnsD
  rw [List.map_map]
  refine List.map_congr_left fun l _ => ?_
  show Dt.tup ((iN l).map Dt.int) = _
  rw [nsD_ints]
  rfl
theorem tnsD_len (l : List (List Nat)) : (tnsD l).length = l.length := List.length_map _
theorem tnsD_last {l : List (List Nat)} {x : List Nat} : (tnsD (l ++ [x]))[(tnsD (l ++ [x])).length - 1]? = some (.tup (nsD x)) := by
  rw [tnsD_len]
  unfold tnsD
  rw [List.getElem?_map, List.length_append, List.length_singleton, Nat.add_sub_cancel, List.getElem?_append_right (Nat.le_refl _)]
  simp
theorem tnsD_dropLast {l : List (List Nat)} {x : List Nat} : (tnsD (l ++ [x])).dropLast = tnsD l := by
  unfold tnsD
  rw [List.map_append, List.map_cons, List.map_nil, List.dropLast_concat]
theorem tnsD_app (l : List (List Nat)) (x : List Nat) : tnsD l ++ [.tup (nsD x)] = tnsD (l ++ [x]) := by unfold tnsD; rw [List.map_append]; rfl
theorem tnsD_nil {l : List (List Nat)} : Dt.lst (tnsD l) = .lst [] ↔ l = [] := by
  cases l with
  | nil => exact ⟨fun _ => rfl, fun _ => rfl⟩
  | cons a l => exact ⟨(fun h => nomatch h), (fun h => nomatch h)⟩
theorem pl_tns (l : List (List Nat)) : pl (.lst (tnsD l)) = true := pls_map (fun x => pl_nt x) l
theorem dep_tns (l : List (List Nat)) : dep (.lst (tnsD l)) ≤ 64 := Nat.le_trans (Nat.succ_le_succ (deps_map (f := fun x => Dt.tup (nsD x)) (k := 1) (fun x => Nat.succ_le_succ (deps_map (f := nD) (k := 0) (fun _ => Nat.le_refl 0) x)) l)) (by decide)
theorem thn_lc (a g : List Nat) : (List.range (nsD a).length).map (fun j => nD (tA g (tA a j))) = nsD (thn a g) := by
  rw [nsD_len]
  unfold nsD thn
  rw [List.map_map]
  refine List.ext_getElem? fun i => ?_
  rw [List.getElem?_map, List.getElem?_map]
  by_cases h : i < a.length
  · rw [List.getElem?_range h, tA_get h]
    rfl
  · rw [List.getElem?_eq_none (by rw [List.length_range]; omega), List.getElem?_eq_none (by omega)]
    rfl
/-- of all turns the stay comes first -/
theorem stay_least {B : Int} : ∀ {n i : Nat} {l : List Nat}, l.length = n → l.Nodup → (∀ x ∈ l, i ≤ x) → TS.Bd B (iN (List.range' i n)) → TS.Bd B (iN l) → l = List.range' i n ∨ TS.code B (iN (List.range' i n)) < TS.code B (iN l)
  | 0, _, l, hl, _, _, _, _ => .inl (by rw [List.length_eq_zero_iff.mp hl]; rfl)
  | n + 1, i, [], hl, _, _, _, _ => by simp at hl
  | n + 1, i, x :: r, hl, nd, hx, b1, b2 => by
    rw [List.nodup_cons] at nd
    have hl' : r.length = n := by simpa using hl
    have hx0 := hx x List.mem_cons_self
    rw [List.range'_succ] at b1 ⊢
    have ll : (iN (List.range' (i + 1) n)).length = (iN r).length := by unfold iN; rw [List.length_map, List.length_map, List.length_range', hl']
    rcases Nat.lt_or_ge i x with z | z
    · exact .inr (TS.code_lt ll (TS.Bd.tail b1) (TS.Bd.tail b2) (by show (i : Int) < (x : Int); omega))
    · have e : x = i := by omega
      subst e
      rcases stay_least (i := x + 1) hl' nd.2 (fun y hy => by
        have h1 := hx y (List.mem_cons_of_mem _ hy)
        have h2 : y ≠ x := fun z => nd.1 (z ▸ hy)
        omega) (TS.Bd.tail b1) (TS.Bd.tail b2) with h | h
      · exact .inl (by rw [h])
      · exact .inr ((TS.code_same ll).mpr h)
theorem bd_tn {m : Nat} {a : List Nat} (h : Tn m a) : TS.Bd (m : Int) (iN a) := fun x hx => by
  obtain ⟨y, hy, rfl⟩ := List.mem_map.mp hx
  have := h.lt hy
  exact ⟨by omega, by omega⟩
theorem stay_first {m : Nat} {gl : List (List Nat)} (h : ∀ a ∈ gl, Tn m a) (hs : stay m ∈ gl) (hp : (gl.map iN).Pairwise fun q r => TS.code (m : Int) q ≤ TS.code (m : Int) r) : gl[0]? = some (stay m) := by
  match gl, h, hs, hp with
  | a :: r, h, hs, hp =>
    rw [List.map_cons, List.pairwise_cons] at hp
    have ha := h a List.mem_cons_self
    have e : stay m = List.range' 0 m := List.range_eq_range'
    rcases List.mem_cons.mp hs with z | z
    · rw [z]; rfl
    · have h1 := hp.1 (iN (stay m)) (List.mem_map.mpr ⟨_, z, rfl⟩)
      rcases stay_least (B := (m : Int)) (n := m) (i := 0) ha.len ha.nd (fun x _ => Nat.zero_le x) (by rw [← e]; exact bd_tn (stay_tn m)) (bd_tn ha) with h2 | h2
      · rw [h2, ← e]; rfl
      · rw [← e] at h2
        omega
theorem cut1 (ts : List (List Nat)) : cutD (tnsD ts) none (some 1) = tnsD (ts.take 1) := by
  unfold cutD
  rw [show HT.sIx (tnsD ts).length 0 none = 0 from rfl]
  match ts with
  | [] => rfl
  | a :: r =>
    rw [show HT.sIx (tnsD (a :: r)).length (tnsD (a :: r)).length (some 1) = 1 by
      rw [tnsD_len, List.length_cons]
      unfold HT.sIx
      simp]
    rfl
/-- what is found, and what waits -/
structure GWt (m : Nat) (ts fs ws : List (List Nat)) : Prop where
  nd : fs.Nodup
  rc : ∀ x ∈ fs, GR m ts x
  ze : stay m ∈ fs
  sb : ∀ x ∈ ws, x ∈ fs
  wn : ws.Nodup
  cl : ∀ x ∈ fs, x ∉ ws → ∀ g ∈ ts, thn x g ∈ fs
theorem GWt.all {m : Nat} {ts fs : List (List Nat)} (h : GWt m ts fs []) : ∀ x, x ∈ fs ↔ GR m ts x := fun x => ⟨h.rc x, fun r => by
  induction r with
  | stay => exact h.ze
  | step _ hg ih => exact h.cl _ ih (by simp) _ hg⟩
theorem rg_stay (m : Nat) : rngD 0 m = nsD (stay m) := by
  unfold rngD nsD stay
  refine List.map_congr_left fun i _ => ?_
  rw [Int.zero_add]
  rfl
end VL
namespace VL
open PySem PySem.Spec PyProof.Rows L2 HM
section
variable {P : Program} {w : World} {K : PySem.W.Frag} {mg : Str → Option Value} {base : Heap} {am : Am} {gd : Around → Prop} {k : Nat}
theorem never {f : Addr} {fd : FuncData} {ps : List Str} : VFn gd P w K mg base CX0 k f fd ps am (fun _ _ _ _ => False) :=
  ⟨fun vs H Q E ⟨_, _, _, _, _, _, _, _, _, h, _⟩ => h.elim, fun A out s H args us vs Q E hgd hr e0 hb r ⟨_, _, _, _, _, _, _, _, _, h, _⟩ => h.elim⟩
end
end VL
namespace VL
open PySem PySem.Spec PyProof.Rows L2 HM
end VL
namespace VL
open PySem PySem.Spec PyProof.Rows L2 HM
end VL
namespace VL
open PySem PySem.Spec PyProof.Rows L2 HM
end VL
namespace VL
open PySem PySem.Spec PyProof.Rows L2 HM
structure Hse (n : Nat) (m : Nat → Nat → Nat) : Prop where
  pos : 0 < n
  lt : ∀ a b, a < n → b < n → m a b < n
  zl : ∀ a, a < n → m 0 a = a
  zr : ∀ a, a < n → m a 0 = a
  as : ∀ a b c, a < n → b < n → c < n → m (m a b) c = m a (m b c)
  cn : ∀ a b c, a < n → b < n → c < n → m a b = m a c → b = c
/-- each number has a contrary -/
theorem Hse.inv {n : Nat} {m : Nat → Nat → Nat} (h : Hse n m) {a : Nat} (ha : a < n) : ∃ b, b < n ∧ m a b = 0 := by
  have tn : Tn n ((List.range n).map (m a)) := by
    refine tn_of (by rw [List.length_map, List.length_range]) (fun x hx => ?_) ?_
    · obtain ⟨b, hb, rfl⟩ := List.mem_map.mp hx
      exact h.lt a b ha (List.mem_range.mp hb)
    · refine List.pairwise_map.mpr (List.Pairwise.imp_of_mem (fun {x y} hx hy hxy e => ?_) (List.pairwise_lt_range (n := n)))
      have := h.cn a x y ha (List.mem_range.mp hx) (List.mem_range.mp hy) e
      omega
  obtain ⟨b, hb, e⟩ := List.mem_map.mp (tn.all h.pos)
  exact ⟨b, List.mem_range.mp hb, e⟩
theorem Hse.rch {n : Nat} {m : Nat → Nat → Nat} (h : Hse n m) {gs : List Nat} (hg : ∀ g ∈ gs, g < n) {a b : Nat} (ha : Rch m gs a) (hb : Rch m gs b) : Rch m gs (m a b) := by
  induction hb with
  | zero => rw [h.zr a (ha.lt h.pos h.lt hg)]; exact ha
  | step r g ih => rw [← h.as a _ _ (ha.lt h.pos h.lt hg) (r.lt h.pos h.lt hg) (hg _ g)]; exact .step ih g
end VL
namespace VL
open PySem PySem.Spec PyProof.Rows L2 HM
end VL
namespace VL
open PySem PySem.Spec PyProof.Rows L2 HM
end VL
namespace VL
open PySem PySem.Spec PyProof.Rows L2 HM
end VL
namespace VL
open PySem PySem.Spec PyProof.Rows L2 HM
end VL
namespace VL
open PySem PySem.Spec PyProof.Rows L2 HM
end VL
namespace VL
open PySem PySem.Spec PyProof.Rows L2 HM
end VL
namespace VL
open PySem PySem.Spec PyProof.Rows L2 HM
theorem scr_out {K : PySem.W.Frag} {H : Hp} {a : Addr} {ns : List Int} (h : Scr K H a ns) (n : ¬ ∃ ob, H a = some (.frz ob (.lst (ns.map V.int)))) (H' : Hp) : Scr K H' a ns := by
  rcases h with h | h
  · exact absurd h n
  · exact .inr h
end VL
namespace VL
open PySem PySem.Spec PyProof.Rows L2 HM
structure Sub (n : Nat) (m : Nat → Nat → Nat) (l : List Nat) : Prop where
  up : l.Pairwise (· < ·)
  lt : ∀ x ∈ l, x < n
  ze : 0 ∈ l
  mul : ∀ x ∈ l, ∀ y ∈ l, m x y ∈ l
theorem IsPt.sub {n : Nat} {m : Nat → Nat → Nat} {gs l : List Nat} (h : Hse n m) (hg : ∀ g ∈ gs, g < n) (hl : IsPt m gs l) : Sub n m l :=
  ⟨hl.up, fun x hx => ((hl.mem x).mp hx).lt h.pos h.lt hg, (hl.mem 0).mpr .zero, fun x hx y hy => (hl.mem _).mpr (h.rch hg ((hl.mem x).mp hx) ((hl.mem y).mp hy))⟩
theorem len_le_of_sub {k l : List Nat} (nd : k.Nodup) (sub : ∀ x ∈ k, x ∈ l) : k.length ≤ l.length := by
  have := few_of_nodup (n := l.length) (l := k.map fun x => l.idxOf x) (by
    refine List.pairwise_map.mpr (List.Pairwise.imp_of_mem (fun {x y} hx hy hxy e => hxy ?_) nd)
    have h1 : l.idxOf x < l.length := List.idxOf_lt_length_of_mem (sub x hx)
    have h2 : l.idxOf y < l.length := List.idxOf_lt_length_of_mem (sub y hy)
    have e1 : l[l.idxOf x] = x := List.getElem_idxOf h1
    have e2 : l[l.idxOf y] = y := List.getElem_idxOf h2
    rw [← e1, ← e2]
    congr 1) fun x hx => by
    obtain ⟨y, hy, rfl⟩ := List.mem_map.mp hx
    exact List.idxOf_lt_length_of_mem (sub y hy)
  rwa [List.length_map] at this
theorem full_of_nodup {k l : List Nat} (nd : k.Nodup) (sub : ∀ x ∈ k, x ∈ l) (len : l.length ≤ k.length) : ∀ x ∈ l, x ∈ k := fun x hx => by
  rcases Classical.em (x ∈ k) with z | z
  · exact z
  · have := len_le_of_sub (k := x :: k) (l := l) (List.nodup_cons.mpr ⟨z, nd⟩) fun y hy => by
      rcases List.mem_cons.mp hy with rfl | hy
      · exact hx
      · exact sub y hy
    rw [List.length_cons] at this
    omega
section
variable {n : Nat} {m : Nat → Nat → Nat} {P O : List Nat}
theorem Hse.inv2 (h : Hse n m) {a : Nat} (ha : a < n) : ∃ b, b < n ∧ m a b = 0 ∧ m b a = 0 := by
  obtain ⟨b, hb, e⟩ := h.inv ha
  obtain ⟨c, hc, e2⟩ := h.inv hb
  have : a = c := by
    have := h.as a b c ha hb hc
    rw [e, e2, h.zl c hc, h.zr a ha] at this
    exact this.symm
  exact ⟨b, hb, e, by rw [this]; exact e2⟩
theorem Hse.rc (h : Hse n m) {a b c : Nat} (ha : a < n) (hb : b < n) (hc : c < n) (e : m a c = m b c) : a = b := by
  obtain ⟨d, hd, e1, _⟩ := h.inv2 hc
  have h1 := h.as a c d ha hc hd
  have h2 := h.as b c d hb hc hd
  rw [e1, h.zr _ ha] at h1
  rw [e1, h.zr _ hb] at h2
  rw [← h1, ← h2, e]
theorem Sub.nd (s : Sub n m P) : P.Nodup := s.up.imp fun h => Nat.ne_of_lt h
theorem Sub.inv (h : Hse n m) (s : Sub n m P) {x : Nat} (hx : x ∈ P) : ∃ y ∈ P, m x y = 0 ∧ m y x = 0 := by
  have nd : (P.map (m x)).Nodup := List.pairwise_map.mpr (List.Pairwise.imp_of_mem (fun {a b} ha hb hab e => hab (h.cn x a b (s.lt x hx) (s.lt a ha) (s.lt b hb) e)) s.nd)
  have := full_of_nodup nd (fun z hz => by
    obtain ⟨y, hy, rfl⟩ := List.mem_map.mp hz
    exact s.mul x hx y hy) (by rw [List.length_map]; exact Nat.le_refl _) 0 s.ze
  obtain ⟨y, hy, e⟩ := List.mem_map.mp this
  obtain ⟨b, hb, e1, e2⟩ := h.inv2 (s.lt x hx)
  have : y = b := h.cn x y b (s.lt x hx) (s.lt y hy) hb (by rw [e, e1])
  exact ⟨y, hy, e, by rw [this]; exact e2⟩
def cls (m : Nat → Nat → Nat) (P : List Nat) (g h : Nat) : Prop := ∃ x ∈ P, m x g = h
theorem Sub.refl (h : Hse n m) (s : Sub n m P) {g : Nat} (hg : g < n) : cls m P g g := ⟨0, s.ze, h.zl g hg⟩
theorem Sub.lt2 (h : Hse n m) (s : Sub n m P) {g k : Nat} (hg : g < n) (c : cls m P g k) : k < n := by
  obtain ⟨x, hx, rfl⟩ := c
  exact h.lt x g (s.lt x hx) hg
theorem Sub.symm (h : Hse n m) (s : Sub n m P) {g k : Nat} (hg : g < n) (c : cls m P g k) : cls m P k g := by
  obtain ⟨x, hx, rfl⟩ := c
  obtain ⟨y, hy, _, e⟩ := s.inv h hx
  exact ⟨y, hy, by rw [← h.as y x g (s.lt y hy) (s.lt x hx) hg, e, h.zl g hg]⟩
theorem Sub.trans (h : Hse n m) (s : Sub n m P) {g k l : Nat} (hg : g < n) (c : cls m P g k) (d : cls m P k l) : cls m P g l := by
  obtain ⟨x, hx, rfl⟩ := c
  obtain ⟨y, hy, rfl⟩ := d
  exact ⟨m y x, s.mul y hy x hx, h.as y x g (s.lt y hy) (s.lt x hx) hg⟩
def rp (m : Nat → Nat → Nat) (P : List Nat) (g : Nat) : Nat := P.foldr (fun x r => min (m x g) r) g
theorem rp_le (g : Nat) : ∀ P : List Nat, rp m P g ≤ g ∧ ∀ x ∈ P, rp m P g ≤ m x g
  | [] => ⟨Nat.le_refl _, fun x hx => by cases hx⟩
  | y :: P => by
    obtain ⟨h1, h2⟩ := rp_le g P
    have e : rp m (y :: P) g = min (m y g) (rp m P g) := rfl
    rw [e]
    refine ⟨by omega, fun x hx => ?_⟩
    rcases List.mem_cons.mp hx with rfl | hx
    · omega
    · have := h2 x hx
      omega
theorem rp_is (g : Nat) : ∀ P : List Nat, rp m P g = g ∨ ∃ x ∈ P, m x g = rp m P g
  | [] => .inl rfl
  | y :: P => by
    have e : rp m (y :: P) g = min (m y g) (rp m P g) := rfl
    rcases Nat.le_total (m y g) (rp m P g) with hle | hle
    · exact .inr ⟨y, List.mem_cons_self, by rw [e]; omega⟩
    · rw [e, Nat.min_eq_right hle]
      rcases rp_is g P with h | ⟨x, hx, h⟩
      · exact .inl h
      · exact .inr ⟨x, List.mem_cons_of_mem _ hx, h⟩
theorem Sub.rp_cls (h : Hse n m) (s : Sub n m P) {g : Nat} (hg : g < n) : cls m P g (rp m P g) := by
  rcases rp_is (m := m) g P with e | ⟨x, hx, e⟩
  · rw [e]; exact s.refl h hg
  · exact ⟨x, hx, e⟩
theorem rp_min {g k : Nat} (c : cls m P g k) : rp m P g ≤ k := by
  obtain ⟨x, hx, rfl⟩ := c
  exact (rp_le g P).2 x hx
theorem Sub.rp_eq (h : Hse n m) (s : Sub n m P) {g k : Nat} (hg : g < n) (c : cls m P g k) : rp m P g = rp m P k := by
  have hk := s.lt2 h hg c
  have h1 := rp_min (s.trans h hg c (s.rp_cls h hk))
  have h2 := rp_min (s.trans h hk (s.symm h hg c) (s.rp_cls h hg))
  omega
theorem Sub.cls_of_rp (h : Hse n m) (s : Sub n m P) {g k : Nat} (hg : g < n) (hk : k < n) (e : rp m P g = rp m P k) : cls m P g k := by
  have h1 := s.rp_cls h hg
  rw [e] at h1
  exact s.trans h hg h1 (s.symm h hk (s.rp_cls h hk))
theorem Sub.rp_lt (h : Hse n m) (s : Sub n m P) {g : Nat} (hg : g < n) : rp m P g < n := Nat.lt_of_le_of_lt (rp_le g P).1 hg
theorem Sub.rp_rp (h : Hse n m) (s : Sub n m P) {g : Nat} (hg : g < n) : rp m P (rp m P g) = rp m P g := (s.rp_eq h hg (s.rp_cls h hg)).symm
def isL (m : Nat → Nat → Nat) (P : List Nat) (g : Nat) : Bool := decide (rp m P g = g)
def lst (m : Nat → Nat → Nat) (P : List Nat) (j : Nat) : List Nat := (List.range j).filter (isL m P)
def phi (m : Nat → Nat → Nat) (P O : List Nat) (g : Nat) : Bool := O.all fun k => decide (rp m P (m g k) = rp m P g)
def mkN (n : Nat) (m : Nat → Nat → Nat) (P O : List Nat) : Nat := ((lst m P n).filter (phi m P O)).length
def PhiN (n : Nat) (m : Nat → Nat → Nat) (P O : List Nat) : Nat := ((List.range n).filter (phi m P O)).length
theorem phi_iff (h : Hse n m) (s : Sub n m P) (ho : ∀ k ∈ O, k < n) {g : Nat} (hg : g < n) : phi m P O g = true ↔ ∀ k ∈ O, cls m P g (m g k) := by
  unfold phi
  rw [List.all_eq_true]
  exact ⟨fun q k hk => s.cls_of_rp h hg (h.lt g k hg (ho k hk)) (of_decide_eq_true (q k hk)).symm, fun q k hk => decide_eq_true (s.rp_eq h hg (q k hk)).symm⟩
theorem phi_cls (h : Hse n m) (s : Sub n m P) (ho : ∀ k ∈ O, k < n) {g k : Nat} (hg : g < n) (c : cls m P g k) : phi m P O g = phi m P O k := by
  have hk := s.lt2 h hg c
  have one : ∀ {g k : Nat}, g < n → cls m P g k → phi m P O g = true → phi m P O k = true := fun {g k} hg c e => by
    have hk := s.lt2 h hg c
    rw [phi_iff h s ho hg] at e
    rw [phi_iff h s ho hk]
    intro q hq
    have hqn := ho q hq
    obtain ⟨x, hx, rfl⟩ := id c
    refine s.trans h hk (s.symm h hg c) (s.trans h hg (e q hq) ⟨x, hx, (h.as x g q (s.lt x hx) hg hqn).symm⟩)
  cases e : phi m P O g with
  | true => exact (one hg c e).symm
  | false =>
    cases e2 : phi m P O k with
    | true => rw [one hk (s.symm h hg c) e2] at e; cases e
    | false => rfl
theorem len_flat {f : Nat → List Nat} {c : Nat} : ∀ {l : List Nat}, (∀ g ∈ l, (f g).length = c) → (l.flatMap f).length = l.length * c
  | [], _ => by simp
  | g :: l, h => by
    rw [List.flatMap_cons, List.length_append, len_flat fun x hx => h x (List.mem_cons_of_mem _ hx), h g List.mem_cons_self, List.length_cons, Nat.succ_mul]
    omega
theorem lst_mem {j g : Nat} : g ∈ lst m P j ↔ g < j ∧ rp m P g = g := by
  unfold lst isL
  rw [List.mem_filter, List.mem_range, decide_eq_true_iff]
theorem mk_mul (h : Hse n m) (s : Sub n m P) (ho : ∀ k ∈ O, k < n) : mkN n m P O * P.length = PhiN n m P O := by
  have pm : (((lst m P n).filter (phi m P O)).flatMap fun g => P.map fun x => m x g).Perm ((List.range n).filter (phi m P O)) := by
    refine (List.perm_ext_iff_of_nodup ?_ (List.nodup_range.filter _)).mpr fun k => ?_
    · refine List.pairwise_flatMap.mpr ⟨fun g hg => ?_, ?_⟩
      · obtain ⟨hg1, _⟩ := lst_mem.mp (List.mem_filter.mp hg).1
        exact List.pairwise_map.mpr (List.Pairwise.imp_of_mem (fun {a b} ha hb hab e => hab (h.rc (s.lt a ha) (s.lt b hb) hg1 e)) s.nd)
      · refine List.Pairwise.imp_of_mem (fun {a b} ha hb hab x hx y hy e => hab ?_) (List.Pairwise.filter (phi m P O) (List.Pairwise.filter (isL m P) (show List.Pairwise (· ≠ ·) (List.range n) from List.nodup_range)))
        obtain ⟨a1, a2⟩ := lst_mem.mp (List.mem_filter.mp ha).1
        obtain ⟨b1, b2⟩ := lst_mem.mp (List.mem_filter.mp hb).1
        obtain ⟨p, hp, rfl⟩ := List.mem_map.mp hx
        obtain ⟨q, hq, rfl⟩ := List.mem_map.mp hy
        have c1 := s.rp_eq h a1 ⟨p, hp, rfl⟩
        have c2 := s.rp_eq h b1 ⟨q, hq, rfl⟩
        rw [← a2, ← b2, c1, c2, e]
    · rw [List.mem_flatMap, List.mem_filter, List.mem_range]
      constructor
      · rintro ⟨g, hg, hk⟩
        obtain ⟨g1, g2⟩ := List.mem_filter.mp hg
        obtain ⟨g3, _⟩ := lst_mem.mp g1
        obtain ⟨x, hx, rfl⟩ := List.mem_map.mp hk
        exact ⟨h.lt x g (s.lt x hx) g3, by rw [← phi_cls h s ho g3 ⟨x, hx, rfl⟩]; exact g2⟩
      · rintro ⟨hk, e⟩
        have c := s.rp_cls h hk
        refine ⟨rp m P k, List.mem_filter.mpr ⟨lst_mem.mpr ⟨s.rp_lt h hk, s.rp_rp h hk⟩, by rw [← phi_cls h s ho hk c]; exact e⟩, ?_⟩
        obtain ⟨x, hx, e⟩ := s.symm h hk c
        exact List.mem_map.mpr ⟨x, hx, e⟩
  have := pm.length_eq
  rw [len_flat (c := P.length) fun g _ => by rw [List.length_map]] at this
  exact this
/-- l is P led by g -/
structure Led (n : Nat) (m : Nat → Nat → Nat) (P : List Nat) (g : Nat) (l : List Nat) : Prop where
  up : l.Pairwise (· < ·)
  ex : ∃ b, b < n ∧ m g b = 0 ∧ m b g = 0 ∧ ∀ y, y ∈ l ↔ ∃ x ∈ P, m (m b x) g = y
theorem Led.sub (h : Hse n m) (s : Sub n m P) {g : Nat} (hg : g < n) {l : List Nat} (L : Led n m P g l) : Sub n m l := by
  obtain ⟨b, hb, e1, e2, mem⟩ := L.ex
  refine ⟨L.up, fun y hy => ?_, ?_, fun y hy z hz => ?_⟩
  · obtain ⟨x, hx, rfl⟩ := (mem y).mp hy
    exact h.lt _ _ (h.lt b x hb (s.lt x hx)) hg
  · exact (mem 0).mpr ⟨0, s.ze, by rw [h.zr b hb]; exact e2⟩
  · obtain ⟨x, hx, rfl⟩ := (mem y).mp hy
    obtain ⟨x2, hx2, rfl⟩ := (mem z).mp hz
    have hx' := s.lt x hx
    have hx2' := s.lt x2 hx2
    refine (mem _).mpr ⟨m x x2, s.mul x hx x2 hx2, ?_⟩
    have hbx := h.lt b x hb hx'
    have hbx2 := h.lt b x2 hb hx2'
    rw [h.as (m b x) g (m (m b x2) g) hbx hg (h.lt _ _ hbx2 hg), ← h.as g (m b x2) g hg hbx2 hg, ← h.as g b x2 hg hb hx2', e1, h.zl x2 hx2', ← h.as b x x2 hb hx' hx2', h.as (m b x) x2 g hbx hx2' hg]
theorem Led.len (h : Hse n m) (s : Sub n m P) {g : Nat} (hg : g < n) {l : List Nat} (L : Led n m P g l) : l.length = P.length := by
  obtain ⟨b, hb, e1, e2, mem⟩ := L.ex
  have nd : (P.map fun x => m (m b x) g).Nodup := List.pairwise_map.mpr (List.Pairwise.imp_of_mem (fun {x y} hx hy hxy e => hxy (h.cn b x y hb (s.lt x hx) (s.lt y hy) (h.rc (h.lt b x hb (s.lt x hx)) (h.lt b y hb (s.lt y hy)) hg e))) s.nd)
  have pm : l.Perm (P.map fun x => m (m b x) g) := (List.perm_ext_iff_of_nodup (L.up.imp fun z => Nat.ne_of_lt z) nd).mpr fun y => by
    rw [mem y, List.mem_map]
  rw [pm.length_eq, List.length_map]
end
end VL
namespace VL
open PySem PySem.Spec PyProof.Rows L2 HM
def tabAm (am : Am) (Ps : List Addr) : Am where
  sp b := am.sp b ∨ b ∈ Ps
  ok n H := am.ok n H ∧ ∀ P ∈ Ps, GxR.TabG H P
  trk := fun {n H b} ⟨h1, h2⟩ hb z => by
    rcases hb with hb | hb
    · exact am.trk h1 hb z
    · obtain ⟨ps, e, _⟩ := h2 b hb
      rw [e] at z; cases z
  ntp := fun {n H b xs} ⟨h1, h2⟩ hb z => by
    rcases hb with hb | hb
    · exact am.ntp h1 hb z
    · obtain ⟨ps, e, _⟩ := h2 b hb
      rw [e] at z; cases z
  mono := fun {n H H'} ⟨h1, h2⟩ e c => ⟨am.mono h1 (fun b hb => e b (.inl hb)) c, fun P hP => by
    obtain ⟨ps, h3, h4⟩ := h2 P hP
    exact ⟨ps, by rw [e P (.inr hP)]; exact h3, h4⟩⟩
theorem tab_in {am : Am} {P : Addr} {Ps : List Addr} (no : ∀ {n H b}, am.ok n H → am.sp b → ∀ ps, H b ≠ some (.tbl ps)) (hP : P ∈ Ps) : TabIn (tabAm am Ps) P where
  sp := .inr hP
  rd := fun {n H} h => h.2 P hP
  wr := fun {n H H'} h t => ⟨am.mono h.1 (fun b hb => t.2 b fun z => by
    obtain ⟨ps, e, _⟩ := h.2 P hP
    exact no h.1 hb ps (by rw [z]; exact e)) (fun b oc x e2 => t.2 b fun z => by
    obtain ⟨ps, e, _⟩ := h.2 P hP
    rw [z, e] at e2
    cases e2), fun P' hP' => by
    by_cases z : P' = P
    · rw [z]; exact t.1
    · obtain ⟨ps, e1, e2⟩ := h.2 P' hP'
      exact ⟨ps, by rw [t.2 P' z]; exact e1, e2⟩⟩
def spLawT (K : PySem.W.Frag) (Ps : List Addr) : Sp := fun vs H Q _ => ∃ (a : Addr) (ns : List Int), vs = [.ref a] ∧ Scr K H a ns ∧ ns.length ≤ 63 ∧ (∀ P ∈ Ps, GxR.TabG H P) ∧ ∀ H', Q (.bl true) H'
end VL
namespace VL
open PySem PySem.Spec PyProof.Rows L2 HM
def pl3 (a : Addr) (t l : Int) : List V := [.ref a, .int t, .int l]
structure PenL (K : PySem.W.Frag) (am : Am) (p : Addr) : Prop where
  sp : am.sp p
  rd : ∀ {n H}, am.ok n H → ∃ a ns t l, H p = some (.lst (pl3 a t l)) ∧ Scr K H a ns ∧ ns.length ≤ 63 ∧ 0 ≤ t ∧ 0 ≤ l
  wr : ∀ {n H a t l}, am.ok n H → H p = some (.lst (pl3 a t l)) → ∀ (t' l' : Int), 0 ≤ t' → 0 ≤ l' → am.ok n (upd H p (.lst (pl3 a t' l')))
theorem PenL.out {K : PySem.W.Frag} {am : Am} {p a : Addr} (h : PenL K am p) {F H : Hp} {n : Nat} {t l : Int} (u : Up F H) (hs : ∀ a, am.sp a → F a = none) (ha : am.ok n H) (hp : H p = some (.lst (pl3 a t l))) {t' l' : Int} (h1 : 0 ≤ t') (h2 : 0 ≤ l') :
    Out am F H F (upd H p (.lst (pl3 a t' l'))) n :=
  ⟨Up.refl F, fun b o e => by rw [upd_ne (fun (z : b = p) => by rw [z, hs p h.sp] at e; cases e)]; exact u b o e, hs, fun _ _ _ _ e => e, fun b o e nb => by rw [upd_ne (fun (z : b = p) => nb (by rw [z]; exact h.sp))]; exact e, h.wr ha hp t' l' h1 h2⟩
def spPenL : Sp := fun vs H Q _ => ∃ a : Addr, vs = [.ref a] ∧ ∀ p, H p = none → Q (.ref p) (upd H p (.lst (pl3 a 0 0)))
def penLAm (K : PySem.W.Frag) (p a : Addr) (ns : List Int) (q : Prop) : Am where
  sp b := b = p ∨ (q ∧ b = a)
  ok _ H := (∃ t l, H p = some (.lst (pl3 a t l)) ∧ 0 ≤ t ∧ 0 ≤ l) ∧ (q → ∃ ob, H a = some (.frz ob (.lst (ns.map V.int)))) ∧ (¬ q → ∀ H', Scr K H' a ns)
  trk := fun {n H b} ⟨⟨t, l, h, _⟩, h2, _⟩ hb z => by
    rcases hb with rfl | ⟨hq, rfl⟩
    · rw [h] at z; cases z
    · obtain ⟨ob, h3⟩ := h2 hq
      rw [h3] at z; cases z
  ntp := fun {n H b xs} ⟨⟨t, l, h, _⟩, h2, _⟩ hb z => by
    rcases hb with rfl | ⟨hq, rfl⟩
    · rw [h] at z; cases z
    · obtain ⟨ob, h3⟩ := h2 hq
      rw [h3] at z; cases z
  mono := fun {n H H'} ⟨⟨t, l, h, h0⟩, h2, h3⟩ e _ => ⟨⟨t, l, by rw [e p (.inl rfl)]; exact h, h0⟩, fun hq => by
    obtain ⟨ob, h4⟩ := h2 hq
    exact ⟨ob, by rw [e a (.inr ⟨hq, rfl⟩)]; exact h4⟩, h3⟩
theorem penL_in {K : PySem.W.Frag} {p a : Addr} {ns : List Int} {q : Prop} (hl : ns.length ≤ 63) : PenL K (penLAm K p a ns q) p where
  sp := .inl rfl
  rd := fun {n H} ⟨⟨t, l, h, h1, h2⟩, h3, h4⟩ => ⟨a, ns, t, l, h, by
    by_cases hq : q
    · obtain ⟨ob, h5⟩ := h3 hq
      exact .inl ⟨ob, h5⟩
    · exact h4 hq H, hl, h1, h2⟩
  wr := fun {n H a' t l} ⟨⟨t1, l1, h, _⟩, h3, h4⟩ hp t' l' h1 h2 => by
    rw [h] at hp
    have ea : a = a' := by
      have : pl3 a t1 l1 = pl3 a' t l := by injection (Option.some.inj hp)
      injection this with e1
      injection e1
    refine ⟨⟨t', l', by rw [upd_same, ea], h1, h2⟩, fun hq => ?_, h4⟩
    obtain ⟨ob, h5⟩ := h3 hq
    refine ⟨ob, ?_⟩
    rw [upd_ne fun z => by rw [z, h] at h5; cases h5]
    exact h5
theorem tab_penL {K : PySem.W.Frag} {am : Am} {p : Addr} {Ps : List Addr} (h : PenL K am p) : PenL K (tabAm am Ps) p where
  sp := .inl h.sp
  rd := fun {n H} h1 => h.rd h1.1
  wr := fun {n H a t l} h1 e t' l' h2 h3 => ⟨h.wr h1.1 e t' l' h2 h3, fun P hP => by
    obtain ⟨ps, e1, e2⟩ := h1.2 P hP
    exact ⟨ps, by rw [upd_ne fun z => by rw [z, e] at e1; cases e1]; exact e1, e2⟩⟩
theorem penL_notab {K : PySem.W.Frag} {p a : Addr} {ns : List Int} {q : Prop} {n : Nat} {H : Hp} {b : Addr} (h : (penLAm K p a ns q).ok n H) (hb : (penLAm K p a ns q).sp b) (ps : Array Value) : H b ≠ some (.tbl ps) := fun z => by
  obtain ⟨⟨t, l, h1, _⟩, h2, _⟩ := h
  rcases hb with rfl | ⟨hq, rfl⟩
  · rw [h1] at z; cases z
  · obtain ⟨ob, h3⟩ := h2 hq
    rw [h3] at z; cases z
theorem pss_penLT {X : Cx} {b : List Stmt} {K : PySem.W.Frag} {Ps : List Addr} {ts : Addr → VTS} (h : ∀ (am : Am) (p : Addr), PenL K am p → (∀ P ∈ Ps, TabIn am P) → ∀ F0 H0, PSs X b (sOf ⟨am, F0, H0⟩ (ts p))) : PSs X b (fun D σ H => ∃ am p, PenL K am p ∧ (∀ P ∈ Ps, TabIn am P) ∧ ∃ F0 H0, sOf ⟨am, F0, H0⟩ (ts p) D σ H) :=
  ⟨fun pins s σ H D I ⟨am, p, PI, TI, F0, H0, q⟩ => (h am p PI TI F0 H0).run pins s σ H D I q⟩
/-- the start of a law with tables -/
theorem penL_startT {K : PySem.W.Frag} {H : Hp} {a p : Addr} {ns : List Int} {D : Ends} {ts : Addr → VTS} {σ : L2.St} {rest : List (Option V)} {Ps : List Addr} (eσ : σ = some (.ref a) :: some (.ref p) :: rest) (hS : Scr K H a ns) (hl : ns.length ≤ 63) (hT : ∀ P ∈ Ps, GxR.TabG H P) (np : H p = none) (hD : ∀ H', D.rt (.bl true) H')
    (q : ts p { nx := fun _ _ => False, rt := fun d _ => d = .bl true } (.no :: .fz (.obj p) :: rest.map fun _ => .no) 0) :
    ∃ am p', PenL K am p' ∧ (∀ P ∈ Ps, TabIn am P) ∧ ∃ F0 H0, sOf ⟨am, F0, H0⟩ (ts p') D σ (upd H p (.lst (pl3 a 0 0))) := by
  subst eσ
  refine ⟨tabAm (penLAm K p a ns (∃ ob, H a = some (.frz ob (.lst (ns.map V.int))))) Ps, p, tab_penL (penL_in hl), fun P hP => tab_in penL_notab hP, fun _ => none, upd H p (.lst (pl3 a 0 0)), fun _ => none, _, 0, _, ?_, q, ⟨fun _ _ _ _ _ _ _ z => z.elim, fun F' H' σ' env' n' v d _ _ rv e => ?_, fun _ _ _ _ _ _ _ z => z.elim, fun _ _ _ _ _ _ _ z => z.elim⟩⟩
  · refine ⟨fun _ _ e => (by cases e), fun _ _ => rfl, ⟨⟨⟨0, 0, upd_same, by decide, by decide⟩, fun ⟨ob, h⟩ => ⟨ob, by rw [upd_ne (ne_of_none h np)]; exact h⟩, fun n H' => scr_out hS n H'⟩, fun P hP => ?_⟩, fun _ _ e => e, fun _ _ _ _ e => e, fun _ _ e _ => e, by simp, fun i s e => ?_, fun i j b k k' _ e1 _ _ => ?_⟩
    · obtain ⟨ps, e1, e2⟩ := hT P hP
      exact ⟨ps, by rw [upd_ne (ne_of_none e1 np)]; exact e1, e2⟩
    · match i, e with
      | 0, e => cases e; trivial
      | 1, e => cases e; exact ⟨_, rfl, .obj p⟩
      | i + 2, e =>
        have e' : (rest.map fun _ => Sl.no)[i]? = some s := e
        rw [List.getElem?_map] at e'
        obtain ⟨_, _, rfl⟩ := Option.map_eq_some_iff.mp e'
        trivial
    · match i, e1 with
      | 0, e => cases e
      | 1, e => cases e
      | i + 2, e =>
        have e' : (rest.map fun _ => Sl.no)[i]? = some (.ow k) := e
        rw [List.getElem?_map] at e'
        obtain ⟨_, _, z⟩ := Option.map_eq_some_iff.mp e'
        cases z
  · have e' : d = .bl true := e
    rw [e'] at rv
    rw [rv.bl_inv]
    exact hD _
end VL
namespace HM
open PySem PySem.Spec PyProof.Rows L2
end HM
namespace VL
open PySem PySem.Spec PyProof.Rows L2 HM
def enD (xs : List Dt) : List Dt := zipD (rngD 0 xs.length) xs
theorem enD_get {xs : List Dt} {i : Nat} {z : Dt} (h : (enD xs)[i]? = some z) : ∃ x, xs[i]? = some x ∧ z = .tup [.int (i : Int), x] := by
  obtain ⟨a, b, ea, eb, rfl⟩ := zipD_get h
  rw [(rngD_get0 ea).1]
  exact ⟨b, eb, rfl⟩
theorem enD_len (xs : List Dt) : (enD xs).length = xs.length := by unfold enD; rw [zipD_len, rngD_len, Nat.min_self]
end VL
namespace VL
open PySem PySem.Spec PyProof.Rows L2 HM
section
variable {n : Nat} {m : Nat → Nat → Nat} {P : List Nat}
theorem Led.iff (h : Hse n m) (s : Sub n m P) {g : Nat} (hg : g < n) {l : List Nat} (L : Led n m P g l) (y : Nat) : y ∈ l ↔ y < n ∧ cls m P g (m g y) := by
  obtain ⟨b, hb, e1, e2, mem⟩ := L.ex
  rw [mem y]
  constructor
  · rintro ⟨x, hx, rfl⟩
    have hx' := s.lt x hx
    have hbx := h.lt b x hb hx'
    refine ⟨h.lt _ _ hbx hg, x, hx, ?_⟩
    rw [← h.as g (m b x) g hg hbx hg, ← h.as g b x hg hb hx', e1, h.zl x hx']
  · rintro ⟨hy, x, hx, e⟩
    have hx' := s.lt x hx
    refine ⟨x, hx, ?_⟩
    rw [h.as b x g hb hx' hg, e, ← h.as b g y hb hg hy, e2, h.zl y hy]
theorem Led.cls_eq (h : Hse n m) (s : Sub n m P) {g k : Nat} (hg : g < n) (c : cls m P g k) {l l' : List Nat} (L : Led n m P g l) (L' : Led n m P k l') : l = l' := by
  have hk := s.lt2 h hg c
  refine rising_eq L.up L'.up fun y => ?_
  rw [L.iff h s hg y, L'.iff h s hk y]
  refine and_congr_right fun hy => ?_
  have hgy := h.lt g y hg hy
  have c2 : cls m P (m g y) (m k y) := by
    obtain ⟨z, hz, rfl⟩ := id c
    exact ⟨z, hz, (h.as z g y (s.lt z hz) hg hy).symm⟩
  exact ⟨fun d => s.trans h hk (s.symm h hg c) (s.trans h hg d c2), fun d => s.trans h hg c (s.trans h hk d (s.symm h hgy c2))⟩
theorem Led.uniq (h : Hse n m) (s : Sub n m P) {g : Nat} (hg : g < n) {l l' : List Nat} (L : Led n m P g l) (L' : Led n m P g l') : l = l' := L.cls_eq h s hg (s.refl h hg) L'
theorem led_ex (h : Hse n m) (s : Sub n m P) {g : Nat} (hg : g < n) : ∃ l, Led n m P g l := by
  obtain ⟨b, hb, e1, e2⟩ := h.inv2 hg
  refine ⟨(List.range n).filter fun y => decide (y ∈ P.map fun x => m (m b x) g), List.Pairwise.filter _ List.pairwise_lt_range, b, hb, e1, e2, fun y => ?_⟩
  rw [List.mem_filter, List.mem_range, decide_eq_true_iff, List.mem_map]
  exact ⟨fun z => z.2, fun ⟨x, hx, e⟩ => ⟨by rw [← e]; exact h.lt _ _ (h.lt b x hb (s.lt x hx)) hg, x, hx, e⟩⟩
theorem lst_mul (h : Hse n m) (s : Sub n m P) : (lst m P n).length * P.length = n := by
  have := mk_mul (O := []) h s (fun _ z => by cases z)
  unfold mkN PhiN at this
  rw [List.filter_eq_self.mpr (show ∀ g ∈ lst m P n, phi m P [] g = true from fun g _ => rfl), List.filter_eq_self.mpr (show ∀ g ∈ List.range n, phi m P [] g = true from fun g _ => rfl), List.length_range] at this
  exact this
end
end VL
namespace VL
open PySem PySem.Spec PyProof.Rows L2 HM
end VL
namespace VL
open PySem PySem.Spec PyProof.Rows L2 HM
theorem Sub.zero {n : Nat} {m : Nat → Nat → Nat} {P : List Nat} (s : Sub n m P) : P[0]? = some 0 := by
  cases P with
  | nil => cases s.ze
  | cons a l =>
    have : a = 0 := by
      rcases List.mem_cons.mp s.ze with z | z
      · exact z.symm
      · have := (List.pairwise_cons.mp s.up).1 0 z
        omega
    rw [this]
    rfl
end VL
namespace VL
open PySem PySem.Spec PyProof.Rows L2 HM
section
variable {n : Nat} {m : Nat → Nat → Nat} {P : List Nat}
theorem led_zero (h : Hse n m) (s : Sub n m P) : Led n m P 0 P := ⟨s.up, 0, h.pos, h.zl 0 h.pos, h.zl 0 h.pos, fun y => by
  constructor
  · intro hy
    exact ⟨y, hy, by rw [h.zl y (s.lt y hy), h.zr y (s.lt y hy)]⟩
  · rintro ⟨x, hx, e⟩
    rw [h.zl x (s.lt x hx), h.zr x (s.lt x hx)] at e
    rw [← e]
    exact hx⟩
/-- by one, then by another -/
theorem Led.then_ (h : Hse n m) (s : Sub n m P) {a b : Nat} (ha : a < n) (hb : b < n) {l l2 : List Nat} (L : Led n m P a l) (L2 : Led n m l b l2) : Led n m P (m a b) l2 := by
  have hab := h.lt a b ha hb
  obtain ⟨l3, L3⟩ := led_ex h s hab
  have sl := L.sub h s ha
  have e : l3 = l2 := rising_eq L3.up L2.up fun y => by
    rw [L3.iff h s hab y, L2.iff h sl hb y]
    refine and_congr_right fun hy => ?_
    constructor
    · rintro ⟨z, hz, e⟩
      have hz' := s.lt z hz
      obtain ⟨c, hc, e1, e2⟩ := h.inv2 hb
      have hby := h.lt b y hb hy
      have hx := h.lt _ c hby hc
      have ex : m (m (m b y) c) b = m b y := by rw [h.as (m b y) c b hby hc hb, e2, h.zr _ hby]
      refine ⟨m (m b y) c, (L.iff h s ha _).mpr ⟨hx, z, hz, ?_⟩, ex⟩
      refine h.rc (h.lt z a hz' ha) (h.lt a _ ha hx) hb ?_
      rw [h.as z a b hz' ha hb, e, h.as a _ b ha hx hb, ex, h.as a b y ha hb hy]
    · rintro ⟨x, hx, e⟩
      obtain ⟨hxn, z, hz, e1⟩ := (L.iff h s ha x).mp hx
      have hz' := s.lt z hz
      exact ⟨z, hz, by rw [← h.as z a b hz' ha hb, e1, h.as a x b ha hxn hb, e, h.as a b y ha hb hy]⟩
  rw [← e]
  exact L3
end
end VL
namespace HM
open PySem PySem.Spec PyProof.Rows L2
end HM
namespace VL
open PySem PySem.Spec PyProof.Rows L2 HM
end VL
namespace HM
open PySem PySem.Spec PyProof.Rows L2
end HM
namespace VL
open PySem PySem.Spec PyProof.Rows L2 HM
end VL
namespace VL
open PySem PySem.Spec PyProof.Rows L2 HM
theorem two_ways1 {α : Type} (p : α → Nat → Bool) (H : α) (L : List α) (G : List Nat) : (G.filter (p H)).length + (G.map fun g => (L.filter (p · g)).length).sum = (G.map fun g => ((H :: L).filter (p · g)).length).sum := by
    induction G with
    | nil => rfl
    | cons g G ih =>
      rw [List.map_cons, List.map_cons, List.sum_cons, List.sum_cons, ← ih, List.filter_cons, List.filter_cons]
      by_cases e : p H g = true
      · rw [if_pos e, if_pos e, List.length_cons, List.length_cons]
        omega
      · rw [if_neg e, if_neg e]
        omega
/-- counted two ways -/
theorem two_ways {α : Type} (p : α → Nat → Bool) (G : List Nat) : ∀ L : List α, (L.map fun H => (G.filter (p H)).length).sum = (G.map fun g => (L.filter (p · g)).length).sum
  | [] => by
    rw [List.map_nil, List.sum_nil]
    induction G with
    | nil => rfl
    | cons g G ih => rw [List.map_cons, List.sum_cons, ← ih]; rfl
  | H :: L => by
    rw [List.map_cons, List.sum_cons, two_ways p G L]
    exact two_ways1 p H L G
theorem sum_ge {α : Type} {f : α → Nat} {c : Nat} : ∀ {L : List α}, (∀ x ∈ L, c ≤ f x) → L.length * c ≤ (L.map f).sum
  | [], _ => by simp
  | x :: L, h => by
    have := sum_ge (L := L) fun y hy => h y (List.mem_cons_of_mem _ hy)
    have := h x List.mem_cons_self
    rw [List.map_cons, List.sum_cons, List.length_cons, Nat.succ_mul]
    omega
theorem sum_le {α : Type} {f : α → Nat} {c : Nat} : ∀ {L : List α}, (∀ x ∈ L, f x ≤ c) → (L.map f).sum ≤ L.length * c
  | [], _ => by simp
  | x :: L, h => by
    have := sum_le (L := L) fun y hy => h y (List.mem_cons_of_mem _ hy)
    have := h x List.mem_cons_self
    rw [List.map_cons, List.sum_cons, List.length_cons, Nat.succ_mul]
    omega
def tb (n M : Nat) : Nat → Nat → Nat
  | 0, _ => 0
  | f + 1, k => if M ≤ k then 1 else (n - k) * (((List.range (M + 1)).filter fun j => decide (2 * k ≤ j)).map fun j => tb n M f j).foldr Nat.max 0 / (M - k)
theorem le_foldr_max {x : Nat} : ∀ {l : List Nat}, x ∈ l → x ≤ l.foldr Nat.max 0
  | y :: l, h => by
    rw [List.foldr_cons]
    rcases List.mem_cons.mp h with rfl | h
    · exact Nat.le_max_left _ _
    · exact Nat.le_trans (le_foldr_max h) (Nat.le_max_right _ _)
section
variable {n : Nat} {m : Nat → Nat → Nat} {K : List Nat}
theorem pt_ex (h : Hse n m) {gs : List Nat} (hg : ∀ g ∈ gs, g < n) : ∃ l, IsPt m gs l := by
  classical
  refine ⟨(List.range n).filter fun x => decide (Rch m gs x), List.Pairwise.filter _ List.pairwise_lt_range, fun x => ?_⟩
  rw [List.mem_filter, List.mem_range, decide_eq_true_iff]
  exact ⟨fun z => z.2, fun z => ⟨z.lt h.pos h.lt hg, z⟩⟩
theorem Sub.rch {P gs : List Nat} (s : Sub n m P) (hg : ∀ g ∈ gs, g ∈ P) : ∀ {x : Nat}, Rch m gs x → x ∈ P
  | _, .zero => s.ze
  | _, .step a g => s.mul _ (Sub.rch s hg a) _ (hg _ g)
/-- one gotten of itself -/
theorem rch_one (h : Hse n m) {gs : List Nat} {g : Nat} (hg : g ∈ gs) (hn : g < n) : Rch m gs g := by
  have : Rch m gs (m 0 g) := .step .zero hg
  rwa [h.zl g hn] at this
theorem Sub.twice (h : Hse n m) {P : List Nat} (s : Sub n m K) (s2 : Sub n m P) (hs : ∀ x ∈ K, x ∈ P) {g : Nat} (hg : g ∈ P) (hk : g ∉ K) : 2 * K.length ≤ P.length := by
  have hn := s2.lt g hg
  have := len_le_of_sub (k := K ++ K.map (m · g)) (l := P) (by
    rw [List.nodup_append]
    refine ⟨s.nd, List.pairwise_map.mpr (List.Pairwise.imp_of_mem (fun {a b} ha hb hab e => hab (h.rc (s.lt a ha) (s.lt b hb) hn e)) s.nd), fun a ha b hb e => ?_⟩
    subst e
    obtain ⟨y, hy, e⟩ := List.mem_map.mp hb
    obtain ⟨z, hz, e1, e2⟩ := s.inv h hy
    refine hk ?_
    have : m z (m y g) = g := by rw [← h.as z y g (s.lt z hz) (s.lt y hy) hn, e2, h.zl g hn]
    rw [← this, e]
    exact s.mul z hz a ha) fun x hx => by
    rcases List.mem_append.mp hx with hx | hx
    · exact hs x hx
    · obtain ⟨y, hy, rfl⟩ := List.mem_map.mp hx
      exact s2.mul y (hs y hy) g hg
  rw [List.length_append, List.length_map] at this
  omega
theorem cnt_in (s : Sub n m K) : ((List.range n).filter fun g => decide (g ∉ K)).length = n - K.length := by
  have e := (List.filter_append_perm (fun g => decide (g ∉ K)) (List.range n)).length_eq
  rw [List.length_append] at e
  have e2 : ((List.range n).filter fun g => !decide (g ∉ K)) = K := by
    refine rising_eq (List.Pairwise.filter _ List.pairwise_lt_range) s.up fun x => ?_
    rw [List.mem_filter, List.mem_range]
    constructor
    · rintro ⟨_, z⟩
      simpa using z
    · intro z
      exact ⟨s.lt x z, by simpa using z⟩
  rw [e2, List.length_range] at e
  omega
theorem few_over (h : Hse n m) (h60 : n ≤ 60) {M : Nat} : ∀ (f : Nat) {K : List Nat} {L : List (List Nat)}, Sub n m K → L.Nodup → (∀ H ∈ L, Sub n m H ∧ H.length = M ∧ ∀ x ∈ K, x ∈ H) → 60 < K.length * 2 ^ f → L.length ≤ tb n M f K.length := by
  intro f
  induction f with
  | zero =>
    intro K L s _ _ hb
    have := few_of_nodup s.nd s.lt
    omega
  | succ f ih =>
    intro K L s nd hL hb
    unfold tb
    split
    · rename_i hk
      -- one at most
      have he : ∀ H ∈ L, H = K := fun H hH => by
        obtain ⟨s2, e, hs⟩ := hL H hH
        exact rising_eq s2.up s.up fun x => ⟨fun z => full_of_nodup s.nd hs (by omega) x z, hs x⟩
      match L, nd, he with
      | [], _, _ => exact Nat.zero_le _
      | [_], _, _ => exact Nat.le_refl _
      | a :: b :: _, nd, he =>
        exact absurd (by rw [he a (by simp), he b (by simp)]) (fun z : a = b => (List.nodup_cons.mp nd).1 (by rw [z]; simp))
    · rename_i hk
      have hk : K.length < M := Nat.lt_of_not_le hk
      obtain ⟨B, eB⟩ : ∃ B, B = ((List.filter (fun j => decide (2 * K.length ≤ j)) (List.range (M + 1))).map fun j => tb n M f j).foldr Nat.max 0 := ⟨_, rfl⟩
      rw [← eB, Nat.le_div_iff_mul_le (by omega)]
      obtain ⟨G, eG⟩ : ∃ G, G = (List.range n).filter fun g => decide (g ∉ K) := ⟨_, rfl⟩
      have lG : G.length = n - K.length := by rw [eG, cnt_in s]
      have h1 : L.length * (M - K.length) ≤ (L.map fun H => (G.filter fun g => decide (g ∈ H)).length).sum := sum_ge fun H hH => by
        obtain ⟨s2, e, hs⟩ := hL H hH
        have := len_le_of_sub (k := H) (l := K ++ G.filter fun g => decide (g ∈ H)) s2.nd fun x hx => by
          by_cases z : x ∈ K
          · exact List.mem_append_left _ z
          · refine List.mem_append_right _ (List.mem_filter.mpr ⟨?_, decide_eq_true hx⟩)
            rw [eG]
            exact List.mem_filter.mpr ⟨List.mem_range.mpr (s2.lt x hx), decide_eq_true z⟩
        rw [List.length_append] at this
        omega
      have h2 : (G.map fun g => (L.filter fun H => decide (g ∈ H)).length).sum ≤ G.length * B := sum_le fun g hg => by
        rw [eG] at hg
        obtain ⟨hg1, hg2⟩ := List.mem_filter.mp hg
        have hgn := List.mem_range.mp hg1
        have hgk : g ∉ K := of_decide_eq_true hg2
        obtain ⟨K2, hK2⟩ := pt_ex h (gs := K ++ [g]) (fun x hx => by
          rcases List.mem_append.mp hx with hx | hx
          · exact s.lt x hx
          · rw [List.mem_singleton.mp hx]; exact hgn)
        have hlt : ∀ x ∈ K ++ [g], x < n := fun x hx => by
          rcases List.mem_append.mp hx with hx | hx
          · exact s.lt x hx
          · rw [List.mem_singleton.mp hx]; exact hgn
        have s2 := hK2.sub h hlt
        have hin : ∀ x ∈ K ++ [g], x ∈ K2 := fun x hx => (hK2.mem x).mpr (rch_one h hx (hlt x hx))
        have h2k := s.twice h s2 (fun x hx => hin x (List.mem_append_left _ hx)) (hin g (by simp)) hgk
        have hall : ∀ H ∈ L.filter (fun H => decide (g ∈ H)), Sub n m H ∧ H.length = M ∧ ∀ x ∈ K2, x ∈ H := fun H hH => by
          obtain ⟨z1, z2⟩ := List.mem_filter.mp hH
          obtain ⟨s3, e, hs⟩ := hL H z1
          refine ⟨s3, e, fun x hx => s3.rch (fun y hy => ?_) ((hK2.mem x).mp hx)⟩
          rcases List.mem_append.mp hy with hy | hy
          · exact hs y hy
          · rw [List.mem_singleton.mp hy]; exact of_decide_eq_true z2
        have := ih s2 (nd.sublist List.filter_sublist) hall (by
          have := Nat.mul_le_mul_right (2 ^ f) h2k
          rw [Nat.pow_succ] at hb
          have e9 : K.length * (2 ^ f * 2) = 2 * K.length * 2 ^ f := by
            rw [Nat.mul_comm (2 ^ f) 2, ← Nat.mul_assoc, Nat.mul_comm K.length 2]
          omega)
        cases hcase : L.filter (fun H => decide (g ∈ H)) with
        | nil => exact Nat.zero_le _
        | cons H Hs =>
          rw [hcase] at this hall
          obtain ⟨s3, e, hs⟩ := hall H List.mem_cons_self
          have hle := len_le_of_sub s2.nd hs
          refine Nat.le_trans this ?_
          rw [eB]
          refine le_foldr_max (List.mem_map.mpr ⟨K2.length, List.mem_filter.mpr ⟨List.mem_range.mpr (by omega), decide_eq_true h2k⟩, rfl⟩)
      rw [two_ways (fun H g => decide (g ∈ H)) G L] at h1
      rw [lG] at h2
      exact Nat.le_trans h1 h2
def tots (n : Nat) : Nat := (((List.range (n + 1)).filter fun M => decide (n % M = 0 ∧ 0 < M)).map fun M => tb n M 6 1).sum
theorem tots_le : ∀ n, n < 61 → tots n ≤ 2400 := by decide +kernel
theorem sum_le2 {f g : Nat → Nat} : ∀ {L : List Nat}, (∀ x ∈ L, f x ≤ g x) → (L.map f).sum ≤ (L.map g).sum
  | [], _ => by simp
  | x :: L, h => by
    have := sum_le2 (L := L) fun y hy => h y (List.mem_cons_of_mem _ hy)
    have := h x List.mem_cons_self
    rw [List.map_cons, List.map_cons, List.sum_cons, List.sum_cons]
    omega
/-- a house of at most sixty numbers has at most 2400 parts -/
theorem few_subs (h : Hse n m) (h60 : n ≤ 60) {L : List (List Nat)} (nd : L.Nodup) (hs : ∀ H ∈ L, Sub n m H) : L.length ≤ 2400 := by
  refine Nat.le_trans ?_ (tots_le n (by omega))
  obtain ⟨G, eG⟩ : ∃ G, G = (List.range (n + 1)).filter fun M => decide (n % M = 0 ∧ 0 < M) := ⟨_, rfl⟩
  have h1 : L.length * 1 ≤ (L.map fun H => (G.filter fun M => decide (H.length = M)).length).sum := sum_ge fun H hH => by
    have s := hs H hH
    have e := lst_mul h s
    have hp : 0 < H.length := List.length_pos_of_mem s.ze
    have hle := few_of_nodup s.nd s.lt
    refine List.length_pos_of_mem (a := H.length) (List.mem_filter.mpr ⟨?_, decide_eq_true rfl⟩)
    rw [eG]
    exact List.mem_filter.mpr ⟨List.mem_range.mpr (by omega), decide_eq_true ⟨Nat.mod_eq_zero_of_dvd ⟨_, by rw [Nat.mul_comm]; exact e.symm⟩, hp⟩⟩
  rw [two_ways (fun H M => decide (H.length = M)) G L, Nat.mul_one] at h1
  refine Nat.le_trans h1 ?_
  unfold tots
  rw [← eG]
  refine sum_le2 fun M hM => ?_
  have z : Sub n m [0] := ⟨List.pairwise_singleton .., fun x hx => by rw [List.mem_singleton.mp hx]; exact h.pos, by simp, fun x hx y hy => by
    rw [List.mem_singleton.mp hx, List.mem_singleton.mp hy, h.zl 0 h.pos]
    simp⟩
  exact few_over h h60 6 (K := [0]) z (nd.sublist List.filter_sublist) (fun H hH => by
    obtain ⟨z1, z2⟩ := List.mem_filter.mp hH
    refine ⟨hs H z1, of_decide_eq_true z2, fun x hx => ?_⟩
    rw [List.mem_singleton.mp hx]
    exact (hs H z1).ze) (by decide)
end
end VL
namespace VL
open PySem PySem.Spec PyProof.Rows L2 HM
def addT (ks : List (List Int)) (k : List Int) : List (List Int) := if k ∈ ks then ks else k :: ks
end VL
namespace VL
open PySem PySem.Spec PyProof.Rows L2 HM
end VL
namespace VL
open PySem PySem.Spec PyProof.Rows L2 HM
end VL
namespace VL
open PySem PySem.Spec PyProof.Rows L2 HM
/-- O holds all that H is led to, H first -/
structure Orb (n : Nat) (m : Nat → Nat → Nat) (H : List Nat) (O : List (List Nat)) : Prop where
  hd : O[0]? = some H
  nd : O.Nodup
  mem : ∀ K, K ∈ O ↔ ∃ g, g < n ∧ Led n m H g K
structure Kinds (n : Nat) (m : Nat → Nat → Nat) (T : List (List (List Nat))) : Prop where
  orb : ∀ O ∈ T, ∃ H, Sub n m H ∧ Orb n m H O
  all : ∀ K, Sub n m K → ∃ O ∈ T, K ∈ O
  nd : T.flatten.Nodup
def tnD (L : List (List Nat)) : List Dt := L.map fun K => .tup (nsD K)
section
variable {n : Nat} {m : Nat → Nat → Nat} {P K H : List Nat}
theorem Led.back (h : Hse n m) (s : Sub n m P) {a b : Nat} (ha : a < n) (hb : b < n) (e : m a b = 0) {l : List Nat} (L : Led n m P a l) : Led n m l b P := by
  have sl := L.sub h s ha
  obtain ⟨l2, L2⟩ := led_ex h sl hb
  have L3 := L.then_ h s ha hb L2
  rw [e] at L3
  have := L3.uniq h s h.pos (led_zero h s)
  rw [← this]
  exact L2
theorem Led.mono (h : Hse n m) {a : Nat} (s : Sub n m P) (s2 : Sub n m K) (ha : a < n) (hs : ∀ x ∈ P, x ∈ K) {l k : List Nat} (L : Led n m P a l) (L2 : Led n m K a k) : ∀ x ∈ l, x ∈ k := fun x hx => by
  obtain ⟨h1, z, hz, e⟩ := (L.iff h s ha x).mp hx
  exact (L2.iff h s2 ha x).mpr ⟨h1, z, hs z hz, e⟩
theorem Orb.sub (h : Hse n m) (s : Sub n m H) {O : List (List Nat)} (o : Orb n m H O) : ∀ K ∈ O, Sub n m K := fun K hK => by
  obtain ⟨g, hg, L⟩ := (o.mem K).mp hK
  exact L.sub h s hg
theorem Orb.self (o : Orb n m H O) : H ∈ O := List.mem_of_getElem? o.hd
theorem Orb.led (h : Hse n m) (s : Sub n m H) {O : List (List Nat)} (o : Orb n m H O) {K l : List Nat} (hK : K ∈ O) {a : Nat} (ha : a < n) (L : Led n m K a l) : l ∈ O := by
  obtain ⟨g, hg, L1⟩ := (o.mem K).mp hK
  exact (o.mem l).mpr ⟨m g a, h.lt g a hg ha, L1.then_ h s hg ha L⟩
/-- two orbits with one part in common are alike -/
theorem Orb.same (h : Hse n m) {H2 : List Nat} (s : Sub n m H) (s2 : Sub n m H2) {O O2 : List (List Nat)} (o : Orb n m H O) (o2 : Orb n m H2 O2) {K : List Nat} (h1 : K ∈ O) (h2 : K ∈ O2) : ∀ x ∈ O2, x ∈ O := fun x hx => by
  obtain ⟨g, hg, L⟩ := (o2.mem K).mp h2
  obtain ⟨k, hk, Lx⟩ := (o2.mem x).mp hx
  obtain ⟨b, hb, e1, e2⟩ := h.inv2 hg
  have L3 := L.back h s2 hg hb e1
  exact o.led h s (o.led h s h1 hb L3) hk Lx
/-- grown from each kind by each number, all parts are met -/
theorem all_met (h : Hse n m) {S : List (List Nat)} (h0 : [0] ∈ S) (led : ∀ K ∈ S, ∀ a, a < n → ∀ l, Led n m K a l → l ∈ S)
    (gr : ∀ K ∈ S, ∃ H, Sub n m H ∧ (∃ g, g < n ∧ Led n m H g K) ∧ ∀ y, y < n → ∃ l ∈ S, IsPt m (H ++ [y]) l) {K : List Nat} (s : Sub n m K) : K ∈ S := by
  suffices hh : ∀ (d : Nat) (P : List Nat), P ∈ S → Sub n m P → (∀ x ∈ P, x ∈ K) → K.length - P.length ≤ d → K ∈ S by
    have z : Sub n m [0] := ⟨List.pairwise_singleton .., fun x hx => by rw [List.mem_singleton.mp hx]; exact h.pos, by simp, fun x hx y hy => by
      rw [List.mem_singleton.mp hx, List.mem_singleton.mp hy, h.zl 0 h.pos]
      simp⟩
    exact hh _ [0] h0 z (fun x hx => by rw [List.mem_singleton.mp hx]; exact s.ze) (Nat.le_refl _)
  intro d
  induction d with
  | zero =>
    intro P hP sP hs hd
    have : K = P := rising_eq s.up sP.up fun x => ⟨fun z => full_of_nodup sP.nd hs (by omega) x z, hs x⟩
    rw [this]
    exact hP
  | succ d ih =>
    intro P hP sP hs hd
    by_cases hall : ∀ x ∈ K, x ∈ P
    · have : K = P := rising_eq s.up sP.up fun x => ⟨hall x, hs x⟩
      rw [this]
      exact hP
    · simp only [Classical.not_forall] at hall
      obtain ⟨x, hx, hxP⟩ := hall
      obtain ⟨H, sH, ⟨g, hg, L⟩, gr⟩ := gr P hP
      obtain ⟨b, hb, e1, e2⟩ := h.inv2 hg
      obtain ⟨K2, LK⟩ := led_ex h s hb
      have sK2 := LK.sub h s hb
      have LPH := L.back h sH hg hb e1
      have hHK := LPH.mono h sP s hb hs LK
      have hxn := s.lt x hx
      have hgx := h.lt g x hg hxn
      have hy := h.lt (m g x) b hgx hb
      -- y = g x b is in K led by b
      have hyK : m (m g x) b ∈ K2 := (LK.iff h s hb _).mpr ⟨hy, x, hx, by rw [← h.as b (m g x) b hb hgx hb, ← h.as b g x hb hg hxn, e2, h.zl x hxn]⟩
      obtain ⟨l, hl, pl⟩ := gr _ hy
      have hlt : ∀ z ∈ H ++ [m (m g x) b], z < n := fun z hz => by
        rcases List.mem_append.mp hz with hz | hz
        · exact sH.lt z hz
        · rw [List.mem_singleton.mp hz]; exact hy
      have sl := pl.sub h hlt
      have hHl : ∀ z ∈ H ++ [m (m g x) b], z ∈ l := fun z hz => (pl.mem z).mpr (rch_one h hz (hlt z hz))
      have hlK : ∀ z ∈ l, z ∈ K2 := fun z hz => sK2.rch (fun w hw => by
        rcases List.mem_append.mp hw with hw | hw
        · exact hHK w hw
        · rw [List.mem_singleton.mp hw]; exact hyK) ((pl.mem z).mp hz)
      obtain ⟨l2, L2⟩ := led_ex h sl hg
      have hl2 := led l hl g hg l2 L2
      have sl2 := L2.sub h sl hg
      have LK2 := LK.back h s hb hg e2
      have h2K := L2.mono h sl sK2 hg hlK LK2
      refine ih l2 hl2 sl2 h2K ?_
      have hyH : m (m g x) b ∉ H := fun z => hxP ((L.iff h sH hg x).mpr ⟨hxn, m (m g x) b, z, by rw [h.as (m g x) b g hgx hb hg, e2, h.zr _ hgx]⟩)
      have hlen : H.length + 1 ≤ l.length := by
        have := len_le_of_sub (k := m (m g x) b :: H) (l := l) (List.nodup_cons.mpr ⟨hyH, sH.nd⟩) fun z hz => by
          rcases List.mem_cons.mp hz with rfl | hz
          · exact hHl _ (by simp)
          · exact hHl z (List.mem_append_left _ hz)
        rwa [List.length_cons] at this
      rw [L2.len h sl hg]
      rw [L.len h sH hg] at hd
      omega
end
end VL
namespace VL
open PySem PySem.Spec PyProof.Rows L2 HM
def kI (K : List Nat) : List Int := K.map fun i : Nat => (i : Int)
theorem kI_inj : ∀ {a b : List Nat}, kI a = kI b → a = b
  | [], [], _ => rfl
  | [], _ :: _, h => by cases h
  | _ :: _, [], h => by cases h
  | x :: a, y :: b, h => by
    unfold kI at h
    rw [List.map_cons, List.map_cons] at h
    injection h with h1 h2
    have : x = y := by omega
    rw [this, kI_inj h2]
/-- a set of keys and a list of the same -/
def Same (ks : List (List Int)) (L : List (List Nat)) : Prop := (∀ K, kI K ∈ ks ↔ K ∈ L) ∧ ks.length = L.length
theorem Same.in_ {ks : List (List Int)} {L : List (List Nat)} (s : Same ks L) (K : List Nat) : decide (kI K ∈ ks) = decide (K ∈ L) := decide_eq_decide.mpr (s.1 K)
theorem Same.add {ks : List (List Int)} {L : List (List Nat)} (s : Same ks L) {K : List Nat} (h : K ∉ L) : Same (addT ks (kI K)) (L ++ [K]) := by
  unfold addT
  rw [if_neg fun z => h ((s.1 K).mp z)]
  refine ⟨fun k => ?_, by rw [List.length_cons, List.length_append, s.2]; rfl⟩
  rw [List.mem_cons, List.mem_append, List.mem_singleton, s.1]
  exact ⟨fun z => z.elim (fun z => .inr (kI_inj z)) .inl, fun z => z.elim .inr fun z => .inl (by rw [z])⟩
end VL
namespace VL
open PySem PySem.Spec PyProof.Rows L2 HM
/-- a set of numbers, listed -/
def SetN (S : Int → Bool) (c : Nat) (W : List Nat) : Prop := (∀ j : Int, S j = true ↔ ∃ i ∈ W, j = (i : Int)) ∧ W.Nodup ∧ c ≤ W.length
theorem SetN.in_ {S : Int → Bool} {c : Nat} {W : List Nat} (h : SetN S c W) (k : Nat) : S (k : Int) = decide (k ∈ W) := by
  rw [Bool.eq_iff_iff, h.1, decide_eq_true_iff]
  exact ⟨fun ⟨i, hi, e⟩ => by have : k = i := by omega
                              rw [this]; exact hi, fun z => ⟨k, z, rfl⟩⟩
theorem SetN.add {S : Int → Bool} {c : Nat} {W : List Nat} (h : SetN S c W) (k : Nat) : ∃ W', SetN (fun j => S j || decide (j = (k : Int))) (if S (k : Int) = true then c else c + 1) W' ∧ ∀ y, y ∈ W' ↔ y ∈ W ∨ y = k := by
  by_cases z : k ∈ W
  · refine ⟨W, ⟨fun j => ?_, h.2.1, ?_⟩, fun y => ⟨.inl, fun q => q.elim id fun q => by rw [q]; exact z⟩⟩
    · rw [Bool.or_eq_true, h.1, decide_eq_true_iff]
      exact ⟨fun q => q.elim id fun q => ⟨k, z, q⟩, .inl⟩
    · rw [h.in_, if_pos (decide_eq_true z)]
      exact h.2.2
  · refine ⟨W ++ [k], ⟨fun j => ?_, ?_, ?_⟩, fun y => by rw [List.mem_append, List.mem_singleton]⟩
    · rw [Bool.or_eq_true, h.1, decide_eq_true_iff]
      constructor
      · rintro (⟨i, hi, e⟩ | e)
        · exact ⟨i, List.mem_append_left _ hi, e⟩
        · exact ⟨k, by simp, e⟩
      · rintro ⟨i, hi, e⟩
        rcases List.mem_append.mp hi with hi | hi
        · exact .inl ⟨i, hi, e⟩
        · rw [List.mem_singleton.mp hi] at e
          exact .inr e
    · rw [List.nodup_append]
      exact ⟨h.2.1, by simp, fun a ha b hb q => z (by rw [List.mem_singleton.mp hb] at q; rw [← q]; exact ha)⟩
    · rw [h.in_, if_neg (by simp [z]), List.length_append]
      exact Nat.succ_le_succ h.2.2
/-- what grows of a part: whole cosets -/
structure Grow (n : Nat) (m : Nat → Nat → Nat) (H hs fs W : List Nat) : Prop where
  rc : ∀ y ∈ W, Rch m hs y
  f0 : 0 ∈ fs
  ndf : fs.Nodup
  fw : ∀ f ∈ fs, f ∈ W
  co : ∀ f ∈ fs, ∀ h ∈ H, m h f ∈ W
  of : ∀ y ∈ W, ∃ f ∈ fs, ∃ h ∈ H, m h f = y
theorem Grow.all {n : Nat} {m : Nat → Nat → Nat} {H hs fs W : List Nat} (h : Hse n m) (s : Sub n m H) (hh : ∀ g ∈ hs, g < n) (G : Grow n m H hs fs W) (cl : ∀ f ∈ fs, ∀ g ∈ hs, m f g ∈ W) (y : Nat) : y ∈ W ↔ Rch m hs y := by
  refine ⟨G.rc y, fun r => ?_⟩
  induction r with
  | zero => exact G.fw 0 G.f0
  | @step a g r hg ih =>
    obtain ⟨f, hf, x, hx, e⟩ := G.of a ih
    have hfn := (G.rc f (G.fw f hf)).lt h.pos h.lt hh
    obtain ⟨f2, hf2, x2, hx2, e2⟩ := G.of _ (cl f hf g hg)
    have hf2n := (G.rc f2 (G.fw f2 hf2)).lt h.pos h.lt hh
    rw [← e, h.as x f g (s.lt x hx) hfn (hh g hg), ← e2, ← h.as x x2 f2 (s.lt x hx) (s.lt x2 hx2) hf2n]
    exact G.co f2 hf2 _ (s.mul x hx x2 hx2)
end VL
namespace VL
open PySem PySem.Spec PyProof.Rows L2 HM
theorem pt_zero (m : Nat → Nat → Nat) : IsPt m [] [0] := ⟨List.pairwise_singleton .., fun x => by
  rw [List.mem_singleton]
  constructor
  · rintro rfl
    exact .zero
  · intro r
    cases r with
    | zero => rfl
    | step _ hg => cases hg⟩
theorem sub_zero {n : Nat} {m : Nat → Nat → Nat} (h : Hse n m) : Sub n m [0] := (pt_zero m).sub h fun g hg => by cases hg
theorem flat_ge : ∀ {T : List (List (List Nat))}, (∀ O ∈ T, O ≠ []) → T.length ≤ T.flatten.length
  | [], _ => Nat.le_refl _
  | O :: T, h => by
    have := flat_ge (T := T) fun O hO => h O (List.mem_cons_of_mem _ hO)
    have : 0 < O.length := List.length_pos_iff.mpr (h O List.mem_cons_self)
    rw [List.flatten_cons, List.length_append, List.length_cons]
    omega
theorem flat_snoc (T : List (List (List Nat))) (O : List (List Nat)) : (T ++ [O]).flatten = T.flatten ++ O := by simp
/-- what the search by kinds knows -/
structure Srch (n : Nat) (m : Nat → Nat → Nat) (T : List (List (List Nat))) (M : List (List Nat)) : Prop where
  nd : T.flatten.Nodup
  ze : [0] ∈ T.flatten
  len : M.length = T.length
  orb : ∀ (i : Nat) (O : List (List Nat)), T[i]? = some O → ∃ H gs, M[i]? = some gs ∧ IsPt m gs H ∧ (∀ g ∈ gs, g < n) ∧ gs.length + 1 ≤ H.length ∧ Orb n m H O
section
variable {n : Nat} {m : Nat → Nat → Nat} {T : List (List (List Nat))} {M : List (List Nat)}
theorem Srch.of_mem (S : Srch n m T M) {O : List (List Nat)} (hO : O ∈ T) : ∃ H gs, IsPt m gs H ∧ (∀ g ∈ gs, g < n) ∧ Orb n m H O := by
  obtain ⟨i, hi, e⟩ := List.getElem_of_mem hO
  obtain ⟨H, gs, _, h1, h2, _, h3⟩ := S.orb i O (by rw [List.getElem?_eq_getElem hi, e])
  exact ⟨H, gs, h1, h2, h3⟩
theorem Srch.few (h : Hse n m) (h60 : n ≤ 60) (S : Srch n m T M) : T.flatten.length ≤ 2400 ∧ T.length ≤ 2400 := by
  have h1 := few_subs h h60 S.nd fun K hK => by
    obtain ⟨O, hO, hK⟩ := List.mem_flatten.mp hK
    obtain ⟨H, gs, hp, hg, o⟩ := S.of_mem hO
    exact o.sub h (hp.sub h hg) K hK
  have h2 := flat_ge (T := T) fun O hO z => by
    obtain ⟨H, gs, hp, hg, o⟩ := S.of_mem hO
    have := o.hd
    rw [z] at this
    cases this
  exact ⟨h1, by omega⟩
theorem Srch.apart (h : Hse n m) (S : Srch n m T M) {l : List Nat} (s : Sub n m l) (hl : l ∉ T.flatten) {O : List (List Nat)} (o : Orb n m l O) : ∀ K ∈ O, K ∉ T.flatten := fun K hK hK2 => by
  obtain ⟨O2, hO2, hK2⟩ := List.mem_flatten.mp hK2
  obtain ⟨H, gs, hp, hg, o2⟩ := S.of_mem hO2
  exact hl (List.mem_flatten.mpr ⟨O2, hO2, o2.same h (hp.sub h hg) s o hK2 hK l o.self⟩)
theorem Srch.add (h : Hse n m) (S : Srch n m T M) {l gs : List Nat} (hp : IsPt m gs l) (hg : ∀ g ∈ gs, g < n) (hlen : gs.length + 1 ≤ l.length) (hl : l ∉ T.flatten) {O : List (List Nat)} (o : Orb n m l O) : Srch n m (T ++ [O]) (M ++ [gs]) := by
  have s := hp.sub h hg
  refine ⟨?_, by rw [flat_snoc]; exact List.mem_append_left _ S.ze, by rw [List.length_append, List.length_append, S.len]; rfl, fun i O2 hi => ?_⟩
  · rw [flat_snoc, List.nodup_append]
    exact ⟨S.nd, o.nd, fun a ha b hb e => S.apart h s hl o b hb (by rw [← e]; exact ha)⟩
  · rcases Nat.lt_or_ge i T.length with z | z
    · rw [List.getElem?_append_left z] at hi
      obtain ⟨H, gs2, h1, h2⟩ := S.orb i O2 hi
      exact ⟨H, gs2, by rw [List.getElem?_append_left (by rw [S.len]; exact z)]; exact h1, h2⟩
    · rw [List.getElem?_append_right z] at hi
      have hz : i - T.length = 0 := by
        have := (List.getElem?_eq_some_iff.mp hi).1
        rw [List.length_singleton] at this
        omega
      rw [hz] at hi
      cases hi
      exact ⟨l, gs, by rw [List.getElem?_append_right (by rw [S.len]; exact z), S.len, hz]; rfl, hp, hg, hlen, o⟩
theorem Srch.all (h : Hse n m) (S : Srch n m T M) (cl : ∀ (i : Nat) (O : List (List Nat)) (H : List Nat), T[i]? = some O → O[0]? = some H → ∀ y, y < n → ∃ l ∈ T.flatten, IsPt m (H ++ [y]) l) : Kinds n m T := by
  refine ⟨fun O hO => ?_, fun K hK => ?_, S.nd⟩
  · obtain ⟨H, gs, hp, hg, o⟩ := S.of_mem hO
    exact ⟨H, hp.sub h hg, o⟩
  · have := all_met h (S := T.flatten) S.ze (fun K hK a ha l L => by
      obtain ⟨O, hO, hK⟩ := List.mem_flatten.mp hK
      obtain ⟨H, gs, hp, hg, o⟩ := S.of_mem hO
      exact List.mem_flatten.mpr ⟨O, hO, o.led h (hp.sub h hg) hK ha L⟩) (fun K hK => by
      obtain ⟨O, hO, hK⟩ := List.mem_flatten.mp hK
      obtain ⟨H, gs, hp, hg, o⟩ := S.of_mem hO
      obtain ⟨i, hi, e⟩ := List.getElem_of_mem hO
      exact ⟨H, hp.sub h hg, (o.mem K).mp hK, cl i O H (by rw [List.getElem?_eq_getElem hi, e]) o.hd⟩) hK
    obtain ⟨O, hO, hK⟩ := List.mem_flatten.mp this
    exact ⟨O, hO, hK⟩
end
end VL
namespace HM
open PySem PySem.Spec PyProof.Rows L2
/-- what a key function of (len(x), x) gives -/
def rankK (b : List Int) : PyData := .tuple [.int b.length, .tuple (b.map .int)]
end HM
namespace HM
open PySem PySem.Spec PyProof.Rows L2 LamX
/-- the table at P: each code object that it tells is known, and bears the name q -/
def TabF (H : Hp) (P : Addr) (q : Str) : Prop := ∃ ps : Array Value, H P = some (.tbl ps) ∧ TriplesOk ps.toList ∧ ∀ (pos : Pos) (cv : Value), codeAmong pos ps.toList = some cv → ∃ c oc vs t, cv = .ref c ∧ H c = some (.frz oc (.own c)) ∧ oc.data = .fields vs ∧ vs[1]? = some (.str q t)
/-- H' is H but for the table at P, and what is new -/
def TabUp (P : Addr) (q : Str) (H H' : Hp) : Prop := TabF H' P q ∧ ∀ b, b ≠ P → H b ≠ none → H' b = H b
theorem TabF.keep {H H' : Hp} {P P' : Addr} {q : Str} (t : TabF H P q) (h : ∀ b, b ≠ P' → H b ≠ none → H' b = H b) (ne : P ≠ P') (hP : ∃ ps, H P' = some (.tbl ps)) : TabF H' P q := by
  obtain ⟨ps, h1, h2, h3⟩ := t
  refine ⟨ps, by rw [h P ne (by rw [h1]; simp)]; exact h1, h2, fun pos cv e => ?_⟩
  obtain ⟨c, oc, vs, t, e1, e2, e3⟩ := h3 pos cv e
  refine ⟨c, oc, vs, t, e1, ?_, e3⟩
  rw [h c (fun z => by obtain ⟨ps', e'⟩ := hP; rw [z, e'] at e2; cases e2) (by rw [e2]; simp)]
  exact e2
/-- by length, then by what stands in it -/
def rkLe (a b : List Int) : Bool := PySem.W.dataLe false rankK a b
/-- sorted(e, key=lambda x: (len(x), x)), e a list of tuples of whole numbers -/
theorem TabUp.rd {P : Addr} {q : Str} {H H1 : Hp} (up : TabUp P q H H1) (hT : TabF H P q) {a : Addr} {u : HO} (hu : ∀ ps, u ≠ .tbl ps) (h : Rd H a u) : Rd H1 a u := by
  obtain ⟨ps, hP, _⟩ := hT
  rcases h with h | ⟨o, h⟩
  · exact .inl (by rw [up.2 a (fun z => by rw [z, hP] at h; cases h; exact hu ps rfl) (by rw [h]; simp)]; exact h)
  · exact .inr ⟨o, by rw [up.2 a (fun z => by rw [z, hP] at h; cases h) (by rw [h]; simp)]; exact h⟩
end HM
namespace VL
open PySem PySem.Spec PyProof.Rows L2 HM
def tuD (b : List Int) : Dt := .tup (b.map Dt.int)
theorem tups_of {F : Hp} : ∀ {L : List (List Int)} {xs : List V}, Rps F xs (L.map tuD) → ∃ Lp : List (Addr × List Int), xs = (Lp.map fun p => V.ref p.1) ∧ Lp.map (·.2) = L ∧ ∀ p ∈ Lp, F p.1 = some (.tup (p.2.map V.int))
  | [], _, .nil => ⟨[], rfl, rfl, fun p hp => by cases hp⟩
  | b :: L, _, .cons h t => by
    obtain ⟨Lp, e1, e2, e3⟩ := tups_of t
    obtain ⟨a, xs, rfl, hF, rx⟩ := Rp.tup_inv h
    have ex : xs = b.map V.int := rx.of_ints
    subst ex
    refine ⟨(a, b) :: Lp, by rw [e1]; rfl, by rw [List.map_cons, e2], fun p hp => ?_⟩
    rcases List.mem_cons.mp hp with rfl | hp
    · exact hF
    · exact e3 p hp
end VL
namespace HM
open PySem PySem.Spec PyProof.Rows L2
section
variable {X : Cx}
def FewT (ks : List (List Int)) (c : Nat) : Prop := ∃ L : List (List Int), L.Nodup ∧ (∀ k, k ∈ L ↔ k ∈ ks) ∧ L.length = c
end
end HM
namespace VL
open PySem PySem.Spec PyProof.Rows L2 HM
end VL
namespace VL
open PySem PySem.Spec PyProof.Rows L2 HM
end VL
namespace HM
open PySem PySem.Spec PyProof.Rows L2
end HM
namespace VL
open PySem PySem.Spec PyProof.Rows L2 HM
/-- the kinds: the least part of each -/
structure IsKinds (n : Nat) (m : Nat → Nat → Nat) (ks : List (List Nat)) : Prop where
  sub : ∀ K ∈ ks, Sub n m K
  least : ∀ K ∈ ks, ∀ g, g < n → ∀ K', Led n m K g K' → ¬ kI K' < kI K
  all : ∀ K, Sub n m K → ∃ k ∈ ks, ∃ g, g < n ∧ Led n m K g k
  one : ∀ k ∈ ks, ∀ k' ∈ ks, ∀ g, g < n → Led n m k g k' → k = k'
  nd : ks.Nodup
  ord : ks.Pairwise fun a b => rkLe (kI a) (kI b) = true
end VL
namespace VL
open PySem PySem.Spec PyProof.Rows L2 HM
theorem Kinds.few {n : Nat} {m : Nat → Nat → Nat} {T : List (List (List Nat))} (h : Hse n m) (h60 : n ≤ 60) (k : Kinds n m T) : (∀ O ∈ T, O ≠ [] ∧ ∀ K ∈ O, Sub n m K) ∧ T.flatten.length ≤ 2400 ∧ T.length ≤ 2400 := by
  have h0 : ∀ O ∈ T, O ≠ [] ∧ ∀ K ∈ O, Sub n m K := fun O hO => by
    obtain ⟨H, s, o⟩ := k.orb O hO
    refine ⟨fun z => ?_, o.sub h s⟩
    have := o.hd
    rw [z] at this
    cases this
  have h1 := few_subs h h60 k.nd fun K hK => by
    obtain ⟨O, hO, hK⟩ := List.mem_flatten.mp hK
    exact (h0 O hO).2 K hK
  have h2 := flat_ge (T := T) fun O hO => (h0 O hO).1
  exact ⟨h0, h1, by omega⟩
end VL
namespace VL
open PySem PySem.Spec PyProof.Rows L2 HM
def BitsOk (b : Nat) (l : List Nat) : Prop := ∀ k, b.testBit k = decide (k ∈ l)
theorem BitsOk.add {b : Nat} {l : List Nat} (h : BitsOk b l) (x : Nat) : BitsOk (b ||| 2 ^ x) (l ++ [x]) := fun k => by
  rw [Nat.testBit_or, h k, Nat.testBit_two_pow]
  by_cases e : x = k
  · subst e; simp
  · have : ¬ k = x := fun z => e z.symm
    simp [e, this]
theorem BitsOk.sub {a b : Nat} {l k : List Nat} (h : BitsOk a l) (h2 : BitsOk b k) : (a &&& b = a) ↔ ∀ x ∈ l, x ∈ k := by
  constructor
  · intro e x hx
    have := congrArg (fun z => Nat.testBit z x) e
    simp only [Nat.testBit_and] at this
    rw [h x, h2 x, decide_eq_true hx, Bool.true_and] at this
    exact of_decide_eq_true this
  · intro hs
    refine Nat.eq_of_testBit_eq fun i => ?_
    rw [Nat.testBit_and, h i, h2 i]
    by_cases e : i ∈ l
    · rw [decide_eq_true e, decide_eq_true (hs i e)]; rfl
    · rw [decide_eq_false e]; rfl
end VL
namespace VL
open PySem PySem.Spec PyProof.Rows L2 HM
end VL
namespace VL
open PySem PySem.Spec PyProof.Rows L2 HM
end VL
namespace VL
open PySem PySem.Spec PyProof.Rows L2 HM
end VL
namespace VL
open PySem PySem.Spec PyProof.Rows L2 HM
end VL
namespace VL
open PySem PySem.Spec PyProof.Rows L2 HM
end VL
namespace VL
open PySem PySem.Spec PyProof.Rows L2 HM
end VL
namespace VL
open PySem PySem.Spec PyProof.Rows L2 HM
def tL (ks : List (List Nat)) (j : Nat) : List Nat := ks.getD j []
theorem tL_get {ks : List (List Nat)} {j : Nat} {K : List Nat} (h : ks[j]? = some K) : tL ks j = K := by
  unfold tL
  rw [List.getD_eq_getElem?_getD, h]
  rfl
theorem flats_tn : ∀ ks : List (List Nat), flats (tnD ks) = true
  | [] => rfl
  | K :: ks => by
    show (flats (nsD K) && flats (tnD ks)) = true
    rw [flats_ns, flats_tn ks]
    rfl
end VL
namespace VL
open PySem PySem.Spec PyProof.Rows L2 HM
section
variable {n : Nat} {m : Nat → Nat → Nat} {O : List Nat} {N : Nat} {a : Nat → Nat → Nat}
/-- O moves the numbers below N -/
structure Mov (m : Nat → Nat → Nat) (O : List Nat) (N : Nat) (a : Nat → Nat → Nat) : Prop where
  lt : ∀ i g, i < N → g ∈ O → a i g < N
  ze : ∀ i, i < N → a i 0 = i
  mu : ∀ i g k, i < N → g ∈ O → k ∈ O → a (a i g) k = a i (m g k)
theorem Mov.back (h : Hse n m) (s : Sub n m O) (M : Mov m O N a) {x y g : Nat} (hx : x < N) (hg : g ∈ O) (e : a x g = y) : ∃ k ∈ O, a y k = x := by
  obtain ⟨k, hk, e1, e2⟩ := s.inv h hg
  exact ⟨k, hk, by rw [← e, M.mu x g k hx hg hk, e1, M.ze x hx]⟩
/-- all that x is moved to -/
def IsPc (O : List Nat) (a : Nat → Nat → Nat) (N : Nat) (A : List Nat) : Prop := ∃ x, x < N ∧ ∀ y, y ∈ A ↔ ∃ g ∈ O, a x g = y
end
/-- a walk of one piece: what is met, what waits -/
structure Pw (O : List Nat) (a : Nat → Nat → Nat) (N x : Nat) (cur ws : List Nat) : Prop where
  nd : cur.Nodup
  x0 : x ∈ cur
  rc : ∀ y ∈ cur, ∃ g ∈ O, a x g = y
  sb : ∀ y ∈ ws, y ∈ cur
  wn : ws.Nodup
  cl : x ∈ ws ∨ ∀ g ∈ O, a x g ∈ cur
/-- whole pieces, all below j in them -/
structure Pd (O : List Nat) (a : Nat → Nat → Nat) (N j : Nat) (T : List (List Nat)) : Prop where
  nd : T.flatten.Nodup
  pc : ∀ A ∈ T, IsPc O a N A
  all : ∀ i, i < j → i ∈ T.flatten
section
variable {n : Nat} {m : Nat → Nat → Nat} {O : List Nat} {N : Nat} {a : Nat → Nat → Nat}
theorem Pd.lt (M : Mov m O N a) {j : Nat} {T : List (List Nat)} (D : Pd O a N j T) : ∀ y ∈ T.flatten, y < N := fun y hy => by
  obtain ⟨A, hA, hyA⟩ := List.mem_flatten.mp hy
  obtain ⟨x, hx, mem⟩ := D.pc A hA
  obtain ⟨g, hg, e⟩ := (mem y).mp hyA
  rw [← e]
  exact M.lt x g hx hg
/-- what is moved to a met one is met -/
theorem Pd.apart (h : Hse n m) (s : Sub n m O) (M : Mov m O N a) {j x g : Nat} {T : List (List Nat)} (D : Pd O a N j T) (hx : x < N) (hg : g ∈ O) (hn : x ∉ T.flatten) : a x g ∉ T.flatten := fun hy => by
  obtain ⟨A, hA, hyA⟩ := List.mem_flatten.mp hy
  obtain ⟨z, hz, mem⟩ := D.pc A hA
  obtain ⟨k, hk, e⟩ := M.back h s hx hg rfl
  obtain ⟨u, hu, e2⟩ := (mem _).mp hyA
  refine hn (List.mem_flatten.mpr ⟨A, hA, (mem x).mpr ⟨m u k, s.mul u hu k hk, ?_⟩⟩)
  rw [← M.mu z u k hz hu hk, e2, e]
theorem flat_snoc1 (T : List (List Nat)) (A : List Nat) : (T ++ [A]).flatten = T.flatten ++ A := by simp
theorem Pd.add (h : Hse n m) (s : Sub n m O) (M : Mov m O N a) {x : Nat} {T : List (List Nat)} {cur : List Nat} (D : Pd O a N x T) (hx : x < N) (hn : x ∉ T.flatten) (W : Pw O a N x cur []) : Pd O a N (x + 1) (T ++ [cur]) := by
  have cl := W.cl.resolve_left (by simp)
  refine ⟨?_, fun A hA => ?_, fun i hi => ?_⟩
  · rw [flat_snoc1, List.nodup_append]
    exact ⟨D.nd, W.nd, fun y hy z hz e => by
      obtain ⟨g, hg, e2⟩ := W.rc z hz
      exact D.apart h s M hx hg hn (by rw [e2, ← e]; exact hy)⟩
  · rcases List.mem_append.mp hA with z | z
    · exact D.pc A z
    · rw [List.mem_singleton.mp z]
      exact ⟨x, hx, fun y => ⟨W.rc y, fun ⟨g, hg, e⟩ => e ▸ cl g hg⟩⟩
  · rw [flat_snoc1, List.mem_append]
    by_cases z : i = x
    · rw [z]; exact .inr W.x0
    · exact .inl (D.all i (by omega))
end
end VL
namespace VL
open PySem PySem.Spec PyProof.Rows L2 HM
end VL
namespace HM
open PySem PySem.Spec PyProof.Rows L2
end HM
namespace VL
open PySem PySem.Spec PyProof.Rows L2 HM
end VL
namespace VL
open PySem PySem.Spec PyProof.Rows L2 HM
/-- the places of the parts of the first j kinds -/
structure Came (n : Nat) (m : Nat → Nat → Nat) (ks : List (List Nat)) (j : Nat) (C : List (List Nat × Nat)) : Prop where
  nd : (C.map (·.1)).Nodup
  mem : ∀ K i, (K, i) ∈ C ↔ i < j ∧ ∃ K0, ks[i]? = some K0 ∧ ∃ g, g < n ∧ Led n m K0 g K
section
variable {n : Nat} {m : Nat → Nat → Nat} {ks : List (List Nat)} {j : Nat} {C : List (List Nat × Nat)}
theorem Came.sub (h : Hse n m) (k : IsKinds n m ks) (c : Came n m ks j C) {K : List Nat} (hK : K ∈ C.map (·.1)) : Sub n m K := by
  obtain ⟨⟨K', i⟩, hq, rfl⟩ := List.mem_map.mp hK
  obtain ⟨_, K0, h0, g, hg, L⟩ := (c.mem _ _).mp hq
  exact L.sub h (k.sub K0 (List.mem_of_getElem? h0)) hg
/-- a part of one kind is of no other one -/
theorem kind_one (h : Hse n m) (k : IsKinds n m ks) {i1 i2 : Nat} {K1 K2 K : List Nat} {g1 g2 : Nat} (h1 : ks[i1]? = some K1) (h2 : ks[i2]? = some K2) (hg1 : g1 < n) (hg2 : g2 < n) (L1 : Led n m K1 g1 K) (L2 : Led n m K2 g2 K) : i1 = i2 := by
  have s1 := k.sub K1 (List.mem_of_getElem? h1)
  have s2 := k.sub K2 (List.mem_of_getElem? h2)
  obtain ⟨b, hb, e1, e2⟩ := h.inv2 hg2
  have := k.one K1 (List.mem_of_getElem? h1) K2 (List.mem_of_getElem? h2) (m g1 b) (h.lt g1 b hg1 hb) (L1.then_ h s1 hg1 hb (L2.back h s2 hg2 hb e1))
  subst this
  obtain ⟨a1, a2⟩ := List.getElem?_eq_some_iff.mp h1
  obtain ⟨b1, b2⟩ := List.getElem?_eq_some_iff.mp h2
  exact (List.getElem_inj (i := i1) (j := i2) (h₀ := a1) (h₁ := b1) k.nd).mp (by rw [a2, b2])
theorem Came.apart (h : Hse n m) (k : IsKinds n m ks) (c : Came n m ks j C) {K0 K : List Nat} {g : Nat} (h0 : ks[j]? = some K0) (hg : g < n) (L : Led n m K0 g K) : K ∉ C.map (·.1) := fun hK => by
  obtain ⟨⟨K', i⟩, hq, rfl⟩ := List.mem_map.mp hK
  obtain ⟨hi, K1, h1, g1, hg1, L1⟩ := (c.mem _ _).mp hq
  have := kind_one h k h1 h0 hg1 hg L1 L
  omega
theorem Came.add (h : Hse n m) (k : IsKinds n m ks) (c : Came n m ks j C) {K0 : List Nat} {O : List (List Nat)} (h0 : ks[j]? = some K0) (nd : O.Nodup) (mem : ∀ K, K ∈ O ↔ ∃ g, g < n ∧ Led n m K0 g K) : Came n m ks (j + 1) (C ++ O.map fun K => (K, j)) := by
  refine ⟨?_, fun K i => ?_⟩
  · rw [List.map_append, List.map_map]
    have e : (O.map ((fun q : List Nat × Nat => q.1) ∘ fun K => (K, j))) = O := List.map_id' O
    rw [e, List.nodup_append]
    exact ⟨c.nd, nd, fun a ha b hb e => by
      obtain ⟨g, hg, L⟩ := (mem b).mp hb
      exact c.apart h k h0 hg L (e ▸ ha)⟩
  · rw [List.mem_append, c.mem, List.mem_map]
    constructor
    · rintro (⟨h1, h2⟩ | ⟨K', h1, e⟩)
      · exact ⟨by omega, h2⟩
      · injection e with e1 e2
        subst e1 e2
        exact ⟨by omega, K0, h0, (mem K').mp h1⟩
    · rintro ⟨h1, K1, h2, h3⟩
      by_cases z : i = j
      · subst z
        rw [h0] at h2
        cases h2
        exact .inr ⟨K, (mem K).mpr h3, rfl⟩
      · exact .inl ⟨by omega, K1, h2, h3⟩
theorem Came.all (h : Hse n m) (k : IsKinds n m ks) (c : Came n m ks ks.length C) (K : List Nat) : K ∈ C.map (·.1) ↔ Sub n m K := by
  refine ⟨c.sub h k, fun s => ?_⟩
  obtain ⟨k1, hk1, g, hg, L⟩ := k.all K s
  obtain ⟨b, hb, e1, e2⟩ := h.inv2 hg
  obtain ⟨i, hi, e⟩ := List.getElem_of_mem hk1
  exact List.mem_map.mpr ⟨(K, i), (c.mem K i).mpr ⟨hi, k1, by rw [List.getElem?_eq_getElem hi, e], b, hb, L.back h s hg hb e1⟩, rfl⟩
end
end VL
namespace HM
open PySem PySem.Spec PyProof.Rows L2
end HM
namespace VL
open PySem PySem.Spec PyProof.Rows L2 HM
section
variable {c : Fc} {X : Cx} {o e f : Expr} {pos apos cpos : Pos}
theorem PrK.ints {F : Hp} : ∀ {ks : List (Key × V)} {kvs : List (Key × Dt)} {is : List Int}, PrK F ks kvs → kvs.map (·.2) = is.map Dt.int → ks.map (·.2) = is.map V.int
  | _, _, [], .nil, _ => rfl
  | _, _, _ :: _, .nil, e => by cases e
  | _, _, [], .cons _ _, e => by cases e
  | _, _, i :: is, .cons h t, e => by
    rw [List.map_cons, List.map_cons] at e
    injection e with e1 e2
    have h2 := h.2
    rw [e1] at h2
    rw [List.map_cons, List.map_cons, h2.int_inv, PrK.ints t e2]
end
end VL
namespace VL
open PySem PySem.Spec PyProof.Rows L2 HM
/-- a is a new list of numbers, not still -/
structure NewL (am : Am) (H F' H' : Hp) (a : Addr) (x : List Int) : Prop where
  f : F' a = none
  h : H a = none
  s : ¬ am.sp a
  o : H' a = some (.lst (x.map V.int))
structure VEnP where
  nx : Ev → Nat → Prop
  rt : List Int → List Int → Nat → Prop
abbrev VTP := VEnP → Ev → Nat → Prop
structure EnP (c : Fc) (F : Hp) (V : VEnP) (D : Ends) : Prop where
  nx : ∀ F' H' σ' env' n', Rel c F' H' σ' env' n' → Up F F' → V.nx env' n' → D.nx σ' H'
  rt : ∀ F' H' σ' env' n' t a b x y, Rel c F' H' σ' env' n' → Up F F' → F' t = some (.tup [.ref a, .ref b]) → a ≠ b → NewL c.am c.H0 F' H' a x → NewL c.am c.H0 F' H' b y → V.rt x y n' → D.rt (.ref t) H'
def sP (c : Fc) (ts : VTP) : TS := fun D σ H => ∃ F env n V, Rel c F H σ env n ∧ ts V env n ∧ EnP c F V D
section
variable {c : Fc} {X : Cx} {st : Stmt} {rest body : List Stmt} {pos : Pos} {t u : VTP}
theorem EnP.up {F F' : Hp} {V : VEnP} {D : Ends} (h : EnP c F V D) (w : Up F F') : EnP c F' V D :=
  ⟨fun F2 H' σ' env' n' r z => h.nx F2 H' σ' env' n' r (w.trans z), fun F2 H' σ' env' n' t a b x y r z => h.rt F2 H' σ' env' n' t a b x y r (w.trans z)⟩
end
end VL
namespace VL
open PySem PySem.Spec PyProof.Rows L2 HM
section
variable {c : Fc} {X : Cx} {a b e : Expr} {es : List Expr} {ta tb te : VTE} {tas : VTA} {pos : Pos} {F H : Hp} {σ : L2.St} {env : Ev} {n : Nat}
/-- row i stands beside -/
structure MatAt (c : Fc) (i : Nat) (l : List Int) (q : Addr) : Prop where
  ex : ∃ Hb m A r, c.H0 = mat Hb m A r ∧ MatOk c.am c.F0 Hb m A ∧ i < m ∧ r i = l ∧ A i = q
theorem MatAt.at {i : Nat} {l : List Int} {q : Addr} (h : MatAt c i l q) (r : Rel c F H σ env n) : H q = some (.lst (l.map V.int)) ∧ F q = none ∧ ¬ c.am.sp q := by
  obtain ⟨Hb, m, A, rr, e, mo, hi, rfl, rfl⟩ := h.ex
  have h1 : c.H0 (A i) = some (.lst ((rr i).map V.int)) := by rw [e]; exact mat_at mo.inj hi
  exact ⟨r.keep0 _ _ h1 (mo.ns i hi), r.out0 _ _ h1 (fun _ z => by cases z) (mo.f0 i hi), mo.ns i hi⟩
end
end VL
namespace VL
open PySem PySem.Spec PyProof.Rows L2 HM
section
variable {am : Am} {F0 H0 H1 F H : Hp} {σ : L2.St} {env : Ev} {n : Nat} {X : Cx} {body : List Stmt} {t : XTS}
theorem MatOk.up {m : Nat} {A : Nat → Addr} {r : Nat → List Int} (mo : MatOk am F0 H0 m A) : Up H0 (mat H0 m A r) := fun a o e => by
  rw [mat_out fun i hi z => by rw [← z, mo.h0 i hi] at e; cases e]
  exact e
end
end VL
namespace VL
open PySem PySem.Spec PyProof.Rows L2 HM
structure VEnN where
  nx : Ev → Nat → Prop
  rt : Con → Nat → Prop
abbrev VTNs := VEnN → Ev → Nat → Prop
structure EnN (c : Fc) (F : Hp) (V : VEnN) (D : Ends) : Prop where
  nx : ∀ F' H' σ' env' n', Rel c F' H' σ' env' n' → Up F F' → V.nx env' n' → D.nx σ' H'
  rt : ∀ F' H' σ' env' n' a o k, Rel c F' H' σ' env' n' → Up F F' → F' a = none → c.H0 a = none → ¬ c.am.sp a → H' a = some o → OwOk F' a o k → V.rt k n' → D.rt (.ref a) H'
section
variable {c : Fc} {X : Cx} {st : Stmt} {rest body : List Stmt} {pos : Pos} {t u : VTNs} {e : Expr} {tn : VTN}
theorem EnN.up {F F' : Hp} {V : VEnN} {D : Ends} (h : EnN c F V D) (w : Up F F') : EnN c F' V D :=
  ⟨fun F2 H' σ' env' n' r z => h.nx F2 H' σ' env' n' r (w.trans z), fun F2 H' σ' env' n' a o k r z => h.rt F2 H' σ' env' n' a o k r (w.trans z)⟩
end
def hid (env : Ev) : Ev := env.map fun s => match s with
  | .ow _ => .no
  | s => s
end VL
namespace HM
open PySem PySem.Spec PyProof.Rows L2
end HM
namespace VL
open PySem PySem.Spec PyProof.Rows L2 HM
end VL
namespace VL
open PySem PySem.Spec PyProof.Rows L2 HM
section
variable {c : Fc} {X : Cx} {e : Expr} {tb : VTE}
theorem rps_tu {F : Hp} : ∀ {L : List (Addr × List Int)}, (∀ p ∈ L, F p.1 = some (.tup (p.2.map V.int))) → Rps F (L.map fun q => V.ref q.1) ((L.map (·.2)).map tuD)
  | [], _ => .nil
  | p :: L, h => .cons (.tup (h p List.mem_cons_self) (Rps.ints _)) (rps_tu fun q hq => h q (List.mem_cons_of_mem _ hq))
end
end VL
namespace VL
open PySem PySem.Spec PyProof.Rows L2 HM
section
variable {n : Nat} {m : Nat → Nat → Nat} {gs L H : List Nat}
theorem rch_in (s : Sub n m L) (hg : ∀ g ∈ gs, g ∈ L) : ∀ {x : Nat}, Rch m gs x → x ∈ L
  | _, .zero => s.ze
  | _, .step a g => s.mul _ (rch_in s hg a) _ (hg _ g)
theorem IsPt.zero (m : Nat → Nat → Nat) : IsPt m [] [0] := ⟨by simp, fun x => ⟨fun h => by rw [List.mem_singleton.mp h]; exact .zero, fun h => by
  cases h with
  | zero => simp
  | step _ g => cases g⟩⟩
/-- few numbers on the way through a part -/
structure FewOn (m : Nat → Nat → Nat) (L : List Nat) (j : Nat) (gs H : List Nat) : Prop where
  few : gs.length ≤ j
  sub : ∀ g ∈ gs, g ∈ L
  pt : IsPt m gs H
  got : ∀ x ∈ L.take j, x ∈ H
theorem FewOn.start (m : Nat → Nat → Nat) (L : List Nat) : FewOn m L 0 [] [0] := ⟨Nat.zero_le _, fun g h => (by cases h), IsPt.zero m, fun x h => by rw [List.take_zero] at h; cases h⟩
theorem FewOn.same {j x : Nat} (F : FewOn m L j gs H) (hx : L[j]? = some x) (h : x ∈ H) : FewOn m L (j + 1) gs H := ⟨Nat.le_succ_of_le F.few, F.sub, F.pt, fun y hy => by
  rw [take_snoc' hx] at hy
  rcases List.mem_append.mp hy with hy | hy
  · exact F.got y hy
  · rw [List.mem_singleton.mp hy]; exact h⟩
theorem FewOn.all (s : Sub n m L) (F : FewOn m L L.length gs H) : IsPt m gs L := by
  have : H = L := rising_eq F.pt.up s.up fun x => ⟨fun hx => rch_in s F.sub ((F.pt.mem x).mp hx), fun hx => F.got x (by rw [List.take_length]; exact hx)⟩
  rw [← this]
  exact F.pt
end
end VL
namespace VL
open PySem PySem.Spec PyProof.Rows L2 HM
end VL
namespace VL
open PySem PySem.Spec PyProof.Rows L2 HM
def m1 : Nat → Nat → Nat := fun _ _ => 0
end VL
namespace HM
open PySem PySem.Spec PyProof.Rows L2
end HM
namespace VL
open PySem PySem.Spec PyProof.Rows L2 HM
end VL
namespace VL
open PySem PySem.Spec PyProof.Rows L2 HM
end VL
namespace HG
open PySem PySem.Spec PyProof.Rows L2 HM GenW
end HG
namespace HG
open PySem PySem.Spec PyProof.Rows L2 HM GenW
end HG
namespace VL
open PySem PySem.Spec PyProof.Rows L2 HM HG
end VL
namespace VL
open PySem PySem.Spec PyProof.Rows L2 HM
def pk3 (b : Addr) (t l : Int) : List (Key × V) := [(.inr "cells", .ref b), (.inr "at", .int t), (.inr "left", .int l)]
structure PenB (K : PySem.W.Frag) (am : Am) (p : Addr) : Prop where
  sp : am.sp p
  rd : ∀ {n H}, am.ok n H → ∃ (b : Addr) (ns : List Int) (t l : Int), H p = some (.dK (pk3 b t l)) ∧ H b = some (.lst (ns.map V.int)) ∧ ns.length ≤ 63 ∧ 0 ≤ t ∧ 0 ≤ l
  wr : ∀ {n H b t l}, am.ok n H → H p = some (.dK (pk3 b t l)) → ∀ (t' l' : Int), 0 ≤ t' → 0 ≤ l' → am.ok n (upd H p (.dK (pk3 b t' l')))
theorem PenB.out {K : PySem.W.Frag} {am : Am} {p b : Addr} (h : PenB K am p) {F H : Hp} {n : Nat} {t l : Int} (u : Up F H) (hs : ∀ a, am.sp a → F a = none) (ha : am.ok n H) (hp : H p = some (.dK (pk3 b t l))) {t' l' : Int} (h1 : 0 ≤ t') (h2 : 0 ≤ l') :
    Out am F H F (upd H p (.dK (pk3 b t' l'))) n :=
  ⟨Up.refl F, fun c o e => by rw [upd_ne (fun (z : c = p) => by rw [z, hs p h.sp] at e; cases e)]; exact u c o e, hs, fun _ _ _ _ e => e, fun c o e nb => by rw [upd_ne (fun (z : c = p) => nb (by rw [z]; exact h.sp))]; exact e, h.wr ha hp t' l' h1 h2⟩
end VL
namespace VL
open PySem PySem.Spec PyProof.Rows L2 HM
end VL
namespace VL
open PySem PySem.Spec PyProof.Rows L2 HM
end VL
namespace VL
open PySem PySem.Spec PyProof.Rows L2 HM
/-- all that comes of some, breadth first, at most so many steps -/
def grow (ts : List (List Nat)) : Nat → List (List Nat) → List (List Nat)
  | 0, l => l
  | k + 1, l => grow ts k (ts.foldl (fun acc g => l.foldl (fun acc x => if (thn x g) ∈ acc then acc else acc ++ [thn x g]) acc) l)
def closedB (m : Nat) (ts : List (List Nat)) (L : List (List Nat)) : Bool := decide (stay m ∈ L) && L.all fun x => ts.all fun g => decide (thn x g ∈ L)
theorem few_by {m : Nat} {ts L : List (List Nat)} (h : closedB m ts L = true) : ∀ l : List (List Nat), l.Nodup → (∀ x ∈ l, GR m ts x) → l.length ≤ L.length := fun l nd hl => by
  unfold closedB at h
  rw [Bool.and_eq_true, decide_eq_true_iff, List.all_eq_true] at h
  have all : ∀ x, GR m ts x → x ∈ L := fun x g => by
    induction g with
    | stay => exact h.1
    | step _ hg ih => exact of_decide_eq_true (List.all_eq_true.mp (h.2 _ ih) _ hg)
  exact List.Nodup.length_le_of_subset nd fun x hx => all x (hl x hx)
end VL
namespace VL
open PySem PySem.Spec PyProof.Rows L2 HM
end VL
namespace VL
open PySem PySem.Spec PyProof.Rows L2 HM
/-- the numbers below n move the things below N -/
structure Act (n : Nat) (m : Nat → Nat → Nat) (N : Nat) (a : Nat → Nat → Nat) : Prop where
  lt : ∀ x g, x < N → g < n → a x g < N
  ze : ∀ x, x < N → a x 0 = x
  mu : ∀ x g k, x < N → g < n → k < n → a (a x g) k = a x (m g k)
def orb (n N : Nat) (a : Nat → Nat → Nat) (x : Nat) : List Nat := (List.range N).filter fun y => (List.range n).any fun g => decide (a x g = y)
section
variable {n : Nat} {m : Nat → Nat → Nat} {N : Nat} {a : Nat → Nat → Nat}
theorem Act.back (h : Hse n m) (A : Act n m N a) {x g : Nat} (hx : x < N) (hg : g < n) : ∃ k, k < n ∧ m g k = 0 ∧ m k g = 0 ∧ a (a x g) k = x := by
  obtain ⟨k, hk, e1, e2⟩ := h.inv2 hg
  exact ⟨k, hk, e1, e2, by rw [A.mu x g k hx hg hk, e1, A.ze x hx]⟩
end
section
variable {n : Nat} {m : Nat → Nat → Nat} {N : Nat} {a : Nat → Nat → Nat} {ks : List (List Nat)} {L K : List Nat}
open Classical in
/-- the number of a part's kind -/
noncomputable def kdx (n : Nat) (m : Nat → Nat → Nat) (ks : List (List Nat)) (L : List Nat) : Nat := ks.findIdx fun K => decide (∃ g, g < n ∧ Led n m L g K)
theorem kdx_is (h : Hse n m) (k : IsKinds n m ks) (s : Sub n m L) : ∃ K, ks[kdx n m ks L]? = some K ∧ ∃ g, g < n ∧ Led n m L g K := by
  classical
  obtain ⟨K, hK, g, hg, e⟩ := k.all L s
  have hl : kdx n m ks L < ks.length := List.findIdx_lt_length_of_exists ⟨K, hK, decide_eq_true ⟨g, hg, e⟩⟩
  refine ⟨ks[kdx n m ks L], List.getElem?_eq_getElem hl, ?_⟩
  have := List.findIdx_getElem (xs := ks) (p := fun K => decide (∃ g, g < n ∧ Led n m L g K)) (w := hl)
  exact of_decide_eq_true this
theorem kdx_eq (h : Hse n m) (k : IsKinds n m ks) (s : Sub n m L) {i : Nat} (hi : ks[i]? = some K) {g : Nat} (hg : g < n) (e : Led n m L g K) : kdx n m ks L = i := by
  obtain ⟨K2, h2, g2, hg2, e2⟩ := kdx_is h k s
  obtain ⟨b, hb, e3, e4⟩ := h.inv2 hg
  have hK := List.mem_of_getElem? hi
  have l1 : Led n m K b L := Led.back h s hg hb e3 e
  have l2 := Led.then_ h (k.sub K hK) hb hg2 l1 e2
  have := k.one K hK K2 (List.mem_of_getElem? h2) _ (h.lt b g2 hb hg2) l2
  subst this
  obtain ⟨i1, i2⟩ := List.getElem?_eq_some_iff.mp hi
  obtain ⟨j1, j2⟩ := List.getElem?_eq_some_iff.mp h2
  exact (List.getElem_inj (h₀ := j1) (h₁ := i1) k.nd).mp (j2.trans i2.symm)
theorem tL_some {j : Nat} (h : j < ks.length) : ks[j]? = some (tL ks j) := by
  unfold tL
  rw [List.getD_eq_getElem?_getD, List.getElem?_eq_getElem h]
  rfl
end
end VL
namespace VL
open PySem PySem.Spec PyProof.Rows L2 HM
section
variable {n : Nat} {m : Nat → Nat → Nat} {A ks : List (List Nat)} {j : Nat} {K : List Nat} {C : List (List Nat × Nat)}
theorem Came.one (h : Hse n m) (k : IsKinds n m ks) (c : Came n m ks ks.length C) {i : Nat} (hi : (K, i) ∈ C) : i = VL.kdx n m ks K := by
  obtain ⟨_, K0, h0, g, hg, L⟩ := (c.mem K i).mp hi
  have s0 := k.sub K0 (List.mem_of_getElem? h0)
  obtain ⟨b, hb, e1, e2⟩ := h.inv2 hg
  exact (kdx_eq h k (L.sub h s0 hg) h0 hb (L.back h s0 hg hb e1)).symm
end
end VL
namespace HM
open PySem PySem.Spec PyProof.Rows L2
end HM
namespace VL
open PySem PySem.Spec PyProof.Rows L2 HM
def dicD (kvs : List (List Key × Dt)) : Dt := .dic (kvs.map (·.1)) (kvs.map (·.2))
theorem prk_of {κ : Type} {F : Hp} : ∀ {a : List (κ × V)} {b : List (κ × Dt)}, a.map (·.1) = b.map (·.1) → Rps F (a.map (·.2)) (b.map (·.2)) → PrK F a b
  | [], [], _, _ => .nil
  | x :: a, y :: b, e, h => by
    rw [List.map_cons, List.map_cons] at e
    injection e with e1 e2
    rw [List.map_cons, List.map_cons] at h
    cases h with | cons h t => exact .cons ⟨e1, h⟩ (prk_of e2 t)
  | [], _ :: _, e, _ => by cases e
  | _ :: _, [], e, _ => by cases e
theorem Rp.dic_inv {F : Hp} {v : V} {kvs : List (List Key × Dt)} (h : Rp F v (dicD kvs)) : ∃ a od ks, v = .ref a ∧ F a = some (.frz od (.dT ks)) ∧ PrK F ks kvs := by
  unfold dicD at h
  cases h with | dic h e t => exact ⟨_, _, _, rfl, h, prk_of e t⟩
section
variable {c : Fc} {X : Cx} {a b e o : Expr} {te ta tb : VTE} {pos apos p : Pos}
/-- slot i holds a still dict: what stands at k -/
def hasF (env : Ev) (i : Nat) (d : Dt) (r : Option Dt) : Prop := ∃ kvs k, env[i]? = some (.fz (dicD kvs)) ∧ d = tupD k ∧ r = valD kvs k
theorem hasF.get {F H : Hp} {σ : L2.St} {env : Ev} {n i : Nat} {y : V} {d : Dt} {r : Option Dt} (rr : Rel c F H σ env n) (ry : Rp F y d) (h : hasF env i d r) : ∃ a v, σ[i]? = some (some (.ref a)) ∧ DGet H a y v ∧ ((v = none ∧ r = none) ∨ ∃ x z, v = some x ∧ r = some z ∧ Rp F x z) := by
  obtain ⟨kvs, k, e, rfl, rfl⟩ := h
  obtain ⟨v, g1, rv⟩ := rr.sl i _ e
  obtain ⟨a, od, ks, rfl, hF, pr⟩ := rv.dic_inv
  obtain ⟨bb, rfl, hb⟩ := ry.tupk
  refine ⟨a, valV ks k, g1, .inr ⟨ks, k, bb, .inr ⟨od, rr.sub _ _ hF⟩, rfl, rr.sub _ _ hb, rfl⟩, ?_⟩
  rcases pr.val (k := k) with ⟨h1, h2⟩ | ⟨x, z, h1, h2, h3⟩
  · exact .inl ⟨h1, h2⟩
  · exact .inr ⟨x, z, h1, h2, h3⟩
end
end VL
namespace HM
open PySem PySem.Spec PyProof.Rows L2 VL
end HM
namespace VL
open PySem PySem.Spec PyProof.Rows L2 HM
end VL
namespace HM
open PySem PySem.Spec PyProof.Rows L2
end HM
namespace VL
open PySem PySem.Spec PyProof.Rows L2 HM
end VL
namespace VL
open PySem PySem.Spec PyProof.Rows L2 HM
section
variable {n : Nat} {m : Nat → Nat → Nat} {F : List (List Nat × List Nat)} {ws S : List (List Nat)} {K L gs : List Nat} {j : Nat}
/-- parts found, with numbers that they come of; ws wait, K is looked at, its numbers below j are done -/
structure PSr (n : Nat) (m : Nat → Nat → Nat) (F : List (List Nat × List Nat)) (ws : List (List Nat)) : Prop where
  nd : (F.map (·.1)).Nodup
  g : ∀ q ∈ F, IsPt m q.2 q.1 ∧ (∀ g ∈ q.2, g < n) ∧ q.2.length + 1 ≤ q.1.length
  ze : [0] ∈ F.map (·.1)
  wn : ws.Nodup
  sb : ∀ K ∈ ws, K ∈ F.map (·.1)
theorem PSr.subs (h : Hse n m) (P : PSr n m F ws) : ∀ K ∈ F.map (·.1), Sub n m K := fun K hK => by
  obtain ⟨q, hq, rfl⟩ := List.mem_map.mp hK
  obtain ⟨h1, h2, _⟩ := P.g q hq
  exact h1.sub h h2
theorem PSr.few (h : Hse n m) (h60 : n ≤ 60) (P : PSr n m F ws) : F.length ≤ 2400 ∧ ws.length ≤ 2400 := by
  have h1 := few_subs h h60 P.nd (P.subs h)
  have h2 := List.Nodup.length_le_of_subset P.wn fun x hx => P.sb x hx
  rw [List.length_map] at h1 h2
  omega
theorem PSr.pop (P : PSr n m F (ws ++ [K])) : PSr n m F ws := ⟨P.nd, P.g, P.ze, (List.nodup_append.mp P.wn).1, fun x hx => P.sb x (List.mem_append_left _ hx)⟩
theorem PSr.add (h : Hse n m) (P : PSr n m F ws) (hK : (K, gs) ∈ F) {y : Nat} (hy : y < n) (hn : y ∉ K) (pl : IsPt m (gs ++ [y]) L) (hL : L ∉ F.map (·.1)) : PSr n m (F ++ [(L, gs ++ [y])]) (ws ++ [L]) := by
  obtain ⟨p1, p2, p3⟩ := P.g _ hK
  have hgs : ∀ g ∈ gs ++ [y], g < n := fun g hg => by
    rcases List.mem_append.mp hg with hg | hg
    · exact p2 g hg
    · rw [List.mem_singleton.mp hg]; exact hy
  have sK := p1.sub h p2
  have sub : ∀ x ∈ K, x ∈ L := fun x hx => (pl.mem x).mpr (((p1.mem x).mp hx).mono fun g hg => List.mem_append_left _ hg)
  have hyL : y ∈ L := (pl.mem y).mpr (rch_one h (by simp) hy)
  have hlen : K.length + 1 ≤ L.length := by
    have := len_le_of_sub (k := y :: K) (l := L) (List.nodup_cons.mpr ⟨hn, sK.nd⟩) fun x hx => by
      rcases List.mem_cons.mp hx with rfl | hx
      · exact hyL
      · exact sub x hx
    rwa [List.length_cons] at this
  refine ⟨?_, fun q hq => ?_, by rw [List.map_append]; exact List.mem_append_left _ P.ze, ?_, fun x hx => ?_⟩
  · rw [List.map_append, List.nodup_append]
    exact ⟨P.nd, by simp, fun a ha b hb e => hL (by rw [List.map_cons, List.map_nil, List.mem_singleton] at hb; have hb : b = L := hb; rw [← hb, ← e]; exact ha)⟩
  · rcases List.mem_append.mp hq with hq | hq
    · exact P.g q hq
    · rw [List.mem_singleton.mp hq]
      exact ⟨pl, hgs, by show (gs ++ [y]).length + 1 ≤ L.length; rw [List.length_append, List.length_singleton]; have p3 : gs.length + 1 ≤ K.length := p3; omega⟩
  · rw [List.nodup_append]
    exact ⟨P.wn, by simp, fun a ha b hb e => hL (by rw [List.mem_singleton] at hb; rw [← hb, ← e]; exact P.sb a ha)⟩
  · rw [List.map_append]
    rcases List.mem_append.mp hx with hx | hx
    · exact List.mem_append_left _ (P.sb x hx)
    · rw [List.mem_singleton.mp hx]; simp
theorem map_tL {α : Type} (f : List Nat → α) (L : List (List Nat)) : (List.range L.length).map (fun j => f (tL L j)) = L.map f := by
  refine List.ext_getElem? fun j => ?_
  rw [List.getElem?_map, List.getElem?_map]
  by_cases hj : j < L.length
  · rw [List.getElem?_range hj, tL_some hj]; rfl
  · rw [List.getElem?_eq_none (by rw [List.length_range]; omega), List.getElem?_eq_none (by omega)]; rfl
end
end VL
namespace VL
open PySem PySem.Spec PyProof.Rows L2 HM
end VL
namespace VL
open PySem PySem.Spec PyProof.Rows L2 HM
end VL
namespace VL
open PySem PySem.Spec PyProof.Rows L2 HM
end VL
namespace VL
open PySem PySem.Spec PyProof.Rows L2 HM
end VL
namespace HM
open PySem PySem.Spec PyProof.Rows L2 PpSet
end HM
namespace VL
open PySem PySem.Spec PyProof.Rows L2 HM
end VL
namespace VL
open PySem PySem.Spec PyProof.Rows L2 HM
end VL
namespace VL
open PySem PySem.Spec PyProof.Rows L2 HM
end VL
namespace HM
open PySem PySem.Spec PyProof.Rows L2
end HM
namespace VL
open PySem PySem.Spec PyProof.Rows L2 HM
end VL
namespace VL
open PySem PySem.Spec PyProof.Rows L2 HM
end VL
namespace VL
open PySem PySem.Spec PyProof.Rows L2 HM
end VL
namespace VL
open PySem PySem.Spec PyProof.Rows L2 HM
end VL
namespace VL
open PySem PySem.Spec PyProof.Rows L2 HM
end VL
namespace VL
open PySem PySem.Spec PyProof.Rows L2 HM
end VL
namespace VL
open PySem PySem.Spec PyProof.Rows L2 HM
end VL
namespace VL
open PySem PySem.Spec PyProof.Rows L2 HM
mutual
theorem py_flat : ∀ d : Dt, (py d).hasDict = false
  | .non => by simp [py, PyData.hasDict]
  | .bl b => by simp [py, PyData.hasDict]
  | .int b => by simp [py, PyData.hasDict]
  | .str b => by simp [py, PyData.hasDict]
  | .ty b => by simp [py, PyData.hasDict]
  | .obj b => by simp [py, PyData.hasDict]
  | .dic a b => by simp [py, PyData.hasDict]
  | .dik a b => by simp [py, PyData.hasDict]
  | .tuP ds => by
    have := pys_flat ds
    simpa [py, PyData.hasDict] using this
  | .lst ds => by
    have := pys_flat ds
    simpa [py, PyData.hasDict] using this
  | .tup ds => by
    have := pys_flat ds
    simpa [py, PyData.hasDict] using this
theorem pys_flat : ∀ ds : List Dt, PyData.hasDictAll (pys ds) = false
  | [] => rfl
  | d :: ds => by
    show ((py d).hasDict || PyData.hasDictAll (pys ds)) = false
    rw [py_flat d, pys_flat ds]
    rfl
end
/-- x is None -/
def isNonD : Dt → Bool
  | .non => true
  | _ => false
def dIsN : R2D := fun x y Q => y = .non ∧ Q (.bl (isNonD x))
theorem lft_isN : Lft2 (fun x y H Q => y = V.non ∧ Q (.bl (decide (x = .non))) H) dIsN := fun F H x y d1 d2 Q R u p1 p2 ⟨e, q⟩ k => by
  subst e
  refine ⟨p2.non_inv, ?_⟩
  have : decide (x = V.non) = isNonD d1 := by
    cases p1 with
    | non => rfl
    | _ => exact decide_eq_false fun z => by cases z
  rw [this]
  exact k _ _ (.bl _) q
end VL
namespace HM
open PySem PySem.Spec PyProof.Rows L2
section
variable {X : Cx}
theorem flat_ints (ys : List Int) : (ys.map V.int).all flatV = true := by
  rw [List.all_eq_true]
  intro v hv
  obtain ⟨i, _, rfl⟩ := List.mem_map.mp hv
  rfl
/-- t.index(k), whole numbers: the first place -/
theorem mt_tupIx : MtR X "tuple.index" (fun x xs H Q => ∃ (p : Addr) (ys : List Int) (z : Int) (j : Nat), x = .ref p ∧ xs = [.int z] ∧ SqT X.K H p (ys.map V.int) ∧ ys[j]? = some z ∧ (∀ m, m < j → ys[m]? ≠ some z) ∧ Q (.int (j : Nat)) H) := by
  intro pins s σ H x xs v us Q I rx rs h
  obtain ⟨p, ys, z, j, rfl, rfl, hq, hy, hno, q⟩ := h
  cases rx
  obtain ⟨u, rfl, t, rfl⟩ := vals1 rs
  obtain ⟨its, rv, pl, _⟩ := I.tuple hq
  obtain ⟨⟨cls, dd, dt, sl⟩, ho, hcl, ep, hdt⟩ := pl
  simp only at hcl hdt
  subst hcl hdt
  have len : its.toArray.size = ys.length := by
    have := rv.length
    rw [List.length_map] at this
    rw [List.size_toArray, this]
  have got : ∀ (i : Nat) (hi : i < its.toArray.size), ∃ t', its.toArray[i] = Value.int (ys[i]'(by omega)) t' := fun i hi => by
    have hi' : i < ys.length := by omega
    obtain ⟨w, h1, h2⟩ := rv.get (i := i) (x := V.int ys[i]) (by rw [List.getElem?_map, List.getElem?_eq_getElem hi']; rfl)
    obtain ⟨t', e⟩ := (h2 : ∃ t', w = Value.int ys[i] t')
    have e2 := (List.getElem?_eq_some_iff.mp h1).2
    exact ⟨t', by rw [← e, ← e2]; simp⟩
  have lt : j < ys.length := (List.getElem?_eq_some_iff.mp hy).1
  have at_j : ys[j] = z := (List.getElem?_eq_some_iff.mp hy).2
  refine call_meets PySem.F.slot_tuple_index ⟨_, ho, rfl⟩ PySem.F.entry_tuple_index (PySem.F.args_tuple_index_2 _ _) (TI.tuple_indexAt p its.toArray ep dd sl (.int z t) (eqU (.int z)) j (by omega) ?_ ?_)
    ⟨ho, fun w hw => mem_eqAt (x := .int z) ⟨t, rfl⟩ rfl rv (flat_ints ys) w (by simpa using hw), ⟨.int (j : Nat), H, I.tok _, ⟨_, rfl⟩, q⟩⟩
  · obtain ⟨t', e⟩ := got j (by omega)
    rw [e, at_j]
    show (z == z) = true
    exact beq_self_eq_true z
  · intro i hi hij
    obtain ⟨t', e⟩ := got i hi
    rw [e]
    show ((ys[i]'(by omega)) == z) = false
    refine beq_eq_false_iff_ne.mpr fun e2 => hno i hij ?_
    rw [List.getElem?_eq_getElem (by omega), e2]
end
end HM
namespace VL
open PySem PySem.Spec PyProof.Rows L2 HM
end VL
namespace VL
open PySem PySem.Spec PyProof.Rows L2 HM
theorem Rp.tuP_inv {F : Hp} {v : V} {ds : List Dt} (h : Rp F v (.tuP ds)) : ∃ a xs, v = .ref a ∧ HM.TF F a xs ∧ Rps F xs ds := by
  cases h with
  | tuP h t => exact ⟨_, _, rfl, h, t⟩
def vTupP (te : VTE) : VTE := fun env n Q => te env n fun d env1 n1 => ∃ ds, d = .lst ds ∧ Q (.tuP ds) env1 n1
def vIndexP (i : Nat) (tb : VTE) : VTE := fun env n Q => (∃ ds, env[i]? = some (.fz (.tuP ds))) ∧ vCons tb vNil env n fun as env2 n2 => ∃ (ns : List Int) (k : Int) (j : Nat), env2[i]? = some (.fz (.tuP (ns.map Dt.int))) ∧ as = [.int k] ∧ ns[j]? = some k ∧ (∀ i, i < j → ns[i]? ≠ some k) ∧ Q (nD j) env2 n2
section
variable {X : Cx} {c : Fc} {a o e : Expr} {es : List Expr} {te tb : VTE} {apos cpos pos p : Pos}
theorem ve_tupP (hg : Gl X "tuple") (hm : X.mg "tuple" = none) (ha : PE X a (tOf c te)) (na : starEach [a] X.env = (false, eval a X.env) :: starEach [] X.env := by rfl) : PE X (.Call (.Name "tuple" p) [a] [] pos) (tOf c (vTupP te)) :=
  PE.imp (pe_tupOfF hg hm ha na) fun σ H R ⟨F, env, n, Q, r, q, k⟩ => ⟨F, env, n, _, r, q, fun v H' F' d env' n' r' w rp qd => by
    obtain ⟨ds, rfl, qd⟩ := qd
    obtain ⟨a, xs, rfl, hF, rx⟩ := rp.lst_inv
    refine ⟨a, xs, rfl, .inl (.inl (r'.sub _ _ hF)), fun p o np hd => ?_⟩
    obtain ⟨_, _, nf⟩ := r'.new0 np
    exact k _ _ (upd F' p (.frz o (.tup xs))) _ env' n' (r'.layF np _) (w.trans (up_lay nf)) (.tuP ⟨o, hd, upd_same⟩ (rx.up (up_lay nf))) qd⟩
theorem ve_indexP {i : Nat} (ha : PE X o (tVar i)) (hb : PE X e (tOf c tb))
    (hbase : attributeBase o "index" X.env (eval o X.env) = eval o X.env := by rfl)
    (hfew : ((backTo cpos (starEach [e] X.env)).all (fun x => !x.1) && (backToKw cpos (keywordEach [] X.env)).all (fun x => x.1.isSome)
      && decide ([e].length + ([] : List Keyword).length + (if ([] : List Keyword).isEmpty then 0 else 1) < 30)) = true := by rfl)
    (hline : (apos.endLine == cpos.line) = true := by rfl) (hs : starEach [e] X.env = (false, eval e X.env) :: starEach [] X.env := by rfl) (hplain : (backTo cpos (starEach [] X.env)).any (·.1) = false := by rfl) :
    PE X (.Call (.Attribute o "index" apos) [e] [] cpos) (tOf c (vIndexP i tb)) :=
  PE.imp (pe_tm PySem.F.slot_tuple_index PySem.F.type_tuple_index mt_tupIx ha (va_cons hb va_nil hs) hbase hfew hline hs hplain) fun σ H R ⟨F, env, n, Q, rr, ⟨⟨ds, e0⟩, q⟩, k⟩ => by
    obtain ⟨v, ev, rv⟩ := rr.sl i _ e0
    obtain ⟨a, xs, rfl, hF, rx⟩ := rv.tuP_inv
    refine ⟨_, ev, ⟨a, xs, rfl, tf_up hF rr.sub⟩, F, env, n, _, rr, q, fun vs H2 F2 ds2 env2 n2 r2 u2 p2 q2 => ?_⟩
    obtain ⟨ns, k', j, e1, rfl, e3, e4, q3⟩ := q2
    obtain ⟨v2, ev2, rv2⟩ := r2.sl i _ e1
    obtain ⟨a2, xs2, rfl, hF2, rx2⟩ := rv2.tuP_inv
    rw [ev] at ev2
    cases ev2
    obtain ⟨w2, rfl, pv⟩ := p2.one
    rw [pv.int_inv]
    have ex : xs2 = ns.map V.int := rx2.of_ints
    rw [ex] at hF2
    exact ⟨a, ns, k', j, rfl, rfl, (tf_up hF2 r2.sub).sq, e3, e4, k _ _ F2 _ env2 n2 r2 u2 (.int _) q3⟩
end
end VL
namespace VL
open PySem PySem.Spec PyProof.Rows L2 HM
theorem itr_back2 {m : Nat} {g : List Nat} (h : Tn m g) {x y : Nat} (hx : x < m) (hy : y < m) {i j c : Nat} (hj : j ≤ c) (hc : itr (tA g) c x = x) (e : itr (tA g) j y = itr (tA g) i x) : itr (tA g) c y = y := by
  have e2 : itr (tA g) j y = itr (tA g) j (itr (tA g) (i + (c - j)) x) := by
    rw [← itr_add, show j + (i + (c - j)) = i + c by omega, itr_add, hc, e]
  have e3 := itr_inj h hy (itr_lt h hx _) j e2
  rw [e3, ← itr_add, Nat.add_comm, itr_add, hc]
theorem ring12 {m : Nat} {g : List Nat} (h : Tn m g) (hm : m ≤ 7) : ∃ c, 0 < c ∧ c ≤ 12 ∧ ∀ x, x < m → itr (tA g) c x = x := by
  rcases Classical.em (∀ x, x < m → itr (tA g) 12 x = x) with al | no
  · exact ⟨12, by decide, by decide, al⟩
  · obtain ⟨x, hn⟩ := Classical.not_forall.mp no
    obtain ⟨hx, hno⟩ := Classical.not_imp.mp hn
    clear hn no
    have dv : ∀ c q, q * c = 12 → itr (tA g) c x ≠ x := fun c q hq e => hno (by rw [← hq]; exact itr_mul e q)
    have d1 := dv 1 12 rfl
    have d2 := dv 2 6 rfl
    have d3 := dv 3 4 rfl
    have d4 := dv 4 3 rfl
    have d6 := dv 6 2 rfl
    obtain ⟨c, h1, hc, e⟩ := itr_ring h hx
    rcases (by omega : c = 1 ∨ c = 2 ∨ c = 3 ∨ c = 4 ∨ c = 5 ∨ c = 6 ∨ c = 7) with rfl | rfl | rfl | rfl | rfl | rfl | rfl
    · exact absurd e d1
    · exact absurd e d2
    · exact absurd e d3
    · exact absurd e d4
    · refine ⟨10, by decide, by decide, fun y hy => ?_⟩
      rcases Classical.em (itr (tA g) 1 y = y ∨ itr (tA g) 2 y = y ∨ ∃ j i, j ≤ 2 ∧ itr (tA g) j y = itr (tA g) i x) with z | z
      · rcases z with z | z | ⟨j, i, hj, z⟩
        · exact itr_mul z 10
        · exact itr_mul z 5
        · exact itr_mul (itr_back2 h hx hy (by omega : j ≤ 5) e z) 2
      · exfalso
        rw [not_or, not_or] at z
        obtain ⟨z1, z2, z3⟩ := z
        have nd : (((List.range 5).map fun i => itr (tA g) i x) ++ (List.range 3).map fun i => itr (tA g) i y).Nodup := by
          rw [List.nodup_append]
          refine ⟨?_, ?_, fun a ha b hb e2 => ?_⟩
          · refine List.pairwise_map.mpr (List.Pairwise.imp_of_mem (fun {a b} ha hb hab e2 => ?_) (List.pairwise_lt_range (n := 5)))
            have hb := List.mem_range.mp hb
            have := itr_back h hx (Nat.le_of_lt hab) e2
            rcases (by omega : b - a = 1 ∨ b - a = 2 ∨ b - a = 3 ∨ b - a = 4) with w | w | w | w <;> rw [w] at this
            · exact d1 this
            · exact d2 this
            · exact d3 this
            · exact d4 this
          · refine List.pairwise_map.mpr (List.Pairwise.imp_of_mem (fun {a b} ha hb hab e2 => ?_) (List.pairwise_lt_range (n := 3)))
            have hb := List.mem_range.mp hb
            have := itr_back h hy (Nat.le_of_lt hab) e2
            rcases (by omega : b - a = 1 ∨ b - a = 2) with w | w <;> rw [w] at this
            · exact z1 this
            · exact z2 this
          · obtain ⟨i, _, rfl⟩ := List.mem_map.mp ha
            obtain ⟨j, hj, rfl⟩ := List.mem_map.mp hb
            have hj := List.mem_range.mp hj
            exact z3 ⟨j, i, by omega, e2.symm⟩
        have := few_of_nodup (n := m) nd fun y2 hy2 => by
          rcases List.mem_append.mp hy2 with hy2 | hy2
          · obtain ⟨i, _, rfl⟩ := List.mem_map.mp hy2
            exact itr_lt h hx i
          · obtain ⟨i, _, rfl⟩ := List.mem_map.mp hy2
            exact itr_lt h hy i
        rw [List.length_append, List.length_map, List.length_map, List.length_range, List.length_range] at this
        omega
    · exact absurd e d6
    · rcases ring60 h hm with al | al
      · exfalso
        have e60 := al x hx
        rw [show 60 = 4 + 8 * 7 from rfl, itr_add, itr_mul e 8] at e60
        exact d4 e60
      · exact ⟨7, by decide, by decide, al⟩
theorem GR.few12 {m : Nat} {ts fs : List (List Nat)} (h : ∀ g ∈ ts, Tn m g) (hm : m ≤ 7) (h1 : ts.length ≤ 1) (nd : fs.Nodup) (hf : ∀ a ∈ fs, GR m ts a) : fs.length ≤ 12 := by
  match ts, h1 with
  | [], _ =>
    have : fs.length ≤ [VL.stay m].length := List.Nodup.length_le_of_subset nd fun a ha => by
      cases hf a ha with
      | stay => exact List.mem_singleton.mpr rfl
      | step _ z => cases z
    exact Nat.le_trans this (show 1 ≤ 12 by decide)
  | [g], _ =>
    obtain ⟨c, h0, h60, hc⟩ := ring12 (h g (List.mem_singleton.mpr rfl)) hm
    have : fs.length ≤ ((List.range c).map (gpw m g)).length := List.Nodup.length_le_of_subset nd fun a ha => by
      obtain ⟨i, hi, rfl⟩ := GR.one h0 hc (hf a ha)
      exact List.mem_map.mpr ⟨i, List.mem_range.mpr hi, rfl⟩
    rw [List.length_map, List.length_range] at this
    omega
  | _ :: _ :: _, z => simp at z
end VL
namespace VL
open PySem PySem.Spec PyProof.Rows L2 HM
mutual
def sml (e : Nat) : Dt → Bool
  | .int i => decide (i.natAbs < 10 ^ e)
  | .lst ds => smls e ds
  | .tup ds => smls e ds
  | _ => false
def smls (e : Nat) : List Dt → Bool
  | [] => true
  | d :: ds => sml e d && smls e ds
end
mutual
def csz (e : Nat) : Dt → Nat
  | .lst ds => cszs e ds + 2
  | .tup ds => cszs e ds + 2
  | _ => e + 1
def cszs (e : Nat) : List Dt → Nat
  | [] => 0
  | d :: ds => csz e d + 2 + cszs e ds
end
theorem int_text {i : Int} {e : Nat} (h0 : 0 < e) (h : i.natAbs < 10 ^ e) : (PyData.int i).shown.length ≤ e + 1 := by
  have := int_text_length_le10 h0 h
  show (Str.ofString (toString i)).length ≤ e + 1
  rw [PySem.ofString_length]; exact this
mutual
theorem sml_shown {e : Nat} (h0 : 0 < e) : ∀ d : Dt, sml e d = true → (py d).shown.length ≤ csz e d
  | .int i, h => by
    have h' : decide (i.natAbs < 10 ^ e) = true := h
    have := int_text h0 (of_decide_eq_true h')
    have e2 : py (.int i) = .int i := by rw [py]
    rw [e2]
    exact this
  | .lst ds, h => by
    have h2 := smls_shown h0 ds h
    have h3 := listText_up (PyData.shownAll (pys ds))
    have e2 : py (.lst ds) = .list (pys ds) := by rw [py]
    rw [e2]
    show (listText (PyData.shownAll (pys ds))).length ≤ cszs e ds + 2
    omega
  | .tup ds, h => by
    have h2 := smls_shown h0 ds h
    have h3 := fmt_text (PyData.shownAll (pys ds))
    have e2 : py (.tup ds) = .tuple (pys ds) := by rw [py]
    rw [e2]
    show (tupleText (PyData.shownAll (pys ds))).length ≤ cszs e ds + 2
    omega
  | .non, h => by cases h
  | .bl _, h => by cases h
  | .str _, h => by cases h
  | .ty _, h => by cases h
  | .obj _, h => by cases h
  | .dic _ _, h => by cases h
  | .dik _ _, h => by cases h
  | .tuP _, h => by cases h
theorem smls_shown {e : Nat} (h0 : 0 < e) : ∀ ds : List Dt, smls e ds = true → piled (PyData.shownAll (pys ds)) ≤ cszs e ds
  | [], _ => Nat.le_refl _
  | d :: ds, h => by
    have h' : (sml e d && smls e ds) = true := h
    rw [Bool.and_eq_true] at h'
    have h2 := sml_shown h0 d h'.1
    have h3 := smls_shown h0 ds h'.2
    show piled ((py d).shown :: PyData.shownAll (pys ds)) ≤ csz e d + 2 + cszs e ds
    rw [piled_cons]
    omega
end
mutual
theorem sml_pl {e : Nat} : ∀ d : Dt, sml e d = true → pl d = true
  | .int _, _ => rfl
  | .lst ds, h => smls_pl ds h
  | .tup ds, h => smls_pl ds h
  | .non, h => by cases h
  | .bl _, h => by cases h
  | .str _, h => by cases h
  | .ty _, h => by cases h
  | .obj _, h => by cases h
  | .dic _ _, h => by cases h
  | .dik _ _, h => by cases h
  | .tuP _, h => by cases h
theorem smls_pl {e : Nat} : ∀ ds : List Dt, smls e ds = true → pls ds = true
  | [], _ => rfl
  | d :: ds, h => by
    have h' : (sml e d && smls e ds) = true := h
    rw [Bool.and_eq_true] at h'
    show (pl d && pls ds) = true
    rw [sml_pl d h'.1, smls_pl ds h'.2]
    rfl
end
mutual
theorem sml_showable {e : Nat} (h1 : e ≤ 480) : ∀ d : Dt, sml e d = true → (py d).showable = true
  | .int i, h => by
    have h' : decide (i.natAbs < 10 ^ e) = true := h
    have e2 : py (.int i) = .int i := by rw [py]
    rw [e2]
    have : i.natAbs.log2 < 1920 := by
      rcases Nat.eq_zero_or_pos i.natAbs with z | z
      · rw [z]; decide
      · refine (Nat.log2_lt (by omega)).mpr (Nat.lt_of_lt_of_le (of_decide_eq_true h') ?_)
        refine Nat.le_trans (Nat.pow_le_pow_right (by decide) h1) ?_
        refine Nat.le_trans (Nat.pow_le_pow_left (show 10 ≤ 2 ^ 3 * 2 by decide) 480) ?_
        rw [show (2 ^ 3 * 2 : Nat) = 2 ^ 4 from rfl, ← Nat.pow_mul]
        exact Nat.pow_le_pow_right (by decide) (by decide)
    simpa [PyData.showable] using this
  | .lst ds, h => by
    have e2 : py (.lst ds) = .list (pys ds) := by rw [py]
    rw [e2]
    have := smls_showable h1 ds h
    simpa [PyData.showable] using this
  | .tup ds, h => by
    have e2 : py (.tup ds) = .tuple (pys ds) := by rw [py]
    rw [e2]
    have := smls_showable h1 ds h
    simpa [PyData.showable] using this
  | .non, h => by cases h
  | .bl _, h => by cases h
  | .str _, h => by cases h
  | .ty _, h => by cases h
  | .obj _, h => by cases h
  | .dic _ _, h => by cases h
  | .dik _ _, h => by cases h
  | .tuP _, h => by cases h
theorem smls_showable {e : Nat} (h1 : e ≤ 480) : ∀ ds : List Dt, smls e ds = true → PyData.showableAll (pys ds) = true
  | [], _ => rfl
  | d :: ds, h => by
    have h' : (sml e d && smls e ds) = true := h
    rw [Bool.and_eq_true] at h'
    have g1 := sml_showable h1 d h'.1
    have g2 := smls_showable h1 ds h'.2
    show PyData.showableAll (py d :: pys ds) = true
    simp only [PyData.showableAll, g1, g2, Bool.and_self]
end
mutual
theorem py_depth : ∀ d : Dt, (py d).depth ≤ dep d + 1
  | .int i => by rw [show py (.int i) = .int i by rw [py]]; simp [PyData.depth]
  | .lst ds => by
    rw [show py (.lst ds) = .list (pys ds) by rw [py]]
    have := pys_depth ds
    show PyData.depth (.list (pys ds)) ≤ deps ds + 1 + 1
    simp only [PyData.depth]
    omega
  | .tup ds => by
    rw [show py (.tup ds) = .tuple (pys ds) by rw [py]]
    have := pys_depth ds
    show PyData.depth (.tuple (pys ds)) ≤ deps ds + 1 + 1
    simp only [PyData.depth]
    omega
  | .non => by simp [py, PyData.depth]
  | .bl _ => by simp [py, PyData.depth]
  | .str _ => by simp [py, PyData.depth]
  | .ty _ => by simp [py, PyData.depth]
  | .obj _ => by simp [py, PyData.depth]
  | .dic _ _ => by simp [py, PyData.depth]
  | .dik _ _ => by simp [py, PyData.depth]
  | .tuP ds => by
    rw [show py (.tuP ds) = .tuple (pys ds) by rw [py]]
    have := pys_depth ds
    show PyData.depth (.tuple (pys ds)) ≤ deps ds + 1 + 1
    simp only [PyData.depth]
    omega
theorem pys_depth : ∀ ds : List Dt, PyData.depthAll (pys ds) ≤ deps ds + 1
  | [] => by simp [pys, PyData.depthAll]
  | d :: ds => by
    have h1 := py_depth d
    have h2 := pys_depth ds
    show PyData.depthAll (py d :: pys ds) ≤ max (dep d) (deps ds) + 1
    simp only [PyData.depthAll]
    omega
end
def Sm (e k c : Nat) (d : Dt) : Prop := sml e d = true ∧ dep d ≤ k ∧ csz e d ≤ c
section
variable {e k c : Nat} {d : Dt}
theorem Sm.int {i : Int} (h : i.natAbs < 10 ^ e) : Sm e 0 (e + 1) (.int i) := ⟨decide_eq_true h, Nat.le_refl _, Nat.le_refl _⟩
theorem Sm.nat {i : Nat} (h : i < 10 ^ e) : Sm e 0 (e + 1) (nD i) := Sm.int (by omega)
theorem Sm.mono {k' c' : Nat} (h : Sm e k c d) (hk : k ≤ k') (hc : c ≤ c') : Sm e k' c' d := ⟨h.1, Nat.le_trans h.2.1 hk, Nat.le_trans h.2.2 hc⟩
theorem Sm.all : ∀ {ds : List Dt}, (∀ d ∈ ds, Sm e k c d) → smls e ds = true ∧ deps ds ≤ k ∧ cszs e ds ≤ ds.length * (c + 2)
  | [], _ => ⟨rfl, Nat.zero_le _, Nat.zero_le _⟩
  | d :: ds, h => by
    obtain ⟨h1, h2, h3⟩ := h d List.mem_cons_self
    obtain ⟨g1, g2, g3⟩ := Sm.all (ds := ds) fun x hx => h x (List.mem_cons_of_mem _ hx)
    refine ⟨?_, Nat.max_le.mpr ⟨h2, g2⟩, ?_⟩
    · show (sml e d && smls e ds) = true
      rw [h1, g1]; rfl
    · show csz e d + 2 + cszs e ds ≤ (ds.length + 1) * (c + 2)
      rw [Nat.succ_mul]
      omega
theorem Sm.lst {l : Nat} {ds : List Dt} (h : ∀ d ∈ ds, Sm e k c d) (hl : ds.length ≤ l) : Sm e (k + 1) (l * (c + 2) + 2) (.lst ds) := by
  obtain ⟨g1, g2, g3⟩ := Sm.all h
  refine ⟨g1, Nat.succ_le_succ g2, ?_⟩
  show cszs e ds + 2 ≤ _
  have := Nat.mul_le_mul_right (c + 2) hl
  omega
theorem Sm.tup {l : Nat} {ds : List Dt} (h : ∀ d ∈ ds, Sm e k c d) (hl : ds.length ≤ l) : Sm e (k + 1) (l * (c + 2) + 2) (.tup ds) := by
  obtain ⟨g1, g2, g3⟩ := Sm.all h
  refine ⟨g1, Nat.succ_le_succ g2, ?_⟩
  show cszs e ds + 2 ≤ _
  have := Nat.mul_le_mul_right (c + 2) hl
  omega
theorem sm_nt {l : List Nat} (h : ∀ x ∈ l, x < 10 ^ e) (hl : l.length ≤ c) : Sm e 1 (c * (e + 3) + 2) (.tup (nsD l)) := Sm.tup (k := 0) (c := e + 1) (fun d hd => by
  obtain ⟨x, hx, rfl⟩ := List.mem_map.mp hd
  exact Sm.nat (h x hx)) (by rw [nsD_len]; exact hl)
end
/-- what repr may be asked of -/
def rpS (d : Dt) : Prop := isPy d = true ∧ (py d).showable = true ∧ (py d).depth ≤ 40 ∧ (py d).shown.length ≤ sizeLine
theorem Sm.rp {e k c : Nat} {d : Dt} (h : Sm e k c d) (h0 : 0 < e) (h1 : e ≤ 480) (hk : k ≤ 30) (hc : c ≤ 16777216) : rpS d :=
  ⟨pl_isPy (sml_pl d h.1), sml_showable h1 d h.1, by have := py_depth d; have := h.2.1; omega, Nat.le_trans (sml_shown h0 d h.1) (Nat.le_trans h.2.2 hc)⟩
/-- its text -/
def shD (d : Dt) : Dt := .str (py d).shown
def dReprS : RCD := fun ds Q => ∃ d, ds = [d] ∧ rpS d ∧ Q (shD d)
theorem lft_reprS {K : PySem.W.Frag} : LftC (rRepr K) dReprS := fun F H vs ds Q R u rp ⟨d, e, h, q⟩ k => by
  subst e
  obtain ⟨v, rfl, p⟩ := rp.one
  exact ⟨v, py d, rfl, .flat (p.dp u h.1) (py_flat d), h.2.1, h.2.2.1, h.2.2.2, k _ _ (.str _) q⟩
def dNeS : R2D := fun x y Q => ∃ s t, x = .str s ∧ y = .str t ∧ Q (.bl (!decide (s = t)))
theorem dec_str (i j : Str) : decide (V.str i = V.str j) = decide (i = j) := by
  by_cases e : i = j
  · subst e; simp
  · rw [decide_eq_false e, decide_eq_false fun z => e (V.str.inj z)]
theorem lft_neS : Lft2 rNe dNeS := fun F H x y d1 d2 Q R u p1 p2 ⟨s, t, e1, e2, h⟩ k => by
  subst e1 e2
  cases p1
  cases p2
  exact ⟨rfl, by rw [dec_str]; exact k _ _ (.bl _) h⟩
theorem dNe_sh {d : Dt} {Q : Dt → Prop} (q : Q (.bl false)) : dNeS (shD d) (shD d) Q := ⟨_, _, rfl, rfl, by rw [decide_eq_true rfl]; exact q⟩
end VL
namespace HG
open PySem PySem.Spec PyProof.Rows L2 HM GenW
def psum (f : Nat → Int) : Nat → Int
  | 0 => 0
  | j + 1 => psum f j + f j
structure SleptS (f : Nat → Int) (S : Addr) (j : Nat) (s s' : Shared) : Prop where
  os : s'.os = s.os
  bare : AllBare s'.gens
  keep : ∀ b o, b ≠ S → s.heap.get? b = some o → s'.heap.get? b = some o
  own : ∃ t c, s'.heap.get? S = some (lstObj #[.int (psum f j) t] c)
def GJ (X : Cx) (S : Addr) (f : Nat → Int) (ip : List (Addr × Obj)) (j : Nat) (σ : L2.St) (H : Hp) (s : Shared) : Prop :=
  ∃ (t : Tok) (c : Nat), Inv X ((S, lstObj #[.int (psum f j) t] c) :: ip) σ H s
theorem GJ.at {X : Cx} {S : Addr} {f : Nat → Int} {ip : List (Addr × Obj)} {j : Nat} {σ : L2.St} {H : Hp} {s : Shared} (h : GJ X S f ip j σ H s) :
    H S = none ∧ S ≠ X.env.locals ∧ S ∉ X.fs ∧ ∃ (t : Tok) (c : Nat), s.heap.get? S = some (lstObj #[.int (psum f j) t] c) := by
  obtain ⟨t, c, I⟩ := h
  obtain ⟨h1, h2, h3, h4, _⟩ := I.pin (S, lstObj #[.int (psum f j) t] c) (List.mem_append_right _ List.mem_cons_self)
  exact ⟨h2, h3, h4, t, c, h1⟩
theorem GJ.woken {X : Cx} {S : Addr} {f : Nat → Int} {ip : List (Addr × Obj)} {j j2 : Nat} {σ : L2.St} {H : Hp} {s s' : Shared} (hpn : ∀ p ∈ X.pn, p.1 ≠ S) (hip : ∀ p ∈ ip, p.1 ≠ S) (hA : Apart X S) (e2 : j2 = j + 1) (h : GJ X S f ip j σ H s) (z : SleptS f S j2 s s') : GJ X S f ip (j + 1) σ H s' := by
  obtain ⟨w1, w2, w3, _⟩ := h.at
  obtain ⟨t, c, I⟩ := h
  have I1 : Inv X ip σ H s := I.pins_of fun q hq => I.pin q (List.mem_append_right _ (List.mem_cons_of_mem _ hq))
  have off : ∀ b u, H b = some u → b ≠ S := fun b u e hb => by subst hb; rw [w1] at e; cases e
  obtain ⟨zo, zb, zk, t2, c2, zs⟩ := z
  subst e2
  obtain ⟨hh, gg, dd, tt, oo⟩ := s'
  have ho : oo = s.os := zo
  subst ho
  have nS : ∀ {b}, b ∉ [S] → b ≠ S := fun {b} q e => q (List.mem_singleton.mpr e)
  have I2 : Inv X ip σ H { s with heap := hh, gens := gg, drawn := dd, toks := tt } := by
    refine I1.step (ch := [S]) (g' := gg) (t' := tt) (d' := dd) (fun b hb => ?B) (fun b ob _ _ q1 q2 _ => zk b ob (nS q1) q2) (fun b ob _ _ q1 q2 _ => ⟨ob.slots, zk b ob (nS q1) q2⟩) (fun _ _ _ _ q => q)
      (fun b ob q1 q2 => ⟨ob, zk b ob (nS q1) q2⟩) (fun _ _ q => q) (fun _ _ _ q => q) (fun b ps q => ⟨#[], by rw [q]; simp⟩) (fun m hm => ?M) (fun b u q => ?H) zb
    case B =>
      cases List.mem_singleton.mp hb
      exact ⟨.inr hA.1, hA.2.1, hA.2.2, fun q hq => (List.mem_append.mp hq).elim (hpn q) (hip q)⟩
    case M =>
      obtain ⟨ob, a1, a2, a3, a4⟩ := hm
      exact ⟨ob, a1, a2, zk _ ob (Ne.symm w2) a3, a4⟩
    case H => exact (I1.hok b u q).stay (fun d v hd y => zk d v (hd.elim (fun y2 => by rw [y2]; exact off b u q) fun y2 => off d _ y2) y) (fun _ y => y) fun _ _ y => y
  exact ⟨t2, c2, I2.pins_of fun q hq => (List.mem_cons.mp hq).elim (fun e => by rw [e]; exact ⟨zs, w1, w2, w3, fun v y => by cases y⟩) fun y => I2.pin q (List.mem_append_right _ y)⟩
end HG
namespace HG
open PySem PySem.Spec PyProof.Rows L2 HM GenW
end HG
namespace HG
open PySem PySem.Spec PyProof.Rows L2 HM GenW
end HG
namespace HG
open PySem PySem.Spec PyProof.Rows L2 HM GenW
end HG
namespace VL
open PySem PySem.Spec PyProof.Rows L2 HM HG
end VL
namespace VL
open PySem PySem.Spec PyProof.Rows L2 HM
end VL
namespace VL
open PySem PySem.Spec PyProof.Rows L2 HM
/-- the sum over the first b kinds -/
def pm (T : Nat → Nat → Nat) (cs : Nat → Int) : Nat → Nat → Int
  | 0, _ => 0
  | b + 1, j => pm T cs b j + cs b * (T b j : Int)
end VL
namespace VL
open PySem PySem.Spec PyProof.Rows L2 HM
end VL
namespace VL
open PySem PySem.Spec PyProof.Rows L2 HM HG
end VL
namespace VL
open PySem PySem.Spec PyProof.Rows L2 HM
end VL
namespace VL
open PySem PySem.Spec PyProof.Rows L2 HM
theorem valD_putD {κ : Type} [DecidableEq κ] (kvs : List (κ × Dt)) (k k' : κ) (v : Dt) : valD (putD kvs k v) k' = if k' = k then some v else valD kvs k' := by
  unfold putD
  by_cases h : (kvs.any fun p => decide (p.1 = k)) = true
  · rw [if_pos h]
    induction kvs with
    | nil => cases h
    | cons p r ih =>
      rw [List.map_cons]
      unfold valD at ih ⊢
      by_cases hp : p.1 = k
      · rw [if_pos hp]
        by_cases hk : k' = k
        · subst hk
          rw [List.find?_cons_of_pos (by simpa using hp), if_pos rfl]
          rfl
        · rw [List.find?_cons_of_neg (by simpa [hp] using fun z => hk z.symm), if_neg hk, List.find?_cons_of_neg (by simpa [hp] using fun z => hk z.symm)]
          by_cases hr : (r.any fun p => decide (p.1 = k)) = true
          · rw [ih hr, if_neg hk]
          · congr 1
            rw [show (r.map fun p => if p.1 = k then (p.1, v) else p) = r from (List.map_congr_left fun q hq => if_neg fun z => hr (List.any_eq_true.mpr ⟨q, hq, by simpa using z⟩)).trans (List.map_id _)]
      · rw [if_neg hp]
        have hr : (r.any fun p => decide (p.1 = k)) = true := by
          rw [List.any_cons] at h
          simpa [hp] using h
        by_cases hk : p.1 = k'
        · rw [List.find?_cons_of_pos (by simpa using hk), List.find?_cons_of_pos (by simpa using hk), if_neg (fun z => hp (hk.trans z))]
        · rw [List.find?_cons_of_neg (by simpa using hk), ih hr, List.find?_cons_of_neg (by simpa using hk)]
  · rw [if_neg h]
    unfold valD
    rw [List.find?_append]
    by_cases hk : k' = k
    · subst hk
      rw [if_pos rfl]
      have : kvs.find? (fun kv => decide (kv.1 = k')) = none := List.find?_eq_none.mpr fun q hq z => h (List.any_eq_true.mpr ⟨q, hq, z⟩)
      rw [this]
      simp
    · rw [if_neg hk]
      cases e : kvs.find? (fun kv => decide (kv.1 = k')) with
      | none =>
        simp
        exact fun z => hk z.symm
      | some q => rfl
theorem putD_keys {κ : Type} [DecidableEq κ] (kvs : List (κ × Dt)) (k : κ) (v : Dt) : (putD kvs k v).map (·.1) = if k ∈ kvs.map (·.1) then kvs.map (·.1) else kvs.map (·.1) ++ [k] := by
  by_cases h : k ∈ kvs.map (·.1)
  · rw [if_pos h]
    unfold putD
    obtain ⟨p, hp, e⟩ := List.mem_map.mp h
    rw [if_pos (List.any_eq_true.mpr ⟨p, hp, decide_eq_true e⟩), List.map_map]
    refine List.map_congr_left fun q _ => ?_
    show (if q.1 = k then (q.1, v) else q).1 = q.1
    by_cases z : q.1 = k
    · rw [if_pos z]
    · rw [if_neg z]
  · rw [if_neg h, putD_new h, List.map_append]
    rfl
def Dk (n : Nat) (l : List Int) (kvs : List (Key × Dt)) : Prop := ∃ fs : List Nat, kvs.map (·.1) = fs.map (fun i : Nat => (Sum.inl (i : Int) : Key)) ∧ fs.Nodup ∧ (∀ f ∈ fs, f < n) ∧ ∀ x, x < n → ∀ v, l[x]? = some v → valD kvs (Sum.inl (x : Int)) = if v < 0 then none else some (.int v)
section
variable {n : Nat} {l : List Int} {kvs : List (Key × Dt)}
theorem Dk.start : Dk n (List.replicate n (-1)) [] := ⟨[], rfl, List.nodup_nil, fun f h => absurd h List.not_mem_nil, fun x hx v hv => by
  rw [List.getElem?_replicate, if_pos hx] at hv
  cases hv
  rfl⟩
theorem Dk.len (d : Dk n l kvs) : kvs.length ≤ n := by
  obtain ⟨fs, h1, h2, h3, _⟩ := d
  have := congrArg List.length h1
  rw [List.length_map, List.length_map] at this
  rw [this]
  exact few_of_nodup h2 h3
theorem Dk.put (d : Dk n l kvs) {y : Nat} (hy : y < n) {v : Int} (hv : 0 ≤ v) : Dk n (l.set y v) (putD kvs (Sum.inl (y : Int)) (.int v)) := by
  obtain ⟨fs, h1, h2, h3, h4⟩ := d
  have val : ∀ x, x < n → ∀ u, (l.set y v)[x]? = some u → valD (putD kvs (Sum.inl (y : Int)) (.int v)) (Sum.inl (x : Int)) = if u < 0 then none else some (.int u) := fun x hx u hu => by
    rw [valD_putD]
    by_cases z : y = x
    · subst z
      rw [if_pos rfl]
      rw [List.getElem?_set] at hu
      split at hu
      · split at hu
        · cases hu
          rw [if_neg (by omega)]
        · cases hu
      · rename_i z; exact absurd rfl z
    · rw [if_neg (fun w => z (by have := Sum.inl.inj w; omega))]
      rw [List.getElem?_set_ne z] at hu
      exact h4 x hx u hu
  by_cases hin : y ∈ fs
  · exact ⟨fs, by rw [putD_keys, if_pos (by rw [h1, keyN_mem]; exact hin)]; exact h1, h2, h3, val⟩
  · refine ⟨fs ++ [y], by rw [putD_keys, if_neg (by rw [h1, keyN_mem]; exact hin), h1, List.map_append]; rfl, ?_, fun f hf => ?_, val⟩
    · rw [List.nodup_append]
      exact ⟨h2, List.pairwise_singleton .., fun a ha b hb z => hin (by rw [List.mem_singleton.mp hb] at z; rw [← z]; exact ha)⟩
    · rcases List.mem_append.mp hf with hf | hf
      · exact h3 f hf
      · rw [List.mem_singleton.mp hf]; exact hy
end
end VL
namespace VL
open PySem PySem.Spec PyProof.Rows L2 HM
theorem cr_sortTE {X : Cx} : CallR X (.builtin "sorted") (fun vs H Q => ∃ (d : Nat) (B : Int), 1 ≤ d ∧ rSortU X.K d B vs H Q) := by
  intro pins s σ H vs us Q I r h
  obtain ⟨d, B, hd, h⟩ := h
  exact cr_sortT hd pins s σ H vs us Q I r h
def vSortLT (te : VTE) : VTN := fun env n Q => te env n fun d env1 n1 => ∃ (L : List (List Int)) (k : Nat) (B : Int), d = .lst (L.map tuD) ∧ L.length < 64 ∧ 1 ≤ k ∧ (∀ b ∈ L, b.length = k ∧ TS.Bd B b) ∧
  ∀ M : List (List Int), M.Perm L → M.Pairwise (fun q r => TS.code B q ≤ TS.code B r) → Q (.lst (M.map tuD)) env1 n1
section
variable {c : Fc} {X : Cx} {e : Expr} {tb : VTE}
theorem vn_sortLT {p pos : Pos} (hg : Gl X "sorted") (hm : X.mg "sorted" = none) (ha : PE X e (tOf c tb)) (na : starEach [e] X.env = (false, eval e X.env) :: starEach [] X.env := by rfl)
    (hpl : (backTo pos (starEach [] X.env)).any (·.1) = false := by rfl) : PE X (.Call (.Name "sorted" p) [e] [] pos) (nOf c (vSortLT tb)) :=
  PE.imp (pe_callB cr_sortTE hg hm (by decide +kernel) (va_cons ha va_nil na) (by decide) (by decide) na hpl) fun σ H R ⟨F, env, n, Q, rr, h, k⟩ => by
    refine ⟨F, env, n, fun ds env1 n1 => match ds with | [d] => (∃ (L : List (List Int)) (k : Nat) (B : Int), d = .lst (L.map tuD) ∧ L.length < 64 ∧ 1 ≤ k ∧ (∀ b ∈ L, b.length = k ∧ TS.Bd B b) ∧
      ∀ M : List (List Int), M.Perm L → M.Pairwise (fun q r => TS.code B q ≤ TS.code B r) → Q (.lst (M.map tuD)) env1 n1) | _ => False, rr, h, fun vs H1 F1 ds env1 n1 r1 u1 p1 q1 => ?_⟩
    match ds, q1 with
    | [d], ⟨L, kk, B, e1, hl, h1k, hb, q1⟩ =>
      subst e1
      obtain ⟨v, rfl, pv⟩ := p1.one
      obtain ⟨a, xs, rfl, hF, rx⟩ := pv.lst_inv
      obtain ⟨Lp, rfl, rfl, ht⟩ := tups_of rx
      have tp : ∀ q ∈ Lp, TupI X.K H1 (.ref q.1) q.2 := fun q hq => ⟨q.1, rfl, .inl (.inl (r1.sub _ _ (ht q hq)))⟩
      refine ⟨kk, B, h1k, a, _, rfl, .inl (.inl (r1.sub _ _ hF)), by rw [List.length_map] at hl ⊢; exact hl, fun x hx => ?_, fun ys p' pm pw np => ?_⟩
      · obtain ⟨q, hq, rfl⟩ := List.mem_map.mp hx
        exact ⟨q.2, tp q hq, hb q.2 (List.mem_map.mpr ⟨q, hq, rfl⟩)⟩
      · obtain ⟨Lq, hp, rfl⟩ := permInv pm
        refine nOf_new r1 u1 np (kk := .lst ((Lq.map (·.2)).map tuD)) ⟨_, rfl, rps_tu fun z hz => ht z (hp.mem_iff.mp hz)⟩ (q1 _ (hp.map _) (List.pairwise_map.mpr ?_)) k
        refine List.Pairwise.imp_of_mem (fun {x y} hx hy h => ?_) (List.pairwise_map.mp pw)
        exact h _ _ (tp x (hp.mem_iff.mp hx)) (tp y (hp.mem_iff.mp hy))
end
/-- rising by the code -/
def Srt (m : Nat) (gl : List (List Nat)) : Prop := (gl.map iN).Pairwise fun q r => TS.code (m : Int) q ≤ TS.code (m : Int) r
theorem iN_inj : ∀ {a b : List Nat}, iN a = iN b → a = b
  | [], [], _ => rfl
  | [], _ :: _, h => by cases h
  | _ :: _, [], h => by cases h
  | x :: a, y :: b, h => by
    have h : ((x : Int) :: iN a) = ((y : Int) :: iN b) := h
    injection h with h1 h2
    rw [iN_inj h2, Int.ofNat_inj.mp h1]
theorem uniq_srt {α : Type} (f : α → Int) : ∀ {a b : List α}, (∀ x, x ∈ a ↔ x ∈ b) → a.Pairwise (fun x y => f x < f y) → b.Pairwise (fun x y => f x < f y) → a = b
  | [], [], _, _, _ => rfl
  | [], y :: b, h, _, _ => absurd ((h y).mpr List.mem_cons_self) List.not_mem_nil
  | x :: a, [], h, _, _ => absurd ((h x).mp List.mem_cons_self) List.not_mem_nil
  | x :: a, y :: b, h, ha, hb => by
    rw [List.pairwise_cons] at ha hb
    have exy : x = y := by
      rcases List.mem_cons.mp ((h x).mp List.mem_cons_self) with z | z
      · exact z
      · rcases List.mem_cons.mp ((h y).mpr List.mem_cons_self) with w | w
        · exact w.symm
        · have h1 := ha.1 y w
          have h2 := hb.1 x z
          omega
    subst exy
    congr 1
    refine uniq_srt f (fun z => ⟨fun hz => ?_, fun hz => ?_⟩) ha.2 hb.2
    · rcases List.mem_cons.mp ((h z).mp (List.mem_cons_of_mem _ hz)) with w | w
      · subst w
        have := ha.1 z hz
        omega
      · exact w
    · rcases List.mem_cons.mp ((h z).mpr (List.mem_cons_of_mem _ hz)) with w | w
      · subst w
        have := hb.1 z hz
        omega
      · exact w
end VL
namespace HM
open PySem PySem.Spec PyProof.Rows L2
def IteT2 (K : PySem.W.Frag) (a : Addr) : L2.It := ⟨(IteT K a).go, (IteT K a).yld, fun i H => ∃ xs : List V, SqT K H a xs ∧ xs.length ≤ i⟩
theorem turn_enumT2 {P : Program} {w : World} {K : PySem.W.Frag} {elts : List Expr} {kk : Nat} {tpos : Pos} (a e it : Addr) :
    Turn P w K (.Tuple elts kk tpos) (IteT2 K a) [e, it] e (fun i h => (∃ old, IsEnum h e it ((i : Nat) : Int) old) ∧ h.IsTupleIter it a i ∧ e ≠ it ∧ a ≠ e ∧ a ≠ it) where
  mem := (turn_enumT (P := P) (w := w) (K := K) (elts := elts) (kk := kk) (tpos := tpos) a e it).mem
  obj := (turn_enumT (P := P) (w := w) (K := K) (elts := elts) (kk := kk) (tpos := tpos) a e it).obj
  keep := (turn_enumT (P := P) (w := w) (K := K) (elts := elts) (kk := kk) (tpos := tpos) a e it).keep
  item := (turn_enumT (P := P) (w := w) (K := K) (elts := elts) (kk := kk) (tpos := tpos) a e it).item
  done := by
    intro X hP hw hK hc i pins s σ H E I hf st hg
    subst hP hw hK
    obtain ⟨⟨old, he⟩, hit, hne, hae, hai⟩ := st
    obtain ⟨xs, hq, hx⟩ := hg
    obtain ⟨its, rv, p, hz⟩ := I.tuple hq
    obtain ⟨f0, f1, f2, f3, f4, f5⟩ := hf it (List.mem_cons_of_mem _ List.mem_cons_self)
    have hl : its.toArray[i]? = none := by
      have := rv.length
      rw [Array.getElem?_eq_none]
      rw [List.size_toArray]
      omega
    have D : Draws X.prog X.w X.A.in1 it [it, a] 0 (fun _ _ => False) (fun _ h => h.IsTupleIter it a i ∧ h.IsTuple a its.toArray) :=
      { live := fun _ _ st => let ⟨o, ho, _⟩ := st.1; ⟨o, ho⟩
        frame := fun _ _ _ st hk => ⟨st.1.at fun o e => hk it (by simp) o e, st.2.at fun o e => hk a (by simp) o e⟩
        item := fun i s Q E hi _ _ => absurd hi (Nat.not_lt_zero _)
        done := fun s Q E st hE => wpAny_nextOf_tuple_end (A := X.A.in1) (I.ok.hd hc) st.1 st.2 hl hE }
    exact wpAny_pyNext_enum_endD D he ⟨hit, p⟩ fun h' eb => ⟨rfl, I.turned (t' := s.toks) (fun b o hb q => eb b o hb q) f0 f1 f3 f4 f5⟩
  self := (turn_enumT (P := P) (w := w) (K := K) (elts := elts) (kk := kk) (tpos := tpos) a e it).self
def iEnumT2 (K : PySem.W.Frag) (ta : TA) : TI := fun σ H R => ta σ H fun vs H1 => ∃ a xs, vs = [.ref a] ∧ SqT K H1 a xs ∧ R (IteT2 K a) H1
theorem pi_enumT2 {X : Cx} {e : Expr} {ta : TA} {p pos tpos : Pos} {elts : List Expr} {kk : Nat} (hg : Gl X "enumerate") (hm : X.mg "enumerate" = none) (ha : PA X [e] ta) (hs : starEach [e] X.env = [(false, eval e X.env)] := by rfl) :
    PI X (.Tuple elts kk tpos) (.Call (.Name "enumerate" p) [e] [] pos) (iEnumT2 X.K ta) := by
  refine ⟨fun pins s σ H R I h => ?_⟩
  refine Call_ (ld_blt I hg hm boot_enumerate (PyProof.Rows.callWith_type1 (thn (ha.run pos pins s σ H _ I h) fun us s1 hx => ?_) hs rfl))
  obtain ⟨vs, H1, I1, r1, a, xs, rfl, hq, q⟩ := hx
  cases r1 with
  | cons r rr =>
    cases rr
    cases r
    obtain ⟨its, rv, p', hz⟩ := I1.tuple hq
    have hlt : a < s1.heap.objs.size := let ⟨_, e, _⟩ := p'; Heap.lt_size e
    refine call_enum1 (begins_tuple a its.toArray) p' fun h' he hit hk => wpAny_pyIter_enum he ?_
    have I2 : Inv X pins σ H1 { s1 with heap := h' } := I1.kept (t' := s1.toks) hk
    refine ⟨s1.heap.objs.size + 1, [s1.heap.objs.size + 1, s1.heap.objs.size], _, _, H1, rfl, I2, turn_enumT2 a (s1.heap.objs.size + 1) s1.heap.objs.size, ⟨⟨.none, he⟩, ⟨_, hit, rfl, rfl⟩, Nat.succ_ne_self _, Nat.ne_of_lt (Nat.lt_succ_of_lt hlt), Nat.ne_of_lt hlt⟩, fun b hb => ?_, q⟩
    have e' : b = s1.heap.objs.size + 1 ∨ b = s1.heap.objs.size := by simpa using hb
    have hle : s1.heap.objs.size ≤ b := by
      rcases e' with z | z
      · rw [z]; exact Nat.le_add_right _ _
      · rw [z]; exact Nat.le_refl _
    exact I1.fpOk hle (I1.hok.fresh hle)
end HM
namespace VL
open PySem PySem.Spec PyProof.Rows L2 HM
section
variable {c : Fc} {X : Cx} {tas : VTA}
/-- a tuple, told or plain -/
def isTu (d : Dt) (ds : List Dt) : Prop := d = .tup ds ∨ d = .tuP ds
theorem Rp.tu_inv {F : Hp} {v : V} {d : Dt} {ds : List Dt} {K : PySem.W.Frag} {H : Hp} (h : Rp F v d) (u : Up F H) (e : isTu d ds) : ∃ a xs, v = .ref a ∧ SqT K H a xs ∧ Rps F xs ds ∧ ∀ H', Up F H' → SqT K H' a xs := by
  rcases e with rfl | rfl
  · obtain ⟨a, xs, rfl, hF, rx⟩ := h.tup_inv
    exact ⟨a, xs, rfl, .inl (.inl (u _ _ hF)), rx, fun H' w => .inl (.inl (w _ _ hF))⟩
  · obtain ⟨a, xs, rfl, hF, rx⟩ := h.tuP_inv
    exact ⟨a, xs, rfl, (tf_up hF u).sq, rx, fun H' w => (tf_up hF w).sq⟩
def viEnumT (ta : VTA) : VTI := fun env n Q => ta env n fun ds env1 n1 => ∃ xs d, ds = [d] ∧ isTu d xs ∧ Q (enD xs) env1 n1
theorem vi_enumT {e : Expr} {p pos tpos : Pos} {elts : List Expr} {kk : Nat} (hg : Gl X "enumerate") (hm : X.mg "enumerate" = none) (ha : PA X [e] (aOf c tas)) (hs : starEach [e] X.env = [(false, eval e X.env)] := by rfl) :
    PI X (.Tuple elts kk tpos) (.Call (.Name "enumerate" p) [e] [] pos) (iOf c (viEnumT tas)) := PI.imp (pi_enumT2 hg hm ha hs) fun σ H R ⟨F, env, n, Q, r, q, k⟩ => ⟨F, env, n, _, r, q, fun vs H' F' ds env' n' r' w rp qd => by
  obtain ⟨xs, d, rfl, hd, qd⟩ := qd
  obtain ⟨v, rfl, p1⟩ := rp.one
  obtain ⟨a, us, rfl, hA, rx, hup⟩ := p1.tu_inv (K := X.K) r'.sub hd
  refine ⟨a, us, rfl, hA, k _ H' F' _ env' n' r' w (fun c _ F1 H σ env n r u i => ?_) qd⟩
  have hA : SqT X.K H a us := hup H (u.trans r.sub)
  refine ⟨fun hi => ?_, fun hi => ⟨us, hA, by rw [enD_len] at hi; rw [rx.len]; exact hi⟩⟩
  obtain ⟨d, ed, ez⟩ := enD_get (List.getElem?_eq_getElem hi)
  obtain ⟨v, e1, p1⟩ := rx.get ed
  refine ⟨⟨us, v, hA, e1⟩, fun x H' y => ?_⟩
  obtain ⟨T, y1, rfl, nT, rfl, hy⟩ := y
  have q1 := hy us hA
  rw [e1] at q1
  cases q1
  obtain ⟨_, _, nf⟩ := r.new0 nT
  exact ⟨upd F1 T (.tup [.int (i : Nat), v]), _, r.layF nT _, up_lay nf, List.getElem?_eq_getElem hi, by rw [ez]; exact .tup upd_same (.cons (.int _) (.cons ((p1.up u).up (up_lay nf)) .nil))⟩⟩
/-- len of a tuple, told or plain -/
def dLenP : RCD := fun ds Q => ∃ zs d, ds = [d] ∧ isTu d zs ∧ Q (.int zs.length)
theorem lft_lenP {K : PySem.W.Frag} : LftC (fun xs H Q => ∃ p ys, xs = [.ref p] ∧ (SqL K H p ys ∨ SqT K H p ys) ∧ Q (.int ys.length) H) dLenP := fun F H vs ds Q R u rp ⟨zs, d, h, hd, q⟩ k => by
  subst h
  obtain ⟨v, rfl, p⟩ := rp.one
  obtain ⟨a, xs, rfl, hA, rx, _⟩ := p.tu_inv (K := K) u hd
  exact ⟨a, xs, rfl, .inr hA, by rw [rx.len]; exact k _ _ (.int _) q⟩
end
end VL
namespace VL
open PySem PySem.Spec PyProof.Rows L2 HM
section
variable {n N : Nat} {m a : Nat → Nat → Nat} {P : List Nat}
theorem at_idx {g : Nat} (h : g ∈ P) : tA P (P.idxOf g) = g := by
  have h1 := List.idxOf_lt_length_of_mem h
  have h2 := tA_get h1
  rw [List.getElem?_eq_getElem h1, List.getElem_idxOf h1] at h2
  exact (Option.some.inj h2).symm
theorem idx_at (nd : P.Nodup) {i : Nat} (hi : i < P.length) : P.idxOf (tA P i) = i := by
  have hm := tA_mem hi
  have h1 := List.idxOf_lt_length_of_mem hm
  have e : P[P.idxOf (tA P i)]? = P[i]? := by rw [tA_get h1, at_idx hm, tA_get hi]
  exact (List.getElem?_inj h1 nd).mp e
end
end VL
namespace VL
open PySem PySem.Spec PyProof.Rows L2 HM
theorem tA_range {N x : Nat} {f : Nat → Nat} (h : x < N) : tA ((List.range N).map f) x = f x := by
  unfold tA
  rw [List.getD_eq_getElem?_getD, List.getElem?_map, List.getElem?_range h]
  rfl
end VL
namespace VL
open PySem PySem.Spec PyProof.Rows L2 HM
end VL
namespace VL
open PySem PySem.Spec PyProof.Rows L2 HM
end VL
namespace VL
open PySem PySem.Spec PyProof.Rows L2 HM
end VL
namespace VL
open PySem PySem.Spec PyProof.Rows L2 HM
theorem set_range {r j v : Nat} {f f' : Nat → Nat} (hj : f' j = v) (ho : ∀ i, i ≠ j → f' i = f i) : ((List.range r).map f).set j v = (List.range r).map f' := by
  refine List.ext_getElem? fun i => ?_
  rw [List.getElem?_set]
  by_cases hi : i < r
  · rw [List.getElem?_map, List.getElem?_map, List.getElem?_range hi]
    by_cases z : j = i
    · rw [if_pos z, if_pos (by rw [List.length_map, List.length_range, z]; exact hi), ← z]
      show some v = some (f' j)
      rw [hj]
    · rw [if_neg z]
      show some (f i) = some (f' i)
      rw [ho i (Ne.symm z)]
  · rw [List.getElem?_map, List.getElem?_map, List.getElem?_eq_none (by rw [List.length_range]; omega)]
    by_cases z : j = i
    · rw [if_pos z, if_neg (by rw [List.length_map, List.length_range, z]; exact hi)]
      rfl
    · rw [if_neg z]
      rfl
end VL
namespace VL
open PySem PySem.Spec PyProof.Rows L2 HM
def dIxU : R2D := fun x y Q => ∃ (ds : List Dt) (i : Int) (d : Dt), isTu x ds ∧ y = .int i ∧ atI ds i = some d ∧ Q d
theorem lft_ixU {K : PySem.W.Frag} : Lft2 (rIxT K) dIxU := fun F H x y d1 d2 Q R u p1 p2 ⟨ds, i, d, e1, e2, h, q⟩ k => by
  subst e2
  obtain ⟨a, xs, rfl, hA, rx, _⟩ := p1.tu_inv (K := K) u e1
  obtain ⟨v, h1, h2⟩ := atI_rps rx h
  exact ⟨a, xs, i, v, rfl, p2.int_inv, hA, h1, k _ _ h2 q⟩
def viTuU (te : VTE) : VTI := fun env n Q => te env n fun d env1 n1 => ∃ ds, isTu d ds ∧ Q ds env1 n1
theorem vi_tuU {X : Cx} {c : Fc} {te : VTE} {tg l : Expr} (hl : PE X l (tOf c te)) : PI X tg l (iOf c (viTuU te)) := PI.imp (pi_tup hl) fun σ H R ⟨F, env, n, Q, r, q, k⟩ => ⟨F, env, n, _, r, q, fun v H' F' d env' n' r' w rp qd => by
  obtain ⟨ds, hd, qd⟩ := qd
  obtain ⟨a, xs, rfl, hA, rx, hup⟩ := rp.tu_inv (K := X.K) r'.sub hd
  refine ⟨a, rfl, ⟨xs, hA⟩, k _ H' F' ds env' n' r' w (fun c _ F1 H σ env n r u i => ?_) qd⟩
  have hH : SqT X.K H a xs := hup H (u.trans r.sub)
  refine ⟨fun hi => ?_, fun hi => ⟨xs, hH, by rw [rx.len]; exact hi⟩⟩
  obtain ⟨v, e1, e2⟩ := rx.get (List.getElem?_eq_getElem hi)
  refine ⟨⟨xs, v, hH, e1⟩, fun x H' y => ?_⟩
  obtain ⟨rfl, y⟩ := y
  have := y xs hH
  rw [e1] at this
  cases this
  exact ⟨F1, _, r, Up.refl F1, List.getElem?_eq_getElem hi, e2.up u⟩⟩
def invT (m : Nat) (a : List Nat) : List Nat := (List.range m).map fun x => a.idxOf x
def cjT (m : Nat) (nm t : List Nat) : List Nat := thn (thn (invT m nm) t) nm
section
variable {m : Nat} {a b c nm o t : List Nat}
theorem Tn.idx (h : Tn m a) {i : Nat} (hi : i < m) : a.idxOf (tA a i) = i := idx_at h.nd (by rw [h.len]; exact hi)
theorem Tn.at_idx (h : Tn m a) {x : Nat} (hx : x < m) : tA a (a.idxOf x) = x := VL.at_idx (h.all hx)
theorem Tn.idx_lt (h : Tn m a) {x : Nat} (hx : x < m) : a.idxOf x < m := by
  have := List.idxOf_lt_length_of_mem (h.all hx)
  rwa [h.len] at this
theorem inv_at (hx : x < m) : tA (invT m a) x = a.idxOf x := tA_range hx
theorem inv_tn (h : Tn m a) : Tn m (invT m a) := tn_of (by unfold invT; rw [List.length_map, List.length_range]) (fun y hy => by
  obtain ⟨x, hx, rfl⟩ := List.mem_map.mp hy
  exact h.idx_lt (List.mem_range.mp hx)) (List.pairwise_map.mpr (List.Pairwise.imp_of_mem (fun {x y} hx hy hxy e => hxy (by
    rw [← h.at_idx (List.mem_range.mp hx), e, h.at_idx (List.mem_range.mp hy)])) List.nodup_range))
theorem thn_inv (h : Tn m a) : thn a (invT m a) = stay m := by
  unfold thn stay
  refine List.ext_getElem? fun i => ?_
  rw [List.getElem?_map]
  by_cases hi : i < m
  · rw [tA_get (by rw [h.len]; exact hi), List.getElem?_range hi]
    show some (tA (invT m a) (tA a i)) = some i
    rw [inv_at (h.at_lt hi), h.idx hi]
  · rw [List.getElem?_eq_none (by rw [h.len]; omega), List.getElem?_eq_none (by rw [List.length_range]; omega)]
    rfl
theorem inv_thn (h : Tn m a) : thn (invT m a) a = stay m := by
  unfold thn stay invT
  rw [List.map_map]
  have : (List.range m).map (tA a ∘ fun x => a.idxOf x) = (List.range m).map id := List.map_congr_left fun x hx => h.at_idx (List.mem_range.mp hx)
  rw [this, List.map_id]
theorem inv_uniq (ha : Tn m a) (hb : Tn m b) (e : thn a b = stay m) : b = invT m a := thn_inj ha hb (inv_tn ha) (by rw [e, thn_inv ha])
theorem cj_tn (h : Tn m nm) (ht : Tn m t) : Tn m (cjT m nm t) := thn_tn (thn_tn (inv_tn h) ht) h
theorem cj_stay (ht : Tn m t) : cjT m (stay m) t = t := by
  have e : invT m (stay m) = stay m := (inv_uniq (stay_tn m) (stay_tn m) (thn_stay (stay_tn m))).symm
  unfold cjT
  rw [e, stay_thn ht, thn_stay ht]
theorem cj_comp (h : Tn m nm) (ho : Tn m o) (ht : Tn m t) : cjT m o (cjT m nm t) = cjT m (thn nm o) t := by
  have hi := inv_tn h
  have hj := inv_tn ho
  have e : invT m (thn nm o) = thn (invT m o) (invT m nm) := (inv_uniq (thn_tn h ho) (thn_tn hj hi) (by
    rw [thn_assoc h ho, ← thn_assoc ho hj, thn_inv ho, stay_thn hi, thn_inv h])).symm
  unfold cjT
  rw [e]
  rw [← thn_assoc hj (thn_tn (thn_tn hi ht) h |> fun _ => thn_tn hi ht), ← thn_assoc hj hi]
  rw [thn_assoc (thn_tn (thn_tn hj hi) ht) h]
theorem cj_back (h : Tn m nm) (ht : Tn m t) : cjT m (invT m nm) (cjT m nm t) = t := by
  rw [cj_comp h (inv_tn h) ht, thn_inv h, cj_stay ht]
theorem cj_inj (h : Tn m nm) (hb : Tn m b) (hc : Tn m c) (e : cjT m nm b = cjT m nm c) : b = c := by
  rw [← cj_back h hb, e, cj_back h hc]
end
theorem code_inj {B : Int} : ∀ {q r : List Int}, q.length = r.length → TS.Bd B q → TS.Bd B r → TS.code B q = TS.code B r → q = r
  | [], [], _, _, _, _ => rfl
  | [], _ :: _, h, _, _, _ => by cases h
  | _ :: _, [], h, _, _, _ => by cases h
  | x :: q, y :: r, hl, h1, h2, e => by
    have hl2 : q.length = r.length := Nat.succ.inj hl
    rcases Int.lt_trichotomy x y with z | z | z
    · have := TS.code_lt hl2 h1.tail h2.tail z; omega
    · subst z
      congr 1
      refine code_inj hl2 h1.tail h2.tail ?_
      have g1 : ¬ TS.code B q < TS.code B r := fun w => by have := (TS.code_same (d := x) hl2).mpr w; omega
      have g2 : ¬ TS.code B r < TS.code B q := fun w => by have := (TS.code_same (d := x) hl2.symm).mpr w; omega
      omega
    · have := TS.code_lt hl2.symm h2.tail h1.tail z; omega
theorem srt_lt {m : Nat} {gl : List (List Nat)} (tn : ∀ a ∈ gl, Tn m a) (nd : gl.Nodup) (s : Srt m gl) : gl.Pairwise fun a b => TS.code (m : Int) (iN a) < TS.code (m : Int) (iN b) := by
  have s1 : (gl.map iN).Pairwise fun q r => TS.code (m : Int) q ≤ TS.code (m : Int) r := s
  have s2 : gl.Pairwise fun a b => TS.code (m : Int) (iN a) ≤ TS.code (m : Int) (iN b) := (List.pairwise_map (f := iN) (R := fun q r => TS.code (m : Int) q ≤ TS.code (m : Int) r)).mp s1
  refine (List.Pairwise.and s2 nd).imp_of_mem fun {a b} ha hb h => ?_
  have hab : TS.code (m : Int) (iN a) ≠ TS.code (m : Int) (iN b) := fun e => h.2 (iN_inj (code_inj (by unfold iN; rw [List.length_map, List.length_map, (tn a ha).len, (tn b hb).len]) (bd_tn (tn a ha)) (bd_tn (tn b hb)) e))
  have := h.1
  omega
theorem srt_uniq {m : Nat} {g1 g2 : List (List Nat)} (t1 : ∀ a ∈ g1, Tn m a) (n1 : g1.Nodup) (s1 : Srt m g1) (t2 : ∀ a ∈ g2, Tn m a) (n2 : g2.Nodup) (s2 : Srt m g2) (h : ∀ x, x ∈ g1 ↔ x ∈ g2) : g1 = g2 :=
  uniq_srt (fun a => TS.code (m : Int) (iN a)) h (srt_lt t1 n1 s1) (srt_lt t2 n2 s2)
/-- gl' is gl named anew, sorted -/
structure NG (m : Nat) (nm : List Nat) (gl gl' : List (List Nat)) : Prop where
  pm : gl'.Perm (gl.map (cjT m nm))
  srt : Srt m gl'
section
variable {m : Nat} {nm o : List Nat} {gl g1 g2 g3 : List (List Nat)}
theorem NG.tn (hn : Tn m nm) (ht : ∀ a ∈ gl, Tn m a) (h : NG m nm gl g1) : ∀ a ∈ g1, Tn m a := fun a ha => by
  obtain ⟨b, hb, rfl⟩ := List.mem_map.mp (h.pm.mem_iff.mp ha)
  exact cj_tn hn (ht b hb)
theorem NG.nd (hn : Tn m nm) (ht : ∀ a ∈ gl, Tn m a) (nd : gl.Nodup) (h : NG m nm gl g1) : g1.Nodup := h.pm.nodup_iff.mpr (List.pairwise_map.mpr (List.Pairwise.imp_of_mem (fun {x y} hx hy hxy e => hxy (cj_inj hn (ht x hx) (ht y hy) e)) nd))
theorem NG.len (h : NG m nm gl g1) : g1.length = gl.length := by rw [h.pm.length_eq, List.length_map]
theorem NG.uniq (hn : Tn m nm) (ht : ∀ a ∈ gl, Tn m a) (nd : gl.Nodup) (h1 : NG m nm gl g1) (h2 : NG m nm gl g2) : g1 = g2 :=
  srt_uniq (h1.tn hn ht) (h1.nd hn ht nd) h1.srt (h2.tn hn ht) (h2.nd hn ht nd) h2.srt fun x => by rw [h1.pm.mem_iff, h2.pm.mem_iff]
theorem NG.comp (hn : Tn m nm) (ho : Tn m o) (ht : ∀ a ∈ gl, Tn m a) (h1 : NG m nm gl g1) (h2 : NG m o g1 g2) : NG m (thn nm o) gl g2 := ⟨by
  refine h2.pm.trans ((h1.pm.map _).trans ?_)
  rw [List.map_map]
  rw [List.map_congr_left fun x hx => show (cjT m o ∘ cjT m nm) x = cjT m (thn nm o) x from cj_comp hn ho (ht x hx)], h2.srt⟩
theorem NG.of_stay (ht : ∀ a ∈ gl, Tn m a) (nd : gl.Nodup) (s : Srt m gl) : NG m (stay m) gl gl := ⟨by
  rw [List.map_congr_left fun x hx => cj_stay (ht x hx), List.map_id']
  , s⟩
end
theorem cj_mul {m : Nat} {nm a b : List Nat} (h : Tn m nm) (ha : Tn m a) (hb : Tn m b) : thn (cjT m nm a) (cjT m nm b) = cjT m nm (thn a b) := by
  have hi := inv_tn h
  have h1 := thn_tn hi ha
  unfold cjT
  rw [thn_assoc h1 h, ← thn_assoc h (thn_tn hi hb), ← thn_assoc h hi, thn_inv h, stay_thn hb, ← thn_assoc h1 hb, thn_assoc hi ha]
theorem gr_cj {m : Nat} {nm : List Nat} {ts : List (List Nat)} (h : Tn m nm) (ht : ∀ g ∈ ts, Tn m g) {a : List Nat} (g : GR m (ts.map (cjT m nm)) a) : ∃ b, GR m ts b ∧ a = cjT m nm b := by
  induction g with
  | stay =>
    refine ⟨stay m, .stay, ?_⟩
    unfold cjT
    rw [thn_stay (inv_tn h), inv_thn h]
  | step _ hg ih =>
    obtain ⟨b, hb, rfl⟩ := ih
    obtain ⟨g2, hg2, rfl⟩ := List.mem_map.mp hg
    exact ⟨thn b g2, .step hb hg2, cj_mul h (hb.tn ht) (ht g2 hg2)⟩
def spThen : VSp := fun ds t Q _ => ∃ (m : Nat) (a b : List Nat) (d : Dt), ds = [.tup (nsD a), d] ∧ isTu d (nsD b) ∧ Tn m a ∧ Tn m b ∧ m ≤ 7 ∧ Q (.tup (nsD (thn a b))) t
def spTwoU : VSp := fun ds t Q _ => ∃ (m : Nat) (a b : List Nat) (d e : Dt), ds = [d, e] ∧ isTu d (nsD a) ∧ isTu e (nsD b) ∧ Tn m a ∧ Tn m b ∧ m ≤ 7 ∧ Q (.tup (nsD (thn a b))) t
def spContr : VSp := fun ds t Q _ => ∃ (m : Nat) (a : List Nat) (d : Dt), ds = [d] ∧ isTu d (nsD a) ∧ Tn m a ∧ m ≤ 7 ∧ Q (.tup (nsD (invT m a))) t
def spNamedG : VSp := fun ds t Q _ => ∃ (m : Nat) (gl : List (List Nat)) (nm : List Nat) (d : Dt), ds = [.tup (tnsD gl), d] ∧ isTu d (nsD nm) ∧ 1 ≤ m ∧ m ≤ 7 ∧ gl.length ≤ 60 ∧ (∀ a ∈ gl, Tn m a) ∧ Tn m nm ∧ ∀ gl', NG m nm gl gl' → Q (.tup (tnsD gl')) t
def spRenU : VSp := fun ds t Q _ => ∃ (m : Nat) (a nm : List Nat) (d : Dt), ds = [.tup (nsD a), d] ∧ isTu d (nsD nm) ∧ Tn m a ∧ Tn m nm ∧ m ≤ 7 ∧ Q (.tup (nsD (cjT m nm a))) t
def spRenL : VSp := fun ds t Q _ => ∃ (m : Nat) (a nm : List Nat), ds = [.tup (nsD a), .lst (nsD nm)] ∧ Tn m a ∧ Tn m nm ∧ m ≤ 7 ∧ Q (.tup (nsD (cjT m nm a))) t
def spClosedD : VSp := fun ds t Q _ => ∃ (m : Nat) (ts : List (List Nat)), ds = [nD m, .lst (tnsD ts)] ∧ 1 ≤ m ∧ m ≤ 7 ∧ ts.length ≤ 4 ∧ (∀ g ∈ ts, Tn m g) ∧ (∀ gl, IsGr m gl → Srt m gl → (∀ x, x ∈ gl ↔ GR m ts x) → Q (.lst (tnsD gl)) t) ∧ ((∀ l : List (List Nat), l.Nodup → (∀ x ∈ l, GR m ts x) → l.length ≤ 60) ∨ Q .non t)
/-- some turns of which few come -/
structure FewT (m : Nat) (ts : List (List Nat)) : Prop where
  m1 : 1 ≤ m
  m7 : m ≤ 7
  l4 : ts.length ≤ 4
  tn : ∀ g ∈ ts, Tn m g
  few : ∀ l : List (List Nat), l.Nodup → (∀ x ∈ l, GR m ts x) → l.length ≤ 60
def menD (e : Nat × List (List Nat)) : Dt := .tup [nD e.1, .lst (tnsD e.2)]
def spMenu (p : Addr) : VSp := fun ds t Q _ => ds = [.obj p] ∧ ∀ m ts, FewT m ts → Q (menD (m, ts)) t
theorem len_le_of_subL {k l : List (List Nat)} (nd : k.Nodup) (sub : ∀ x ∈ k, x ∈ l) : k.length ≤ l.length := List.Nodup.length_le_of_subset nd sub
theorem FewT.cj {m : Nat} {nm : List Nat} {ts : List (List Nat)} (h : Tn m nm) (f : FewT m ts) : FewT m (ts.map (cjT m nm)) where
  m1 := f.m1
  m7 := f.m7
  l4 := by rw [List.length_map]; exact f.l4
  tn g hg := by
    obtain ⟨b, hb, rfl⟩ := List.mem_map.mp hg
    exact cj_tn h (f.tn b hb)
  few l nd hl := by
    have hi := inv_tn h
    have hb : ∀ x ∈ l, ∃ b, GR m ts b ∧ x = cjT m nm b := fun x hx => gr_cj h f.tn (hl x hx)
    have := f.few (l.map (cjT m (invT m nm))) (List.pairwise_map.mpr (List.Pairwise.imp_of_mem (fun {x y} hx hy hxy e => hxy (by
      obtain ⟨b, gb, rfl⟩ := hb x hx
      obtain ⟨c, gc, rfl⟩ := hb y hy
      rw [cj_back h (gb.tn f.tn), cj_back h (gc.tn f.tn)] at e
      rw [e])) nd)) fun x hx => by
      obtain ⟨y, hy, rfl⟩ := List.mem_map.mp hx
      obtain ⟨b, gb, rfl⟩ := hb y hy
      rw [cj_back h (gb.tn f.tn)]
      exact gb
    rwa [List.length_map] at this
theorem FewT.one {m : Nat} {ts : List (List Nat)} (h1 : 1 ≤ m) (h7 : m ≤ 7) (ht : ∀ g ∈ ts, Tn m g) (hl : ts.length ≤ 1) : FewT m ts := ⟨h1, h7, by omega, ht, fun l nd hg => Nat.le_trans (GR.few12 ht h7 hl nd hg) (by decide)⟩
theorem FewT.of {m : Nat} {ts gl : List (List Nat)} (h1 : 1 ≤ m) (h7 : m ≤ 7) (h4 : ts.length ≤ 4) (ht : ∀ g ∈ ts, Tn m g) (g : IsGr m gl) (hg : ∀ x, x ∈ gl ↔ GR m ts x) : FewT m ts := ⟨h1, h7, h4, ht, fun l nd hl => Nat.le_trans (len_le_of_subL nd fun x hx => (hg x).mpr (hl x hx)) g.few⟩
def mens : List (Nat × List (List Nat)) := [(1, []), (2, [[1, 0]]), (3, [[1, 2, 0]]), (3, [[1, 2, 0], [1, 0, 2]]), (4, [[1, 0, 3, 2], [2, 3, 0, 1]]), (4, [[1, 2, 3, 0]]), (4, [[1, 2, 3, 0], [2, 1, 0, 3]]), (4, [[1, 2, 0, 3], [1, 0, 3, 2]]),
  (4, [[1, 2, 3, 0], [1, 0, 2, 3]]), (5, [[1, 2, 3, 4, 0], [0, 4, 3, 2, 1]]), (5, [[1, 2, 3, 4, 0], [0, 2, 4, 1, 3]]), (5, [[1, 2, 0, 3, 4], [0, 1, 2, 4, 3]]), (5, [[1, 2, 0, 3, 4], [1, 0, 2, 3, 4], [0, 1, 2, 4, 3]]),
  (6, [[1, 0, 2, 3, 4, 5], [0, 1, 3, 2, 4, 5], [0, 1, 2, 3, 5, 4]]), (7, [[1, 2, 3, 4, 5, 6, 0], [0, 2, 4, 6, 1, 3, 5]]), (7, [[1, 2, 0, 4, 5, 3, 6]]), (6, [[1, 2, 0, 3, 4, 5], [0, 1, 2, 4, 5, 3]])]
def grts : List (Nat × List (List Nat)) := [(7, [[1, 2, 3, 4, 5, 6, 0], [0, 3, 6, 2, 5, 1, 4]]), (5, [[1, 2, 3, 4, 0], [1, 2, 0, 3, 4]]), (6, [[1, 2, 3, 0, 4, 5], [1, 0, 2, 3, 4, 5], [0, 1, 2, 3, 5, 4]]), (7, [[1, 2, 3, 0, 4, 5, 6], [2, 1, 0, 3, 4, 5, 6], [0, 1, 2, 3, 5, 6, 4], [0, 1, 2, 3, 5, 4, 6]])]
def menB (e : Nat × List (List Nat)) : Bool := decide (1 ≤ e.1) && (decide (e.1 ≤ 7) && (decide (e.2.length ≤ 4) && ((e.2.all fun g => decide (g.length = e.1) && ((g.all fun x => decide (x < e.1)) && decide g.Nodup)) && (closedB e.1 e.2 (grow e.2 12 [stay e.1]) && decide ((grow e.2 12 [stay e.1]).length ≤ 60)))))
theorem mens_ok : (mens ++ grts).all menB = true := by decide +kernel
theorem menB_few {e : Nat × List (List Nat)} (h : menB e = true) : FewT e.1 e.2 := by
  unfold menB at h
  simp only [Bool.and_eq_true, decide_eq_true_iff, List.all_eq_true] at h
  obtain ⟨a, b, c, d, f, g⟩ := h
  exact ⟨a, b, c, fun x hx => tn_of (d x hx).1 (d x hx).2.1 (d x hx).2.2, fun l nd hl => Nat.le_trans (few_by f l nd hl) g⟩
theorem men_few {e : Nat × List (List Nat)} (h : e ∈ mens ∨ e ∈ grts) : FewT e.1 e.2 := menB_few (List.all_eq_true.mp mens_ok e (List.mem_append.mpr h))
def rnL (m : Nat) (nm a : List Nat) (i : Nat) : List Int := (List.range m).map fun y => if nm.idxOf y < i then (tA nm (tA a (nm.idxOf y)) : Int) else -1
end VL
namespace VL
open PySem PySem.Spec PyProof.Rows L2 HM
theorem py_tuP (l : List Dt) : py (.tuP l) = py (.tup l) := by rw [py, py]
theorem rp_tuP {g : Dt} {l : List Dt} (h : rpS (.tup [g, .tup l])) : rpS (.tup [g, .tuP l]) := by
  have e : py (.tup [g, .tuP l]) = py (.tup [g, .tup l]) := by
    show PyData.tuple [py g, py (.tuP l)] = PyData.tuple [py g, py (.tup l)]
    rw [py_tuP]
  have e2 : isPy (.tup [g, .tuP l]) = isPy (.tup [g, .tup l]) := rfl
  unfold rpS at h ⊢
  rw [e, e2]
  exact h
end VL
namespace K66
open PySem PySem.Spec PyProof.Rows L2 HM VL
def topS (i : Nat) : Stmt := PySem.Challenge.pw_heldmarks_k66_groups_named_anew.main.body.getD i (.Pass ⟨0, 0, 0, 0⟩)
abbrev bn : List Str := ["isinstance", "int", "bool", "len", "abs", "list", "range", "tuple", "set", "all", "sorted", "zip", "enumerate", "repr"]
end K66
namespace K66
open PySem PySem.Spec PyProof.Rows L2 HM VL
abbrev s_l_pen : Stmt := topS 9
abbrev s_l_draw : Stmt := topS 10
section
variable {P : Program} {w : World} {K : PySem.W.Frag} {mg : Str → Option Value} {base : Heap}
theorem ebd {c : Int} (h0 : 0 < c) (h : c < 2 ^ 64) (x : Int) : -(2 ^ 64) < x % c ∧ x % c < 2 ^ 64 := ⟨by have := Int.emod_nonneg x (b := c) (by omega); omega, by have := Int.emod_lt_of_pos x h0; omega⟩
theorem sc_l_pen : FnScope ["_law_script"] ["_law_script"] (defScope s_l_pen) := ⟨rfl, rfl, rfl, by decide +kernel, rfl, by decide +kernel, by decide +kernel⟩
theorem ok_pen {gd : Around → Prop} {f : Addr} {fd : FuncData} {k : Nat} (F : Fun K "_law_pen" "_law_pen" s_l_pen f fd) : PFn gd P w K mg base CX0 (k + 1) f fd ["_law_script"] spPenL := by
  refine pfn_of F sc_l_pen (fun vs H Q E h => ?_) (fun cdv A outer s H vs Q E hcd hgd hr h => ?_)
  · obtain ⟨a, rfl, _⟩ := h
    rfl
  · obtain ⟨a, rfl, q⟩ := h
    refine ⟨_, pss_one (ps_ret (pe_lst (pa_cons (pv 0) (pa_cons pe_int (pa_cons pe_int pa_nil))))), ?_⟩
    exact ⟨_, rfl, (by decide : 3 ≤ sizeLine), fun p np => q p np⟩
theorem sc_l_draw : FnScope ["_law_pen_here", "_law_many", "_law_digit", "_law_at", "_law_cell", "_law_number"] ["_law_pen_here", "_law_many"] (defScope s_l_draw) := ⟨rfl, rfl, rfl, by decide +kernel, rfl, by decide +kernel, by decide +kernel⟩
theorem ok_draw {gd : Around → Prop} {am : Am} {p f : Addr} {fd : FuncData} {k : Nat} (PI : PenL K am p) (F : Fun K "_law_draw" "_law_draw" s_l_draw f fd) (mz : ∀ x ∈ bn, mg x = none) : VFn gd P w K mg base CX0 (k + 1) f fd ["_law_pen_here", "_law_many"] am (spTake p) := by
  refine pfn_of F sc_l_draw (fun vs H Q E h => ?_) (fun cdv A outer s H vs Q E hcd hgd hr h => ?_)
  · obtain ⟨F0, ds, n, Q', E', _, _, _, r, ⟨m, rfl, _⟩, _⟩ := h
    rw [r.len]
    rfl
  · obtain ⟨F0, ds, n, Q', E', u, hs, ha, r, ⟨m, rfl, hm0, hm1, q⟩, kq, ke⟩ := h
    obtain ⟨a, ns, t, l, hp, hS, hlen, ht, hl⟩ := PI.rd ha
    cases r with | cons r1 r =>
    cases r with | cons r2 r =>
    cases r
    cases r1
    cases r2
    have ml := mz "len" (by decide)
    have ma := mz "abs" (by decide)
    refine ⟨_, pss_cons (ps_if (pt_cmpR op_gt (pe_ix ix_list (pv 0) pe_int (fun _ _ => rfl)) pe_int (nomark _))
        (pss_cons (ps_set (i := 2) sc_l_draw.nd rfl (.inl rfl) (pe_op op_mod (pe_ix ix_list (pv 0) pe_int (fun _ _ => rfl)) (pv 1)))
        (pss_cons (ps_asg (pe_op op_fdiv (pe_ix ix_list (pv 0) pe_int (fun _ _ => rfl)) (pv 1)) (pg_sub (pv 0) pe_int set_list))
        (pss_one (ps_ret (pv 2))))) pss_nil)
      (pss_cons (ps_set (i := 3) sc_l_draw.nd rfl (.inl rfl) (pe_ix ix_list (pv 0) pe_int (fun _ _ => rfl)))
      (pss_cons (ps_asg (pe_op op_add (pv 3) pe_int) (pg_sub (pv 0) pe_int set_list))
      (pss_cons (ps_set (i := 4) sc_l_draw.nd rfl (.inl rfl) pe_int)
      (pss_cons (ps_if (pt_cmpR op_gt (pe_callB call_len_seq (by rfl) ml PySem.boot_len (pa_cons (pe_ix ix_list (pv 0) pe_int (fun _ _ => rfl)) pa_nil)) pe_int (nomark _))
        (pss_one (ps_set (i := 4) sc_l_draw.nd rfl (.inl rfl) (pe_ix ix_list (pe_ix ix_list (pv 0) pe_int (fun _ _ => rfl)) (pe_op op_mod (pv 3) (pe_callB call_len_seq (by rfl) ml PySem.boot_len (pa_cons (pe_ix ix_list (pv 0) pe_int (fun _ _ => rfl)) pa_nil))) (fun _ _ => rfl)))) pss_nil)
      (pss_cons (ps_if (pw_and (pt_cmpR op_lt (pv 3) (pe_callB call_len_seq (by rfl) ml PySem.boot_len (pa_cons (pe_ix ix_list (pv 0) pe_int (fun _ _ => rfl)) pa_nil)) (nomark _)) (pw_and1 (pt_cmpR op_ge (pe_callB call_abs (by rfl) ma (by decide +kernel) (pa_cons (pv 4) pa_nil)) (pe_op op_pow pe_int pe_int) (nomark _)))).pt
        (pss_cons (ps_asg (pe_op op_fdiv (pe_callB call_abs (by rfl) ma (by decide +kernel) (pa_cons (pv 4) pa_nil)) (pv 1)) (pg_sub (pv 0) pe_int set_list))
        (pss_one (ps_ret (pe_op op_mod (pe_callB call_abs (by rfl) ma (by decide +kernel) (pa_cons (pv 4) pa_nil)) (pv 1))))) pss_nil)
      (pss_cons (ps_set (i := 5) sc_l_draw.nd rfl (.inl rfl) (pe_op op_mod (pe_op op_mul (pe_op op_add (pe_op op_add (pe_op op_mod (pv 4) pe_int) (pe_op op_mul pe_int (pv 3))) pe_int) pe_int) pe_int))
      (pss_cons (ps_set (i := 5) sc_l_draw.nd rfl (.inl rfl) (pe_op op_mod (pe_op op_add (pe_op op_add (pe_op op_mul (pv 5) (pv 5)) (pe_op op_mul pe_int (pv 5))) (pv 3)) pe_int))
      (pss_one (ps_ret (pe_op op_mod (pe_op op_fdiv (pe_op op_mod (pe_op op_mul (pv 5) (pe_op op_add (pe_op op_mod (pv 5) pe_int) pe_int)) pe_int) pe_int) (pv 1))))))))))), ?_⟩
    have sq : ∀ {o : List V}, SqL K (upd H p (.lst o)) a (ns.map V.int) := fun {o} => (hS.up fun b ob u e => by
      rw [upd_ne (ne_of e hp (by intro z; cases z))]
      exact e).sq
    have mi : (0 : Int) < (m : Int) := by omega
    have fin : ∀ (x t' l' : Int), 0 ≤ t' → 0 ≤ l' → Q (.int (x % (m : Int))) (upd H p (.lst (pl3 a t' l'))) := fun x t' l' h1 h2 => by
      have e0 := Int.emod_nonneg x (b := (m : Int)) (by omega)
      have e1 := Int.emod_lt_of_pos x mi
      obtain ⟨y, hy⟩ : ∃ y : Nat, x % (m : Int) = (y : Int) := ⟨(x % (m : Int)).toNat, by omega⟩
      rw [hy]
      rw [hy] at e1
      exact kq _ F0 _ (nD y) n (PI.out u hs ha hp h1 h2) (.int _) (q y (by omega))
    have hne : ∀ (c : Int), 0 ≤ (if c < 0 then -c else c) := fun c => by split <;> omega
    refine ⟨.ref p, rfl, p, _, _, _, rfl, rfl, .inl (.inl hp), rfl, _, _, rfl, rfl, _, rfl, ite2 (fun e => ?_) (fun e => ?_)⟩
    · refine ⟨.ref p, rfl, p, _, _, _, rfl, rfl, .inl (.inl hp), rfl, .int m, rfl, _, _, rfl, rfl, mi, .ref p, rfl, p, _, _, _, rfl, rfl, .inl (.inl hp), rfl, .int m, rfl, _, _, rfl, rfl, ⟨mi, by omega⟩, .ref p, rfl, p, _, _, 2, rfl, rfl, hp, rfl, _, rfl, ?_⟩
      exact fin _ t _ ht (Int.ediv_nonneg hl (by omega))
    · refine ⟨.ref p, rfl, p, _, _, _, rfl, rfl, .inl (.inl hp), rfl, .int t, rfl, _, _, rfl, rfl, .ref p, rfl, p, _, _, 1, rfl, rfl, hp, rfl, .ref p, rfl, p, _, _, _, rfl, rfl, .inl (.inl upd_same), rfl, a, _, rfl, .inl sq, _, _, rfl, rfl, _, rfl, ite2 (fun e1 => ?ga) (fun e1 => ?gb)⟩
      case' ga =>
        have hpos : (0 : Int) < ((ns.map V.int).length : Int) := of_decide_eq_true e1
        have hb0 : 0 ≤ t % ((ns.map V.int).length : Int) := Int.emod_nonneg _ (by omega)
        have hb1 : t % ((ns.map V.int).length : Int) < ((ns.map V.int).length : Int) := Int.emod_lt_of_pos _ hpos
        have hj : (t % ((ns.map V.int).length : Int)).toNat < ns.length := by
          rw [List.length_map] at hb0 hb1 ⊢
          omega
        have hat : atI (ns.map V.int) (t % ((ns.map V.int).length : Int)) = some (.int (ns[(t % ((ns.map V.int).length : Int)).toNat]'hj)) := by
          refine at_of (j := (t % ((ns.map V.int).length : Int)).toNat) (by omega) ?_
          rw [List.getElem?_map, List.getElem?_eq_getElem hj]
          rfl
        refine ⟨.ref p, rfl, p, _, _, _, rfl, rfl, .inl (.inl upd_same), rfl, .int t, rfl, .ref p, rfl, p, _, _, _, rfl, rfl, .inl (.inl upd_same), rfl, a, _, rfl, .inl sq, _, _, rfl, rfl, hpos, a, _, _, _, rfl, rfl, sq, hat, ?_⟩
        generalize (ns[(t % ((ns.map V.int).length : Int)).toNat]'hj) = c
      case' gb =>
        obtain ⟨c, ec⟩ : ∃ c : Int, c = 11 := ⟨_, rfl⟩
        rw [← ec]
      case ga =>
        refine ⟨.int t, rfl, .ref p, rfl, p, _, _, _, rfl, rfl, .inl (.inl upd_same), rfl, a, _, rfl, .inl sq, _, _, rfl, rfl, _, rfl, ite2 (fun e2 => ?gc1) (fun e2 => ?gd1)⟩
        case' gc1 => refine ⟨.int c, rfl, c, rfl, 10, 18, rfl, rfl, ⟨by decide, by decide, by decide⟩, _, _, rfl, rfl, _, rfl, ite2 (fun e3 => ?ge1) (fun e3 => ?gf1)⟩
        case ge1 =>
          refine ⟨.int c, rfl, c, rfl, .int m, rfl, _, _, rfl, rfl, ⟨mi, by omega⟩, .ref p, rfl, p, _, _, 2, rfl, rfl, upd_same, rfl, ?_⟩
          rw [upd_upd]
          exact ⟨.int c, rfl, c, rfl, .int m, rfl, _, _, rfl, rfl, mi, fin _ (t + 1) _ (by omega) (Int.ediv_nonneg (hne c) (by omega))⟩
        case' gd1 => refine ite2 (fun z => by cases z) (fun _ => ?_)
        all_goals
          refine ⟨.int _, rfl, _, _, rfl, rfl, (by show (0 : Int) < _; decide), .int t, rfl, _, _, rfl, rfl, .inl ⟨by decide, by decide⟩, _, _, rfl, rfl, _, _, rfl, rfl, _, _, rfl, rfl, .inr ⟨by decide, by decide⟩, _, _, rfl, rfl, (by show (0 : Int) < _; decide), ?_⟩
          refine ⟨.int _, rfl, .int _, rfl, _, _, rfl, rfl, .inl (ebd (by decide) (by decide) _), .int _, rfl, _, _, rfl, rfl, .inl ⟨by decide, by decide⟩, _, _, rfl, rfl, .int t, rfl, _, _, rfl, rfl, _, _, rfl, rfl, (by show (0 : Int) < _; decide), ?_⟩
          exact ⟨.int _, rfl, .int _, rfl, _, _, rfl, rfl, (by show (0 : Int) < _; decide), _, _, rfl, rfl, _, _, rfl, rfl, .inl (ebd (by decide) (by decide) _), _, _, rfl, rfl, (by show (0 : Int) < _; decide), _, _, rfl, rfl, ⟨by decide, by decide⟩, .int m, rfl, _, _, rfl, rfl, mi, fin _ (t + 1) l (by omega) hl⟩
      case gb =>
        refine ⟨.int t, rfl, .ref p, rfl, p, _, _, _, rfl, rfl, .inl (.inl upd_same), rfl, a, _, rfl, .inl sq, _, _, rfl, rfl, _, rfl, ite2 (fun e2 => ?gc2) (fun e2 => ?gd2)⟩
        case' gc2 => refine ⟨.int c, rfl, c, rfl, 10, 18, rfl, rfl, ⟨by decide, by decide, by decide⟩, _, _, rfl, rfl, _, rfl, ite2 (fun e3 => ?ge2) (fun e3 => ?gf2)⟩
        case ge2 =>
          refine ⟨.int c, rfl, c, rfl, .int m, rfl, _, _, rfl, rfl, ⟨mi, by omega⟩, .ref p, rfl, p, _, _, 2, rfl, rfl, upd_same, rfl, ?_⟩
          rw [upd_upd]
          exact ⟨.int c, rfl, c, rfl, .int m, rfl, _, _, rfl, rfl, mi, fin _ (t + 1) _ (by omega) (Int.ediv_nonneg (hne c) (by omega))⟩
        case' gd2 => refine ite2 (fun z => by cases z) (fun _ => ?_)
        all_goals
          refine ⟨.int _, rfl, _, _, rfl, rfl, (by show (0 : Int) < _; decide), .int t, rfl, _, _, rfl, rfl, .inl ⟨by decide, by decide⟩, _, _, rfl, rfl, _, _, rfl, rfl, _, _, rfl, rfl, .inr ⟨by decide, by decide⟩, _, _, rfl, rfl, (by show (0 : Int) < _; decide), ?_⟩
          refine ⟨.int _, rfl, .int _, rfl, _, _, rfl, rfl, .inl (ebd (by decide) (by decide) _), .int _, rfl, _, _, rfl, rfl, .inl ⟨by decide, by decide⟩, _, _, rfl, rfl, .int t, rfl, _, _, rfl, rfl, _, _, rfl, rfl, (by show (0 : Int) < _; decide), ?_⟩
          exact ⟨.int _, rfl, .int _, rfl, _, _, rfl, rfl, (by show (0 : Int) < _; decide), _, _, rfl, rfl, _, _, rfl, rfl, .inl (ebd (by decide) (by decide) _), _, _, rfl, rfl, (by show (0 : Int) < _; decide), _, _, rfl, rfl, ⟨by decide, by decide⟩, .int m, rfl, _, _, rfl, rfl, mi, fin _ (t + 1) l (by omega) hl⟩
end
end K66
namespace K66
open PySem PySem.Spec PyProof.Rows L2 HM VL
abbrev s_l_order : Stmt := topS 11
theorem sc_l_order : FnScope ["_law_pen_here", "_law_many", "_law_left", "_law_k"] ["_law_pen_here", "_law_many"] (defScope s_l_order) := ⟨rfl, rfl, rfl, by decide +kernel, rfl, by decide +kernel, by decide +kernel⟩
section
variable {P : Program} {w : World} {K : PySem.W.Frag} {mg : Str → Option Value} {base : Heap} {am : Am} {gd : Around → Prop} {k : Nat}
def spOrder (p : Addr) : VSp := fun ds t Q _ => ∃ m : Nat, ds = [.obj p, nD m] ∧ m ≤ 4000 ∧ ∀ l, Tn m l → Q (.lst (nsD l)) t
theorem eraseIdx_map {α β : Type} (f : α → β) : ∀ (l : List α) (i : Nat), (l.map f).eraseIdx i = (l.eraseIdx i).map f
  | [], _ => rfl
  | _ :: _, 0 => rfl
  | a :: l, i + 1 => congrArg (f a :: ·) (eraseIdx_map f l i)
theorem perm_erase {α : Type} : ∀ {l : List α} {i : Nat} (h : i < l.length), (l[i] :: l.eraseIdx i).Perm l
  | _ :: _, 0, _ => List.Perm.refl _
  | a :: l, i + 1, h => (List.Perm.swap a _ _).trans (List.Perm.cons a (perm_erase (l := l) (i := i) (by simpa using h)))
theorem ok_order {p f f_l_draw : Addr} {fd fd_l_draw : FuncData} (F : Fun K "_law_order" "_law_order" s_l_order f fd)
    (G_l_draw : VFn anyA P w K mg base CX0 (k + 2) f_l_draw fd_l_draw ["_law_pen_here", "_law_many"] am (spTake p)) (g_l_draw : mg "_law_draw" = some (.ref f_l_draw)) (k_l_draw : PySem.W.keepIn K (.ref f_l_draw) = true) (b_l_draw : Binds K fd_l_draw ["_law_pen_here", "_law_many"] [])
    (mz : ∀ x ∈ bn, mg x = none) : VFn gd P w K mg base CX0 (k + 3) f fd ["_law_pen_here", "_law_many"] am (spOrder p) := by
  refine vfn_of F sc_l_order (fun ds n Q E h => ?_) ⟨_, fun cdv A out s H E F0 H0 hcd hgd hr =>
    (vss_cons (vs_setN (i := 2) sc_l_order.nd rfl (.inr rfl) (vn_listRg rfl (by rfl) (mz "list" (by decide)) (vrg_1 (by rfl) (mz "range" (by decide)) (ve_var (pv 1)))))
      (vss_one (vs_ret (ve_new (vn_lc (own := [("_law_k", 3)]) rfl sc_l_order.nd (vi_range1 (by rfl) (mz "range" (by decide)) (vb_cons (ve_var (pv 1)) vb_nil)) (blkOk_by (own := [("_law_k", 3)]) (N := ["_law_pen_here", "_law_many", "_law_left", "_law_k"]) (sc := defScope s_l_order) (by decide +kernel)) (tg_name (by simp)) (fun _ _ _ _ _ => (pg_name (i := 3) sc_l_order.nd rfl (.inl rfl))) (fun _ _ _ _ _ _ _ => vts_nil) (fun _ _ _ _ _ _ _ => (ve_m (pe_bm PySem.F.plainAttrs_list PySem.F.slot_list_pop PySem.F.type_list_pop mt_popAt (pv 2) (va_cons (ve_call G_l_draw trivial (hr.mono (by omega)) (by rfl) g_l_draw k_l_draw b_l_draw pass0 (va_cons (ve_var (pv 0)) (va_cons (ve_cbR call_len_seq lft_len (by rfl) (mz "len" (by decide)) PySem.boot_len (vb_rd (pv 2) vb_nil)) va_nil))) va_nil)) lft_popAt))))))), fun ds t Q E h => ?_⟩
  · obtain ⟨m, rfl, _⟩ := h
    rfl
  · obtain ⟨m, rfl, hm, q⟩ := h
    refine vseq_setN ⟨_, rfl, _, rfl, ⟨by omega, by omega, by omega, by omega⟩, ?_⟩
    have e0 : rngD 0 ((m : Int) - 0).toNat = nsD (List.range m) := by
      rw [Int.sub_zero, Int.toNat_natCast]
      unfold rngD nsD
      exact List.map_congr_left fun i _ => by rw [Int.zero_add]; rfl
    rw [e0]
    refine ⟨_, rfl, _, rfl, ⟨by omega, by omega⟩, noOw1 (s := .no) rfl no_ow, by rw [rngD_len]; omega, fun i acc env t' => ∃ done rest : List Nat, acc = nsD done ∧ env = [.fz (.obj p), .fz (nD m), .ow (.lst (nsD rest)), .no] ∧ t' = t ∧ (done ++ rest).Perm (List.range m) ∧ done.length = i, ⟨[], List.range m, rfl, rfl, rfl, List.Perm.refl _, rfl⟩, fun i x acc env t' hx hP => ?_, fun acc env t' _ hP => ?_⟩
    · obtain ⟨done, rest, rfl, rfl, rfl, hp, rfl⟩ := hP
      obtain ⟨rfl, hj⟩ := rngD_get0 hx
      have hlen := hp.length_eq
      rw [List.length_append, List.length_range] at hlen
      have hi : done.length < m := by have : done.length < ((m : Nat) : Int).toNat := hj; omega
      refine ⟨⟨_, rfl⟩, _, rfl, ⟨_, .inr ⟨_, rfl, rfl⟩⟩, _, .inr ⟨_, rfl, rfl⟩, _, .inl rfl, rfl, rest.length, by rw [nsD_len]; rfl, by omega, by omega, fun r hr => ?_⟩
      have hy : (nsD rest)[r]? = some (nD rest[r]) := by unfold nsD; rw [List.getElem?_map, List.getElem?_eq_getElem hr]; rfl
      refine ⟨_, rfl, r, nD rest[r], rfl, by rw [nsD_len]; omega, hy, done ++ [rest[r]], rest.eraseIdx r, ?_, ?_, rfl, ?_, ?_⟩
      · unfold nsD; rw [List.map_append]; rfl
      · unfold nsD; rw [eraseIdx_map]; rfl
      · refine List.Perm.trans ?_ hp
        rw [List.append_assoc]
        exact List.Perm.append_left _ (perm_erase hr)
      · rw [List.length_append]; rfl
    · obtain ⟨done, rest, rfl, rfl, rfl, hp, hl⟩ := hP
      have hlen := hp.length_eq
      rw [rngD_len, Int.toNat_natCast] at hl
      rw [List.length_append, List.length_range] at hlen
      have hr : rest = [] := List.eq_nil_of_length_eq_zero (by omega)
      rw [hr, List.append_nil] at hp
      exact ⟨_, rfl, q done hp⟩
end
end K66
namespace K66
open PySem PySem.Spec PyProof.Rows L2 HM VL
abbrev s_l_then : Stmt := topS 12
theorem sc_l_then : FnScope ["_law_one", "_law_other", "_law_place"] ["_law_one", "_law_other"] (defScope s_l_then) := ⟨rfl, rfl, rfl, by decide +kernel, rfl, by decide +kernel, by decide +kernel⟩
section
variable {P : Program} {w : World} {K : PySem.W.Frag} {mg : Str → Option Value} {base : Heap} {am : Am} {gd : Around → Prop} {k : Nat}
theorem ok_lthen {f  : Addr} {fd  : FuncData} (F : Fun K "_law_then" "_law_then" s_l_then f fd) (mz : ∀ x ∈ bn, mg x = none) : VFn gd P w K mg base CX0 (k + 1) f fd ["_law_one", "_law_other"] am spTwoU := by
  refine vfn_of F sc_l_then (fun ds n Q E h => ?_) ⟨_, fun cdv A out s H E F0 H0 hcd hgd hr =>
    (vss_one (vs_ret (ve_tyTR call_tuple_of lft_tupleOf (by rfl) (mz "tuple" (by decide)) (by decide +kernel) (vb_cons (ve_new (vn_lc (own := [("_law_place", 2)]) rfl sc_l_then.nd (vi_tuU (ve_var (pv 0))) (blkOk_by (own := [("_law_place", 2)]) (N := ["_law_one", "_law_other", "_law_place"]) (sc := defScope s_l_then) (by decide +kernel)) (tg_name (by simp)) (fun _ _ _ _ _ => (pg_name (i := 2) sc_l_then.nd rfl (.inl rfl))) (fun _ _ _ _ _ _ _ => vts_nil) (fun _ _ _ _ _ _ _ => (ve_ix ix_tup lft_ixU (ve_var (pv 1)) (ve_var (pv 2)) (fun _ _ => rfl))))) vb_nil)))), fun ds t Q E h => ?_⟩
  · obtain ⟨m, a, b, d, e, rfl, _⟩ := h
    rfl
  · obtain ⟨m, a, b, d, e, rfl, hd, he, ha, hb, hm, q⟩ := h
    refine ⟨_, rfl, _, hd, ?_⟩
    refine lc_map (i := 2) (fun j => nD (tA b (tA a j))) (.head _) (noOw1 rfl no_ow) (by rw [nsD_len, ha.len]; omega) (fun i y hy R q => ?_) ?_
    · unfold nsD at hy
      rw [List.getElem?_map] at hy
      obtain ⟨y0, hy1, rfl⟩ := Option.map_eq_some_iff.mp hy
      have hil := (List.getElem?_eq_some_iff.mp hy1).1
      have e3 : y0 = tA a i := Option.some.inj (hy1.symm.trans (tA_get hil))
      rw [← e3] at q
      exact ⟨_, rfl, _, rfl, _, _, _, he, rfl, nsD_tA (by rw [hb.len]; exact ha.lt (List.mem_of_getElem? hy1)), q⟩
    rw [thn_lc]
    exact ⟨_, rfl, _, rfl, flats_ns _, q⟩
end
end K66
namespace K66
open PySem PySem.Spec PyProof.Rows L2 HM VL
abbrev s_l_closed : Stmt := topS 14
theorem sc_l_closed : FnScope ["_law_many", "_law_turns", "_law_stay", "_law_found", "_law_waiting", "_law_one", "_law_turn", "_law_now"] ["_law_many", "_law_turns"] (defScope s_l_closed) := ⟨rfl, rfl, rfl, by decide +kernel, rfl, by decide +kernel, by decide +kernel⟩
section
variable {P : Program} {w : World} {K : PySem.W.Frag} {mg : Str → Option Value} {base : Heap} {am : Am} {gd : Around → Prop} {k : Nat}
theorem ok_closedD {f f_l_then : Addr} {fd fd_l_then : FuncData} (F : Fun K "_law_closed" "_law_closed" s_l_closed f fd)
    (G_l_then : VFn anyA P w K mg base CX0 (k + 1) f_l_then fd_l_then ["_law_one", "_law_other"] am spTwoU) (g_l_then : mg "_law_then" = some (.ref f_l_then)) (k_l_then : PySem.W.keepIn K (.ref f_l_then) = true) (b_l_then : Binds K fd_l_then ["_law_one", "_law_other"] [])
    (mz : ∀ x ∈ bn, mg x = none) : VFn gd P w K mg base CX0 (k + 2) f fd ["_law_many", "_law_turns"] am spClosedD := by
  refine vfn_of F sc_l_closed (fun ds n Q E h => ?_) ⟨_, fun cdv A out s H E F0 H0 hcd hgd hr =>
    (vss_cons (vs_set (i := 2) sc_l_closed.nd rfl (.inl rfl) (ve_tupRg rfl (by rfl) (mz "tuple" (by decide)) (vrg_1 (by rfl) (mz "range" (by decide)) (ve_var (pv 0)))))
      (vss_cons (vs_setN (i := 3) sc_l_closed.nd rfl (.inl rfl) (vn_dispT (hu_of hr) (fun F0 H0 => (ve_var (pv 2))) (fun F0 H0 => ve_bl)))
      (vss_cons (vs_setN (i := 4) sc_l_closed.nd rfl (.inl rfl) (vn_lst (va_cons (ve_var (pv 2)) va_nil)))
      (vss_cons (vs_while PassesOwn.never (vt_cmpN (op_neD hr.units) lft_neD (pv 4) (vr_of (ve_new (vn_lst va_nil))) (nomark _))
        (vss_cons (vs_set (i := 5) sc_l_closed.nd rfl (.inl rfl) (ve_m0 (pe_bm0 PySem.F.plainAttrs_list PySem.F.slot_list_pop PySem.F.type_list_pop mt_pop (pv 4)) lft_pop))
        (vss_cons (vs_for PassesOwn.never rfl (vi_list (ve_var (pv 1))) (vg_name (pg_name (i := 6) sc_l_closed.nd rfl (.inl rfl)))
          (vss_cons (vs_set (i := 7) sc_l_closed.nd rfl (.inl rfl) (ve_call G_l_then trivial (hr.mono (by omega)) (by rfl) g_l_then k_l_then b_l_then pass0 (va_cons (ve_var (pv 5)) (va_cons (ve_var (pv 6)) va_nil))))
          (vss_one (vs_if (vt_dnotin (hu_of hr) (ve_var (pv 7)) (pv 3))
            (vss_cons (vs_dput (hu_of hr) (pv 3) (ve_var (pv 7)) ve_bl rfl)
            (vss_one (vs_expr (ve_m (pe_bm PySem.F.plainAttrs_list PySem.F.slot_list_append PySem.F.type_list_append mt_append (pv 4) (va_cons (ve_var (pv 7)) va_nil)) lft_append))))
            vss_nil))))
        (vss_one (vs_if (vt_cmp op_gt lft_B0 (ve_dlenT (by rfl) (mz "len" (by decide)) (pv 3)) ve_int (nomark _))
          (vss_one (vs_ret ve_non))
          vss_nil)))))
      (vss_one (vs_ret (ve_new (vn_dsortT rfl (by rfl) (mz "sorted" (by decide)) (pv 3))))))))), fun ds t Q E h => ?_⟩
  · obtain ⟨n, ts, rfl, _⟩ := h
    rfl
  · obtain ⟨m, ts, rfl, h1, h7, h4, hT, q, qn⟩ := h
    obtain ⟨most, emost, h1m, hm60⟩ : ∃ most : Nat, most = 60 ∧ 1 ≤ most ∧ most ≤ 60 := ⟨60, rfl, by decide, by decide⟩
    refine vseq_set ⟨_, rfl, _, rfl, ⟨by omega, by omega, by omega, by omega⟩, ?_⟩
    dsimp only
    rw [show ((m : Int) - 0).toNat = m by omega, rg_stay]
    obtain ⟨td, etd⟩ : ∃ td, td = Dt.lst (tnsD ts) := ⟨_, rfl⟩
    rw [← etd]
    refine ⟨_, rfl, kN (stay m), tup_key _, ?_⟩
    refine ⟨_, rfl, (by decide : 1 ≤ 5000), ?_⟩
    have hgr : ∀ {x : List Nat}, GR m ts x → Tn m x := fun h => h.tn hT
    let I : List (List Nat) → List (List Nat) → Sl → Ev → Prop := fun fs ws s5 env => ∃ kvs s6 s8, env = [.fz (nD m), .fz td, .fz (.tup (nsD (stay m))), .ow (.dT kvs), .ow (.lst (tnsD ws)), s5, s6, s8] ∧ kvs.map (·.1) = fs.map kN
    refine ⟨fun mm env t' => ∃ fs ws, mm = 2 * (61 - fs.length) + ws.length ∧ t' = t ∧ (∃ s5, I fs ws s5 env) ∧ GWt m ts fs ws ∧ fs.length ≤ most, ⟨_, [stay m], [stay m], rfl, rfl, ⟨.no, _, .no, .no, rfl, rfl⟩, ⟨by simp, fun x hx => by rw [List.mem_singleton.mp hx]; exact .stay, by simp, fun x hx => hx, by simp, fun x hx hn => absurd hx hn⟩, h1m⟩, fun mm env t' hW => ?_⟩
    obtain ⟨fs, ws, rfl, rfl, ⟨s5, kvs, s6, s8, rfl, hk⟩, hW, hf60⟩ := hW
    refine ⟨⟨_, .inr ⟨_, rfl, rfl⟩⟩, by decide, _, rfl, _, .inr ⟨_, rfl, rfl⟩, dNeD_pl (pl_tns ws) rfl (dep_tns ws) (by decide) fun b hb => ⟨rfl, b, rfl, iteB (fun e => ?_) (fun e => ?_)⟩⟩
    · have hne : ws ≠ [] := fun z => (hb.mp e) (tnsD_nil.mpr z)
      obtain ⟨ws', x0, rfl⟩ : ∃ l x, ws = l ++ [x] := ⟨_, _, (List.dropLast_concat_getLast hne).symm⟩
      have hx0 : x0 ∈ fs := hW.sb x0 (by simp)
      have hx0n : Tn m x0 := hgr (hW.rc x0 hx0)
      have hwn := hW.wn
      rw [List.nodup_append] at hwn
      have hx0w : x0 ∉ ws' := fun z => hwn.2.2 x0 z x0 (by simp) rfl
      refine vseq_set ⟨⟨_, rfl⟩, _, rfl, .tup (nsD x0), rfl, tnsD_last, ?_⟩
      rw [tnsD_dropLast]
      refine vcut (fun env t3 => t3 = t' ∧ ∃ ext, ext.length ≤ 4 ∧ I (fs ++ ext) (ws' ++ ext) (.fz (.tup (nsD x0))) env ∧ (fs ++ ext).Nodup ∧ (∀ x ∈ fs ++ ext, GR m ts x) ∧ ∀ g ∈ ts, thn x0 g ∈ fs ++ ext) (fun N hN => ?_) (fun env t3 hP => ?_)
      · refine ⟨_, rfl, tnsD ts, etd, fun j env t3 => t3 = t' ∧ ∃ ext, ext.length ≤ j ∧ I (fs ++ ext) (ws' ++ ext) (.fz (.tup (nsD x0))) env ∧ (fs ++ ext).Nodup ∧ (∀ x ∈ fs ++ ext, GR m ts x) ∧ ∀ g ∈ ts.take j, thn x0 g ∈ fs ++ ext, ⟨rfl, [], Nat.le_refl 0, ⟨kvs, s6, s8, by rw [List.append_nil]; rfl, by rw [List.append_nil]; exact hk⟩, by rw [List.append_nil]; exact hW.nd, by rw [List.append_nil]; exact hW.rc, fun g hg => by rw [List.take_zero] at hg; cases hg⟩, fun j x env t3 hx hP => ?_, fun env t3 hP => ?_⟩
        · obtain ⟨rfl, ext, hel, ⟨kvs, s6, s8, rfl, hk⟩, hnd, hrc, hcl⟩ := hP
          unfold tnsD at hx
          rw [List.getElem?_map] at hx
          obtain ⟨g, hg1, rfl⟩ := Option.map_eq_some_iff.mp hx
          have hgm := List.mem_of_getElem? hg1
          have hj : j < ts.length := (List.getElem?_eq_some_iff.mp hg1).1
          have hgT := hT g hgm
          have hkl : kvs.length = (fs ++ ext).length := by
            have := congrArg List.length hk
            rw [List.length_map, List.length_map] at this
            exact this
          have hfl : (fs ++ ext).length ≤ 64 := by rw [List.length_append]; omega
          have htk : ∀ g2 ∈ ts.take (j + 1), g2 ∈ ts.take j ∨ g2 = g := fun g2 h => by
            rw [take_snoc' hg1] at h
            rcases List.mem_append.mp h with h | h
            · exact .inl h
            · exact .inr (List.mem_singleton.mp h)
          have hmem : (valD kvs (kN (thn x0 g))).isSome = decide (thn x0 g ∈ fs ++ ext) := by
            rw [valD_some, hk]
            exact decide_eq_decide.mpr kN_mem
          refine ⟨_, rfl, _, rfl, m, x0, g, _, _, rfl, .inl rfl, .inl rfl, hx0n, hgT, h7, ?_⟩
          refine ⟨_, rfl, _, .inr ⟨kvs, kN (thn x0 g), rfl, tup_key _, rfl⟩, _, rfl, iteB (fun e2 => ?_) (fun e2 => ?_)⟩
          · have hnin : thn x0 g ∉ fs ++ ext := by
              have e3 : (!(valD kvs (kN (thn x0 g))).isSome) = true := e2
              rw [hmem, Bool.not_eq_true', decide_eq_false_iff_not] at e3
              exact e3
            have hnk : kN (thn x0 g) ∉ kvs.map (·.1) := by rw [hk, kN_mem]; exact hnin
            refine ⟨.inr ⟨_, rfl⟩, _, rfl, .inr ⟨kvs, kN (thn x0 g), rfl, tup_key _, by omega, ⟨_, rfl⟩, _, rfl, _, rfl, _, rfl, ?_, rfl, ext ++ [thn x0 g], by rw [List.length_append, List.length_singleton]; omega, ⟨putD kvs (kN (thn x0 g)) (.bl true), .fz (.tup (nsD g)), .fz (.tup (nsD (thn x0 g))), ?_, ?_⟩, ?_, fun x hx => ?_, fun g2 hg2 => ?_⟩⟩
            · rw [tnsD_len, List.length_append]
              have h1 := List.Nodup.length_le_of_subset hwn.1 fun x hx => hW.sb x (List.mem_append_left _ hx)
              omega
            · rw [tnsD_app, ← List.append_assoc]
              rfl
            · rw [putD_new hnk, List.map_append, hk, ← List.append_assoc, List.map_append (l₁ := fs ++ ext)]
              rfl
            · rw [← List.append_assoc, List.nodup_append]
              exact ⟨hnd, by simp, fun a ha b hb z => hnin (by rw [List.mem_singleton.mp hb] at z; rw [← z]; exact ha)⟩
            · rw [← List.append_assoc] at hx
              rcases List.mem_append.mp hx with hx | hx
              · exact hrc x hx
              · rw [List.mem_singleton.mp hx]
                exact .step (hW.rc x0 hx0) hgm
            · rw [← List.append_assoc]
              rcases htk g2 hg2 with h | rfl
              · exact List.mem_append_left _ (hcl g2 h)
              · exact List.mem_append_right _ (List.mem_singleton.mpr rfl)
          · have hin : thn x0 g ∈ fs ++ ext := by
              have e3 : (!(valD kvs (kN (thn x0 g))).isSome) = false := e2
              rw [hmem, Bool.not_eq_false', decide_eq_true_iff] at e3
              exact e3
            refine ⟨rfl, ext, by omega, ⟨kvs, _, _, rfl, hk⟩, hnd, hrc, fun g2 hg2 => ?_⟩
            rcases htk g2 hg2 with h | rfl
            · exact hcl g2 h
            · exact hin
        · obtain ⟨rfl, ext, hel, hI, hnd, hrc, hcl⟩ := hP
          rw [tnsD_len] at hel
          rw [tnsD_len, List.take_of_length_le (Nat.le_refl _)] at hcl
          exact hN _ _ ⟨rfl, ext, by omega, hI, hnd, hrc, hcl⟩
      · obtain ⟨rfl, ext, hel, ⟨kvs, s6, s8, rfl, hk⟩, hnd, hrc, hcl⟩ := hP
        have hkl : kvs.length = (fs ++ ext).length := by
          have := congrArg List.length hk
          rw [List.length_map, List.length_map] at this
          exact this
        refine ⟨_, rfl, _, _, rfl, rfl, _, rfl, iteB (fun e2 => ?_) (fun e2 => ?_)⟩
        · have hbig : most < (fs ++ ext).length := by
            have : (60 : Int) < (kvs.length : Int) := of_decide_eq_true e2
            omega
          rcases qn with z | z
          · have := z _ hnd hrc
            omega
          · exact z
        · have hsm : (fs ++ ext).length ≤ most := by
            have : ¬ (60 : Int) < (kvs.length : Int) := of_decide_eq_false e2
            omega
          have hl := hsm
          rw [List.length_append] at hl
          rw [List.nodup_append] at hnd
          refine ⟨_, by rw [List.length_append, List.length_append, List.length_append, List.length_singleton]; omega, fs ++ ext, ws' ++ ext, rfl, rfl, ⟨_, kvs, s6, s8, rfl, hk⟩, ⟨List.nodup_append.mpr hnd, hrc, List.mem_append_left _ hW.ze, fun x hx => ?_, ?_, fun x hx hnx g hg => ?_⟩, hsm⟩
          · rcases List.mem_append.mp hx with hx | hx
            · exact List.mem_append_left _ (hW.sb x (List.mem_append_left _ hx))
            · exact List.mem_append_right _ hx
          · rw [List.nodup_append]
            exact ⟨hwn.1, hnd.2.1, fun a ha b hb => hnd.2.2 a (hW.sb a (List.mem_append_left _ ha)) b hb⟩
          · rw [List.mem_append, not_or] at hnx
            rcases List.mem_append.mp hx with hx | hx
            · by_cases z : x = x0
              · rw [z]
                exact hcl g hg
              · exact List.mem_append_left _ (hW.cl x hx (by rw [List.mem_append, List.mem_singleton, not_or]; exact ⟨hnx.1, z⟩) g hg)
            · exact absurd hx hnx.2
    · have hnil : ws = [] := Classical.byContradiction fun z => by
        have := hb.mpr fun h => z (tnsD_nil.mp h)
        rw [this] at e
        cases e
      subst hnil
      refine ⟨kvs, fs.map iN, m, (m : Int), rfl, ?_, by rw [List.length_map]; omega, h1, fun k hk => ?_, fun ls hp hs => ⟨_, rfl, ?_⟩⟩
      · rw [hk, List.map_map]
        exact List.map_congr_left fun l _ => (kN_ikey l).symm
      · obtain ⟨l, hl, rfl⟩ := List.mem_map.mp hk
        have := hgr (hW.rc l hl)
        exact ⟨by unfold iN; rw [List.length_map, this.len], bd_tn this⟩
      · obtain ⟨gl, hg, rfl⟩ := permInv hp
        rw [tns_int]
        have hm : ∀ x, x ∈ gl ↔ GR m ts x := fun x => by rw [hg.mem_iff, hW.all]
        exact q gl ⟨by rw [hg.length_eq]; omega, hg.nodup_iff.mpr hW.nd, fun a ha => hgr ((hm a).mp ha), fun a ha b hb => (hm _).mpr (GR.mul hT ((hm a).mp ha) ((hm b).mp hb)), stay_first (fun a ha => hgr ((hm a).mp ha)) ((hm _).mpr .stay) hs⟩ hs hm
end
end K66
namespace K66
open PySem PySem.Spec PyProof.Rows L2 HM VL
abbrev s_then : Stmt := topS 4
theorem sc_then : FnScope ["one", "other", "place"] ["one", "other"] (defScope s_then) := ⟨rfl, rfl, rfl, by decide +kernel, rfl, by decide +kernel, by decide +kernel⟩
abbrev s_contrary : Stmt := topS 5
theorem sc_contrary : FnScope ["turn", "back", "thing", "place"] ["turn"] (defScope s_contrary) := ⟨rfl, rfl, rfl, by decide +kernel, rfl, by decide +kernel, by decide +kernel⟩
section
variable {P : Program} {w : World} {K : PySem.W.Frag} {mg : Str → Option Value} {base : Heap} {am : Am} {gd : Around → Prop} {k : Nat}
theorem ok_then {cc Pt : Addr} {f  : Addr} {fd  : FuncData} (F : Fun K "then" "then" s_then f fd) (hco : fd.code = .ref cc) (TB : GxR.TabB base mg cc Pt) (TI : TabIn am Pt)
    (mz : ∀ x ∈ bn, mg x = none) : VFn gd P w K mg base CX0 (k + 7) f fd ["one", "other"] am spThen := by
  refine vfn_of F sc_then (fun ds n Q E h => ?_) ⟨_, fun cdv A out s H E F0 H0 hcd hgd hr =>
    (vss_cons (vs_if (vt_cmp op_ne lft_ne (ve_cbR call_len_seq lft_len (by rfl) (mz "len" (by decide)) PySem.boot_len (vb_rd (pv 0) vb_nil)) (ve_cbR call_len_seq lft_lenP (by rfl) (mz "len" (by decide)) PySem.boot_len (vb_rd (pv 1) vb_nil)) (nomark _))
        (vss_one vs_never)
        vss_nil)
      (vss_one (vs_ret (ve_tupGe (k := k) (own := [("place", 2)]) TI rfl sc_then.nd (hr.mono (by omega)) (by rfl) (mz "tuple" (by decide)) TB (hcd.symm.trans hco) ⟨rfl, by decide, rfl⟩ (vi_tup (ve_var (pv 0))) (blkOk_by (own := [("place", 2)]) (N := ["one", "other", "place"]) (sc := defScope s_then) (by decide +kernel)) (tg_name (by simp)) (fun _ _ _ _ _ _ _ => (pg_name (i := 2) sc_then.nd rfl (.inl rfl))) (fun _ _ _ _ _ _ _ hr => vts_nil) (fun _ _ _ _ _ _ _ hr => (ve_ix ix_tup lft_ixU (ve_var (pv 1)) (ve_var (pv 2)) (fun _ _ => rfl))))))), fun ds t Q E h => ?_⟩
  · obtain ⟨m, a, b, d, rfl, _⟩ := h
    rfl
  · obtain ⟨m, a, b, d, rfl, hd, ha, hb, hm, q⟩ := h
    refine ⟨⟨_, .inl rfl⟩, _, .inl rfl, _, .inr rfl, rfl, ⟨_, .inl rfl⟩, _, .inl rfl, _, _, rfl, hd, rfl, .inl ⟨_, _, rfl, rfl, _, rfl, iteB (fun z => absurd z (by rw [nsD_len, nsD_len, ha.len, hb.len]; simp)) (fun _ => ?_)⟩⟩
    refine ⟨_, rfl, _, rfl, lc_map (i := 2) (fun j => nD (tA b (tA a j))) (.head _) (noOw1 rfl no_ow) (by rw [nsD_len, ha.len]; omega) (fun i y hy R q => ?_) ?_⟩
    · unfold nsD at hy
      rw [List.getElem?_map] at hy
      obtain ⟨y0, hy1, rfl⟩ := Option.map_eq_some_iff.mp hy
      have hil := (List.getElem?_eq_some_iff.mp hy1).1
      have e3 : y0 = tA a i := Option.some.inj (hy1.symm.trans (tA_get hil))
      rw [← e3] at q
      exact ⟨_, rfl, _, rfl, _, _, _, hd, rfl, nsD_tA (by rw [hb.len]; exact ha.lt (List.mem_of_getElem? hy1)), q⟩
    rw [thn_lc]
    exact ⟨_, rfl, q⟩
theorem ok_contr {f  : Addr} {fd  : FuncData} (F : Fun K "contrary" "contrary" s_contrary f fd)
    (mz : ∀ x ∈ bn, mg x = none) : VFn gd P w K mg base CX0 (k + 1) f fd ["turn"] am spContr := by
  refine vfn_of F sc_contrary (fun ds n Q E h => ?_) ⟨_, fun cdv A out s H E F0 H0 hcd hgd hr =>
    (vss_cons (vs_setN (i := 1) sc_contrary.nd rfl (.inl rfl) (vn_op op_rep lft_rep (ve_lstK (ka_cons ve_int ka_nil) (by decide)) (ve_cbR call_len_seq lft_lenP (by rfl) (mz "len" (by decide)) PySem.boot_len (vb_rd (pv 0) vb_nil))))
      (vss_cons (vs_for PassesOwn.never rfl (vi_enumT (by rfl) (mz "enumerate" (by decide)) (va_cons (ve_var (pv 0)) va_nil)) (vg_tup (m := 2) rfl (vgs_cons (vg_name (pg_name (i := 2) sc_contrary.nd rfl (.inl rfl))) (vgs_cons (vg_name (pg_name (i := 3) sc_contrary.nd rfl (.inl rfl))) vgs_nil)))
        (vss_one (vs_setIx (pv 1) (ve_var (pv 3)) (ve_var (pv 2)))))
      (vss_one (vs_ret (ve_tyTR call_tuple_of lft_tupleOf (by rfl) (mz "tuple" (by decide)) (by decide +kernel) (vb_rd (pv 1) vb_nil)))))), fun ds t Q E h => ?_⟩
  · obtain ⟨m, a, d, rfl, _⟩ := h
    rfl
  · obtain ⟨m, a, d, rfl, hd, ha, hm, q⟩ := h
    have hal : (nsD a).length = m := by rw [nsD_len, ha.len]
    obtain ⟨G, eG⟩ : ∃ G : Nat → Nat → Nat, G = fun i y => if a.idxOf y < i then a.idxOf y else 0 := ⟨_, rfl⟩
    refine ⟨⟨_, .inl rfl⟩, _, .inl rfl, _, _, rfl, hd, rfl, ?_⟩
    rw [hal]
    refine ⟨[.int 0], m, rfl, rfl, by omega, by show 1 * _ ≤ 5000; omega, ?_⟩
    have e0 : (List.replicate m [Dt.int 0]).flatten = nsD ((List.range m).map (G 0)) := by
      have e1 : (List.range m).map (G 0) = List.replicate m 0 := by
        rw [List.map_congr_left (g := fun _ => 0) (fun i _ => by rw [eG]; show (if _ < 0 then _ else 0) = 0; rw [if_neg (Nat.not_lt_zero _)]), List.map_const', List.length_range]
      rw [e1]
      generalize m = r
      induction r with
      | zero => rfl
      | succ r ih =>
        rw [List.replicate_succ, List.flatten_cons, ih]
        rfl
    rw [e0]
    refine ⟨_, rfl, _, _, rfl, hd, fun i env t' => t' = t ∧ ∃ s2 s3, env = [.fz d, .ow (.lst (nsD ((List.range m).map (G i)))), s2, s3], ⟨rfl, .no, .no, rfl⟩, fun i x env t' hx hP => ?_, fun env t' hP => ?_⟩
    · obtain ⟨rfl, s2, s3, rfl⟩ := hP
      obtain ⟨y, hy, rfl⟩ := enD_get hx
      have hi : i < m := by have := (List.getElem?_eq_some_iff.mp hy).1; omega
      have ey : y = nD (tA a i) := by
        unfold nsD at hy
        rw [List.getElem?_map, tA_get (by rw [ha.len]; exact hi)] at hy
        exact (Option.some.inj hy).symm
      subst ey
      have hai := ha.at_lt hi
      refine ⟨_, rfl, rfl, _, _, rfl, _, _, rfl, rfl, _, rfl, ⟨_, rfl⟩, _, rfl, _, tA a i, rfl, rfl, by rw [nsD_len, List.length_map, List.length_range]; exact hai, rfl, .fz (nD i), .fz (nD (tA a i)), ?_⟩
      have es := set_range (r := m) (j := tA a i) (v := i) (f := G i) (f' := G (i + 1)) (by
        rw [eG]
        show (if a.idxOf (tA a i) < i + 1 then a.idxOf (tA a i) else 0) = i
        rw [ha.idx hi, if_pos (Nat.lt_succ_self i)]) (fun y hy => by
        rw [eG]
        show (if a.idxOf y < i + 1 then a.idxOf y else 0) = if a.idxOf y < i then a.idxOf y else 0
        have hne : a.idxOf y ≠ i := fun z => by
          by_cases hym : y ∈ a
          · have h2 := VL.at_idx hym
            rw [z] at h2
            exact hy h2.symm
          · rw [List.idxOf_eq_length hym, ha.len] at z
            omega
        by_cases w : a.idxOf y < i
        · rw [if_pos w, if_pos (by omega)]
        · rw [if_neg w, if_neg (by omega)])
      rw [← es]
      unfold nsD
      rw [List.map_set]
      rfl
    · obtain ⟨rfl, s2, s3, rfl⟩ := hP
      rw [enD_len, hal]
      have ef : (List.range m).map (G m) = invT m a := List.map_congr_left fun y hy => by
        rw [eG]
        show (if a.idxOf y < m then a.idxOf y else 0) = a.idxOf y
        rw [if_pos (ha.idx_lt (List.mem_range.mp hy))]
      rw [ef]
      exact ⟨⟨_, .inr ⟨_, rfl, rfl⟩⟩, _, .inr ⟨_, rfl, rfl⟩, _, rfl, flats_ns _, q⟩
end
end K66
namespace K66
open PySem PySem.Spec PyProof.Rows L2 HM VL
abbrev s_named_group : Stmt := topS 7
theorem sc_named_group : FnScope ["group", "names", "back", "turn"] ["group", "names"] (defScope s_named_group) := ⟨rfl, rfl, rfl, by decide +kernel, rfl, by decide +kernel, by decide +kernel⟩
section
variable {P : Program} {w : World} {K : PySem.W.Frag} {mg : Str → Option Value} {base : Heap} {am : Am} {gd : Around → Prop} {k : Nat}
theorem ok_namedg {f f_then f_contrary : Addr} {fd fd_then fd_contrary : FuncData} (F : Fun K "named_group" "named_group" s_named_group f fd)
    (G_then : VFn anyA P w K mg base CX0 (k + 1) f_then fd_then ["one", "other"] am spThen) (g_then : mg "then" = some (.ref f_then)) (k_then : PySem.W.keepIn K (.ref f_then) = true) (b_then : Binds K fd_then ["one", "other"] [])
    (G_contrary : VFn anyA P w K mg base CX0 (k + 1) f_contrary fd_contrary ["turn"] am spContr) (g_contrary : mg "contrary" = some (.ref f_contrary)) (k_contrary : PySem.W.keepIn K (.ref f_contrary) = true) (b_contrary : Binds K fd_contrary ["turn"] [])
    (mz : ∀ x ∈ bn, mg x = none) : VFn gd P w K mg base CX0 (k + 2) f fd ["group", "names"] am spNamedG := by
  refine vfn_of F sc_named_group (fun ds n Q E h => ?_) ⟨_, fun cdv A out s H E F0 H0 hcd hgd hr =>
    (vss_cons (vs_set (i := 2) sc_named_group.nd rfl (.inr rfl) (ve_call G_contrary trivial (hr.mono (by omega)) (by rfl) g_contrary k_contrary b_contrary pass0 (va_cons (ve_var (pv 1)) va_nil)))
      (vss_one (vs_ret (ve_tyTR call_tuple_of lft_tupleOf (by rfl) (mz "tuple" (by decide)) (by decide +kernel) (vb_cons (ve_new (vn_sortLT (by rfl) (mz "sorted" (by decide)) (ve_new (vn_lc (own := [("turn", 3)]) rfl sc_named_group.nd (vi_tup (ve_var (pv 0))) (blkOk_by (own := [("turn", 3)]) (N := ["group", "names", "back", "turn"]) (sc := defScope s_named_group) (by decide +kernel)) (tg_name (by simp)) (fun _ _ _ _ _ => (pg_name (i := 3) sc_named_group.nd rfl (.inl rfl))) (fun _ _ _ _ _ _ _ => vts_nil) (fun _ _ _ _ _ _ _ => (ve_call G_then trivial (hr.mono (by omega)) (by rfl) g_then k_then b_then pass0 (va_cons (ve_call G_then trivial (hr.mono (by omega)) (by rfl) g_then k_then b_then pass0 (va_cons (ve_var (pv 2)) (va_cons (ve_var (pv 3)) va_nil))) (va_cons (ve_var (pv 1)) va_nil)))))))) vb_nil))))), fun ds t Q E h => ?_⟩
  · obtain ⟨m, gl, nm, d, rfl, _⟩ := h
    rfl
  · obtain ⟨m, gl, nm, d, rfl, hd, h1, h7, hl, ht, hn, q⟩ := h
    have hin := inv_tn hn
    refine ⟨_, rfl, m, nm, d, rfl, hd, hn, h7, ?_⟩
    refine ⟨_, rfl, _, rfl, lc_map (i := 3) (fun j => .tup (nsD (cjT m nm (tL gl j)))) (.head _) (noOw1 (s := .no) rfl no_ow) (by rw [tnsD_len]; omega) (fun j x hx R hR => ?_) ?_⟩
    · unfold tnsD at hx
      rw [List.getElem?_map] at hx
      obtain ⟨a, ha, rfl⟩ := Option.map_eq_some_iff.mp hx
      have ea : tL gl j = a := tL_get ha
      have hat := ht a (List.mem_of_getElem? ha)
      rw [ea] at hR
      exact ⟨_, rfl, _, rfl, m, invT m nm, a, _, rfl, .inl rfl, hin, hat, h7, _, rfl, m, thn (invT m nm) a, nm, d, rfl, hd, thn_tn hin hat, hn, h7, hR⟩
    · rw [tnsD_len, map_tL (fun a => Dt.tup (nsD (cjT m nm a))) gl]
      have el : (gl.map fun a => Dt.tup (nsD (cjT m nm a))) = ((gl.map (cjT m nm)).map iN).map tuD := by
        rw [List.map_map, List.map_map]
        refine List.map_congr_left fun a _ => ?_
        show Dt.tup (nsD _) = Dt.tup ((iN _).map Dt.int)
        rw [nsD_ints]
        rfl
      rw [el]
      refine ⟨_, rfl, (gl.map (cjT m nm)).map iN, m, (m : Int), rfl, by rw [List.length_map, List.length_map]; omega, h1, fun b hb => ?_, fun M hp hs => ?_⟩
      · obtain ⟨a, ha, rfl⟩ := List.mem_map.mp hb
        obtain ⟨a0, ha0, rfl⟩ := List.mem_map.mp ha
        have hc := cj_tn hn (ht a0 ha0)
        exact ⟨by unfold iN; rw [List.length_map, hc.len], bd_tn hc⟩
      · obtain ⟨gl', hp', rfl⟩ := permInv hp
        have em : (gl'.map iN).map tuD = tnsD gl' := by
          rw [List.map_map]
          unfold tnsD
          refine List.map_congr_left fun a _ => ?_
          show Dt.tup ((iN a).map Dt.int) = Dt.tup (nsD a)
          rw [nsD_ints]
          rfl
        rw [em]
        exact ⟨_, rfl, _, rfl, flats_tn gl', q gl' ⟨hp', hs⟩⟩
end
end K66
namespace K66
open PySem PySem.Spec PyProof.Rows L2 HM VL
abbrev s_l_renamed : Stmt := topS 13
theorem sc_l_renamed : FnScope ["_law_turn", "_law_names", "_law_found", "_law_thing", "_law_place"] ["_law_turn", "_law_names"] (defScope s_l_renamed) := ⟨rfl, rfl, rfl, by decide +kernel, rfl, by decide +kernel, by decide +kernel⟩
section
variable {P : Program} {w : World} {K : PySem.W.Frag} {mg : Str → Option Value} {base : Heap} {am : Am} {gd : Around → Prop} {k : Nat}
theorem ok_renU {f  : Addr} {fd  : FuncData} (F : Fun K "_law_renamed" "_law_renamed" s_l_renamed f fd)
    (mz : ∀ x ∈ bn, mg x = none) : VFn gd P w K mg base CX0 (k + 1) f fd ["_law_turn", "_law_names"] am spRenU := by
  refine vfn_of F sc_l_renamed (fun ds n Q E h => ?_) ⟨_, fun cdv A out s H E F0 H0 hcd hgd hr =>
    (vss_cons (vs_setN (i := 2) sc_l_renamed.nd rfl (.inr rfl) vn_dnewK)
      (vss_cons (vs_for PassesOwn.never rfl (vi_enumT (by rfl) (mz "enumerate" (by decide)) (va_cons (ve_var (pv 0)) va_nil)) (vg_tup (m := 2) rfl (vgs_cons (vg_name (pg_name (i := 3) sc_l_renamed.nd rfl (.inl rfl))) (vgs_cons (vg_name (pg_name (i := 4) sc_l_renamed.nd rfl (.inl rfl))) vgs_nil)))
        (vss_one (vs_dput (hu_of hr) (pv 2) (ve_ix ix_tup lft_ixU (ve_var (pv 1)) (ve_var (pv 3)) (fun _ _ => rfl)) (ve_ix ix_tup lft_ixU (ve_var (pv 1)) (ve_var (pv 4)) (fun _ _ => rfl)) rfl)))
      (vss_one (vs_ret (ve_tyTR call_tuple_of lft_tupleOf (by rfl) (mz "tuple" (by decide)) (by decide +kernel) (vb_cons (ve_new (vn_lc (own := [("_law_thing", 3)]) rfl sc_l_renamed.nd (vi_range1 (by rfl) (mz "range" (by decide)) (vb_cons (ve_cbR call_len_seq lft_len (by rfl) (mz "len" (by decide)) PySem.boot_len (vb_rd (pv 0) vb_nil)) vb_nil)) (blkOk_by (own := [("_law_thing", 3)]) (N := ["_law_turn", "_law_names", "_law_found", "_law_thing", "_law_place"]) (sc := defScope s_l_renamed) (by decide +kernel)) (tg_name (by simp)) (fun _ _ _ _ _ => (pg_name (i := 3) sc_l_renamed.nd rfl (.inl rfl))) (fun _ _ _ _ _ _ _ => vts_nil) (fun _ _ _ _ _ _ _ => (ve_dget (hu_of hr) (pv 2) (ve_var (pv 3)) (fun _ _ => rfl))))) vb_nil)))))), fun ds t Q E h => ?_⟩
  · obtain ⟨m, a, nm, d, rfl, _⟩ := h
    rfl
  · obtain ⟨m, a, nm, d, rfl, hd, ha, hn, hm, q⟩ := h
    have hal : (nsD a).length = m := by rw [nsD_len, ha.len]
    refine ⟨_, rfl, _, _, rfl, .inl rfl, fun i env t' => t' = t ∧ ∃ kvs s3 s4, (∀ k, s3 ≠ Sl.ow k) ∧ Dk m (rnL m nm a i) kvs ∧ env = [.fz (.tup (nsD a)), .fz d, .ow (.dK kvs), s3, s4], ⟨rfl, [], .no, .no, no_ow, ?_, rfl⟩, fun i x env t' hx hP => ?_, fun env t' hP => ?_⟩
    · have e : rnL m nm a 0 = List.replicate m (-1) := by
        unfold rnL
        rw [List.map_congr_left (g := fun _ => (-1 : Int)) (fun y _ => if_neg (Nat.not_lt_zero _)), List.map_const', List.length_range]
      rw [e]
      exact Dk.start
    · obtain ⟨rfl, kvs, s3, s4, h3, hD, rfl⟩ := hP
      obtain ⟨y, hy, rfl⟩ := enD_get hx
      have hi : i < m := by have := (List.getElem?_eq_some_iff.mp hy).1; omega
      have ey : y = nD (tA a i) := by
        unfold nsD at hy
        rw [List.getElem?_map, tA_get (by rw [ha.len]; exact hi)] at hy
        exact (Option.some.inj hy).symm
      subst ey
      have hai := ha.at_lt hi
      have hni := hn.at_lt hi
      have hdl := hD.len
      have at_ : ∀ {x : Nat}, x < m → atI (nsD nm) (x : Int) = some (nD (tA nm x)) := fun hx => nsD_tA (by rw [hn.len]; exact hx)
      refine ⟨_, rfl, rfl, _, _, rfl, _, _, rfl, rfl, _, rfl, _, rfl, _, _, _, hd, rfl, at_ hai, .inl ⟨_, rfl⟩, _, rfl, _, rfl, _, _, _, hd, rfl, at_ hi, .inl ⟨kvs, .inl ((tA nm i : Nat) : Int), rfl, rfl, by omega, rfl, putD kvs (.inl ((tA nm i : Nat) : Int)) (.int ((tA nm (tA a i) : Nat) : Int)), .fz (nD i), .fz (nD (tA a i)), (fun k z => by cases z), ?_, rfl⟩⟩
      have es : (rnL m nm a i).set (tA nm i) ((tA nm (tA a i) : Nat) : Int) = rnL m nm a (i + 1) := by
        unfold rnL
        refine List.ext_getElem? fun y => ?_
        rw [List.getElem?_set]
        by_cases hy : y < m
        · rw [List.getElem?_map, List.getElem?_map, List.getElem?_range hy]
          by_cases z : tA nm i = y
          · rw [if_pos z, if_pos (by rw [List.length_map, List.length_range, z]; exact hy), ← z]
            show some _ = some (if nm.idxOf (tA nm i) < i + 1 then _ else _)
            rw [hn.idx hi, if_pos (Nat.lt_succ_self i)]
          · rw [if_neg z]
            have hne : nm.idxOf y ≠ i := fun w => z (by rw [← w, hn.at_idx hy])
            show some (if nm.idxOf y < i then _ else _) = some (if nm.idxOf y < i + 1 then _ else _)
            by_cases w : nm.idxOf y < i
            · rw [if_pos w, if_pos (by omega)]
            · rw [if_neg w, if_neg (by omega)]
        · have z : tA nm i ≠ y := fun w => hy (w ▸ hni)
          rw [if_neg z, List.getElem?_map, List.getElem?_map, List.getElem?_eq_none (by rw [List.length_range]; omega)]
          rfl
      rw [← es]
      exact hD.put hni (Int.natCast_nonneg _)
    · obtain ⟨rfl, kvs, s3, s4, h3, hD, rfl⟩ := hP
      rw [enD_len, hal] at hD
      obtain ⟨_, _, _, _, h4⟩ := hD
      refine ⟨⟨_, .inl rfl⟩, _, .inl rfl, _, .inr rfl, rfl, _, rfl, ⟨by omega, by rw [hal]; omega⟩, ?_⟩
      rw [hal]
      refine lc_map (i := 3) (fun x => nD (tA nm (tA a (nm.idxOf x)))) (.head _) (noOw1 (s := s3) rfl h3) (by rw [rngD_len]; omega) (fun x d hx R hR => ?_) ?_
      · obtain ⟨rfl, hx2⟩ := rngD_get0 hx
        have hx : x < m := by have : x < ((m : Nat) : Int).toNat := hx2; omega
        have hv : valD kvs (Sum.inl (x : Int) : Key) = some (nD (tA nm (tA a (nm.idxOf x)))) := by
          rw [h4 x hx ((tA nm (tA a (nm.idxOf x)) : Nat) : Int) (by
            unfold rnL
            rw [List.getElem?_map, List.getElem?_range hx]
            show some (if nm.idxOf x < m then _ else _) = _
            rw [if_pos (hn.idx_lt hx)]), if_neg (by omega)]
          rfl
        exact ⟨.inl ⟨_, rfl⟩, _, rfl, _, .inl ⟨kvs, .inl ((x : Nat) : Int), rfl, rfl, hv.symm⟩, hR⟩
      · rw [rngD_len, Int.toNat_natCast]
        have ef : (List.range m).map (fun x => nD (tA nm (tA a (nm.idxOf x)))) = nsD (cjT m nm a) := by
          unfold cjT VL.thn invT nsD
          rw [List.map_map, List.map_map, List.map_map]
          refine List.map_congr_left fun x hx => ?_
          show nD _ = Dt.int _
          rfl
        rw [ef]
        exact ⟨_, rfl, _, rfl, flats_ns _, q⟩
theorem ok_renL {f  : Addr} {fd  : FuncData} (F : Fun K "_law_renamed" "_law_renamed" s_l_renamed f fd)
    (mz : ∀ x ∈ bn, mg x = none) : VFn gd P w K mg base CX0 (k + 1) f fd ["_law_turn", "_law_names"] am spRenL := by
  refine vfn_of F sc_l_renamed (fun ds n Q E h => ?_) ⟨_, fun cdv A out s H E F0 H0 hcd hgd hr =>
    (vss_cons (vs_setN (i := 2) sc_l_renamed.nd rfl (.inr rfl) vn_dnewK)
      (vss_cons (vs_for PassesOwn.never rfl (vi_enumT (by rfl) (mz "enumerate" (by decide)) (va_cons (ve_var (pv 0)) va_nil)) (vg_tup (m := 2) rfl (vgs_cons (vg_name (pg_name (i := 3) sc_l_renamed.nd rfl (.inl rfl))) (vgs_cons (vg_name (pg_name (i := 4) sc_l_renamed.nd rfl (.inl rfl))) vgs_nil)))
        (vss_one (vs_dput (hu_of hr) (pv 2) (ve_ixO (pv 1) (ve_var (pv 3)) (fun _ _ => rfl)) (ve_ixO (pv 1) (ve_var (pv 4)) (fun _ _ => rfl)) rfl)))
      (vss_one (vs_ret (ve_tyTR call_tuple_of lft_tupleOf (by rfl) (mz "tuple" (by decide)) (by decide +kernel) (vb_cons (ve_new (vn_lc (own := [("_law_thing", 3)]) rfl sc_l_renamed.nd (vi_range1 (by rfl) (mz "range" (by decide)) (vb_cons (ve_cbR call_len_seq lft_len (by rfl) (mz "len" (by decide)) PySem.boot_len (vb_rd (pv 0) vb_nil)) vb_nil)) (blkOk_by (own := [("_law_thing", 3)]) (N := ["_law_turn", "_law_names", "_law_found", "_law_thing", "_law_place"]) (sc := defScope s_l_renamed) (by decide +kernel)) (tg_name (by simp)) (fun _ _ _ _ _ => (pg_name (i := 3) sc_l_renamed.nd rfl (.inl rfl))) (fun _ _ _ _ _ _ _ => vts_nil) (fun _ _ _ _ _ _ _ => (ve_dget (hu_of hr) (pv 2) (ve_var (pv 3)) (fun _ _ => rfl))))) vb_nil)))))), fun ds t Q E h => ?_⟩
  · obtain ⟨m, a, nm, rfl, _⟩ := h
    rfl
  · obtain ⟨m, a, nm, rfl, ha, hn, hm, q⟩ := h
    have hal : (nsD a).length = m := by rw [nsD_len, ha.len]
    refine ⟨_, rfl, _, _, rfl, .inl rfl, fun i env t' => t' = t ∧ ∃ kvs s3 s4, (∀ k, s3 ≠ Sl.ow k) ∧ Dk m (rnL m nm a i) kvs ∧ env = [.fz (.tup (nsD a)), .fz (.lst (nsD nm)), .ow (.dK kvs), s3, s4], ⟨rfl, [], .no, .no, no_ow, ?_, rfl⟩, fun i x env t' hx hP => ?_, fun env t' hP => ?_⟩
    · have e : rnL m nm a 0 = List.replicate m (-1) := by
        unfold rnL
        rw [List.map_congr_left (g := fun _ => (-1 : Int)) (fun y _ => if_neg (Nat.not_lt_zero _)), List.map_const', List.length_range]
      rw [e]
      exact Dk.start
    · obtain ⟨rfl, kvs, s3, s4, h3, hD, rfl⟩ := hP
      obtain ⟨y, hy, rfl⟩ := enD_get hx
      have hi : i < m := by have := (List.getElem?_eq_some_iff.mp hy).1; omega
      have ey : y = nD (tA a i) := by
        unfold nsD at hy
        rw [List.getElem?_map, tA_get (by rw [ha.len]; exact hi)] at hy
        exact (Option.some.inj hy).symm
      subst ey
      have hai := ha.at_lt hi
      have hni := hn.at_lt hi
      have hdl := hD.len
      have at_ : ∀ {x : Nat}, x < m → atI (nsD nm) (x : Int) = some (nD (tA nm x)) := fun hx => nsD_tA (by rw [hn.len]; exact hx)
      refine ⟨_, rfl, rfl, _, _, rfl, _, _, rfl, rfl, ⟨_, .inl rfl⟩, _, rfl, _, _, _, .inl rfl, rfl, at_ hai, .inl ⟨_, rfl⟩, ⟨_, .inl rfl⟩, _, rfl, _, _, _, .inl rfl, rfl, at_ hi, .inl ⟨kvs, .inl ((tA nm i : Nat) : Int), rfl, rfl, by omega, rfl, putD kvs (.inl ((tA nm i : Nat) : Int)) (.int ((tA nm (tA a i) : Nat) : Int)), .fz (nD i), .fz (nD (tA a i)), (fun k z => by cases z), ?_, rfl⟩⟩
      have es : (rnL m nm a i).set (tA nm i) ((tA nm (tA a i) : Nat) : Int) = rnL m nm a (i + 1) := by
        unfold rnL
        refine List.ext_getElem? fun y => ?_
        rw [List.getElem?_set]
        by_cases hy : y < m
        · rw [List.getElem?_map, List.getElem?_map, List.getElem?_range hy]
          by_cases z : tA nm i = y
          · rw [if_pos z, if_pos (by rw [List.length_map, List.length_range, z]; exact hy), ← z]
            show some _ = some (if nm.idxOf (tA nm i) < i + 1 then _ else _)
            rw [hn.idx hi, if_pos (Nat.lt_succ_self i)]
          · rw [if_neg z]
            have hne : nm.idxOf y ≠ i := fun w => z (by rw [← w, hn.at_idx hy])
            show some (if nm.idxOf y < i then _ else _) = some (if nm.idxOf y < i + 1 then _ else _)
            by_cases w : nm.idxOf y < i
            · rw [if_pos w, if_pos (by omega)]
            · rw [if_neg w, if_neg (by omega)]
        · have z : tA nm i ≠ y := fun w => hy (w ▸ hni)
          rw [if_neg z, List.getElem?_map, List.getElem?_map, List.getElem?_eq_none (by rw [List.length_range]; omega)]
          rfl
      rw [← es]
      exact hD.put hni (Int.natCast_nonneg _)
    · obtain ⟨rfl, kvs, s3, s4, h3, hD, rfl⟩ := hP
      rw [enD_len, hal] at hD
      obtain ⟨_, _, _, _, h4⟩ := hD
      refine ⟨⟨_, .inl rfl⟩, _, .inl rfl, _, .inr rfl, rfl, _, rfl, ⟨by omega, by rw [hal]; omega⟩, ?_⟩
      rw [hal]
      refine lc_map (i := 3) (fun x => nD (tA nm (tA a (nm.idxOf x)))) (.head _) (noOw1 (s := s3) rfl h3) (by rw [rngD_len]; omega) (fun x d hx R hR => ?_) ?_
      · obtain ⟨rfl, hx2⟩ := rngD_get0 hx
        have hx : x < m := by have : x < ((m : Nat) : Int).toNat := hx2; omega
        have hv : valD kvs (Sum.inl (x : Int) : Key) = some (nD (tA nm (tA a (nm.idxOf x)))) := by
          rw [h4 x hx ((tA nm (tA a (nm.idxOf x)) : Nat) : Int) (by
            unfold rnL
            rw [List.getElem?_map, List.getElem?_range hx]
            show some (if nm.idxOf x < m then _ else _) = _
            rw [if_pos (hn.idx_lt hx)]), if_neg (by omega)]
          rfl
        exact ⟨.inl ⟨_, rfl⟩, _, rfl, _, .inl ⟨kvs, .inl ((x : Nat) : Int), rfl, rfl, hv.symm⟩, hR⟩
      · rw [rngD_len, Int.toNat_natCast]
        have ef : (List.range m).map (fun x => nD (tA nm (tA a (nm.idxOf x)))) = nsD (cjT m nm a) := by
          unfold cjT VL.thn invT nsD
          rw [List.map_map, List.map_map, List.map_map]
          refine List.map_congr_left fun x hx => ?_
          show nD _ = Dt.int _
          rfl
        rw [ef]
        exact ⟨_, rfl, _, rfl, flats_ns _, q⟩
end
end K66
namespace K66
open PySem PySem.Spec PyProof.Rows L2 HM VL
abbrev s_l_due : Stmt := topS 17
theorem sc_l_due : FnScope ["_law_group", "_law_names", "_law_turn"] ["_law_group", "_law_names"] (defScope s_l_due) := ⟨rfl, rfl, rfl, by decide +kernel, rfl, by decide +kernel, by decide +kernel⟩
section
variable {P : Program} {w : World} {K : PySem.W.Frag} {mg : Str → Option Value} {base : Heap} {am : Am} {gd : Around → Prop} {k : Nat}
theorem ok_dueD {f f_l_renamed : Addr} {fd fd_l_renamed : FuncData} (F : Fun K "_law_due" "_law_due" s_l_due f fd)
    (G_l_renamed : VFn anyA P w K mg base CX0 (k + 1) f_l_renamed fd_l_renamed ["_law_turn", "_law_names"] am spRenU) (g_l_renamed : mg "_law_renamed" = some (.ref f_l_renamed)) (k_l_renamed : PySem.W.keepIn K (.ref f_l_renamed) = true) (b_l_renamed : Binds K fd_l_renamed ["_law_turn", "_law_names"] [])
    (mz : ∀ x ∈ bn, mg x = none) : VFn gd P w K mg base CX0 (k + 2) f fd ["_law_group", "_law_names"] am spNamedG := by
  refine vfn_of F sc_l_due (fun ds n Q E h => ?_) ⟨_, fun cdv A out s H E F0 H0 hcd hgd hr =>
    (vss_one (vs_ret (ve_tyTR call_tuple_of lft_tupleOf (by rfl) (mz "tuple" (by decide)) (by decide +kernel) (vb_cons (ve_new (vn_sortLT (by rfl) (mz "sorted" (by decide)) (ve_new (vn_lc (own := [("_law_turn", 2)]) rfl sc_l_due.nd (vi_tup (ve_var (pv 0))) (blkOk_by (own := [("_law_turn", 2)]) (N := ["_law_group", "_law_names", "_law_turn"]) (sc := defScope s_l_due) (by decide +kernel)) (tg_name (by simp)) (fun _ _ _ _ _ => (pg_name (i := 2) sc_l_due.nd rfl (.inl rfl))) (fun _ _ _ _ _ _ _ => vts_nil) (fun _ _ _ _ _ _ _ => (ve_call G_l_renamed trivial (hr.mono (by omega)) (by rfl) g_l_renamed k_l_renamed b_l_renamed pass0 (va_cons (ve_var (pv 2)) (va_cons (ve_var (pv 1)) va_nil)))))))) vb_nil)))), fun ds t Q E h => ?_⟩
  · obtain ⟨m, gl, nm, d, rfl, _⟩ := h
    rfl
  · obtain ⟨m, gl, nm, d, rfl, hd, h1, h7, hl, ht, hn, q⟩ := h
    have hin := inv_tn hn
    refine ⟨_, rfl, _, rfl, lc_map (i := 2) (fun j => .tup (nsD (cjT m nm (tL gl j)))) (.head _) (noOw1 (s := .no) rfl no_ow) (by rw [tnsD_len]; omega) (fun j x hx R hR => ?_) ?_⟩
    · unfold tnsD at hx
      rw [List.getElem?_map] at hx
      obtain ⟨a, ha, rfl⟩ := Option.map_eq_some_iff.mp hx
      have ea : tL gl j = a := tL_get ha
      have hat := ht a (List.mem_of_getElem? ha)
      rw [ea] at hR
      exact ⟨_, rfl, _, rfl, m, a, nm, d, rfl, hd, hat, hn, h7, hR⟩
    · rw [tnsD_len, map_tL (fun a => Dt.tup (nsD (cjT m nm a))) gl]
      have el : (gl.map fun a => Dt.tup (nsD (cjT m nm a))) = ((gl.map (cjT m nm)).map iN).map tuD := by
        rw [List.map_map, List.map_map]
        refine List.map_congr_left fun a _ => ?_
        show Dt.tup (nsD _) = Dt.tup ((iN _).map Dt.int)
        rw [nsD_ints]
        rfl
      rw [el]
      refine ⟨_, rfl, (gl.map (cjT m nm)).map iN, m, (m : Int), rfl, by rw [List.length_map, List.length_map]; omega, h1, fun b hb => ?_, fun M hp hs => ?_⟩
      · obtain ⟨a, ha, rfl⟩ := List.mem_map.mp hb
        obtain ⟨a0, ha0, rfl⟩ := List.mem_map.mp ha
        have hc := cj_tn hn (ht a0 ha0)
        exact ⟨by unfold iN; rw [List.length_map, hc.len], bd_tn hc⟩
      · obtain ⟨gl', hp', rfl⟩ := permInv hp
        have em : (gl'.map iN).map tuD = tnsD gl' := by
          rw [List.map_map]
          unfold tnsD
          refine List.map_congr_left fun a _ => ?_
          show Dt.tup ((iN a).map Dt.int) = Dt.tup (nsD a)
          rw [nsD_ints]
          rfl
        rw [em]
        exact ⟨_, rfl, _, rfl, flats_tn gl', q gl' ⟨hp', hs⟩⟩
end
end K66
namespace K66
open PySem PySem.Spec PyProof.Rows L2 HM VL
abbrev s_l_menu : Stmt := topS 15
theorem sc_l_menu : FnScope ["_law_pen_here", "_law_some", "_law_great"] ["_law_pen_here"] (defScope s_l_menu) := ⟨rfl, rfl, rfl, by decide +kernel, rfl, by decide +kernel, by decide +kernel⟩
abbrev s_l_given : Stmt := topS 16
theorem sc_l_given : FnScope ["_law_pen_here", "_law_many", "_law_turns", "_law_names", "_law_turn", "_law_k"] ["_law_pen_here"] (defScope s_l_given) := ⟨rfl, rfl, rfl, by decide +kernel, rfl, by decide +kernel, by decide +kernel⟩
section
variable {P : Program} {w : World} {K : PySem.W.Frag} {mg : Str → Option Value} {base : Heap} {am : Am} {gd : Around → Prop} {k : Nat}
theorem ok_menu {p : Addr} {f f_l_draw : Addr} {fd fd_l_draw : FuncData} (F : Fun K "_law_menu" "_law_menu" s_l_menu f fd)
    (G_l_draw : VFn anyA P w K mg base CX0 (k + 1) f_l_draw fd_l_draw ["_law_pen_here", "_law_many"] am (spTake p)) (g_l_draw : mg "_law_draw" = some (.ref f_l_draw)) (k_l_draw : PySem.W.keepIn K (.ref f_l_draw) = true) (b_l_draw : Binds K fd_l_draw ["_law_pen_here", "_law_many"] [])
    (mz : ∀ x ∈ bn, mg x = none) : VFn gd P w K mg base CX0 (k + 2) f fd ["_law_pen_here"] am (spMenu p) := by
  refine vfn_of F sc_l_menu (fun ds n Q E h => ?_) ⟨_, fun cdv A out s H E F0 H0 hcd hgd hr =>
    (vss_cons (vs_set (i := 1) sc_l_menu.nd rfl (.inl rfl) (ve_new (vn_lst (va_cons (ve_tupK (ka_cons ve_int (ka_cons (ve_lstK ka_nil (by decide)) ka_nil)) (by decide)) (va_cons (ve_tupK (ka_cons ve_int (ka_cons (ve_lstK (ka_cons (ve_tupK (ka_cons ve_int (ka_cons ve_int ka_nil)) (by decide)) ka_nil) (by decide)) ka_nil)) (by decide)) (va_cons (ve_tupK (ka_cons ve_int (ka_cons (ve_lstK (ka_cons (ve_tupK (ka_cons ve_int (ka_cons ve_int (ka_cons ve_int ka_nil))) (by decide)) ka_nil) (by decide)) ka_nil)) (by decide)) (va_cons (ve_tupK (ka_cons ve_int (ka_cons (ve_lstK (ka_cons (ve_tupK (ka_cons ve_int (ka_cons ve_int (ka_cons ve_int ka_nil))) (by decide)) (ka_cons (ve_tupK (ka_cons ve_int (ka_cons ve_int (ka_cons ve_int ka_nil))) (by decide)) ka_nil)) (by decide)) ka_nil)) (by decide)) (va_cons (ve_tupK (ka_cons ve_int (ka_cons (ve_lstK (ka_cons (ve_tupK (ka_cons ve_int (ka_cons ve_int (ka_cons ve_int (ka_cons ve_int ka_nil)))) (by decide)) (ka_cons (ve_tupK (ka_cons ve_int (ka_cons ve_int (ka_cons ve_int (ka_cons ve_int ka_nil)))) (by decide)) ka_nil)) (by decide)) ka_nil)) (by decide)) va_nil))))))))
      (vss_cons (vs_set (i := 1) sc_l_menu.nd rfl (.inl rfl) (ve_new (vn_op op_cat lft_cat (ve_var (pv 1)) (ve_lstK (ka_cons (ve_tupK (ka_cons ve_int (ka_cons (ve_lstK (ka_cons (ve_tupK (ka_cons ve_int (ka_cons ve_int (ka_cons ve_int (ka_cons ve_int ka_nil)))) (by decide)) ka_nil) (by decide)) ka_nil)) (by decide)) (ka_cons (ve_tupK (ka_cons ve_int (ka_cons (ve_lstK (ka_cons (ve_tupK (ka_cons ve_int (ka_cons ve_int (ka_cons ve_int (ka_cons ve_int ka_nil)))) (by decide)) (ka_cons (ve_tupK (ka_cons ve_int (ka_cons ve_int (ka_cons ve_int (ka_cons ve_int ka_nil)))) (by decide)) ka_nil)) (by decide)) ka_nil)) (by decide)) (ka_cons (ve_tupK (ka_cons ve_int (ka_cons (ve_lstK (ka_cons (ve_tupK (ka_cons ve_int (ka_cons ve_int (ka_cons ve_int (ka_cons ve_int ka_nil)))) (by decide)) (ka_cons (ve_tupK (ka_cons ve_int (ka_cons ve_int (ka_cons ve_int (ka_cons ve_int ka_nil)))) (by decide)) ka_nil)) (by decide)) ka_nil)) (by decide)) ka_nil))) (by decide)))))
      (vss_cons (vs_set (i := 1) sc_l_menu.nd rfl (.inl rfl) (ve_new (vn_op op_cat lft_cat (ve_var (pv 1)) (ve_lstK (ka_cons (ve_tupK (ka_cons ve_int (ka_cons (ve_lstK (ka_cons (ve_tupK (ka_cons ve_int (ka_cons ve_int (ka_cons ve_int (ka_cons ve_int ka_nil)))) (by decide)) (ka_cons (ve_tupK (ka_cons ve_int (ka_cons ve_int (ka_cons ve_int (ka_cons ve_int ka_nil)))) (by decide)) ka_nil)) (by decide)) ka_nil)) (by decide)) (ka_cons (ve_tupK (ka_cons ve_int (ka_cons (ve_lstK (ka_cons (ve_tupK (ka_cons ve_int (ka_cons ve_int (ka_cons ve_int (ka_cons ve_int (ka_cons ve_int ka_nil))))) (by decide)) (ka_cons (ve_tupK (ka_cons ve_int (ka_cons ve_int (ka_cons ve_int (ka_cons ve_int (ka_cons ve_int ka_nil))))) (by decide)) ka_nil)) (by decide)) ka_nil)) (by decide)) ka_nil)) (by decide)))))
      (vss_cons (vs_set (i := 1) sc_l_menu.nd rfl (.inl rfl) (ve_new (vn_op op_cat lft_cat (ve_var (pv 1)) (ve_lstK (ka_cons (ve_tupK (ka_cons ve_int (ka_cons (ve_lstK (ka_cons (ve_tupK (ka_cons ve_int (ka_cons ve_int (ka_cons ve_int (ka_cons ve_int (ka_cons ve_int ka_nil))))) (by decide)) (ka_cons (ve_tupK (ka_cons ve_int (ka_cons ve_int (ka_cons ve_int (ka_cons ve_int (ka_cons ve_int ka_nil))))) (by decide)) ka_nil)) (by decide)) ka_nil)) (by decide)) (ka_cons (ve_tupK (ka_cons ve_int (ka_cons (ve_lstK (ka_cons (ve_tupK (ka_cons ve_int (ka_cons ve_int (ka_cons ve_int (ka_cons ve_int (ka_cons ve_int ka_nil))))) (by decide)) (ka_cons (ve_tupK (ka_cons ve_int (ka_cons ve_int (ka_cons ve_int (ka_cons ve_int (ka_cons ve_int ka_nil))))) (by decide)) ka_nil)) (by decide)) ka_nil)) (by decide)) ka_nil)) (by decide)))))
      (vss_cons (vs_set (i := 1) sc_l_menu.nd rfl (.inl rfl) (ve_new (vn_op op_cat lft_cat (ve_var (pv 1)) (ve_lstK (ka_cons (ve_tupK (ka_cons ve_int (ka_cons (ve_lstK (ka_cons (ve_tupK (ka_cons ve_int (ka_cons ve_int (ka_cons ve_int (ka_cons ve_int (ka_cons ve_int ka_nil))))) (by decide)) (ka_cons (ve_tupK (ka_cons ve_int (ka_cons ve_int (ka_cons ve_int (ka_cons ve_int (ka_cons ve_int ka_nil))))) (by decide)) (ka_cons (ve_tupK (ka_cons ve_int (ka_cons ve_int (ka_cons ve_int (ka_cons ve_int (ka_cons ve_int ka_nil))))) (by decide)) ka_nil))) (by decide)) ka_nil)) (by decide)) ka_nil) (by decide)))))
      (vss_cons (vs_set (i := 1) sc_l_menu.nd rfl (.inl rfl) (ve_new (vn_op op_cat lft_cat (ve_var (pv 1)) (ve_lstK (ka_cons (ve_tupK (ka_cons ve_int (ka_cons (ve_lstK (ka_cons (ve_tupK (ka_cons ve_int (ka_cons ve_int (ka_cons ve_int (ka_cons ve_int (ka_cons ve_int (ka_cons ve_int ka_nil)))))) (by decide)) (ka_cons (ve_tupK (ka_cons ve_int (ka_cons ve_int (ka_cons ve_int (ka_cons ve_int (ka_cons ve_int (ka_cons ve_int ka_nil)))))) (by decide)) (ka_cons (ve_tupK (ka_cons ve_int (ka_cons ve_int (ka_cons ve_int (ka_cons ve_int (ka_cons ve_int (ka_cons ve_int ka_nil)))))) (by decide)) ka_nil))) (by decide)) ka_nil)) (by decide)) ka_nil) (by decide)))))
      (vss_cons (vs_set (i := 1) sc_l_menu.nd rfl (.inl rfl) (ve_new (vn_op op_cat lft_cat (ve_var (pv 1)) (ve_lstK (ka_cons (ve_tupK (ka_cons ve_int (ka_cons (ve_lstK (ka_cons (ve_tupK (ka_cons ve_int (ka_cons ve_int (ka_cons ve_int (ka_cons ve_int (ka_cons ve_int (ka_cons ve_int (ka_cons ve_int ka_nil))))))) (by decide)) (ka_cons (ve_tupK (ka_cons ve_int (ka_cons ve_int (ka_cons ve_int (ka_cons ve_int (ka_cons ve_int (ka_cons ve_int (ka_cons ve_int ka_nil))))))) (by decide)) ka_nil)) (by decide)) ka_nil)) (by decide)) (ka_cons (ve_tupK (ka_cons ve_int (ka_cons (ve_lstK (ka_cons (ve_tupK (ka_cons ve_int (ka_cons ve_int (ka_cons ve_int (ka_cons ve_int (ka_cons ve_int (ka_cons ve_int (ka_cons ve_int ka_nil))))))) (by decide)) ka_nil) (by decide)) ka_nil)) (by decide)) ka_nil)) (by decide)))))
      (vss_cons (vs_set (i := 1) sc_l_menu.nd rfl (.inl rfl) (ve_new (vn_op op_cat lft_cat (ve_var (pv 1)) (ve_lstK (ka_cons (ve_tupK (ka_cons ve_int (ka_cons (ve_lstK (ka_cons (ve_tupK (ka_cons ve_int (ka_cons ve_int (ka_cons ve_int (ka_cons ve_int (ka_cons ve_int (ka_cons ve_int ka_nil)))))) (by decide)) (ka_cons (ve_tupK (ka_cons ve_int (ka_cons ve_int (ka_cons ve_int (ka_cons ve_int (ka_cons ve_int (ka_cons ve_int ka_nil)))))) (by decide)) ka_nil)) (by decide)) ka_nil)) (by decide)) ka_nil) (by decide)))))
      (vss_cons (vs_set (i := 2) sc_l_menu.nd rfl (.inl rfl) (ve_new (vn_lst (va_cons (ve_tupK (ka_cons ve_int (ka_cons (ve_lstK (ka_cons (ve_tupK (ka_cons ve_int (ka_cons ve_int (ka_cons ve_int (ka_cons ve_int (ka_cons ve_int (ka_cons ve_int (ka_cons ve_int ka_nil))))))) (by decide)) (ka_cons (ve_tupK (ka_cons ve_int (ka_cons ve_int (ka_cons ve_int (ka_cons ve_int (ka_cons ve_int (ka_cons ve_int (ka_cons ve_int ka_nil))))))) (by decide)) ka_nil)) (by decide)) ka_nil)) (by decide)) (va_cons (ve_tupK (ka_cons ve_int (ka_cons (ve_lstK (ka_cons (ve_tupK (ka_cons ve_int (ka_cons ve_int (ka_cons ve_int (ka_cons ve_int (ka_cons ve_int ka_nil))))) (by decide)) (ka_cons (ve_tupK (ka_cons ve_int (ka_cons ve_int (ka_cons ve_int (ka_cons ve_int (ka_cons ve_int ka_nil))))) (by decide)) ka_nil)) (by decide)) ka_nil)) (by decide)) va_nil)))))
      (vss_cons (vs_set (i := 2) sc_l_menu.nd rfl (.inl rfl) (ve_new (vn_op op_cat lft_cat (ve_var (pv 2)) (ve_lstK (ka_cons (ve_tupK (ka_cons ve_int (ka_cons (ve_lstK (ka_cons (ve_tupK (ka_cons ve_int (ka_cons ve_int (ka_cons ve_int (ka_cons ve_int (ka_cons ve_int (ka_cons ve_int ka_nil)))))) (by decide)) (ka_cons (ve_tupK (ka_cons ve_int (ka_cons ve_int (ka_cons ve_int (ka_cons ve_int (ka_cons ve_int (ka_cons ve_int ka_nil)))))) (by decide)) (ka_cons (ve_tupK (ka_cons ve_int (ka_cons ve_int (ka_cons ve_int (ka_cons ve_int (ka_cons ve_int (ka_cons ve_int ka_nil)))))) (by decide)) ka_nil))) (by decide)) ka_nil)) (by decide)) ka_nil) (by decide)))))
      (vss_cons (vs_set (i := 2) sc_l_menu.nd rfl (.inl rfl) (ve_new (vn_op op_cat lft_cat (ve_var (pv 2)) (ve_lstK (ka_cons (ve_tupK (ka_cons ve_int (ka_cons (ve_lstK (ka_cons (ve_tupK (ka_cons ve_int (ka_cons ve_int (ka_cons ve_int (ka_cons ve_int (ka_cons ve_int (ka_cons ve_int (ka_cons ve_int ka_nil))))))) (by decide)) (ka_cons (ve_tupK (ka_cons ve_int (ka_cons ve_int (ka_cons ve_int (ka_cons ve_int (ka_cons ve_int (ka_cons ve_int (ka_cons ve_int ka_nil))))))) (by decide)) (ka_cons (ve_tupK (ka_cons ve_int (ka_cons ve_int (ka_cons ve_int (ka_cons ve_int (ka_cons ve_int (ka_cons ve_int (ka_cons ve_int ka_nil))))))) (by decide)) (ka_cons (ve_tupK (ka_cons ve_int (ka_cons ve_int (ka_cons ve_int (ka_cons ve_int (ka_cons ve_int (ka_cons ve_int (ka_cons ve_int ka_nil))))))) (by decide)) ka_nil)))) (by decide)) ka_nil)) (by decide)) ka_nil) (by decide)))))
      (vss_cons (vs_if (vt_cmp op_eq lft_eq (ve_call G_l_draw trivial (hr.mono (by omega)) (by rfl) g_l_draw k_l_draw b_l_draw pass0 (va_cons (ve_var (pv 0)) (va_cons ve_int va_nil))) ve_int (nomark _))
        (vss_one (vs_set (i := 1) sc_l_menu.nd rfl (.inl rfl) (ve_var (pv 2))))
        vss_nil)
      (vss_one (vs_ret (ve_ixO (pv 1) (ve_call G_l_draw trivial (hr.mono (by omega)) (by rfl) g_l_draw k_l_draw b_l_draw pass0 (va_cons (ve_var (pv 0)) (va_cons (ve_cbR call_len_seq lft_len (by rfl) (mz "len" (by decide)) PySem.boot_len (vb_rd (pv 1) vb_nil)) va_nil))) (fun _ _ => rfl)))))))))))))))), fun ds t Q E h => ?_⟩
  · obtain ⟨rfl, _⟩ := h
    rfl
  · obtain ⟨rfl, q⟩ := h
    refine ⟨by show 5 ≤ 5000; decide, _, rfl, ?_⟩
    refine ⟨_, rfl, _, _, rfl, rfl, (by show 5 + 3 ≤ 5000; decide), _, rfl, ?_⟩
    refine ⟨_, rfl, _, _, rfl, rfl, (by show 8 + 2 ≤ 5000; decide), _, rfl, ?_⟩
    refine ⟨_, rfl, _, _, rfl, rfl, (by show 10 + 2 ≤ 5000; decide), _, rfl, ?_⟩
    refine ⟨_, rfl, _, _, rfl, rfl, (by show 12 + 1 ≤ 5000; decide), _, rfl, ?_⟩
    refine ⟨_, rfl, _, _, rfl, rfl, (by show 13 + 1 ≤ 5000; decide), _, rfl, ?_⟩
    refine ⟨_, rfl, _, _, rfl, rfl, (by show 14 + 2 ≤ 5000; decide), _, rfl, ?_⟩
    refine ⟨_, rfl, _, _, rfl, rfl, (by show 16 + 1 ≤ 5000; decide), _, rfl, ?_⟩
    refine ⟨by show 2 ≤ 5000; decide, _, rfl, ?_⟩
    refine ⟨_, rfl, _, _, rfl, rfl, (by show 2 + 1 ≤ 5000; decide), _, rfl, ?_⟩
    refine ⟨_, rfl, _, _, rfl, rfl, (by show 3 + 1 ≤ 5000; decide), _, rfl, ?_⟩
    show vSeq (vIf (vB (vOp dEq (vCall (spTake p) (vCons (vVar 0) (vCons (vC (Dt.int 16)) vNil))) (vC (Dt.int 0)))) (vSet 1 (vVar 2)) vNext) _ _ [.fz (.obj p), .fz (.lst (mens.map menD)), .fz (.lst (grts.map menD))] t
    refine vcut (fun env t' => t' = t ∧ ∃ L, (L = mens ∨ L = grts) ∧ ∃ s2, env = [.fz (.obj p), .fz (.lst (L.map menD)), s2]) (fun N hN => ?_) (fun env t' hP => ?_)
    · exact ⟨_, rfl, 16, rfl, by decide, by decide, fun r hr => .inl ⟨_, _, rfl, rfl, _, rfl, iteB (fun _ => ⟨_, rfl, hN _ _ ⟨rfl, grts, .inr rfl, _, rfl⟩⟩) (fun _ => hN _ _ ⟨rfl, mens, .inl rfl, _, rfl⟩)⟩⟩
    · obtain ⟨rfl, L, hL, s2, rfl⟩ := hP
      have hl : 0 < L.length ∧ L.length ≤ 17 := by
        rcases hL with rfl | rfl <;> decide
      refine ⟨⟨_, .inl rfl⟩, _, rfl, ⟨_, .inl rfl⟩, _, .inl rfl, _, .inl rfl, rfl, L.length, by rw [List.length_map]; rfl, hl.1, by omega, fun r hr => ?_⟩
      obtain ⟨e, he⟩ : ∃ e, L[r]? = some e := ⟨_, List.getElem?_eq_getElem hr⟩
      refine ⟨_, _, _, .inl rfl, rfl, atI_nat (j := r) (show (L.map menD)[r]? = some (menD e) by rw [List.getElem?_map, he]; rfl), ?_⟩
      exact q e.1 e.2 (men_few (by rcases hL with rfl | rfl; exact .inl (List.mem_of_getElem? he); exact .inr (List.mem_of_getElem? he)))
theorem ok_given {p : Addr} {f f_l_draw f_l_menu f_l_order f_l_renamed f_l_closed : Addr} {fd fd_l_draw fd_l_menu fd_l_order fd_l_renamed fd_l_closed : FuncData} (F : Fun K "_law_given" "_law_given" s_l_given f fd)
    (G_l_draw : VFn anyA P w K mg base CX0 (k + 1) f_l_draw fd_l_draw ["_law_pen_here", "_law_many"] am (spTake p)) (g_l_draw : mg "_law_draw" = some (.ref f_l_draw)) (k_l_draw : PySem.W.keepIn K (.ref f_l_draw) = true) (b_l_draw : Binds K fd_l_draw ["_law_pen_here", "_law_many"] [])
    (G_l_menu : VFn anyA P w K mg base CX0 (k + 1) f_l_menu fd_l_menu ["_law_pen_here"] am (spMenu p)) (g_l_menu : mg "_law_menu" = some (.ref f_l_menu)) (k_l_menu : PySem.W.keepIn K (.ref f_l_menu) = true) (b_l_menu : Binds K fd_l_menu ["_law_pen_here"] [])
    (G_l_order : VFn anyA P w K mg base CX0 (k + 1) f_l_order fd_l_order ["_law_pen_here", "_law_many"] am (spOrder p)) (g_l_order : mg "_law_order" = some (.ref f_l_order)) (k_l_order : PySem.W.keepIn K (.ref f_l_order) = true) (b_l_order : Binds K fd_l_order ["_law_pen_here", "_law_many"] [])
    (G_l_renamed : VFn anyA P w K mg base CX0 (k + 1) f_l_renamed fd_l_renamed ["_law_turn", "_law_names"] am spRenL) (g_l_renamed : mg "_law_renamed" = some (.ref f_l_renamed)) (k_l_renamed : PySem.W.keepIn K (.ref f_l_renamed) = true) (b_l_renamed : Binds K fd_l_renamed ["_law_turn", "_law_names"] [])
    (G_l_closed : VFn anyA P w K mg base CX0 (k + 1) f_l_closed fd_l_closed ["_law_many", "_law_turns"] am spClosedD) (g_l_closed : mg "_law_closed" = some (.ref f_l_closed)) (k_l_closed : PySem.W.keepIn K (.ref f_l_closed) = true) (b_l_closed : Binds K fd_l_closed ["_law_many", "_law_turns"] [])
    (mz : ∀ x ∈ bn, mg x = none) : VFn gd P w K mg base CX0 (k + 2) f fd ["_law_pen_here"] am (spMenu p) := by
  refine vfn_of F sc_l_given (fun ds n Q E h => ?_) ⟨_, fun cdv A out s H E F0 H0 hcd hgd hr =>
    (vss_cons (vs_if (vt_cmp op_gt lft_B0 (ve_call G_l_draw trivial (hr.mono (by omega)) (by rfl) g_l_draw k_l_draw b_l_draw pass0 (va_cons (ve_var (pv 0)) (va_cons ve_int va_nil))) ve_int (nomark _))
        (vss_cons (vs_asg (ve_call G_l_menu trivial (hr.mono (by omega)) (by rfl) g_l_menu k_l_menu b_l_menu pass0 (va_cons (ve_var (pv 0)) va_nil)) (vg_tup (m := 2) rfl (vgs_cons (vg_name (pg_name (i := 1) sc_l_given.nd rfl (.inr rfl))) (vgs_cons (vg_name (pg_name (i := 2) sc_l_given.nd rfl (.inl rfl))) vgs_nil))))
        (vss_cons (vs_set (i := 3) sc_l_given.nd rfl (.inr rfl) (ve_call G_l_order trivial (hr.mono (by omega)) (by rfl) g_l_order k_l_order b_l_order pass0 (va_cons (ve_var (pv 0)) (va_cons (ve_var (pv 1)) va_nil))))
        (vss_one (vs_ret (ve_tup (va_cons (ve_var (pv 1)) (va_cons (ve_new (vn_lc (own := [("_law_turn", 4)]) rfl sc_l_given.nd (vi_list (ve_var (pv 2))) (blkOk_by (own := [("_law_turn", 4)]) (N := ["_law_pen_here", "_law_many", "_law_turns", "_law_names", "_law_turn", "_law_k"]) (sc := defScope s_l_given) (by decide +kernel)) (tg_name (by simp)) (fun _ _ _ _ _ => (pg_name (i := 4) sc_l_given.nd rfl (.inl rfl))) (fun _ _ _ _ _ _ _ => vts_nil) (fun _ _ _ _ _ _ _ => (ve_call G_l_renamed trivial (hr.mono (by omega)) (by rfl) g_l_renamed k_l_renamed b_l_renamed pass0 (va_cons (ve_var (pv 4)) (va_cons (ve_var (pv 3)) va_nil)))))) va_nil)))))))
        vss_nil)
      (vss_cons (vs_set (i := 1) sc_l_given.nd rfl (.inr rfl) (ve_op op_add lft_I0 ve_int (ve_call G_l_draw trivial (hr.mono (by omega)) (by rfl) g_l_draw k_l_draw b_l_draw pass0 (va_cons (ve_var (pv 0)) (va_cons ve_int va_nil)))))
      (vss_cons (vs_setLcF (i := 2) (own := [("_law_k", 5)]) rfl sc_l_given.nd rfl rfl (sw_true rfl rfl rfl (by decide +kernel)) (vi_range1 (by rfl) (mz "range" (by decide)) (vb_cons (ve_op op_add lft_I0 ve_int (ve_call G_l_draw trivial (hr.mono (by omega)) (by rfl) g_l_draw k_l_draw b_l_draw pass0 (va_cons (ve_var (pv 0)) (va_cons ve_int va_nil)))) vb_nil)) (blkOk_by (own := [("_law_k", 5)]) (N := ["_law_pen_here", "_law_many", "_law_turns", "_law_names", "_law_turn", "_law_k"]) (sc := defScope s_l_given) (by decide +kernel)) (tg_name (by simp)) (fun _ _ _ _ _ => (pg_name (i := 5) sc_l_given.nd rfl (.inl rfl))) (fun _ _ _ _ _ _ _ => vts_nil) (fun _ _ _ _ _ _ _ => (ve_tyTR call_tuple_of lft_tupleOf (by rfl) (mz "tuple" (by decide)) (by decide +kernel) (vb_cons (ve_call G_l_order trivial (hr.mono (by omega)) (by rfl) g_l_order k_l_order b_l_order pass0 (va_cons (ve_var (pv 0)) (va_cons (ve_var (pv 1)) va_nil))) vb_nil))))
      (vss_cons (vs_if (vt_cmp op_isN lft_isN (ve_call G_l_closed trivial (hr.mono (by omega)) (by rfl) g_l_closed k_l_closed b_l_closed pass0 (va_cons (ve_var (pv 1)) (va_cons (ve_var (pv 2)) va_nil))) ve_non (nomark _))
        (vss_one (vs_set (i := 2) sc_l_given.nd rfl (.inl rfl) (ve_new (vn_slL (ve_var (pv 2)) vo_none (vo_some ve_int)))))
        vss_nil)
      (vss_one (vs_ret (ve_tup (va_cons (ve_var (pv 1)) (va_cons (ve_var (pv 2)) va_nil))))))))), fun ds t Q E h => ?_⟩
  · obtain ⟨rfl, _⟩ := h
    rfl
  · obtain ⟨rfl, q⟩ := h
    refine ⟨_, rfl, 3, rfl, by decide, by decide, fun r hr => ⟨_, _, rfl, rfl, _, rfl, iteB (fun z => ?_) (fun z => ?_)⟩⟩
    · refine ⟨_, rfl, rfl, fun m ts hf => ⟨_, rfl, rfl, _, _, rfl, _, _, rfl, rfl, ?_⟩⟩
      have h7 := hf.m7
      have h4 := hf.l4
      refine ⟨_, rfl, _, rfl, m, rfl, by omega, fun nm hn => ?_⟩
      refine ⟨_, rfl, _, rfl, _, rfl, lc_map (i := 4) (fun j => .tup (nsD (cjT m nm (tL ts j)))) (.head _) (noOw1 (s := .no) rfl no_ow) (by show (tnsD ts).length ≤ 5000; rw [tnsD_len]; omega) (fun j x hx R hR => ?_) ?_⟩
      · have hx : (tnsD ts)[j]? = some x := hx
        unfold tnsD at hx
        rw [List.getElem?_map] at hx
        obtain ⟨a, ha, rfl⟩ := Option.map_eq_some_iff.mp hx
        have ea : tL ts j = a := tL_get ha
        rw [ea] at hR
        exact ⟨_, rfl, _, rfl, m, a, nm, rfl, hf.tn a (List.mem_of_getElem? ha), hn, h7, hR⟩
      · have hlt : (tnsD ts).length = ts.length := tnsD_len ts
        refine ⟨_, rfl, (by show 2 ≤ 5000; decide), ?_⟩
        have := q m (ts.map (cjT m nm)) (hf.cj hn)
        unfold menD tnsD at this
        rw [List.map_map] at this
        show Q (.tup [nD m, .lst ((List.range (tnsD ts).length).map fun j => .tup (nsD (cjT m nm (tL ts j))))]) _
        rw [hlt, map_tL (fun a => Dt.tup (nsD (cjT m nm a))) ts]
        exact this
    · refine ⟨_, rfl, 7, rfl, by decide, by decide, fun r1 hr1 => ⟨_, _, rfl, rfl, ?_⟩⟩
      obtain ⟨m, em, h1, h7⟩ : ∃ m : Nat, ((1 : Int) + (r1 : Int)) = (m : Int) ∧ 1 ≤ m ∧ m ≤ 7 := ⟨1 + r1, by omega, by omega, by omega⟩
      dsimp only
      rw [em]
      refine ⟨_, rfl, 2, rfl, by decide, by decide, fun r2 hr2 => ⟨_, _, rfl, rfl, _, rfl, ⟨by omega, by omega⟩, ?_⟩⟩
      refine lc_any (i := 5) (fun j acc => ∃ ts, acc = tnsD ts ∧ ts.length = j ∧ ∀ g ∈ ts, Tn m g) (.head _) (noOw1 (s := .no) rfl no_ow) (by rw [rngD_len]; omega) ⟨[], rfl, rfl, fun g hg => absurd hg List.not_mem_nil⟩ (fun j x acc hx hP R hR => ?_) (fun acc hP => ?_)
      · obtain ⟨ts, rfl, htl, hT⟩ := hP
        refine ⟨_, rfl, _, rfl, m, rfl, by omega, fun g hg => ?_⟩
        refine ⟨_, rfl, flats_ns _, hR _ ⟨ts ++ [g], by rw [← tnsD_app], by rw [List.length_append, htl]; rfl, fun x hx => ?_⟩⟩
        rcases List.mem_append.mp hx with h | h
        · exact hT x h
        · rw [List.mem_singleton.mp h]; exact hg
      · obtain ⟨ts, rfl, htl, hT⟩ := hP
        rw [rngD_len] at htl
        have h4 : ts.length ≤ 4 := by omega
        refine ⟨_, rfl, ?_⟩
        refine ⟨_, rfl, _, rfl, m, ts, rfl, h1, h7, h4, hT, fun gl hg hs hm => ⟨rfl, _, rfl, iteB (fun z => by cases z) (fun _ => ?_)⟩, .inr ⟨rfl, _, rfl, iteB (fun _ => ?_) (fun z => by cases z)⟩⟩
        · exact ⟨_, rfl, _, rfl, (by show 2 ≤ 5000; decide), q m ts (.of h1 h7 h4 hT hg hm)⟩
        · refine ⟨_, rfl, 1, rfl, _, rfl, ?_⟩
          rw [show VL.cutD (tnsD ts) none (some 1) = tnsD (ts.take 1) from cut1 ts]
          exact ⟨_, rfl, _, rfl, _, rfl, (by show 2 ≤ 5000; decide), q m (ts.take 1) (.one h1 h7 (fun g hg => hT g (List.mem_of_mem_take hg)) (by rw [List.length_take]; omega))⟩
end
end K66
namespace K66
open PySem PySem.Spec PyProof.Rows L2 HM VL HG
abbrev s_law : Stmt := topS 18
theorem sc_law : FnScope ["_law_script", "_law_pen_here", "_law_k", "_law_many", "_law_turns", "_law_group", "_law_names", "_law_others", "_law_kept", "_law_found", "_law_thing", "_law_back"] ["_law_script"] (defScope s_law) := ⟨rfl, rfl, rfl, by decide +kernel, rfl, by decide +kernel, by decide +kernel⟩
section
variable {P : Program} {w : World} {K : PySem.W.Frag} {mg : Str → Option Value} {base : Heap} {k : Nat}
theorem ok_law {f f_l_pen f_l_given f_l_closed f_l_order f_named_group f_l_due f_l_then : Addr} {fd fd_l_pen fd_l_given fd_l_closed fd_l_order fd_named_group fd_l_due fd_l_then : FuncData} {Ps : List Addr} (F : Fun K "law" "law" s_law f fd)
    (GP : PFn anyA P w K mg base CX0 (k + 1) f_l_pen fd_l_pen ["_law_script"] spPenL) (gP : mg "_law_pen" = some (.ref f_l_pen)) (kP : PySem.W.keepIn K (.ref f_l_pen) = true) (bP : Binds K fd_l_pen ["_law_script"] [])
    (G_l_given : ∀ {am p}, PenL K am p → VFn anyA P w K mg base CX0 (k + 1) f_l_given fd_l_given ["_law_pen_here"] am (spMenu p)) (g_l_given : mg "_law_given" = some (.ref f_l_given)) (k_l_given : PySem.W.keepIn K (.ref f_l_given) = true) (b_l_given : Binds K fd_l_given ["_law_pen_here"] [])
    (G_l_closed : ∀ {am}, VFn anyA P w K mg base CX0 (k + 1) f_l_closed fd_l_closed ["_law_many", "_law_turns"] am spClosedD) (g_l_closed : mg "_law_closed" = some (.ref f_l_closed)) (k_l_closed : PySem.W.keepIn K (.ref f_l_closed) = true) (b_l_closed : Binds K fd_l_closed ["_law_many", "_law_turns"] [])
    (G_l_order : ∀ {am p}, PenL K am p → VFn anyA P w K mg base CX0 (k + 1) f_l_order fd_l_order ["_law_pen_here", "_law_many"] am (spOrder p)) (g_l_order : mg "_law_order" = some (.ref f_l_order)) (k_l_order : PySem.W.keepIn K (.ref f_l_order) = true) (b_l_order : Binds K fd_l_order ["_law_pen_here", "_law_many"] [])
    (G_named_group : ∀ {am}, (∀ P ∈ Ps, TabIn am P) → VFn anyA P w K mg base CX0 (k + 1) f_named_group fd_named_group ["group", "names"] am spNamedG) (g_named_group : mg "named_group" = some (.ref f_named_group)) (k_named_group : PySem.W.keepIn K (.ref f_named_group) = true) (b_named_group : Binds K fd_named_group ["group", "names"] [])
    (G_l_due : ∀ {am}, VFn anyA P w K mg base CX0 (k + 1) f_l_due fd_l_due ["_law_group", "_law_names"] am spNamedG) (g_l_due : mg "_law_due" = some (.ref f_l_due)) (k_l_due : PySem.W.keepIn K (.ref f_l_due) = true) (b_l_due : Binds K fd_l_due ["_law_group", "_law_names"] [])
    (G_l_then : ∀ {am}, VFn anyA P w K mg base CX0 (k + 1) f_l_then fd_l_then ["_law_one", "_law_other"] am spTwoU) (g_l_then : mg "_law_then" = some (.ref f_l_then)) (k_l_then : PySem.W.keepIn K (.ref f_l_then) = true) (b_l_then : Binds K fd_l_then ["_law_one", "_law_other"] [])
    (mz : ∀ x ∈ bn, mg x = none) : PFn noRepr P w K mg base CX0 (k + 2) f fd ["_law_script"] (spLawT K Ps) := by
  refine pfn_of F sc_law (fun vs H Q E h => ?_) (fun cdv A outer s H vs Q E hcd hgd hr h => ?_)
  · obtain ⟨a, ns, rfl, _⟩ := h
    rfl
  · obtain ⟨a, ns, rfl, hS, hlen, hT, q⟩ := h
    refine ⟨_, pss_cons (ps_set (i := 1) sc_law.nd rfl (.inl rfl) (pe_callP GP trivial hr (by rfl) gP kP bP pass0 (pa_cons (pv 0) pa_nil))) (pss_penLT (K := K) (Ps := Ps) fun am p PI TI F0 H0 =>
      (vss_cons (vs_for PassesOwn.never rfl (vi_range1 (by rfl) (mz "range" (by decide)) (vb_cons ve_int vb_nil)) (vg_name (pg_name (i := 2) sc_law.nd rfl (.inl rfl)))
          (vss_cons (vs_asg (ve_call (G_l_given PI) trivial (hr.mono (by omega)) (by rfl) g_l_given k_l_given b_l_given pass0 (va_cons (ve_var (pv 1)) va_nil)) (vg_tup (m := 2) rfl (vgs_cons (vg_name (pg_name (i := 3) sc_law.nd rfl (.inl rfl))) (vgs_cons (vg_name (pg_name (i := 4) sc_law.nd rfl (.inl rfl))) vgs_nil))))
          (vss_cons (vs_set (i := 5) sc_law.nd rfl (.inl rfl) (ve_tyTR call_tuple_of lft_tupleOf (by rfl) (mz "tuple" (by decide)) (by decide +kernel) (vb_cons (ve_call G_l_closed trivial (hr.mono (by omega)) (by rfl) g_l_closed k_l_closed b_l_closed pass0 (va_cons (ve_var (pv 3)) (va_cons (ve_var (pv 4)) va_nil))) vb_nil)))
          (vss_cons (vs_set (i := 6) sc_law.nd rfl (.inr rfl) (ve_tupP (by rfl) (mz "tuple" (by decide)) (ve_call (G_l_order PI) trivial (hr.mono (by omega)) (by rfl) g_l_order k_l_order b_l_order pass0 (va_cons (ve_var (pv 1)) (va_cons (ve_var (pv 3)) va_nil)))))
          (vss_cons (vs_set (i := 7) sc_law.nd rfl (.inl rfl) (ve_tyTR call_tuple_of lft_tupleOf (by rfl) (mz "tuple" (by decide)) (by decide +kernel) (vb_cons (ve_call (G_l_order PI) trivial (hr.mono (by omega)) (by rfl) g_l_order k_l_order b_l_order pass0 (va_cons (ve_var (pv 1)) (va_cons (ve_var (pv 3)) va_nil))) vb_nil)))
          (vss_cons (vs_set (i := 8) sc_law.nd rfl (.inl rfl) (ve_cbR (call_reprD (by exact hgd) hr) lft_reprS (by rfl) (mz "repr" (by decide)) (by decide +kernel) (vb_cons (ve_tup (va_cons (ve_var (pv 5)) (va_cons (ve_var (pv 6)) va_nil))) vb_nil)))
          (vss_cons (vs_set (i := 9) sc_law.nd rfl (.inl rfl) (ve_call (G_named_group TI) trivial (hr.mono (by omega)) (by rfl) g_named_group k_named_group b_named_group pass0 (va_cons (ve_var (pv 5)) (va_cons (ve_var (pv 6)) va_nil))))
          (vss_cons (vs_if (vt_or (vt_cmp op_ne lft_neS (ve_cbR (call_reprD (by exact hgd) hr) lft_reprS (by rfl) (mz "repr" (by decide)) (by decide +kernel) (vb_rd (pv 9) vb_nil)) (ve_cbR (call_reprD (by exact hgd) hr) lft_reprS (by rfl) (mz "repr" (by decide)) (by decide +kernel) (vb_cons (ve_call G_l_due trivial (hr.mono (by omega)) (by rfl) g_l_due k_l_due b_l_due pass0 (va_cons (ve_var (pv 5)) (va_cons (ve_var (pv 6)) va_nil))) vb_nil)) (nomark _)) (vt_or1 (vt_cmp op_ne lft_neS (ve_cbR (call_reprD (by exact hgd) hr) lft_reprS (by rfl) (mz "repr" (by decide)) (by decide +kernel) (vb_cons (ve_tup (va_cons (ve_var (pv 5)) (va_cons (ve_var (pv 6)) va_nil))) vb_nil)) (ve_var (pv 8)) (nomark _)))).pt
            (vss_one (vs_ret ve_bl))
            vss_nil)
          (vss_cons (vs_set (i := 11) sc_law.nd rfl (.inl rfl) (ve_tyTR call_tuple_of lft_tupleOf (by rfl) (mz "tuple" (by decide)) (by decide +kernel) (vb_cons (ve_new (vn_lc (own := [("_law_thing", 10)]) rfl sc_law.nd (vi_range1 (by rfl) (mz "range" (by decide)) (vb_cons (ve_var (pv 3)) vb_nil)) (blkOk_by (own := [("_law_thing", 10)]) (N := ["_law_script", "_law_pen_here", "_law_k", "_law_many", "_law_turns", "_law_group", "_law_names", "_law_others", "_law_kept", "_law_found", "_law_thing", "_law_back"]) (sc := defScope s_law) (by decide +kernel)) (tg_name (by simp)) (fun _ _ _ _ _ => (pg_name (i := 10) sc_law.nd rfl (.inl rfl))) (fun _ _ _ _ _ _ _ => vts_nil) (fun _ _ _ _ _ _ _ => (ve_indexP (pv 6) (ve_var (pv 10)))))) vb_nil)))
          (vss_cons (vs_if (vt_or (vt_cmpR (op_neD hr.units) lft_neD (ve_call (G_named_group TI) trivial (hr.mono (by omega)) (by rfl) g_named_group k_named_group b_named_group pass0 (va_cons (ve_var (pv 9)) (va_cons (ve_var (pv 11)) va_nil))) (vr_var (pv 5)) (nomark _)) (vt_or1 (vt_cmpR (op_neD hr.units) lft_neD (ve_call (G_named_group TI) trivial (hr.mono (by omega)) (by rfl) g_named_group k_named_group b_named_group pass0 (va_cons (ve_var (pv 5)) (va_cons (ve_tupRg rfl (by rfl) (mz "tuple" (by decide)) (vrg_1 (by rfl) (mz "range" (by decide)) (ve_var (pv 3)))) va_nil))) (vr_var (pv 5)) (nomark _)))).pt
            (vss_one (vs_ret ve_bl))
            vss_nil)
          (vss_one (vs_if (vt_cmpR (op_neD hr.units) lft_neD (ve_call (G_named_group TI) trivial (hr.mono (by omega)) (by rfl) g_named_group k_named_group b_named_group pass0 (va_cons (ve_var (pv 9)) (va_cons (ve_var (pv 7)) va_nil))) (vr_of (ve_call (G_named_group TI) trivial (hr.mono (by omega)) (by rfl) g_named_group k_named_group b_named_group pass0 (va_cons (ve_var (pv 5)) (va_cons (ve_call G_l_then trivial (hr.mono (by omega)) (by rfl) g_l_then k_l_then b_l_then pass0 (va_cons (ve_var (pv 6)) (va_cons (ve_var (pv 7)) va_nil))) va_nil)))) (nomark _))
            (vss_one (vs_ret ve_bl))
            vss_nil))))))))))))
        (vss_one (vs_ret ve_bl)))), ?_⟩
    refine ⟨_, rfl, a, rfl, fun p np => penL_startT rfl hS hlen hT np q ?_⟩
    refine ⟨4, rfl, ⟨by decide, by decide⟩, fun i env t' => ∃ s2 s3 s4 s5 s6 s7 s8 s9 s11, env = [.no, .fz (.obj p), s2, s3, s4, s5, s6, s7, s8, s9, .no, s11], ⟨.no, .no, .no, .no, .no, .no, .no, .no, .no, rfl⟩, fun i d env t' hd hP => ?_, fun env t' hP => rfl⟩
    obtain ⟨s2, s3, s4, s5, s6, s7, s8, s9, s11, rfl⟩ := hP
    refine ⟨_, rfl, rfl, fun m ts hf => ⟨_, rfl, rfl, _, _, rfl, _, _, rfl, rfl, ?_⟩⟩
    have h1 := hf.m1
    have h7 := hf.m7
    refine ⟨_, rfl, _, rfl, m, ts, rfl, h1, h7, hf.l4, hf.tn, fun gl hg hs hm => ⟨_, rfl, flats_tn gl, ?_⟩, .inl hf.few⟩
    refine ⟨_, rfl, _, rfl, m, rfl, by omega, fun nm hn => ⟨_, rfl, ?_⟩⟩
    refine ⟨_, rfl, _, rfl, m, rfl, by omega, fun o ho => ⟨_, rfl, flats_ns _, ?_⟩⟩
    have hng : ∀ {nm gl g1}, Tn m nm → (∀ a ∈ gl, Tn m a) → NG m nm gl g1 → ∀ a ∈ g1, Tn m a := fun hn ht h => h.tn hn ht
    have smT : ∀ {a : List Nat}, Tn m a → Sm 4 1 51 (.tup (nsD a)) := fun {a} ha => sm_nt (e := 4) (c := 7) (fun x hx => by have := ha.lt hx; have : (10 : Nat) ^ 4 = 10000 := rfl; omega) (by rw [ha.len]; exact h7)
    have smG : ∀ (l : List (List Nat)), l.length ≤ 60 → (∀ a ∈ l, Tn m a) → Sm 4 2 3182 (.tup (tnsD l)) := fun l hl ht => Sm.tup (k := 1) (c := 51) (l := 60) (fun d hd => by
      unfold tnsD at hd
      obtain ⟨a, ha, rfl⟩ := List.mem_map.mp hd
      exact smT (ht a ha)) (by rw [tnsD_len]; exact hl)
    have rpT : ∀ (l : List (List Nat)), l.length ≤ 60 → (∀ a ∈ l, Tn m a) → rpS (.tup (tnsD l)) := fun l hl ht => (smG l hl ht).rp (by decide) (by decide) (by decide) (by decide)
    have hall : rpS (.tup [.tup (tnsD gl), .tuP (nsD nm)]) := rp_tuP ((Sm.tup (e := 4) (k := 2) (c := 3182) (l := 2) (fun d hd => by
      rcases List.mem_cons.mp hd with rfl | hd
      · exact smG gl hg.few hg.tn
      · rw [List.mem_singleton.mp hd]
        exact (smT hn).mono (by decide) (by decide)) (Nat.le_refl _)).rp (by decide) (by decide) (by decide) (by decide))
    have hpT : ∀ l : List (List Nat), pl (.tup (tnsD l)) = true := fun l => pls_map (fun x => pl_nt x) l
    have hdT : ∀ l : List (List Nat), dep (.tup (tnsD l)) ≤ 64 := fun l => Nat.le_trans (Nat.succ_le_succ (deps_map (f := fun x => Dt.tup (nsD x)) (k := 1) (fun x => Nat.succ_le_succ (deps_map (f := nD) (k := 0) (fun _ => Nat.le_refl 0) x)) l)) (by decide)
    have hin := inv_tn hn
    refine ⟨_, rfl, _, rfl, (by show 2 ≤ 5000; decide), _, rfl, hall, rfl, ?_⟩
    refine ⟨_, rfl, _, rfl, m, gl, nm, _, rfl, .inr rfl, h1, h7, hg.few, hg.tn, hn, fun g1 n1 => ?_⟩
    have t1 := n1.tn hn hg.tn
    have d1 := n1.nd hn hg.tn hg.nd
    have l1 : g1.length ≤ 60 := by rw [n1.len]; exact hg.few
    have hr1 := rpT g1 l1 t1
    refine ⟨⟨_, .inl rfl⟩, _, .inl rfl, _, rfl, hr1, rfl, _, rfl, _, rfl, m, gl, nm, _, rfl, .inr rfl, h1, h7, hg.few, hg.tn, hn, fun g2 n2 => ?_⟩
    have e12 : g2 = g1 := n2.uniq hn hg.tn hg.nd n1
    subst e12
    refine ⟨_, rfl, hr1, rfl, dNe_sh ⟨_, rfl, iteB (fun e => by cases e) (fun _ => ?_)⟩⟩
    refine ⟨_, rfl, _, rfl, (by show 2 ≤ 5000; decide), _, rfl, hall, rfl, _, rfl, dNe_sh ⟨_, rfl, iteB (fun e => by cases e) (fun _ => ?_)⟩⟩
    refine ⟨_, rfl, _, rfl, ⟨by omega, by omega⟩, lc_map (i := 10) (fun x => nD (nm.idxOf x)) (.head _) (noOw1 (s := .no) rfl no_ow) (by rw [rngD_len]; omega) (fun x d hx R hR => ?_) ?_⟩
    · obtain ⟨rfl, hx2⟩ := rngD_get0 hx
      have hx : x < m := by have : x < ((m : Nat) : Int).toNat := hx2; omega
      have hi := List.idxOf_lt_length_of_mem (hn.all hx)
      refine ⟨⟨_, rfl⟩, _, rfl, nm.map (fun i : Nat => (i : Int)), ((x : Nat) : Int), nm.idxOf x, by rw [← nsD_ints]; rfl, rfl, ?_, fun i2 hi2 z => ?_, hR⟩
      · rw [List.getElem?_map, List.getElem?_eq_getElem hi, List.getElem_idxOf]
        rfl
      · rw [List.getElem?_map] at z
        obtain ⟨y, hy, e⟩ := Option.map_eq_some_iff.mp z
        obtain ⟨hjl, ey⟩ := List.getElem?_eq_some_iff.mp hy
        have h9 : (nm[i2]'hjl == x) = false := List.not_of_lt_findIdx (p := (· == x)) hi2
        rw [beq_eq_false_iff_ne] at h9
        exact h9 (by rw [ey]; exact Int.ofNat_inj.mp e)
    · rw [rngD_len, Int.toNat_natCast, show (List.range m).map (fun x => nD (nm.idxOf x)) = nsD (invT m nm) by unfold invT nsD; rw [List.map_map]; rfl]
      refine ⟨_, rfl, _, rfl, flats_ns _, ?_⟩
      refine ⟨_, rfl, _, rfl, m, g2, invT m nm, _, rfl, .inl rfl, h1, h7, l1, t1, hin, fun g3 n3 => ?_⟩
      have n4 := n1.comp hn hin hg.tn n3
      rw [thn_inv hn] at n4
      have e3 : g3 = gl := n4.uniq (stay_tn m) hg.tn hg.nd (.of_stay hg.tn hg.nd hs)
      subst e3
      refine ⟨_, .inl rfl, dNeD_pl (hpT _) (hpT _) (hdT _) (hdT _) fun b' hb' => ⟨rfl, b', rfl, iteB (fun z => absurd rfl (hb'.mp z)) (fun _ => ?_)⟩⟩
      refine ⟨_, rfl, _, rfl, _, rfl, ⟨by omega, by omega, by omega, by omega⟩, m, g3, stay m, _, rfl, .inl (by rw [show ((m : Int) - 0).toNat = m by omega, rg_stay]), h1, h7, hg.few, hg.tn, stay_tn m, fun g4 n4 => ?_⟩
      have e4 : g4 = g3 := n4.uniq (stay_tn m) hg.tn hg.nd (.of_stay hg.tn hg.nd hs)
      subst e4
      refine ⟨_, .inl rfl, dNeD_pl (hpT _) (hpT _) (hdT _) (hdT _) fun b' hb' => ⟨rfl, b', rfl, iteB (fun z => absurd rfl (hb'.mp z)) (fun _ => ?_)⟩⟩
      refine ⟨_, rfl, _, rfl, m, g2, o, _, rfl, .inl rfl, h1, h7, l1, t1, ho, fun g5 n5 => ?_⟩
      refine ⟨_, rfl, _, rfl, _, rfl, m, nm, o, _, _, rfl, .inr rfl, .inl rfl, hn, ho, h7, m, g4, thn nm o, _, rfl, .inl rfl, h1, h7, hg.few, hg.tn, thn_tn hn ho, fun g6 n6 => ?_⟩
      have e5 : g5 = g6 := (n1.comp hn ho hg.tn n5).uniq (thn_tn hn ho) hg.tn hg.nd n6
      subst e5
      exact dNeD_pl (hpT _) (hpT _) (hdT _) (hdT _) fun b' hb' => ⟨rfl, b', rfl, iteB (fun z => absurd rfl (hb'.mp z)) (fun _ => ⟨_, _, _, _, _, _, _, _, _, rfl⟩)⟩
end
end K66
namespace K66
open PySem PySem.Spec PyProof.Rows L2 HM VL
theorem all_mk {l : PySem.W.OpenLaw} {w : World} {K : PySem.W.Frag} {h : Heap} {mg : Str → Option Value} {fa f4 f5 f7 f9 f10 f11 f12 f13 f14 f15 f16 f17 f18 c4 Pt4 : Addr}
    {oc4 kV4 dc4 pm4 ct4 oc5 kV5 dc5 pm5 ct5 oc7 kV7 dc7 pm7 ct7 oc9 kV9 dc9 pm9 ct9 oc10 kV10 dc10 pm10 ct10 oc11 kV11 dc11 pm11 ct11 oc12 kV12 dc12 pm12 ct12 oc13 kV13 dc13 pm13 ct13 oc14 kV14 dc14 pm14 ct14 oc15 kV15 dc15 pm15 ct15 oc16 kV16 dc16 pm16 ct16 oc17 kV17 dc17 pm17 ct17 oc18 kV18 dc18 pm18 ct18 cd5 cd7 cd9 cd10 cd11 cd12 cd13 cd14 cd15 cd16 cd17 cd18 e4 : Value}
    {od4 an4 od5 an5 od7 an7 od9 an9 od10 an10 od11 an11 od12 an12 od13 an13 od14 an14 od15 an15 od16 an16 od17 an17 od18 an18 dd4 : Option Addr} {sl4 sl5 sl7 sl9 sl10 sl11 sl12 sl13 sl14 sl15 sl16 sl17 sl18 sc4 : Array (Option Value)} {vs4 : Array Value}
    (X : K.In h) (G : h.Ns mainGlobals mg) (hfa : mg "law" = some (.ref fa)) (tabs : ∀ g ∈ (["then"] : List Str), ∃ c Pt, TabOf mg h g c Pt)
    (D4 : DefAt K "then" s_then f4 oc4 od4 kV4 dc4 pm4 an4 (.ref c4) ct4 sl4)
    (D5 : DefAt K "contrary" s_contrary f5 oc5 od5 kV5 dc5 pm5 an5 cd5 ct5 sl5)
    (D7 : DefAt K "named_group" s_named_group f7 oc7 od7 kV7 dc7 pm7 an7 cd7 ct7 sl7)
    (D9 : DefAt K "_law_pen" s_l_pen f9 oc9 od9 kV9 dc9 pm9 an9 cd9 ct9 sl9)
    (D10 : DefAt K "_law_draw" s_l_draw f10 oc10 od10 kV10 dc10 pm10 an10 cd10 ct10 sl10)
    (D11 : DefAt K "_law_order" s_l_order f11 oc11 od11 kV11 dc11 pm11 an11 cd11 ct11 sl11)
    (D12 : DefAt K "_law_then" s_l_then f12 oc12 od12 kV12 dc12 pm12 an12 cd12 ct12 sl12)
    (D13 : DefAt K "_law_renamed" s_l_renamed f13 oc13 od13 kV13 dc13 pm13 an13 cd13 ct13 sl13)
    (D14 : DefAt K "_law_closed" s_l_closed f14 oc14 od14 kV14 dc14 pm14 an14 cd14 ct14 sl14)
    (D15 : DefAt K "_law_menu" s_l_menu f15 oc15 od15 kV15 dc15 pm15 an15 cd15 ct15 sl15)
    (D16 : DefAt K "_law_given" s_l_given f16 oc16 od16 kV16 dc16 pm16 an16 cd16 ct16 sl16)
    (D17 : DefAt K "_law_due" s_l_due f17 oc17 od17 kV17 dc17 pm17 an17 cd17 ct17 sl17)
    (D18 : DefAt K "law" s_law f18 oc18 od18 kV18 dc18 pm18 an18 cd18 ct18 sl18)
    (T4 : TbAt K c4 Pt4 e4 dd4 vs4 sc4)
    (mz : ∀ x ∈ bn, PySem.W.nsIn K mainGlobals x = some none) :
    ∃ (fd : FuncData) (cs : List (Addr × Addr)) (sp : Sp), (∀ p ∈ cs, h.get? p.2 = some tabObj) ∧ (∀ p ∈ cs, K.lookup p.2 = none) ∧ (∀ p ∈ cs, PySem.W.CodeHd h p.1 p.2) ∧ (∀ (s : Shared) (u : Value), BindsTo s fd ⟨[u], []⟩ [("_law_script", u)]) ∧
      (∀ (H : Hp) (a : Addr) (ns : List Int), ns.length ≤ 63 → (∀ z ∈ ns, Builtin.Int.intBits z ≤ 1048576) → (∀ p ∈ cs, H p.2 = some (.tbl #[])) → Scr K H a ns → sp [.ref a] H (fun v _ => v = .bl true) fun _ _ _ => False) ∧
      ∀ base : Heap, K.In base → base.Ns mainGlobals mg → (∀ p ∈ cs, GxR.TabB base mg p.1 p.2) → PFn noRepr l.prog w K mg base CX0 9 fa fd ["_law_script"] sp := by
  have e := hfa.symm.trans (PySem.W.mg_of X G D18.a)
  cases e
  have tb4 := tab_got X G tabs (by decide) D4 T4
  have mn : ∀ x ∈ bn, mg x = none := fun x hx => PySem.W.mg_none_of X G (mz x hx)
  have g := fun {x : Str} {u : Value} (z : PySem.W.nsIn K mainGlobals x = some (some u)) => PySem.W.mg_of X G z
  have b4 := D4.fn.binds (ps := ["one", "other"]) fun _ _ _ _ _ _ us hl => match us, hl with | [_, _], _ => rfl
  have b5 := D5.fn.binds (ps := ["turn"]) fun _ _ _ _ _ _ us hl => match us, hl with | [_], _ => rfl
  have b7 := D7.fn.binds (ps := ["group", "names"]) fun _ _ _ _ _ _ us hl => match us, hl with | [_, _], _ => rfl
  have b9 := D9.fn.binds (ps := ["_law_script"]) fun _ _ _ _ _ _ us hl => match us, hl with | [_], _ => rfl
  have b10 := D10.fn.binds (ps := ["_law_pen_here", "_law_many"]) fun _ _ _ _ _ _ us hl => match us, hl with | [_, _], _ => rfl
  have b11 := D11.fn.binds (ps := ["_law_pen_here", "_law_many"]) fun _ _ _ _ _ _ us hl => match us, hl with | [_, _], _ => rfl
  have b12 := D12.fn.binds (ps := ["_law_one", "_law_other"]) fun _ _ _ _ _ _ us hl => match us, hl with | [_, _], _ => rfl
  have b13 := D13.fn.binds (ps := ["_law_turn", "_law_names"]) fun _ _ _ _ _ _ us hl => match us, hl with | [_, _], _ => rfl
  have b14 := D14.fn.binds (ps := ["_law_many", "_law_turns"]) fun _ _ _ _ _ _ us hl => match us, hl with | [_, _], _ => rfl
  have b15 := D15.fn.binds (ps := ["_law_pen_here"]) fun _ _ _ _ _ _ us hl => match us, hl with | [_], _ => rfl
  have b16 := D16.fn.binds (ps := ["_law_pen_here"]) fun _ _ _ _ _ _ us hl => match us, hl with | [_], _ => rfl
  have b17 := D17.fn.binds (ps := ["_law_group", "_law_names"]) fun _ _ _ _ _ _ us hl => match us, hl with | [_, _], _ => rfl
  refine ⟨PySem.W.fnOf "law" "law" (defArgs s_law) (defBody s_law) (defScope s_law) .none kV18 dc18 pm18 an18 cd18 ct18, [(c4, Pt4)], (spLawT K [Pt4]), fun p hp => ?_, fun p hp => ?_, fun p hp => ?_, fun s u => .of_eq rfl, fun H a ns hl _ hH hS => ?_, fun base _ _ hB => ?_⟩
  · simp only [List.mem_cons, List.not_mem_nil, or_false] at hp
    rcases hp with rfl
    · exact tb4.1
  · simp only [List.mem_cons, List.not_mem_nil, or_false] at hp
    rcases hp with rfl
    · exact T4.n
  · simp only [List.mem_cons, List.not_mem_nil, or_false] at hp
    rcases hp with rfl
    · exact tb4.2
  · refine ⟨a, ns, rfl, hS, hl, fun P hP => ?_, fun _ => rfl⟩
    simp only [List.mem_cons, List.not_mem_nil, or_false] at hP
    have e := hP
    · rw [e]; exact ⟨#[], hH (c4, Pt4) (by simp), trivial⟩
  · have TB4 := hB (c4, Pt4) (by simp)
    exact ok_law (k := 7) (Ps := [Pt4]) D18.fn (ok_pen (k := 7) D9.fn) (g D9.a) D9.k b9 (fun PI => (ok_given (k := 6) D16.fn (ok_draw (k := 6) PI D10.fn mn) (g D10.a) D10.k b10 (ok_menu (k := 5) D15.fn (ok_draw (k := 5) PI D10.fn mn) (g D10.a) D10.k b10 mn) (g D15.a) D15.k b15 (ok_order (k := 4) D11.fn (ok_draw (k := 5) PI D10.fn mn) (g D10.a) D10.k b10 mn) (g D11.a) D11.k b11 (ok_renL (k := 6) D13.fn mn) (g D13.a) D13.k b13 (ok_closedD (k := 5) D14.fn (ok_lthen (k := 5) D12.fn mn) (g D12.a) D12.k b12 mn) (g D14.a) D14.k b14 mn)) (g D16.a) D16.k b16 (ok_closedD (k := 6) D14.fn (ok_lthen (k := 6) D12.fn mn) (g D12.a) D12.k b12 mn) (g D14.a) D14.k b14 (fun PI => (ok_order (k := 5) D11.fn (ok_draw (k := 6) PI D10.fn mn) (g D10.a) D10.k b10 mn)) (g D11.a) D11.k b11 (fun TI => (ok_namedg (k := 6) D7.fn (ok_then (k := 0) D4.fn rfl TB4 (TI _ (by simp)) mn) (g D4.a) D4.k b4 (ok_contr (k := 6) D5.fn mn) (g D5.a) D5.k b5 mn)) (g D7.a) D7.k b7 (ok_dueD (k := 6) D17.fn (ok_renU (k := 6) D13.fn mn) (g D13.a) D13.k b13 mn) (g D17.a) D17.k b17 (ok_lthen (k := 7) D12.fn mn) (g D12.a) D12.k b12 mn
end K66
open PySem PySem.W PyProof.Rows
set_option maxHeartbeats 0 in
theorem PySem.Challenge.cw_heldmarks_k66_groups_named_anew_holds : PySem.Challenge.rw_heldmarks_k66_groups_named_anew.Holds := by
  w_on; o_law; k_head; (case hw => w_witness2)
  k_fill
  refine HM.walk_G (l := PySem.Challenge.rw_heldmarks_k66_groups_named_anew) (n := 63) (k := 9) (x := "_law_script") ["then"] rfl (by decide) rfl ⟨rfl, by decide, by decide⟩ (by decide +kernel) (fun w h Y => PySem.W.kIn_of Y) ?F
  case F =>
    intro w mg fa h Y KX G hmg tabs
    refine' K66.all_mk KX G hmg tabs ⟨?a4, ?l4, ?c4, ?k4⟩ ⟨?a5, ?l5, ?c5, ?k5⟩ ⟨?a7, ?l7, ?c7, ?k7⟩ ⟨?a9, ?l9, ?c9, ?k9⟩ ⟨?a10, ?l10, ?c10, ?k10⟩ ⟨?a11, ?l11, ?c11, ?k11⟩ ⟨?a12, ?l12, ?c12, ?k12⟩ ⟨?a13, ?l13, ?c13, ?k13⟩ ⟨?a14, ?l14, ?c14, ?k14⟩ ⟨?a15, ?l15, ?c15, ?k15⟩ ⟨?a16, ?l16, ?c16, ?k16⟩ ⟨?a17, ?l17, ?c17, ?k17⟩ ⟨?a18, ?l18, ?c18, ?k18⟩ ⟨?tl4, ?tp4, ?tn4⟩ ?mz
    (case a4 => k_is); (case l4 => k_is); (case c4 => k_is); (case k4 => k_is)
    (case a5 => k_is); (case l5 => k_is); (case c5 => k_is); (case k5 => k_is)
    (case a7 => k_is); (case l7 => k_is); (case c7 => k_is); (case k7 => k_is)
    (case a9 => k_is); (case l9 => k_is); (case c9 => k_is); (case k9 => k_is)
    (case a10 => k_is); (case l10 => k_is); (case c10 => k_is); (case k10 => k_is)
    (case a11 => k_is); (case l11 => k_is); (case c11 => k_is); (case k11 => k_is)
    (case a12 => k_is); (case l12 => k_is); (case c12 => k_is); (case k12 => k_is)
    (case a13 => k_is); (case l13 => k_is); (case c13 => k_is); (case k13 => k_is)
    (case a14 => k_is); (case l14 => k_is); (case c14 => k_is); (case k14 => k_is)
    (case a15 => k_is); (case l15 => k_is); (case c15 => k_is); (case k15 => k_is)
    (case a16 => k_is); (case l16 => k_is); (case c16 => k_is); (case k16 => k_is)
    (case a17 => k_is); (case l17 => k_is); (case c17 => k_is); (case k17 => k_is)
    (case a18 => k_is); (case l18 => k_is); (case c18 => k_is); (case k18 => k_is)
    (case tl4 => k_is); (case tp4 => rfl); (case tn4 => first | rfl | decide | with_unfolding_all rfl)
    (case mz =>
      intro x hx
      repeat (rcases List.mem_cons.mp hx with rfl | hx; · k_is)
      cases hx)
